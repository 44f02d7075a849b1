/- Layer 4, the statements: what all of them ask first. -/
import Derived.Test.YtkoppdhmbhgnfaaDiskCol
import Derived.Test.YtkoppdhmbhgnfaaRefBytes
import Derived.Test.YtkoppdhmbhgnfaaTop
import Derived.Outline
namespace Go.Proofs.Ytkoppdhmbhgnfaa
open Go.RowKit

theorem lit_2 (a b : UInt8) : #[Value.int .u8 (a.toNat : Int), .int .u8 (b.toNat : Int)] = (([a, b] : List UInt8).map B).toArray := by simp [B]
theorem lit_4 (a b c d : UInt8) : #[Value.int .u8 (a.toNat : Int), .int .u8 (b.toNat : Int), .int .u8 (c.toNat : Int), .int .u8 (d.toNat : Int)] = (([a, b, c, d] : List UInt8).map B).toArray := by simp [B]

/-- What the example comes to. -/
def ex1 : DkS := syD (wrD (List.replicate 4 0, [], 0) 0 [1, 2])
theorem ex_e1 : wrE (List.replicate 4 (0 : UInt8)).length 0 2 = 0 := by decide +kernel
theorem ex_1 : ex1 = ([1, 2, 0, 0], [], 1) := by decide +kernel
theorem ex_e2 : wrE ([1, 2, 0, 0] : List UInt8).length 1 2 = 0 := by decide +kernel
theorem ex_2 : wrD ([1, 2, 0, 0], [], 1) 1 [3, 4] = ([1, 2, 0, 0], [(1, 3), (2, 4)], 1) := by decide +kernel
theorem ex_3 : rdD ([1, 2, 0, 0], [(1, 3), (2, 4)], 1) = [1, 3, 4, 0] := by decide +kernel
theorem ex_4 : crD ([1, 2, 0, 0], [(1, 3), (2, 4)], 1) 1 = ([1, 3, 0, 0], [], 1) := by decide +kernel
theorem ex_5 : rdD ([1, 3, 0, 0], [], 1) = [1, 3, 0, 0] := by decide +kernel
theorem ex_e6 : wrE ([1, 3, 0, 0] : List UInt8).length 3 4 = 3 := by decide +kernel

set_option maxHeartbeats 1000000 in
theorem alive_any (w : World) : Calls Try.prog 7 #[] w fun e w' => e = .returned (.bool true) ∧ Ext w w' := by
  have C0 := Cols.first w
  go_enter Try.func7, Try.ntmps7
  go_wp2_with fail
  refine (DkNewC C0 (i := 1) (by decide) 4 (by decide) (by decide)).mono ?_
  rintro e w1 ⟨g, rfl, ⟨C1, d1, -⟩, hx1⟩
  clear C0 hx1
  generalize Cols.next _ w w1 1 = col1 at *
  go_wp2_with fail
  have xl := RdF.litB w1 [1, 2] #[.int .u8 1, .int .u8 2] 5 2 w1.heap.size (by decide) (lit_2 1 2) rfl rfl
  have hE : Ext w1 (w1.alloc (.cells #[.int .u8 1, .int .u8 2] 5)) := (Below.refl _ _).alloc (Nat.le_refl _) _
  refine (DkWriteC (C1.stepN hE) (i := 1) (by decide) (d1.ext hE) xl (C1.new_apart (by decide)) new_in (by decide) (by decide) (by decide)).mono ?_
  rintro e w2 ⟨he, C2, d2, -⟩
  obtain rfl := he.trans (congrArg (fun n => Ending.returned (.int .i64 n)) ex_e1)
  clear xl hE C1 d1
  generalize Cols.next _ _ w2 1 = col2 at *
  go_wp2_with fail
  refine (DkSyncC C2 (i := 1) (by decide) d2 (by decide) (by decide) (by decide)).mono ?_
  rintro e w3 ⟨rfl, C3, d3, -⟩
  have d3 : Dk (Fp.of (Cols.next col2 w2 w3 1) 1) w3 g ([1, 2, 0, 0], [], 1) := by rw [← ex_1]; exact d3
  clear C2 d2
  generalize Cols.next _ _ w3 1 = col3 at *
  go_wp2_with fail
  have xl := RdF.litB w3 [3, 4] #[.int .u8 3, .int .u8 4] 5 2 w3.heap.size (by decide) (lit_2 3 4) rfl rfl
  have hE : Ext w3 (w3.alloc (.cells #[.int .u8 3, .int .u8 4] 5)) := (Below.refl _ _).alloc (Nat.le_refl _) _
  refine (DkWriteC (C3.stepN hE) (i := 1) (by decide) (d3.ext hE) xl (C3.new_apart (by decide)) new_in (by decide) (by decide) (by decide)).mono ?_
  rintro e w4 ⟨he, C4, d4, -⟩
  obtain rfl := he.trans (congrArg (fun n => Ending.returned (.int .i64 n)) ex_e2)
  rw [ex_2] at d4
  clear xl hE C3 d3
  generalize Cols.next _ _ w4 1 = col4 at *
  go_wp2_with fail
  refine (DkBytes _ g _ w4 d4 (by decide)).mono ?_
  rintro e w5 ⟨va, rfl, hga⟩
  rw [ex_3] at hga
  have C5 := C4.stepE (i := 2) (by decide) hga.ext
  have a5 := Cols.made (X := fun F w => RdF F w va _) (i := 2) RdF.monoC C4 (by decide) hga.ext (RdF.made hga)
  have d5 := Cols.keep (X := fun F w => Dk F w g _) (i := 2) (j := 1) Dk.chgC Dk.monoC C4 (by decide) (by decide) (by decide) (Chg.of_ext hga.ext) d4
  obtain ⟨Aa, ca, rfl, _, _⟩ := a5.rd.sliceN (n := 4) rfl
  clear C4 d4 hga
  generalize Cols.next _ _ w5 2 = col5 at *
  go_wp2_with fail
  refine (DkWaits _ g _ w5 d5 (by decide)).mono ?_
  rintro e w6 ⟨rfl, hx6⟩
  have C6 := C5.stepN hx6
  have a6 := a5.ext hx6
  have d6 := d5.ext hx6
  clear C5 a5 d5 hx6
  go_wp2_with fail
  refine (DkCrashC C6 (i := 1) (by decide) d6 1 (by decide) (by decide) (by decide)).mono ?_
  rintro e w7 ⟨rfl, C7, d7, hc7⟩
  rw [ex_4] at d7
  have a7 := Cols.keep (X := fun F w => RdF F w _ _) (i := 1) (j := 2) RdF.chgC RdF.monoC C6 (by decide) (by decide) (by decide) hc7 a6
  clear C6 a6 d6 hc7
  generalize Cols.next _ _ w7 1 = col7 at *
  go_wp2_with fail
  have hE : Ext w7 (w7.alloc (.cells #[.int .u8 1, .int .u8 3, .int .u8 4, .int .u8 0] 5)) := (Below.refl _ _).alloc (Nat.le_refl _) _
  refine (Bytes_any [1, 3, 4, 0] [1, 3, 4, 0] _ _ _ (a7.ext hE).rd (Rd.litB w7 [1, 3, 4, 0] _ 5 4 _ (by decide) (lit_4 1 3 4 0) rfl rfl)).mono ?_
  rintro e w8 ⟨rfl, n8, rfl⟩
  simp only [decide_true]
  have hx8 : Ext w7 ((w7.alloc (.cells #[.int .u8 1, .int .u8 3, .int .u8 4, .int .u8 0] 5)).drewN n8) := Below.drewN' hE _
  have C8 := C7.stepN hx8
  have a8 := a7.ext hx8
  have d8 := d7.ext hx8
  clear C7 a7 d7 hx8 hE
  generalize (w7.alloc _).drewN n8 = w8 at *
  go_wp2_with fail
  refine (DkBytes _ g _ w8 d8 (by decide)).mono ?_
  rintro e w9 ⟨vb, rfl, hgb⟩
  rw [ex_5] at hgb
  have hx9 := hgb.ext
  have C9 := C8.stepN hx9
  have a9 := a8.ext hx9
  have d9 := d8.ext hx9
  have hrb := Rd.own hgb.own
  obtain ⟨Ab, cb, rfl, _, _⟩ := hrb.sliceN (n := 4) rfl
  clear C8 a8 d8 hgb hx9
  go_wp2_with fail
  have hE : Ext w9 (w9.alloc (.cells #[.int .u8 1, .int .u8 3, .int .u8 0, .int .u8 0] 5)) := (Below.refl _ _).alloc (Nat.le_refl _) _
  refine (Bytes_any [1, 3, 0, 0] [1, 3, 0, 0] _ _ _ (hrb.ext hE) (Rd.litB w9 [1, 3, 0, 0] _ 5 4 _ (by decide) (lit_4 1 3 0 0) rfl rfl)).mono ?_
  rintro e w10 ⟨rfl, n10, rfl⟩
  simp only [decide_true]
  have hx10 : Ext w9 ((w9.alloc (.cells #[.int .u8 1, .int .u8 3, .int .u8 0, .int .u8 0] 5)).drewN n10) := Below.drewN' hE _
  have C10 := C9.stepN hx10
  have a10 := a9.ext hx10
  have d10 := d9.ext hx10
  clear C9 a9 d9 hx10 hE hrb
  generalize (w9.alloc _).drewN n10 = w10 at *
  go_wp2_with fail
  refine (DkSyncs _ g _ w10 d10 (by decide) (by decide)).mono ?_
  rintro e w11 ⟨rfl, hx11⟩
  have C11 := C10.stepN hx11
  have a11 := a10.ext hx11
  have d11 := d10.ext hx11
  clear C10 a10 d10 hx11
  go_wp2_with fail
  refine (DkSize _ g _ w11 d11).mono ?_
  rintro e w12 ⟨rfl, hx12⟩
  have C12 := C11.stepN hx12
  have a12 := a11.ext hx12
  have d12 := d11.ext hx12
  clear C11 a11 d11 hx12
  go_wp2_with fail
  refine (DkWriteC C12 (i := 1) (by decide) d12 a12 (Cols.apart (by decide)) (C12.of_in (by decide)) (by decide) (by decide) (by decide)).mono ?_
  rintro e w13 ⟨he, C13, -, -⟩
  obtain rfl := he.trans (congrArg (fun n => Ending.returned (.int .i64 n)) ex_e6)
  have hx := C13.ext
  clear C12 a12 d12 C13
  go_wp2
  go_ret
  exact ⟨rfl, hx⟩

end Go.Proofs.Ytkoppdhmbhgnfaa
