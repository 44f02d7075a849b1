/- Texts that the proof of Y rests on, one behind the other. -/
import Derived.Test.YtddhbokknbmdfaaYQ9
import Derived.Deep.LoopGhost
import Derived.Lib.SliceRun
import Derived.Lib.MinMax
import Derived.Laws.LoneSync
import Derived.Deep.DeepCutAuto
import Derived.Deep.CutBlock
import Derived.Laws.Rows
import Derived.BigQuiet
import Derived.Deep.RegionHeld3

/- Layer 13's statements: the document's example. -/
namespace Go.Proofs.Ytddhbokknbmdfaa
open Go.RowKit

def exM1 : Ms := ⟨0, 2, 0, 0, 1, 1, 1, 0, 9, 0, 0⟩
def exM2 : Ms := ⟨0, 3, 0, 0, 1, 1, 0, 0, 9, 0, 0⟩
def exA1 : Ag := ⟨true, 0, 0, 1, 1, 1, 1, 9, 0, 0⟩
def exA2 : Ag := ⟨true, 0, 0, 2, 1, 1, 1, 9, 0, 0⟩
theorem ex_t1 (w : World) : Calls Try.prog 55 #[.agg #[.bool true, .int .i64 0, .int .i64 0, .int .i64 0, .int .i64 0, .int .i64 0, .int .i64 1, .int .i64 0, .int .i64 0, .int .i64 0], .int .i64 2, .agg #[.int .i64 0, .int .i64 2, .int .i64 0, .int .i64 0, .int .i64 1, .int .i64 1, .int .i64 1, .int .i64 0, .int .i64 9, .int .i64 0, .int .i64 0], .int .i64 3, .pointer none] w fun e w' =>
    e = .returned (.tuple #[.agg #[.bool true, .int .i64 0, .int .i64 0, .int .i64 1, .int .i64 1, .int .i64 1, .int .i64 1, .int .i64 9, .int .i64 0, .int .i64 0], .agg #[.int .i64 2, .int .i64 6, .int .i64 0, .int .i64 0, .int .i64 1, .int .i64 1, .int .i64 1, .int .i64 0, .int .i64 0, .int .i64 1, .int .i64 0], .bool true]) ∧ Ext w w' :=
  (Take_nil newA exM1 2 3 w (by decide) (by decide) (by decide)).mono (by
    rintro e w' ⟨rfl, hx⟩
    exact ⟨by rw [show takeA newA exM1 3 (nilS newA exM1 3) = exA1 from rfl, show goesA newA exM1 = true from rfl]; rfl, hx⟩)
theorem ex_t2 (w : World) : Calls Try.prog 55 #[.agg #[.bool true, .int .i64 0, .int .i64 0, .int .i64 1, .int .i64 1, .int .i64 1, .int .i64 1, .int .i64 9, .int .i64 0, .int .i64 0], .int .i64 2, .agg #[.int .i64 0, .int .i64 3, .int .i64 0, .int .i64 0, .int .i64 1, .int .i64 1, .int .i64 0, .int .i64 0, .int .i64 9, .int .i64 0, .int .i64 0], .int .i64 3, .pointer none] w fun e w' =>
    e = .returned (.tuple #[.agg #[.bool true, .int .i64 0, .int .i64 0, .int .i64 2, .int .i64 1, .int .i64 1, .int .i64 1, .int .i64 9, .int .i64 0, .int .i64 0], .agg #[.int .i64 2, .int .i64 6, .int .i64 0, .int .i64 0, .int .i64 1, .int .i64 1, .int .i64 1, .int .i64 0, .int .i64 0, .int .i64 2, .int .i64 0], .bool true]) ∧ Ext w w' :=
  (Take_nil exA1 exM2 2 3 w (by decide) (by decide) (by decide)).mono (by
    rintro e w' ⟨rfl, hx⟩
    exact ⟨by rw [show takeA exA1 exM2 3 (nilS exA1 exM2 3) = exA2 from rfl, show goesA exA1 exM2 = true from rfl]; rfl, hx⟩)

theorem ex_a9 (w : World) : Calls Try.prog 61 #[.agg #[.bool true, .int .i64 0, .int .i64 0, .int .i64 2, .int .i64 1, .int .i64 1, .int .i64 1, .int .i64 9, .int .i64 0, .int .i64 0], .int .i64 9] w fun e w' => e = .returned (.agg #[.bool true, .int .i64 0, .int .i64 0, .int .i64 0, .int .i64 0, .int .i64 0, .int .i64 1, .int .i64 0, .int .i64 0, .int .i64 0]) ∧ Ext w w' := (Act_any exA2 9 w (by decide)).mono (by rintro e w' ⟨rfl, hx⟩; exact ⟨rfl, hx⟩)
theorem ex_a8 (w : World) : Calls Try.prog 61 #[.agg #[.bool true, .int .i64 0, .int .i64 0, .int .i64 2, .int .i64 1, .int .i64 1, .int .i64 1, .int .i64 9, .int .i64 0, .int .i64 0], .int .i64 8] w fun e w' => e = .returned (.agg #[.bool true, .int .i64 0, .int .i64 0, .int .i64 2, .int .i64 1, .int .i64 1, .int .i64 1, .int .i64 9, .int .i64 1, .int .i64 0]) ∧ Ext w w' := (Act_any exA2 8 w (by decide)).mono (by rintro e w' ⟨rfl, hx⟩; exact ⟨rfl, hx⟩)
theorem ex_fn (w : World) : Calls Try.prog 88 #[.agg #[.bool true, .int .i64 0, .int .i64 0, .int .i64 2, .int .i64 1, .int .i64 1, .int .i64 1, .int .i64 9, .int .i64 0, .int .i64 0], .int .i64 9] w fun e w' => e = .returned (.bool true) ∧ Ext w w' := (Fenced_any exA2 9 w).mono (by rintro e w' ⟨rfl, hx⟩; exact ⟨rfl, hx⟩)
theorem ex_fa (w : World) : Calls Try.prog 62 #[.agg #[.bool true, .int .i64 0, .int .i64 0, .int .i64 2, .int .i64 1, .int .i64 1, .int .i64 1, .int .i64 9, .int .i64 0, .int .i64 0]] w fun e w' => e = .returned (.agg #[.bool false, .int .i64 0, .int .i64 0, .int .i64 0, .int .i64 0, .int .i64 0, .int .i64 1, .int .i64 0, .int .i64 0, .int .i64 0]) ∧ Ext w w' := (Fail_any exA2 w).mono (by rintro e w' ⟨rfl, hx⟩; exact ⟨rfl, hx⟩)
theorem ex_ba (w : World) : Calls Try.prog 63 #[.agg #[.bool false, .int .i64 0, .int .i64 0, .int .i64 0, .int .i64 0, .int .i64 0, .int .i64 1, .int .i64 0, .int .i64 0, .int .i64 0]] w fun e w' => e = .returned (.agg #[.bool true, .int .i64 0, .int .i64 0, .int .i64 0, .int .i64 0, .int .i64 0, .int .i64 1, .int .i64 0, .int .i64 0, .int .i64 0]) ∧ Ext w w' := (Back_any (failA exA2) w).mono (by rintro e w' ⟨rfl, hx⟩; exact ⟨rfl, hx⟩)
theorem ex_te (w : World) : Calls Try.prog 58 #[.agg #[.bool true, .int .i64 0, .int .i64 0, .int .i64 1, .int .i64 1, .int .i64 1, .int .i64 1, .int .i64 9, .int .i64 0, .int .i64 0], .int .i64 1] w fun e w' => e = .returned (.agg #[.int .i64 1, .int .i64 6, .int .i64 0, .int .i64 0, .int .i64 1, .int .i64 1, .int .i64 1, .int .i64 0, .int .i64 0, .int .i64 1, .int .i64 0]) ∧ Ext w w' := (Tell_any exA1 1 w).mono (by rintro e w' ⟨rfl, hx⟩; exact ⟨rfl, hx⟩)
theorem ex_nw (w : World) : Calls Try.prog 60 #[] w fun e w' => e = .returned (.agg #[.bool true, .int .i64 0, .int .i64 0, .int .i64 0, .int .i64 0, .int .i64 0, .int .i64 1, .int .i64 0, .int .i64 0, .int .i64 0]) ∧ Ext w w' := (NewA_any w).mono (by rintro e w' ⟨rfl, hx⟩; exact ⟨rfl, hx⟩)
set_option maxRecDepth 100000 in
set_option maxHeartbeats 4000000 in
theorem alive13_any (w : World) : Calls Try.prog 53 #[] w fun e w' => e = .returned (.bool true) ∧ Ext w w' := by
  have hf0 : ∀ W, (Instr.field 81 (.agg #[.bool true, .int .i64 0, .int .i64 0, .int .i64 0, .int .i64 0, .int .i64 0, .int .i64 1, .int .i64 0, .int .i64 0, .int .i64 0]) 3).run Try.prog W = .ok (.int .i64 0) W := fun _ => by kernel_rfl
  have hf1 : ∀ W, (Instr.field 81 (.agg #[.bool true, .int .i64 0, .int .i64 0, .int .i64 2, .int .i64 1, .int .i64 1, .int .i64 1, .int .i64 9, .int .i64 1, .int .i64 0]) 8).run Try.prog W = .ok (.int .i64 1) W := fun _ => by kernel_rfl
  have hf2 : ∀ W, (Instr.field 81 (.agg #[.bool false, .int .i64 0, .int .i64 0, .int .i64 0, .int .i64 0, .int .i64 0, .int .i64 1, .int .i64 0, .int .i64 0, .int .i64 0]) 0).run Try.prog W = .ok (.bool false) W := fun _ => by kernel_rfl
  have hf3 : ∀ W, (Instr.field 81 (.agg #[.bool true, .int .i64 0, .int .i64 0, .int .i64 0, .int .i64 0, .int .i64 0, .int .i64 1, .int .i64 0, .int .i64 0, .int .i64 0]) 0).run Try.prog W = .ok (.bool true) W := fun _ => by kernel_rfl
  have hf4 : ∀ W, (Instr.field 49 (.agg #[.int .i64 1, .int .i64 6, .int .i64 0, .int .i64 0, .int .i64 1, .int .i64 1, .int .i64 1, .int .i64 0, .int .i64 0, .int .i64 1, .int .i64 0]) 4).run Try.prog W = .ok (.int .i64 1) W := fun _ => by kernel_rfl
  go_enter Try.func53, Try.ntmps53
  go_wp2_with fail
  refine (ex_nw w).mono ?_
  rintro e0 w0 ⟨rfl, hx0⟩
  have HX0 := Lib.hid hx0
  clear hx0
  go_wp2_with fail
  refine (ex_t1 w0).mono ?_
  rintro e1 w1 ⟨rfl, hx1⟩
  have HX1 := Lib.hid (HX0.out.trans hx1)
  clear hx1
  obtain ⟨b1, b2, hx⟩ := two_new w1 #[.bool true, .int .i64 0, .int .i64 0, .int .i64 1, .int .i64 1, .int .i64 1, .int .i64 1, .int .i64 9, .int .i64 0, .int .i64 0] #[.int .i64 2, .int .i64 6, .int .i64 0, .int .i64 0, .int .i64 1, .int .i64 1, .int .i64 1, .int .i64 0, .int .i64 0, .int .i64 1, .int .i64 0] 81 49
  obtain ⟨w2, hw2⟩ : ∃ W, W = (w1.alloc (.cells #[.bool true, .int .i64 0, .int .i64 0, .int .i64 1, .int .i64 1, .int .i64 1, .int .i64 1, .int .i64 9, .int .i64 0, .int .i64 0] 81)).alloc (.cells #[.int .i64 2, .int .i64 6, .int .i64 0, .int .i64 0, .int .i64 1, .int .i64 1, .int .i64 1, .int .i64 0, .int .i64 0, .int .i64 1, .int .i64 0] 49) := ⟨_, rfl⟩
  rw [← hw2] at b1 b2 hx
  have HB1 := Lib.hid b1
  have HB2 := Lib.hid b2
  have HX2 := Lib.hid (HX1.out.trans hx)
  clear b1 b2 hx
  go_wp2_with fail
  rw [← hw2]
  clear hw2
  refine (ex_t2 w2).mono ?_
  rintro e3 w3 ⟨rfl, hx3⟩
  obtain ⟨b4, b5, hx⟩ := two_new w3 #[.bool true, .int .i64 0, .int .i64 0, .int .i64 2, .int .i64 1, .int .i64 1, .int .i64 1, .int .i64 9, .int .i64 0, .int .i64 0] #[.int .i64 2, .int .i64 6, .int .i64 0, .int .i64 0, .int .i64 1, .int .i64 1, .int .i64 1, .int .i64 0, .int .i64 0, .int .i64 2, .int .i64 0] 81 49
  obtain ⟨w4, hw4⟩ : ∃ W, W = (w3.alloc (.cells #[.bool true, .int .i64 0, .int .i64 0, .int .i64 2, .int .i64 1, .int .i64 1, .int .i64 1, .int .i64 9, .int .i64 0, .int .i64 0] 81)).alloc (.cells #[.int .i64 2, .int .i64 6, .int .i64 0, .int .i64 0, .int .i64 1, .int .i64 1, .int .i64 1, .int .i64 0, .int .i64 0, .int .i64 2, .int .i64 0] 49) := ⟨_, rfl⟩
  rw [← hw4] at b4 hx
  have HX4 := Lib.hid (HX2.out.trans (hx3.trans hx))
  have HA := Lib.hid (HB1.out.ext (hx3.trans hx))
  have HR := Lib.hid (HB2.out.ext (hx3.trans hx))
  have HB := Lib.hid b4
  clear b4 b5 hx hx3 HB1 HB2 HX0 HX1 HX2
  go_upto_region 3 with (fail)
  rw [← hw4]
  clear hw4
  have a3 : w4.cell? ⟨w1.heap.size, 3, none⟩ = some (.int .i64 1) := HA.out.cell 3
  have r9 : w4.cell? ⟨w1.heap.size + 1, 9, none⟩ = some (.int .i64 1) := HR.out.cell 9
  have r0 : w4.cell? ⟨w1.heap.size + 1, 0, none⟩ = some (.int .i64 2) := HR.out.cell 0
  have k0 : w4.cell? ⟨w3.heap.size, 0, none⟩ = some (.bool true) := HB.out.cell 0
  have k1 : w4.cell? ⟨w3.heap.size, 1, none⟩ = some (.int .i64 0) := HB.out.cell 1
  have k2 : w4.cell? ⟨w3.heap.size, 2, none⟩ = some (.int .i64 0) := HB.out.cell 2
  have k3 : w4.cell? ⟨w3.heap.size, 3, none⟩ = some (.int .i64 2) := HB.out.cell 3
  have k4 : w4.cell? ⟨w3.heap.size, 4, none⟩ = some (.int .i64 1) := HB.out.cell 4
  have k5 : w4.cell? ⟨w3.heap.size, 5, none⟩ = some (.int .i64 1) := HB.out.cell 5
  have k6 : w4.cell? ⟨w3.heap.size, 6, none⟩ = some (.int .i64 1) := HB.out.cell 6
  have k7 : w4.cell? ⟨w3.heap.size, 7, none⟩ = some (.int .i64 9) := HB.out.cell 7
  have k8 : w4.cell? ⟨w3.heap.size, 8, none⟩ = some (.int .i64 0) := HB.out.cell 8
  have k9 : w4.cell? ⟨w3.heap.size, 9, none⟩ = some (.int .i64 0) := HB.out.cell 9
  go_wp2_with fail
  refine (ex_a9 w4).mono ?_
  rintro e5 w5 ⟨rfl, hx⟩
  clear k0 k1 k2 k3 k4 k5 k6 k7 k8 k9
  clear a3 r9 r0
  replace HB := Lib.hid (HB.out.ext hx)
  replace HA := Lib.hid (HA.out.ext hx)
  replace HX4 := Lib.hid (HX4.out.trans hx)
  clear hx
  have k0 : w5.cell? ⟨w3.heap.size, 0, none⟩ = some (.bool true) := HB.out.cell 0
  have k1 : w5.cell? ⟨w3.heap.size, 1, none⟩ = some (.int .i64 0) := HB.out.cell 1
  have k2 : w5.cell? ⟨w3.heap.size, 2, none⟩ = some (.int .i64 0) := HB.out.cell 2
  have k3 : w5.cell? ⟨w3.heap.size, 3, none⟩ = some (.int .i64 2) := HB.out.cell 3
  have k4 : w5.cell? ⟨w3.heap.size, 4, none⟩ = some (.int .i64 1) := HB.out.cell 4
  have k5 : w5.cell? ⟨w3.heap.size, 5, none⟩ = some (.int .i64 1) := HB.out.cell 5
  have k6 : w5.cell? ⟨w3.heap.size, 6, none⟩ = some (.int .i64 1) := HB.out.cell 6
  have k7 : w5.cell? ⟨w3.heap.size, 7, none⟩ = some (.int .i64 9) := HB.out.cell 7
  have k8 : w5.cell? ⟨w3.heap.size, 8, none⟩ = some (.int .i64 0) := HB.out.cell 8
  have k9 : w5.cell? ⟨w3.heap.size, 9, none⟩ = some (.int .i64 0) := HB.out.cell 9
  go_wp2_with fail
  refine (ex_a8 w5).mono ?_
  rintro e6 w6 ⟨rfl, hx⟩
  clear k0 k1 k2 k3 k4 k5 k6 k7 k8 k9
  replace HB := Lib.hid (HB.out.ext hx)
  replace HA := Lib.hid (HA.out.ext hx)
  replace HX4 := Lib.hid (HX4.out.trans hx)
  clear hx
  have k0 : w6.cell? ⟨w3.heap.size, 0, none⟩ = some (.bool true) := HB.out.cell 0
  have k1 : w6.cell? ⟨w3.heap.size, 1, none⟩ = some (.int .i64 0) := HB.out.cell 1
  have k2 : w6.cell? ⟨w3.heap.size, 2, none⟩ = some (.int .i64 0) := HB.out.cell 2
  have k3 : w6.cell? ⟨w3.heap.size, 3, none⟩ = some (.int .i64 2) := HB.out.cell 3
  have k4 : w6.cell? ⟨w3.heap.size, 4, none⟩ = some (.int .i64 1) := HB.out.cell 4
  have k5 : w6.cell? ⟨w3.heap.size, 5, none⟩ = some (.int .i64 1) := HB.out.cell 5
  have k6 : w6.cell? ⟨w3.heap.size, 6, none⟩ = some (.int .i64 1) := HB.out.cell 6
  have k7 : w6.cell? ⟨w3.heap.size, 7, none⟩ = some (.int .i64 9) := HB.out.cell 7
  have k8 : w6.cell? ⟨w3.heap.size, 8, none⟩ = some (.int .i64 0) := HB.out.cell 8
  have k9 : w6.cell? ⟨w3.heap.size, 9, none⟩ = some (.int .i64 0) := HB.out.cell 9
  go_wp2_with fail
  refine (ex_fn w6).mono ?_
  rintro e7 w7 ⟨rfl, hx⟩
  clear k0 k1 k2 k3 k4 k5 k6 k7 k8 k9
  replace HB := Lib.hid (HB.out.ext hx)
  replace HA := Lib.hid (HA.out.ext hx)
  replace HX4 := Lib.hid (HX4.out.trans hx)
  clear hx
  have k0 : w7.cell? ⟨w3.heap.size, 0, none⟩ = some (.bool true) := HB.out.cell 0
  have k1 : w7.cell? ⟨w3.heap.size, 1, none⟩ = some (.int .i64 0) := HB.out.cell 1
  have k2 : w7.cell? ⟨w3.heap.size, 2, none⟩ = some (.int .i64 0) := HB.out.cell 2
  have k3 : w7.cell? ⟨w3.heap.size, 3, none⟩ = some (.int .i64 2) := HB.out.cell 3
  have k4 : w7.cell? ⟨w3.heap.size, 4, none⟩ = some (.int .i64 1) := HB.out.cell 4
  have k5 : w7.cell? ⟨w3.heap.size, 5, none⟩ = some (.int .i64 1) := HB.out.cell 5
  have k6 : w7.cell? ⟨w3.heap.size, 6, none⟩ = some (.int .i64 1) := HB.out.cell 6
  have k7 : w7.cell? ⟨w3.heap.size, 7, none⟩ = some (.int .i64 9) := HB.out.cell 7
  have k8 : w7.cell? ⟨w3.heap.size, 8, none⟩ = some (.int .i64 0) := HB.out.cell 8
  have k9 : w7.cell? ⟨w3.heap.size, 9, none⟩ = some (.int .i64 0) := HB.out.cell 9
  go_wp2_with fail
  refine (ex_fa w7).mono ?_
  rintro e8 w8 ⟨rfl, hx⟩
  clear k0 k1 k2 k3 k4 k5 k6 k7 k8 k9
  replace HB := Lib.hid (HB.out.ext hx)
  replace HA := Lib.hid (HA.out.ext hx)
  replace HX4 := Lib.hid (HX4.out.trans hx)
  clear hx
  have k0 : w8.cell? ⟨w3.heap.size, 0, none⟩ = some (.bool true) := HB.out.cell 0
  have k1 : w8.cell? ⟨w3.heap.size, 1, none⟩ = some (.int .i64 0) := HB.out.cell 1
  have k2 : w8.cell? ⟨w3.heap.size, 2, none⟩ = some (.int .i64 0) := HB.out.cell 2
  have k3 : w8.cell? ⟨w3.heap.size, 3, none⟩ = some (.int .i64 2) := HB.out.cell 3
  have k4 : w8.cell? ⟨w3.heap.size, 4, none⟩ = some (.int .i64 1) := HB.out.cell 4
  have k5 : w8.cell? ⟨w3.heap.size, 5, none⟩ = some (.int .i64 1) := HB.out.cell 5
  have k6 : w8.cell? ⟨w3.heap.size, 6, none⟩ = some (.int .i64 1) := HB.out.cell 6
  have k7 : w8.cell? ⟨w3.heap.size, 7, none⟩ = some (.int .i64 9) := HB.out.cell 7
  have k8 : w8.cell? ⟨w3.heap.size, 8, none⟩ = some (.int .i64 0) := HB.out.cell 8
  have k9 : w8.cell? ⟨w3.heap.size, 9, none⟩ = some (.int .i64 0) := HB.out.cell 9
  go_wp2_with fail
  refine (ex_fa w8).mono ?_
  rintro e9 w9 ⟨rfl, hx⟩
  clear k0 k1 k2 k3 k4 k5 k6 k7 k8 k9
  replace HB := Lib.hid (HB.out.ext hx)
  replace HA := Lib.hid (HA.out.ext hx)
  replace HX4 := Lib.hid (HX4.out.trans hx)
  clear hx
  go_wp2_with fail
  refine (ex_ba w9).mono ?_
  rintro e10 w10 ⟨rfl, hx⟩
  replace HB := Lib.hid (HB.out.ext hx)
  replace HA := Lib.hid (HA.out.ext hx)
  replace HX4 := Lib.hid (HX4.out.trans hx)
  clear hx
  have k0 : w10.cell? ⟨w1.heap.size, 0, none⟩ = some (.bool true) := HA.out.cell 0
  have k1 : w10.cell? ⟨w1.heap.size, 1, none⟩ = some (.int .i64 0) := HA.out.cell 1
  have k2 : w10.cell? ⟨w1.heap.size, 2, none⟩ = some (.int .i64 0) := HA.out.cell 2
  have k3 : w10.cell? ⟨w1.heap.size, 3, none⟩ = some (.int .i64 1) := HA.out.cell 3
  have k4 : w10.cell? ⟨w1.heap.size, 4, none⟩ = some (.int .i64 1) := HA.out.cell 4
  have k5 : w10.cell? ⟨w1.heap.size, 5, none⟩ = some (.int .i64 1) := HA.out.cell 5
  have k6 : w10.cell? ⟨w1.heap.size, 6, none⟩ = some (.int .i64 1) := HA.out.cell 6
  have k7 : w10.cell? ⟨w1.heap.size, 7, none⟩ = some (.int .i64 9) := HA.out.cell 7
  have k8 : w10.cell? ⟨w1.heap.size, 8, none⟩ = some (.int .i64 0) := HA.out.cell 8
  have k9 : w10.cell? ⟨w1.heap.size, 9, none⟩ = some (.int .i64 0) := HA.out.cell 9
  go_wp2_with fail
  refine (ex_te w10).mono ?_
  rintro e11 w11 ⟨rfl, hx⟩
  clear k0 k1 k2 k3 k4 k5 k6 k7 k8 k9
  replace HX4 := Lib.hid (HX4.out.trans hx)
  clear hx
  go_wp2
  go_ret
  exact ⟨rfl, HX4.out⟩

end Go.Proofs.Ytddhbokknbmdfaa

/- The reference's Right: of messages, of agents. -/
namespace Go.Proofs.Ytddhbokknbmdfaa
open Go.RowKit

def rightA (a : Ag) : Bool := decide (0 ≤ a.term ∧ a.term ≤ 1000000 ∧ 0 ≤ a.gen ∧ a.gen ≤ 1000000 ∧ 0 ≤ a.job ∧ a.job ≤ 24 ∧ 0 ≤ a.inc ∧ a.inc ≤ 1000000 ∧ 0 ≤ a.lease ∧ a.lease ≤ 1000000 ∧ 0 ≤ a.mode ∧ a.mode ≤ 4 ∧ 1 ≤ a.ver ∧ a.ver ≤ 9 ∧ 0 ≤ a.worked ∧ a.worked ≤ 1000000 ∧ 0 ≤ a.aim ∧ a.aim ≤ 9)

set_option maxRecDepth 100000 in
set_option maxHeartbeats 2000000 in
theorem RefRight13_any (a : Ag) (w : World) : Calls Try.prog 54 #[agV a] w fun e w' => e = .returned (.bool (rightA a)) ∧ Ext w w' := by
  have HX := Lib.hid (Ext.alloc_ w (.cells #[.bool a.up, .int .i64 a.term, .int .i64 a.gen, .int .i64 a.mode, .int .i64 a.job, .int .i64 a.inc, .int .i64 a.ver, .int .i64 a.lease, .int .i64 a.worked, .int .i64 a.aim] 81))
  obtain ⟨z, hz⟩ : ∃ z, z = rightA a := ⟨_, rfl⟩
  rw [← hz]
  unfold rightA at hz
  unfold agV
  by_cases h0 : 0 ≤ a.term
  rotate_left
  · have d0 : decide (a.term < 0) = true := decide_eq_true (by omega)
    have HE : Hid (z = false) := Lib.hid (hz.trans (decide_eq_false (by omega)))
    clear hz h0
    go_enter Try.func54, Try.ntmps54
    go_wp2
    go_ret
    exact ⟨by rw [HE.out]; rfl, HX.out⟩
  have d0 : decide (a.term < 0) = false := decide_eq_false (by omega)
  by_cases h1 : a.term ≤ 1000000
  rotate_left
  · have d1 : decide ((1000000 : Int) < a.term) = true := decide_eq_true (by omega)
    have HE : Hid (z = false) := Lib.hid (hz.trans (decide_eq_false (by omega)))
    clear hz h0 h1
    go_enter Try.func54, Try.ntmps54
    go_wp2
    go_ret
    exact ⟨by rw [HE.out]; rfl, HX.out⟩
  have d1 : decide ((1000000 : Int) < a.term) = false := decide_eq_false (by omega)
  by_cases h2 : 0 ≤ a.gen
  rotate_left
  · have d2 : decide (a.gen < 0) = true := decide_eq_true (by omega)
    have HE : Hid (z = false) := Lib.hid (hz.trans (decide_eq_false (by omega)))
    clear hz h0 h1 h2
    go_enter Try.func54, Try.ntmps54
    go_wp2
    go_ret
    exact ⟨by rw [HE.out]; rfl, HX.out⟩
  have d2 : decide (a.gen < 0) = false := decide_eq_false (by omega)
  by_cases h3 : a.gen ≤ 1000000
  rotate_left
  · have d3 : decide ((1000000 : Int) < a.gen) = true := decide_eq_true (by omega)
    have HE : Hid (z = false) := Lib.hid (hz.trans (decide_eq_false (by omega)))
    clear hz h0 h1 h2 h3
    go_enter Try.func54, Try.ntmps54
    go_wp2
    go_ret
    exact ⟨by rw [HE.out]; rfl, HX.out⟩
  have d3 : decide ((1000000 : Int) < a.gen) = false := decide_eq_false (by omega)
  by_cases h4 : 0 ≤ a.job
  rotate_left
  · have d4 : decide (a.job < 0) = true := decide_eq_true (by omega)
    have HE : Hid (z = false) := Lib.hid (hz.trans (decide_eq_false (by omega)))
    clear hz h0 h1 h2 h3 h4
    go_enter Try.func54, Try.ntmps54
    go_wp2
    go_ret
    exact ⟨by rw [HE.out]; rfl, HX.out⟩
  have d4 : decide (a.job < 0) = false := decide_eq_false (by omega)
  by_cases h5 : a.job ≤ 24
  rotate_left
  · have d5 : decide ((24 : Int) < a.job) = true := decide_eq_true (by omega)
    have HE : Hid (z = false) := Lib.hid (hz.trans (decide_eq_false (by omega)))
    clear hz h0 h1 h2 h3 h4 h5
    go_enter Try.func54, Try.ntmps54
    go_wp2
    go_ret
    exact ⟨by rw [HE.out]; rfl, HX.out⟩
  have d5 : decide ((24 : Int) < a.job) = false := decide_eq_false (by omega)
  by_cases h6 : 0 ≤ a.inc
  rotate_left
  · have d6 : decide (a.inc < 0) = true := decide_eq_true (by omega)
    have HE : Hid (z = false) := Lib.hid (hz.trans (decide_eq_false (by omega)))
    clear hz h0 h1 h2 h3 h4 h5 h6
    go_enter Try.func54, Try.ntmps54
    go_wp2
    go_ret
    exact ⟨by rw [HE.out]; rfl, HX.out⟩
  have d6 : decide (a.inc < 0) = false := decide_eq_false (by omega)
  by_cases h7 : a.inc ≤ 1000000
  rotate_left
  · have d7 : decide ((1000000 : Int) < a.inc) = true := decide_eq_true (by omega)
    have HE : Hid (z = false) := Lib.hid (hz.trans (decide_eq_false (by omega)))
    clear hz h0 h1 h2 h3 h4 h5 h6 h7
    go_enter Try.func54, Try.ntmps54
    go_wp2
    go_ret
    exact ⟨by rw [HE.out]; rfl, HX.out⟩
  have d7 : decide ((1000000 : Int) < a.inc) = false := decide_eq_false (by omega)
  by_cases h8 : 0 ≤ a.lease
  rotate_left
  · have d8 : decide (a.lease < 0) = true := decide_eq_true (by omega)
    have HE : Hid (z = false) := Lib.hid (hz.trans (decide_eq_false (by omega)))
    clear hz h0 h1 h2 h3 h4 h5 h6 h7 h8
    go_enter Try.func54, Try.ntmps54
    go_wp2
    go_ret
    exact ⟨by rw [HE.out]; rfl, HX.out⟩
  have d8 : decide (a.lease < 0) = false := decide_eq_false (by omega)
  by_cases h9 : a.lease ≤ 1000000
  rotate_left
  · have d9 : decide ((1000000 : Int) < a.lease) = true := decide_eq_true (by omega)
    have HE : Hid (z = false) := Lib.hid (hz.trans (decide_eq_false (by omega)))
    clear hz h0 h1 h2 h3 h4 h5 h6 h7 h8 h9
    go_enter Try.func54, Try.ntmps54
    go_wp2
    go_ret
    exact ⟨by rw [HE.out]; rfl, HX.out⟩
  have d9 : decide ((1000000 : Int) < a.lease) = false := decide_eq_false (by omega)
  by_cases h10 : 0 ≤ a.mode
  rotate_left
  · have d10 : decide ((0 : Int) ≤ a.mode) = false := decide_eq_false (by omega)
    have HE : Hid (z = false) := Lib.hid (hz.trans (decide_eq_false (by omega)))
    clear hz h0 h1 h2 h3 h4 h5 h6 h7 h8 h9 h10
    go_enter Try.func54, Try.ntmps54
    go_wp2
    go_ret
    exact ⟨by rw [HE.out]; rfl, HX.out⟩
  have d10 : decide ((0 : Int) ≤ a.mode) = true := decide_eq_true (by omega)
  by_cases h11 : a.mode ≤ 4
  rotate_left
  · have d11 : decide (a.mode ≤ 4) = false := decide_eq_false (by omega)
    have HE : Hid (z = false) := Lib.hid (hz.trans (decide_eq_false (by omega)))
    clear hz h0 h1 h2 h3 h4 h5 h6 h7 h8 h9 h10 h11
    go_enter Try.func54, Try.ntmps54
    go_wp2
    go_ret
    exact ⟨by rw [HE.out]; rfl, HX.out⟩
  have d11 : decide (a.mode ≤ 4) = true := decide_eq_true (by omega)
  by_cases h12 : 1 ≤ a.ver
  rotate_left
  · have d12 : decide ((1 : Int) ≤ a.ver) = false := decide_eq_false (by omega)
    have HE : Hid (z = false) := Lib.hid (hz.trans (decide_eq_false (by omega)))
    clear hz h0 h1 h2 h3 h4 h5 h6 h7 h8 h9 h10 h11 h12
    go_enter Try.func54, Try.ntmps54
    go_wp2
    go_ret
    exact ⟨by rw [HE.out]; rfl, HX.out⟩
  have d12 : decide ((1 : Int) ≤ a.ver) = true := decide_eq_true (by omega)
  by_cases h13 : a.ver ≤ 9
  rotate_left
  · have d13 : decide (a.ver ≤ 9) = false := decide_eq_false (by omega)
    have HE : Hid (z = false) := Lib.hid (hz.trans (decide_eq_false (by omega)))
    clear hz h0 h1 h2 h3 h4 h5 h6 h7 h8 h9 h10 h11 h12 h13
    go_enter Try.func54, Try.ntmps54
    go_wp2
    go_ret
    exact ⟨by rw [HE.out]; rfl, HX.out⟩
  have d13 : decide (a.ver ≤ 9) = true := decide_eq_true (by omega)
  by_cases h14 : 0 ≤ a.worked
  rotate_left
  · have d14 : decide ((0 : Int) ≤ a.worked) = false := decide_eq_false (by omega)
    have HE : Hid (z = false) := Lib.hid (hz.trans (decide_eq_false (by omega)))
    clear hz h0 h1 h2 h3 h4 h5 h6 h7 h8 h9 h10 h11 h12 h13 h14
    go_enter Try.func54, Try.ntmps54
    go_wp2
    go_ret
    exact ⟨by rw [HE.out]; rfl, HX.out⟩
  have d14 : decide ((0 : Int) ≤ a.worked) = true := decide_eq_true (by omega)
  by_cases h15 : a.worked ≤ 1000000
  rotate_left
  · have d15 : decide (a.worked ≤ 1000000) = false := decide_eq_false (by omega)
    have HE : Hid (z = false) := Lib.hid (hz.trans (decide_eq_false (by omega)))
    clear hz h0 h1 h2 h3 h4 h5 h6 h7 h8 h9 h10 h11 h12 h13 h14 h15
    go_enter Try.func54, Try.ntmps54
    go_wp2
    go_ret
    exact ⟨by rw [HE.out]; rfl, HX.out⟩
  have d15 : decide (a.worked ≤ 1000000) = true := decide_eq_true (by omega)
  by_cases h16 : 0 ≤ a.aim
  rotate_left
  · have d16 : decide ((0 : Int) ≤ a.aim) = false := decide_eq_false (by omega)
    have HE : Hid (z = false) := Lib.hid (hz.trans (decide_eq_false (by omega)))
    clear hz h0 h1 h2 h3 h4 h5 h6 h7 h8 h9 h10 h11 h12 h13 h14 h15 h16
    go_enter Try.func54, Try.ntmps54
    go_wp2
    go_ret
    exact ⟨by rw [HE.out]; rfl, HX.out⟩
  have d16 : decide ((0 : Int) ≤ a.aim) = true := decide_eq_true (by omega)
  by_cases h17 : a.aim ≤ 9
  rotate_left
  · have d17 : decide (a.aim ≤ 9) = false := decide_eq_false (by omega)
    have HE : Hid (z = false) := Lib.hid (hz.trans (decide_eq_false (by omega)))
    clear hz h0 h1 h2 h3 h4 h5 h6 h7 h8 h9 h10 h11 h12 h13 h14 h15 h16 h17
    go_enter Try.func54, Try.ntmps54
    go_wp2
    go_ret
    exact ⟨by rw [HE.out]; rfl, HX.out⟩
  have d17 : decide (a.aim ≤ 9) = true := decide_eq_true (by omega)
  have HE : Hid (z = true) := Lib.hid (hz.trans (decide_eq_true (by omega)))
  clear hz h0 h1 h2 h3 h4 h5 h6 h7 h8 h9 h10 h11 h12 h13 h14 h15 h16 h17
  go_enter Try.func54, Try.ntmps54
  go_wp2
  go_ret
  exact ⟨by rw [HE.out]; rfl, HX.out⟩

set_option maxRecDepth 100000 in
set_option maxHeartbeats 2000000 in
theorem RefNums12_any (m : Ms) (w : World) : Calls Try.prog 80 #[msV m] w fun e w' => ∃ v, e = .returned v ∧ Rd w' v ((msL m).map I) ∧ Ext w w' := by
  have HX : Hid (∀ cs T, Ext w ((w.alloc (.cells #[.int .i64 m.node, .int .i64 m.kind, .int .i64 m.term, .int .i64 m.gen, .int .i64 m.job, .int .i64 m.inc, .int .i64 m.ver, .int .i64 m.epoch, .int .i64 m.til, .int .i64 m.mode, .int .i64 m.work] 49)).alloc (.cells cs T))) := Lib.hid fun cs T => (Ext.alloc_ w _).trans (Ext.alloc_ _ _)
  have hr := Rd.lit (w.alloc (.cells #[.int .i64 m.node, .int .i64 m.kind, .int .i64 m.term, .int .i64 m.gen, .int .i64 m.job, .int .i64 m.inc, .int .i64 m.ver, .int .i64 m.epoch, .int .i64 m.til, .int .i64 m.mode, .int .i64 m.work] 49)) #[.int .i64 m.node, .int .i64 m.kind, .int .i64 m.term, .int .i64 m.gen, .int .i64 m.job, .int .i64 m.inc, .int .i64 m.ver, .int .i64 m.epoch, .int .i64 m.til, .int .i64 m.mode, .int .i64 m.work] 3 (show 11 ≤ maxLen by decide)
  rw [show (w.alloc (.cells #[.int .i64 m.node, .int .i64 m.kind, .int .i64 m.term, .int .i64 m.gen, .int .i64 m.job, .int .i64 m.inc, .int .i64 m.ver, .int .i64 m.epoch, .int .i64 m.til, .int .i64 m.mode, .int .i64 m.work] 49)).heap.size = w.heap.size + 1 by simp] at hr
  have HR := Lib.hid hr
  clear hr
  unfold msV
  go_enter Try.func80, Try.ntmps80
  go_wp2
  go_ret
  exact ⟨.slice (some ⟨w.heap.size + 1, 0, none⟩) 11 11, rfl, HR.out, HX.out _ _⟩

theorem rightM_eq (m : Ms) : rightM m = (decide (m.node < 6) && (decide (1 ≤ m.kind) && decide (m.kind ≤ 6)) && (msL m).all okN) := rfl
theorem okN_false {n : Int} (h : n < 0 ∨ 1000000 < n) : okN n = false := by unfold okN; rcases h with h | h; (rw [decide_eq_false (by omega)]; rfl); (rw [decide_eq_false (p := n ≤ 1000000) (by omega)]; simp)
theorem okN_true {n : Int} (h : 0 ≤ n ∧ n ≤ 1000000) : okN n = true := by unfold okN; rw [decide_eq_true h.1, decide_eq_true h.2]; rfl

set_option maxRecDepth 100000 in
set_option maxHeartbeats 4000000 in
theorem RefRight12_any (m : Ms) (w : World) : Calls Try.prog 35 #[msV m] w fun e w' => e = .returned (.bool (rightM m)) ∧ Ext w w' := by
  obtain ⟨W, hW⟩ : ∃ W, W = w.alloc (.cells #[.int .i64 m.node, .int .i64 m.kind, .int .i64 m.term, .int .i64 m.gen, .int .i64 m.job, .int .i64 m.inc, .int .i64 m.ver, .int .i64 m.epoch, .int .i64 m.til, .int .i64 m.mode, .int .i64 m.work] 49) := ⟨_, rfl⟩
  have hb : MsAt W w.heap.size m := by rw [hW]; exact ⟨Blk.new _ _ _⟩
  have hx : Ext w W := by rw [hW]; exact Ext.alloc_ _ _
  have HB := Lib.hid hb
  have HX := Lib.hid hx
  have HN := Lib.hid (RefNums12_any m W)
  unfold msV at HN
  obtain ⟨z, hz⟩ : ∃ z, z = rightM m := ⟨_, rfl⟩
  rw [← hz]
  have HZ := Lib.hid hz
  obtain ⟨L, hL⟩ : ∃ L, L = msL m := ⟨_, rfl⟩
  have HL := Lib.hid hL
  have HLN : Hid (L.length = 11) := Lib.hid (by rw [hL]; rfl)
  rw [← hL] at HN
  clear hb hx hz hL
  unfold msV
  go_enter Try.func35, Try.ntmps35
  go_upto_region 1 with (fail)
  rw [← hW]
  clear hW
  obtain ⟨m0, m1, m2, m3, m4, m5, m6, m7, m8, m9, m10⟩ := HB.out.cells
  go_wp2_with fail
  refine HN.out.mono ?_
  rintro e1 w1 ⟨v, rfl, hr, hx1⟩
  obtain ⟨A, c, hv, hlc, hcm, hcell⟩ := hr
  rw [List.length_map, HLN.out] at hv hlc hcell
  subst hv
  obtain ⟨b, o, rfl, hb1, hce⟩ := hcell (by decide)
  have HCE : Hid (∀ k x, L[k]? = some x → w1.cell? ⟨b, o + k, none⟩ = some (.int .i64 x)) := Lib.hid fun k x hx => hce k (I x) (by rw [List.getElem?_map, hx]; rfl)
  have HX1 := Lib.hid (HX.out.trans hx1)
  have HB1 := Lib.hid (HB.out.ext hx1)
  clear hcell hce hx1 m0 m1 m2 m3 m4 m5 m6 m7 m8 m9 m10 HN hb1
  unfold maxLen at hcm
  go_wp2_with fail
  go_loopw [4] (fun i wr => wr = w1 ∧ ∃ k : Nat, i = .int .i64 k ∧ k ≤ 11 ∧ Hid ((L.take k).all okN = true)) (fun i _ => 11 - (intOf i).toNat)
  case atStart => exact ⟨rfl, 0, rfl, Nat.zero_le _, Lib.hid rfl⟩
  case round =>
    obtain ⟨rfl, k, rfl, hk, HK⟩ := hrel
    by_cases hlt : k < 11
    · have e1 : decide ((k : Int) < 11) = true := decide_eq_true (by omega)
      have e1' : decide (k < 11) = true := decide_eq_true hlt
      obtain ⟨n, hn⟩ : ∃ n, L[k]? = some n := ⟨_, List.getElem?_eq_getElem (by rw [HLN.out]; exact hlt)⟩
      have cn := HCE.out k n hn
      have x1 : (0 : Int) ≤ (k : Int) ∧ (k : Int) < 11 := by omega
      have HTK : Hid ((L.take (k + 1)).all okN = okN n) := Lib.hid (by rw [List.take_add_one, hn, List.all_append, HK.out]; simp)
      have HNM := Lib.hid (List.mem_of_getElem? hn)
      have HLT := Lib.hid hlt
      clear hn hlt
      by_cases h0 : n < 0
      · have d0 : decide (n < 0) = true := decide_eq_true h0
        have HF : Hid (z = false) := Lib.hid (by
          rw [HZ.out, rightM_eq, ← HL.out]
          have : L.all okN = false := by
            cases ha : L.all okN with
            | false => rfl
            | true => have h9 := List.all_eq_true.1 ha n HNM.out; rw [okN_false (by omega)] at h9; cases h9
          rw [this, Bool.and_false])
        clear h0
        go_wp2
        go_ret
        exact ⟨by rw [HF.out]; rfl, HX1.out⟩
      have d0 : decide (n < 0) = false := decide_eq_false h0
      by_cases h9 : 1000000 < n
      · have d9 : decide ((1000000 : Int) < n) = true := decide_eq_true h9
        have HF : Hid (z = false) := Lib.hid (by
          rw [HZ.out, rightM_eq, ← HL.out]
          have : L.all okN = false := by
            cases ha : L.all okN with
            | false => rfl
            | true => have h8 := List.all_eq_true.1 ha n HNM.out; rw [okN_false (by omega)] at h8; cases h8
          rw [this, Bool.and_false])
        clear h0 h9
        go_wp2
        go_ret
        exact ⟨by rw [HF.out]; rfl, HX1.out⟩
      have d9 : decide ((1000000 : Int) < n) = false := decide_eq_false h9
      have HK2 : Hid ((L.take (k + 1)).all okN = true) := Lib.hid (by rw [HTK.out]; exact okN_true (by omega))
      have hwq : wrap64 ((k : Int) + 1) = (k : Int) + 1 := IntWalk.wrap64_in _ (by omega)
      clear h0 h9
      go_wp2
      go_roundw
      case rel => first | exact ⟨rfl, k + 1, by go_num, HLT.out, HK2⟩ | exact ⟨trivial, k + 1, by go_num, HLT.out, HK2⟩
      case measure => simp [intOf]; have := HLT.out; omega
    · obtain rfl : k = 11 := by omega
      have e1 : decide ((11 : Int) < 11) = false := by decide
      have HA : Hid (z = (decide (m.node < 6) && (decide (1 ≤ m.kind) && decide (m.kind ≤ 6)))) := Lib.hid (by rw [HZ.out, rightM_eq, ← HL.out]; have h := HK.out; rw [List.take_of_length_le (by rw [HLN.out]; exact Nat.le_refl _)] at h; rw [h, Bool.and_true])
      have m0 := HB1.out.cells.1
      have m1 := HB1.out.cells.2.1
      clear hk hlt HK
      by_cases q0 : m.node ≤ 5
      · have d0 : decide (m.node ≤ 5) = true := decide_eq_true q0
        by_cases q1 : 1 ≤ m.kind
        · have d1 : decide ((1 : Int) ≤ m.kind) = true := decide_eq_true q1
          have HF : Hid (z = decide (m.kind ≤ 6)) := Lib.hid (by rw [HA.out]; rw [decide_eq_true (show m.node < 6 by omega), decide_eq_true q1]; rfl)
          clear q0 q1
          go_wp2
          go_ret
          exact ⟨by rw [HF.out]; rfl, HX1.out⟩
        · have d1 : decide ((1 : Int) ≤ m.kind) = false := decide_eq_false q1
          have HF : Hid (z = false) := Lib.hid (by rw [HA.out]; rw [decide_eq_false q1, Bool.false_and, Bool.and_false])
          clear q0 q1
          go_wp2
          go_ret
          exact ⟨by rw [HF.out]; rfl, HX1.out⟩
      · have d0 : decide (m.node ≤ 5) = false := decide_eq_false q0
        have HF : Hid (z = false) := Lib.hid (by rw [HA.out]; rw [decide_eq_false (show ¬ m.node < 6 by omega)]; rfl)
        clear q0
        go_wp2
        go_ret
        exact ⟨by rw [HF.out]; rfl, HX1.out⟩

end Go.Proofs.Ytddhbokknbmdfaa

/- Layer 13's statements: may acts be looked at? -/
namespace Go.Proofs.Ytddhbokknbmdfaa
open Go.RowKit

theorem list13 {x : List Int} (h : x.length = 13) : ∃ z0 z1 z2 z3 z4 z5 z6 z7 z8 z9 z10 z11 z12, x = [z0, z1, z2, z3, z4, z5, z6, z7, z8, z9, z10, z11, z12] := by
  match x, h with
  | [z0, z1, z2, z3, z4, z5, z6, z7, z8, z9, z10, z11, z12], _ => exact ⟨z0, z1, z2, z3, z4, z5, z6, z7, z8, z9, z10, z11, z12, rfl⟩
def msOf (x : List Int) : Ms := ofL (x.drop 2)
def okX (x : List Int) : Bool := rightM (msOf x) && (decide (0 ≤ x.getD 1 0) && decide (x.getD 1 0 ≤ 1000000))
def few13 (l : List (List Int)) : Bool := decide (l.length ≤ 60) && l.all okX
theorem few13_iff {l : List (List Int)} : few13 l = true ↔ l.length ≤ 60 ∧ ∀ x ∈ l, okX x = true := by simp [few13]
theorem few13_bad {l : List (List Int)} {k : Nat} {x : List Int} (hx : l[k]? = some x) (h : okX x = false) : few13 l = false := by
  cases hf : few13 l with
  | false => rfl
  | true => have := (few13_iff.1 hf).2 x (List.mem_of_getElem? hx); rw [h] at this; cases this

set_option maxRecDepth 100000 in
set_option maxHeartbeats 1000000 in
theorem few13_any (l : List (List Int)) (v : Value) (w : World) (h : RdI 13 w v l) (hln : ∀ x ∈ l, x.length = 13) : Calls Try.prog 59 #[v] w fun e w' => e = .returned (.bool (few13 l)) ∧ Ext w w' := by
  obtain ⟨A, c, rfl, hlc, hcm⟩ := h.slice_
  have HR := Lib.hid h
  have HLN := Lib.hid hln
  clear h hln
  by_cases h60 : l.length ≤ 60
  · have d60 : decide (60 < l.length) = false := decide_eq_false (by omega)
    have d60' : decide ((60 : Int) < (l.length : Int)) = false := decide_eq_false (by omega)
    go_enter Try.func59, Try.ntmps59
    go_wp2
    go_loopw [3] (fun i wr => ∃ k : Nat, i = .int .i64 k ∧ k ≤ l.length ∧ Hid (Ext w wr ∧ ∀ x ∈ l.take k, okX x = true)) (fun i _ => l.length - (intOf i).toNat)
    case atStart => exact ⟨0, rfl, Nat.zero_le _, Lib.hid ⟨Ext.refl _, by intro x hx; simp at hx⟩⟩
    case round =>
      obtain ⟨k, rfl, hk, HK⟩ := hrel
      by_cases hlt : k < l.length
      · have e1 : decide ((k : Int) < (l.length : Int)) = true := decide_eq_true (by omega)
        have e1' : decide (k < l.length) = true := decide_eq_true hlt
        have HRW := Lib.hid (HR.out.ext HK.out.1)
        obtain ⟨b, o, rfl, hb1, hcl⟩ := HRW.out.get (by omega)
        obtain ⟨x, hx⟩ : ∃ x, l[k]? = some x := ⟨_, List.getElem?_eq_getElem hlt⟩
        obtain ⟨z0, z1, z2, z3, z4, z5, z6, z7, z8, z9, z10, z11, z12, rfl⟩ := list13 (HLN.out x (List.mem_of_getElem? hx))
        have e0_ := hcl k _ 0 z0 hx rfl
        have e1_ := hcl k _ 1 z1 hx rfl
        have m0 := hcl k _ 2 z2 hx rfl
        have m1 := hcl k _ 3 z3 hx rfl
        have m2 := hcl k _ 4 z4 hx rfl
        have m3 := hcl k _ 5 z5 hx rfl
        have m4 := hcl k _ 6 z6 hx rfl
        have m5 := hcl k _ 7 z7 hx rfl
        have m6 := hcl k _ 8 z8 hx rfl
        have m7 := hcl k _ 9 z9 hx rfl
        have m8 := hcl k _ 10 z10 hx rfl
        have m9 := hcl k _ 11 z11 hx rfl
        have m10 := hcl k _ 12 z12 hx rfl
        simp only [Nat.add_zero] at e0_
        have HXM := Lib.hid hx
        have HRM := Lib.hid (RefRight12_any (msOf [z0, z1, z2, z3, z4, z5, z6, z7, z8, z9, z10, z11, z12]) wr)
        have HMS : Hid (msV (msOf [z0, z1, z2, z3, z4, z5, z6, z7, z8, z9, z10, z11, z12]) = .agg #[.int .i64 z2, .int .i64 z3, .int .i64 z4, .int .i64 z5, .int .i64 z6, .int .i64 z7, .int .i64 z8, .int .i64 z9, .int .i64 z10, .int .i64 z11, .int .i64 z12]) := Lib.hid rfl
        rw [HMS.out] at HRM
        have HCL := Lib.hid hcl
        have HLT := Lib.hid hlt
        have HB1 := Lib.hid hb1
        clear hcl hx hlt hb1
        have x1 : (0 : Int) ≤ (k : Int) ∧ (k : Int) < (l.length : Int) := by have := HLT.out; omega
        obtain ⟨g, hg⟩ : ∃ g, g = rightM (msOf [z0, z1, z2, z3, z4, z5, z6, z7, z8, z9, z10, z11, z12]) := ⟨_, rfl⟩
        have HG := Lib.hid hg
        rw [← hg] at HRM
        clear hg
        go_wp2_with fail
        refine HRM.out.mono ?_
        rintro e2 w2 ⟨rfl, hx2⟩
        have HX2 := Lib.hid (HK.out.1.trans hx2)
        clear hx2 HRM
        have e1_ : w2.cell? ⟨b, o + k * 13 + 1, none⟩ = some (.int .i64 z1) := by have := ((HR.out.ext HX2.out).get (Nat.lt_of_le_of_lt (Nat.zero_le k) HLT.out)); obtain ⟨b', o', e', -, hc'⟩ := this; cases e'; exact hc' k _ 1 z1 HXM.out rfl
        clear m0 m1 m2 m3 m4 m5 m6 m7 m8 m9 m10
        have hwq : wrap64 ((k : Int) + 1) = (k : Int) + 1 := IntWalk.wrap64_in _ (by have := HLT.out; omega)
        cases g with
        | false =>
          have HF : Hid (few13 l = false) := Lib.hid (few13_bad HXM.out (by unfold okX; rw [← HG.out]; rfl))
          go_wp2
          go_ret
          exact ⟨by rw [HF.out]; rfl, HX2.out⟩
        | true =>
          by_cases q0 : z1 < 0
          · have d0 : decide (z1 < 0) = true := decide_eq_true q0
            have HF : Hid (few13 l = false) := Lib.hid (few13_bad HXM.out (by unfold okX; rw [show ([z0, z1, z2, z3, z4, z5, z6, z7, z8, z9, z10, z11, z12] : List Int).getD 1 0 = z1 from rfl, decide_eq_false (show ¬ 0 ≤ z1 by omega)]; simp))
            clear q0
            go_wp2
            go_ret
            exact ⟨by rw [HF.out]; rfl, HX2.out⟩
          have d0 : decide (z1 < 0) = false := decide_eq_false q0
          by_cases q1 : 1000000 < z1
          · have d1 : decide ((1000000 : Int) < z1) = true := decide_eq_true q1
            have HF : Hid (few13 l = false) := Lib.hid (few13_bad HXM.out (by unfold okX; rw [show ([z0, z1, z2, z3, z4, z5, z6, z7, z8, z9, z10, z11, z12] : List Int).getD 1 0 = z1 from rfl, decide_eq_false (show ¬ z1 ≤ 1000000 by omega)]; simp))
            clear q0 q1
            go_wp2
            go_ret
            exact ⟨by rw [HF.out]; rfl, HX2.out⟩
          have d1 : decide ((1000000 : Int) < z1) = false := decide_eq_false q1
          have HK2 : Hid (Ext w w2 ∧ ∀ x ∈ l.take (k + 1), okX x = true) := Lib.hid ⟨HX2.out, by
            rw [List.take_add_one, HXM.out]
            intro y hy
            rcases List.mem_append.1 hy with hy | hy
            · exact HK.out.2 y hy
            · obtain rfl : y = [z0, z1, z2, z3, z4, z5, z6, z7, z8, z9, z10, z11, z12] := by simpa using hy
              unfold okX
              rw [← HG.out, show ([z0, z1, z2, z3, z4, z5, z6, z7, z8, z9, z10, z11, z12] : List Int).getD 1 0 = z1 from rfl, decide_eq_true (show 0 ≤ z1 by omega), decide_eq_true (show z1 ≤ 1000000 by omega)]
              rfl⟩
          clear q0 q1
          go_wp2
          go_roundw
          case rel => exact ⟨k + 1, by go_num, HLT.out, HK2⟩
          case measure => simp [intOf]; have := HLT.out; omega
      · obtain rfl : k = l.length := by omega
        have e1 : decide ((l.length : Int) < (l.length : Int)) = false := decide_eq_false (by omega)
        have e1' : decide (l.length < l.length) = false := decide_eq_false (by omega)
        have HF : Hid (few13 l = true) := Lib.hid (few13_iff.2 ⟨h60, fun x hx => HK.out.2 x (by rw [List.take_length]; exact hx)⟩)
        have HX2 := Lib.hid HK.out.1
        clear HK
        go_wp2
        go_ret
        exact ⟨by rw [HF.out]; rfl, HX2.out⟩
  · have d60 : decide (60 < l.length) = true := decide_eq_true (by omega)
    have d60' : decide ((60 : Int) < (l.length : Int)) = true := decide_eq_true (by omega)
    have HF : Hid (few13 l = false) := Lib.hid (by simp [few13, h60])
    clear h60
    go_enter Try.func59, Try.ntmps59
    go_wp2
    go_ret
    exact ⟨by rw [HF.out]; rfl, Ext.refl _⟩

end Go.Proofs.Ytddhbokknbmdfaa

/- Go's bytes.Clone: a copy of its own. -/
namespace Go.Proofs.Ytddhbokknbmdfaa
open Go.RowKit

theorem Clone_any (l : List UInt8) (v : Value) (w : World) (hr : Rd w v (l.map B)) (hlen : l.length ≤ 140737488355328) :
    Calls Try.prog 66 #[v] w fun e w' => ∃ v', e = .returned v' ∧ Grew w.heap.size 5 (.slice none 0 0) w (l.map B) v' w' := by
  have kn := fun (w : World) (a : Option Addr) (n c n' c' : Nat) => Lib.run_eql_slice_nil (P := Try.prog) w 27 5 a n c n' c' Try.underlying27
  obtain ⟨A, c, rfl, hlc, hcm⟩ := hr.sliceN (List.length_map _)
  unfold maxLen at hcm
  rcases A with _ | a
  · have h0 : l = [] := by
      rcases Nat.eq_zero_or_pos l.length with h | h
      · exact List.eq_nil_of_length_eq_zero h
      · obtain ⟨b, o, h, _⟩ := hr.get (by simpa using h)
        cases h
    subst h0
    have hg := Grew.nil (base := w.heap.size) (e := 5) w
    have HG := Lib.hid hg
    clear hg
    go_enter Try.func66, Try.ntmps66
    go_wp2
    go_ret
    exact ⟨_, rfl, HG.out⟩
  · have HR := Lib.hid hr
    clear hr
    go_enter Try.func66, Try.ntmps66
    go_wp2_with (at_builtin; refine app_u8 rfl _ _ rfl w.heap.size _ [] rfl (own_none _ _ _ rfl) _ l rfl (HR.out.ext ((Below.refl _ _).alloc (Nat.le_refl _) _)) (by simp; omega) (by simp) ?_; intro v2 w2 hg2; rw [List.nil_append] at hg2)
    go_ret
    exact ⟨_, rfl, Grew.from_empty rfl hg2⟩

end Go.Proofs.Ytddhbokknbmdfaa

/- Package store: where a job's checkpoints stand, and what is told of them. -/
namespace Go.Proofs.Ytddhbokknbmdfaa
open Go.RowKit

theorem isJob_any (job : Int) (w : World) :
    Calls Try.prog 67 #[.int .i64 job] w fun e w' => e = .returned (.bool (isJ job)) ∧ w = w' := by
  by_cases h1 : 1 ≤ job
  · have d1 : decide ((1 : Int) ≤ job) = true := decide_eq_true h1
    have HJ : Hid (isJ job = decide (job ≤ 24)) := Lib.hid (by unfold isJ; rw [d1]; rfl)
    go_enter Try.func67, Try.ntmps67
    go_wp2
    go_ret
    exact ⟨by rw [HJ.out]; rfl, rfl⟩
  · have d1 : decide ((1 : Int) ≤ job) = false := decide_eq_false h1
    have HJ : Hid (isJ job = false) := Lib.hid (by unfold isJ; rw [d1]; rfl)
    go_enter Try.func67, Try.ntmps67
    go_wp2
    go_ret
    exact ⟨by rw [HJ.out]; rfl, rfl⟩

theorem is_any (ep e : Int) (v : Value) (w : World) :
    Calls Try.prog 65 #[.agg #[.int .i64 ep, v], .int .i64 e] w fun x w' => x = .returned (.bool (decide (0 < ep) && decide (ep = e))) ∧ Ext w w' := by
  have hx : Ext w (w.alloc (.cells #[.int .i64 ep, v] 98)) := (Below.refl _ _).alloc (Nat.le_refl _) _
  have HX := Lib.hid hx
  by_cases h1 : 0 < ep
  · have d1 : decide ((0 : Int) < ep) = true := decide_eq_true h1
    clear hx
    go_enter Try.func65, Try.ntmps65
    go_wp2
    go_ret
    exact ⟨by simp [h1]; rfl, HX.out⟩
  · have d1 : decide ((0 : Int) < ep) = false := decide_eq_false h1
    clear hx
    go_enter Try.func65, Try.ntmps65
    go_wp2
    go_ret
    exact ⟨by simp, HX.out⟩

/-- Where a job's pair is. -/
structure OfPost (N : Fp) (w : World) (g : Nat) (S : StoP) (job : Int) (e : Ending) (w' : World) : Prop where
  out : ∃ b o, e = .returned (.pointer (some ⟨b, o, none⟩)) ∧ PairAt N w' b o (ofJ S job) ∧ Ext w w' ∧
    ((isJ job = true ∧ b = g ∧ o = 2 + 4 * (job - 1).toNat) ∨ (isJ job = false ∧ w.heap.size ≤ b ∧ o = 0 ∧ Blk w' b 100 #[.int .i64 0, .slice none 0 0, .int .i64 0, .slice none 0 0]))

theorem newPair (N : Fp) (w : World) : PairAt N (w.alloc (.cells #[.int .i64 0, .slice none 0 0, .int .i64 0, .slice none 0 0] 100)) w.heap.size 0 zPr := by
  have hb := Blk.new w 100 #[.int .i64 0, .slice none 0 0, .int .i64 0, .slice none 0 0]
  exact ⟨⟨_, _, ⟨hb.cell 0, hb.cell 1, hb.cell 2, hb.cell 3⟩, zLp_rd N _⟩, fun i => hb.frozen i, hb.lt⟩

theorem of_any (N : Fp) (g : Nat) (S : StoP) (job : Int) (w : World) (h : SoAt N w g S) (hS : OkS S) :
    Calls Try.prog 64 #[.pointer (some ⟨g, 0, none⟩), .int .i64 job] w (OfPost N w g S job) := by
  have HI := Lib.hid (isJob_any job w)
  cases hj : isJ job with
  | true =>
    rw [hj] at HI
    have hp := h.pair hS hj
    have h1 := isJ_iff.1 hj
    obtain ⟨k, hk⟩ : ∃ k : Nat, job = (k : Int) + 1 := ⟨(job - 1).toNat, by omega⟩
    have hk2 : (job - 1).toNat = k := by omega
    have x0 : (0 : Int) ≤ (k : Int) ∧ (k : Int) < 24 := by omega
    have hw1 : wrap64 (job - 1) = (k : Int) := by rw [IntWalk.wrap64_in _ (by omega)]; omega
    have HP := Lib.hid hp
    have HJ := Lib.hid hj
    have HK := Lib.hid hk2
    clear h hS hp hj h1 hk hk2
    go_enter Try.func64, Try.ntmps64
    go_wp2_with fail
    refine HI.out.mono ?_
    rintro e1 w1 ⟨rfl, rfl⟩
    go_wp2
    go_ret
    exact ⟨_, _, rfl, by rw [show 2 + k * 4 = 2 + 4 * (job - 1).toNat by rw [HK.out]; omega]; exact HP.out, Ext.refl _, .inl ⟨HJ.out, rfl, by rw [HK.out]; omega⟩⟩
  | false =>
    rw [hj] at HI
    have hz := ofJ_no (S := S) hj
    have HZ := Lib.hid hz
    have HJ := Lib.hid hj
    clear h hS hz hj
    go_enter Try.func64, Try.ntmps64
    go_wp2_with fail
    refine HI.out.mono ?_
    rintro e1 w1 ⟨rfl, rfl⟩
    go_wp2
    go_ret
    exact ⟨_, _, rfl, by rw [HZ.out]; exact newPair N w, (Below.refl _ _).alloc (Nat.le_refl _) _, .inr ⟨HJ.out, Nat.le_refl _, rfl, Blk.new _ _ _⟩⟩

/-- What is told of a job. -/
theorem Counts_any (N : Fp) (g : Nat) (S : StoP) (job : Int) (w : World) (h : SoAt N w g S) (hS : OkS S) :
    Calls Try.prog 20 #[.pointer (some ⟨g, 0, none⟩), .int .i64 job] w fun e w' => e = .returned (.int .i64 (ofJ S job).c.ep) ∧ Ext w w' := by
  have HO := Lib.hid (of_any N g S job w h hS)
  clear h hS
  go_enter Try.func20, Try.ntmps20
  go_wp2_with fail
  refine HO.out.mono ?_
  rintro e1 w1 ⟨b, o, rfl, hp, hx, -⟩
  obtain ⟨vc, vs, ⟨c0, -, -, -⟩, -⟩ := hp.out
  have HX := Lib.hid hx
  clear hx hp
  go_wp2
  go_ret
  exact ⟨rfl, HX.out⟩
theorem Term_any (N : Fp) (g : Nat) (S : StoP) (w : World) (h : SoAt N w g S) :
    Calls Try.prog 22 #[.pointer (some ⟨g, 0, none⟩)] w fun e w' => e = .returned (.int .i64 S.term) ∧ w = w' := by
  obtain ⟨lp, -, hb, -⟩ := h.out
  have c1 : w.cell? ⟨g, 1, none⟩ = some (.int .i64 S.term) := hb.cell 1
  clear hb h
  go_enter Try.func22, Try.ntmps22
  go_wp2
  go_ret
  exact ⟨rfl, rfl⟩
theorem SoAt.c98 {N : Fp} {w : World} {g : Nat} {S : StoP} (h : SoAt N w g S) (hS : OkS S) : w.cell? ⟨g, 98, none⟩ = some (.int .i64 S.writes) := by
  obtain ⟨lp, h1, hb, -⟩ := h.out
  rw [hb.cell, List.getElem?_toArray]
  exact soC_last _ _ _ _ (by have := hS.len; rw [← h1, List.length_map] at this; exact this)
theorem Writes_any (N : Fp) (g : Nat) (S : StoP) (w : World) (h : SoAt N w g S) (hS : OkS S) :
    Calls Try.prog 23 #[.pointer (some ⟨g, 0, none⟩)] w fun e w' => e = .returned (.int .i64 S.writes) ∧ w = w' := by
  have c98 := h.c98 hS
  have HL : Hid (Calls Try.prog 69 #[.pointer (some ⟨g, 98, none⟩)] w fun e w' => e = .returned (.int .i64 S.writes) ∧ w = w') := Lib.hid (by
    have hcall := run_call_load (P := Try.prog) (f := 98) Try.func98 (by kernel_rfl) (by kernel_rfl) (by kernel_rfl) .i64 (by kernel_rfl) c98
    go_enter Try.func69, Try.ntmps69
    go_wp2
    go_ret
    exact ⟨rfl, rfl⟩)
  clear h hS
  go_enter Try.func23, Try.ntmps23
  go_wp2_with fail
  refine HL.out.mono ?_
  rintro e1 w1 ⟨rfl, rfl⟩
  go_wp2
  go_ret
  exact ⟨rfl, rfl⟩
theorem SoAt.fence {N : Fp} {w : World} {g : Nat} {S : StoP} (h : SoAt N w g S) (t : Int) : SoAt N (w.setCell ⟨g, 1, none⟩ (.int .i64 t)) g { S with term := t } := by
  obtain ⟨lp, h1, hb, hr⟩ := h.out
  have hc : Chg (fun k => k = g) w (w.setCell ⟨g, 1, none⟩ (.int .i64 t)) := (Chg.refl _ _).setCell (fun _ => rfl)
  refine ⟨⟨lp, h1, ?_, fun x hx => (hr x hx).chg hc (fun k hk => by rw [hk]; exact h.here)⟩, h.isIn.chg hc, h.here⟩
  have h2 := hb.set_ 1 (.int .i64 t)
  rw [List.setIfInBounds_toArray] at h2
  exact h2
theorem Fence_any (N : Fp) (g : Nat) (S : StoP) (t : Int) (w : World) (h : SoAt N w g S) :
    Calls Try.prog 15 #[.pointer (some ⟨g, 0, none⟩), .int .i64 t] w fun e w' => e = .returned (.tuple #[]) ∧ SoAt N w' g (fenceS S t) ∧ Chg (fun k => k = g) w w' := by
  obtain ⟨lp, -, hb, -⟩ := h.out
  have c1 : w.cell? ⟨g, 1, none⟩ = some (.int .i64 S.term) := hb.cell 1
  have f1 := hb.frozen 1
  have HF := Lib.hid (h.fence (max S.term t))
  clear hb h
  go_enter Try.func15, Try.ntmps15
  go_wp2
  go_end0
  exact ⟨rfl, HF.out, (Chg.refl _ _).setCell (fun _ => rfl)⟩

end Go.Proofs.Ytddhbokknbmdfaa

/- Package store: how many bytes there are. -/
namespace Go.Proofs.Ytddhbokknbmdfaa
open Go.RowKit

section
variable {P : Program} {w : World} {ops : Array Oper} {rest : List Oper} {o : Oper} {a : Act} {Q : Exit → Act → World → Prop}
/-- A whole variable that lies anywhere in a block. -/
theorem run_loadVar_at (w : World) (ad : Addr) (ty : TypeId) (l : List Value) (d : TypeDesc) (hu : P.underlying ty = some d) (hd : (match d with | .struct _ | .array _ _ => true | _ => false) = true)
    (hi : (P.info? ty).map (·.size) = some l.length) (h : ∀ j v, l[j]? = some v → w.cell? (ad.add j) = some v) : (loadVar ty ad).run P w = .ok (.agg l.toArray) w := by
  have hl := run_loadCells_list (P := P) w ad l h
  cases hq : P.info? ty with
  | none => simp [hq] at hi
  | some i =>
    simp only [hq, Option.map_some, Option.some.injEq] at hi
    cases d <;> simp_all [loadVar, isAgg, run_underlying, sizeOf, typeInfo, go_sem]
theorem wpList_loadV (hgd : o.guard = none) (t : TypeId) (p : Operand) (ho : o.op = .load t p) (ad : Addr) (hp : a.eval p = .pointer (some ad)) (v : Value) (hrun : (loadVar t ad).run P w = .ok v w)
    (h : wpList P ops Q rest (a.put o.dst v) w) : wpList P ops Q (o :: rest) a w := by
  refine wpList_plain hgd fun K hK => ?_
  unfold Oper.wp execOp
  simp only [ho, hp, Instr.loadAt, Instr.sureAddr, Sem.run_bind, Sem.run_pure, Result.andThen_ok, hrun]
  exact hK _ _ h
theorem wpList_indexV (hgd : o.guard = none) (t : TypeId) (x ix : Operand) (ho : o.op = .index t x ix) (v : Value) (hrun : (Instr.index t (a.eval x) (a.eval ix)).run P w = .ok v w)
    (h : wpList P ops Q rest (a.put o.dst v) w) : wpList P ops Q (o :: rest) a w := by
  refine wpList_plain hgd fun K hK => ?_
  unfold Oper.wp execOp
  simp only [ho, Sem.run_bind, Sem.run_pure, Result.andThen_ok, hrun]
  exact hK _ _ h
theorem run_index_agg (w : World) (t e : TypeId) (n m : Nat) (fs : Array Field) (hu : P.underlying t = some (.array n e)) (he : P.underlying e = some (.struct fs)) (hi : (P.info? e).map (·.size) = some m)
    (A : Array Value) (k : Nat) (hk : k < n) (c : Array Value) (hc : A.extract (k * m) (k * m + m) = c) : (Instr.index t (.agg A) (.int .i64 (k : Int))).run P w = .ok (.agg c) w := by
  cases hq : P.info? e with
  | none => simp [hq] at hi
  | some i =>
    simp only [hq, Option.map_some, Option.some.injEq] at hi
    simp [Instr.index, run_underlying hu, asIntOf, part, isAgg, run_underlying he, sizeOf, typeInfo, hq, hi, hc, go_sem]
    intro h; omega
end
theorem flat_cut4 : ∀ (lp : List LpP) (k : Nat), k < lp.length → ((lp.flatMap LpP.cells).drop (k * 4)).take 4 = (lp.getD k zLp).cells
  | [], _, h => absurd h (by simp)
  | x :: lp, 0, _ => by rw [List.flatMap_cons, Nat.zero_mul, List.drop_zero]; rfl
  | x :: lp, k + 1, h => by
    rw [List.flatMap_cons, Nat.succ_mul]
    exact flat_cut4 lp k (by simpa using h)
theorem usedJ_take (l : List PrP) (k : Nat) (hk : k < l.length) : usedJ (l.take (k + 1)) = usedJ (l.take k) + wtP (l.getD k zPr) := by
  rw [List.take_add_one, List.getElem?_eq_getElem hk, List.getD_eq_getElem?_getD, List.getElem?_eq_getElem hk]
  simp only [usedJ, List.map_append, List.sum_append, List.map_cons, List.map_nil, List.sum_cons, List.sum_nil, Option.getD_some, Option.toList_some, Nat.add_zero]
theorem usedJ_take_le (l : List PrP) : ∀ k, usedJ (l.take k) ≤ usedJ l := fun k => by
  have : usedJ (l.take k) + usedJ (l.drop k) = usedJ l := by
    have h := congrArg usedJ (List.take_append_drop k l)
    rw [← h]; simp only [usedJ, List.map_append, List.sum_append]
  omega

set_option maxRecDepth 100000 in
theorem Used_any (N : Fp) (g : Nat) (S : StoP) (w : World) (h : SoAt N w g S) (hS : OkS S) (hu : usedJ S.jobs ≤ 1000000000) :
    Calls Try.prog 21 #[.pointer (some ⟨g, 0, none⟩)] w fun e w' => e = .returned (.int .i64 (usedJ S.jobs : Int)) ∧ Ext w w' := by
  obtain ⟨lp, h1, hb, hr⟩ := h.out
  have hl : lp.length = 24 := by have := hS.len; rw [← h1, List.length_map] at this; exact this
  obtain ⟨A, hA⟩ : ∃ A, A = (lp.flatMap LpP.cells).toArray := ⟨_, rfl⟩
  have HLD : Hid ((loadVar 101 ⟨g, 2, none⟩).run Try.prog w = .ok (.agg A) w) := Lib.hid (by
    rw [hA]
    refine run_loadVar_at w _ _ _ _ Try.underlying101 rfl (by rw [flat4_len, hl]; kernel_rfl) (fun j v hj => ?_)
    have hjl : j < 96 := by have := (List.getElem?_eq_some_iff.1 hj).1; rw [flat4_len, hl] at this; exact this
    rw [Addr.add_lit, hb.cell, List.getElem?_toArray, show 2 + j = j + 1 + 1 by omega]
    show (lp.flatMap LpP.cells ++ _)[j]? = _
    rw [List.getElem?_append_left (by rw [flat4_len, hl]; exact hjl)]
    exact hj)
  have HIX : Hid (∀ (k : Nat) (W : World), k < 24 → (Instr.index 101 (.agg A) (.int .i64 (k : Int))).run Try.prog W = .ok (.agg #[.int .i64 (lp.getD k zLp).p.c.ep, (lp.getD k zLp).vc, .int .i64 (lp.getD k zLp).p.s.ep, (lp.getD k zLp).vs]) W) := Lib.hid (fun k W hk => by
    refine run_index_agg W _ _ 24 4 _ Try.underlying101 Try.underlying100 (by kernel_rfl) A k hk _ ?_
    rw [hA, List.extract_toArray]
    congr 1
    rw [List.extract_eq_take_drop, show k * 4 + 4 - k * 4 = 4 by omega]
    exact flat_cut4 lp k (by omega))
  have HRD : Hid (∀ (k : Nat) (W : World), Ext w W → k < 24 → (lp.getD k zLp).rd N W ∧ (lp.getD k zLp).p = S.jobs.getD k zPr) := Lib.hid (fun k W hx hk => by
    have hm : lp.getD k zLp ∈ lp := by rw [List.getD_eq_getElem?_getD, List.getElem?_eq_getElem (by omega)]; exact List.getElem_mem _
    exact ⟨(hr _ hm).chg (G := fun _ => False) (Chg.of_ext hx) (fun _ h => h.elim), by rw [← h1, getD_map]⟩)
  obtain ⟨J, hJ⟩ : ∃ J, J = S.jobs := ⟨_, rfl⟩
  have HJL : Hid (J.length = 24) := Lib.hid (by rw [hJ]; exact hS.len)
  have HU : Hid (usedJ J ≤ 1000000000) := Lib.hid (by rw [hJ]; exact hu)
  have HT : Hid (∀ k, k < 24 → usedJ (J.take (k + 1)) = usedJ (J.take k) + wtP (J.getD k zPr) ∧ usedJ (J.take (k + 1)) ≤ usedJ J) := Lib.hid (fun k hk => ⟨usedJ_take J k (by rw [hJ, hS.len]; exact hk), usedJ_take_le J _⟩)
  rw [← hJ] at HRD ⊢
  clear hb h hr h1 hS hA hl hJ hu
  go_enter Try.func21, Try.ntmps21
  go_upto_region 4 with (fail)
  iterate 10 go_step
  refine wpList_loadV (by rfl) _ _ (by rfl) ⟨g, 2, none⟩ (by rfl) (.agg A) HLD.out ?_
  clear HLD
  go_wp2
  go_loopw [3, 12] (fun n' i' wr => ∃ k : Nat, i' = .int .i64 k ∧ k ≤ 24 ∧ n' = .int .i64 (usedJ (J.take k) : Int) ∧ Ext w wr) (fun _ i' _ => 24 - (intOf i').toNat)
  case atStart => exact ⟨0, rfl, Nat.zero_le _, rfl, Ext.refl _⟩
  case round =>
    obtain ⟨k, rfl, hk, rfl, hx⟩ := hrel
    by_cases hlt : k < 24
    · have e1 : decide ((k : Int) < 24) = true := decide_eq_true (by omega)
      obtain ⟨hxr, hxp⟩ := HRD.out k wr hx hlt
      have hix := HIX.out k wr hlt
      have hte := HT.out k hlt
      have hub := HU.out
      rw [← hxp] at hte
      generalize lp.getD k zLp = x at hxr hxp hix hte
      obtain ⟨Ac, cc, hvc, -⟩ := hxr.1
      obtain ⟨As, cs, hvs, -⟩ := hxr.2
      rw [List.length_map] at hvc hvs
      rw [hvc, hvs] at hix
      obtain ⟨m, hm⟩ : ∃ m, m = usedJ (J.take k) := ⟨_, rfl⟩
      obtain ⟨nc, hnc⟩ : ∃ n, n = x.p.c.da.length := ⟨_, rfl⟩
      obtain ⟨ns, hns⟩ : ∃ n, n = x.p.s.da.length := ⟨_, rfl⟩
      rw [← hnc, ← hns] at hix
      unfold wtP at hte
      rw [← hnc, ← hns, ← hm] at hte
      have hw1 : wrap64 ((nc : Int) + (ns : Int)) = (nc : Int) + (ns : Int) := IntWalk.wrap64_in _ (by omega)
      have hw2 : wrap64 ((m : Int) + ((nc : Int) + (ns : Int))) = (m : Int) + ((nc : Int) + (ns : Int)) := IntWalk.wrap64_in _ (by omega)
      have HTE : Hid (usedJ (J.take (k + 1)) = m + (nc + ns)) := Lib.hid hte.1
      rw [← hm]
      clear hte hub hxr hxp hvc hvs hnc hns hm
      go_upto_region 6 with (fail)
      go_step
      refine wpList_indexV (by rfl) _ _ _ (by rfl) _ hix ?_
      clear hix
      go_wp2
      go_roundw
      case rel => exact ⟨k + 1, by go_num, by omega, by rw [HTE.out, hw2]; go_num, hx.trans ((Below.refl _ _).alloc (Nat.le_refl _) _)⟩
      case measure => simp [intOf]; omega
    · obtain rfl : k = 24 := by omega
      rw [List.take_of_length_le (i := 24) (by rw [HJL.out]; omega)]
      have e1 : decide ((24 : Int) < 24) = false := by decide
      go_wp2
      go_ret
      exact ⟨rfl, hx⟩

end Go.Proofs.Ytddhbokknbmdfaa

/- Package store: a checkpoint's data. -/
namespace Go.Proofs.Ytddhbokknbmdfaa
open Go.RowKit

theorem is_c (c : CkP) (e : Int) (b : Bool) (hb : isC c e = b) (v : Value) (w : World) :
    Calls Try.prog 65 #[.agg #[.int .i64 c.ep, v], .int .i64 e] w fun x w' => x = .returned (.bool b) ∧ Ext w w' := by
  subst hb
  exact is_any c.ep e v w
theorem RdF.made {N : Fp} {w w' : World} {v : Value} {l : List UInt8} (hN : N.isIn w) (h : Grew w.heap.size 5 (.slice none 0 0) w (l.map B) v w') : RdF (fun k => ¬ N k) w' v (l.map B) :=
  (RowF.made h).rdF.mono (fun k hk hN' => by have := hN k hN'; omega)
/-- The four cells, whatever is added. -/
theorem PairAt.cells {N : Fp} {w : World} {b o : Nat} {p : PrP} (h : PairAt N w b o p) : ∃ vc vs, (∀ W, Ext w W → (W.cell? ⟨b, o, none⟩ = some (.int .i64 p.c.ep) ∧ W.cell? ⟨b, o + 1, none⟩ = some vc ∧ W.cell? ⟨b, o + 2, none⟩ = some (.int .i64 p.s.ep) ∧ W.cell? ⟨b, o + 3, none⟩ = some vs ∧ W.cell? ⟨b, o + 2 + 1, none⟩ = some vs) ∧ LpP.rd N W ⟨p, vc, vs⟩) := by
  obtain ⟨vc, vs, ⟨c0, c1, c2, c3⟩, hr⟩ := h.out
  exact ⟨vc, vs, fun W hx => ⟨⟨(hx.cell (p := ⟨b, o, none⟩) h.lt).trans c0, (hx.cell (p := ⟨b, o + 1, none⟩) h.lt).trans c1, (hx.cell (p := ⟨b, o + 2, none⟩) h.lt).trans c2, (hx.cell (p := ⟨b, o + 3, none⟩) h.lt).trans c3, (hx.cell (p := ⟨b, o + 3, none⟩) h.lt).trans c3⟩, hr.chg (G := fun _ => False) (Chg.of_ext hx) (fun _ h => h.elim)⟩⟩

set_option maxRecDepth 100000 in
theorem Get_any (N : Fp) (g : Nat) (S : StoP) (job epoch : Int) (w : World) (h : SoAt N w g S) (hS : OkS S) :
    Calls Try.prog 17 #[.pointer (some ⟨g, 0, none⟩), .int .i64 job, .int .i64 epoch] w fun e w' =>
      ∃ v, e = .returned (.tuple #[v, .bool (getS S job epoch).2]) ∧ RdF (fun k => ¬ N k) w' v ((getS S job epoch).1.map B) ∧ Ext w w' := by
  have HO := Lib.hid (of_any N g S job w h hS)
  have HIN := Lib.hid h.isIn
  have ho := hS.of job
  have HCL := Lib.hid ho.cl
  have HSL := Lib.hid ho.sl
  clear h hS ho
  go_enter Try.func17, Try.ntmps17
  go_wp2_with fail
  refine HO.out.mono ?_
  rintro e1 w1 ⟨b, o, rfl, hp, hx, -⟩
  obtain ⟨vc, vs, hcc⟩ := hp.cells
  have HC := Lib.hid hcc
  have HX := Lib.hid hx
  obtain ⟨⟨c0, c1, c2, c3, c3'⟩, -⟩ := hcc w1 (Ext.refl _)
  obtain ⟨p, hpp⟩ : ∃ p, p = ofJ S job := ⟨_, rfl⟩
  have HG : Hid (getS S job epoch = if isC p.c epoch = true then (p.c.da, true) else if isC p.s epoch = true then (p.s.da, true) else ([], false)) := Lib.hid (by rw [hpp]; rfl)
  rw [← hpp] at HC HCL HSL c0 c2
  clear hp hx hcc HO hpp
  cases h1 : isC p.c epoch with
  | true =>
    rw [h1, if_pos rfl] at HG
    have HI := Lib.hid (is_c p.c epoch true h1)
    clear h1
    go_wp2_with fail
    refine (HI.out _ _).mono ?_
    rintro e2 w2 ⟨rfl, hx2⟩
    obtain ⟨⟨c0, c1, c2, c3, c3'⟩, hr⟩ := HC.out w2 hx2
    have HCN := Lib.hid (Clone_any p.c.da vc w2 hr.1.rd (by have := HCL.out; omega))
    have HX2 := Lib.hid (HX.out.trans hx2)
    clear hr hx2 HI
    go_wp2_with fail
    refine HCN.out.mono ?_
    rintro e3 w3 ⟨v3, rfl, hg3⟩
    have HX3 := Lib.hid (HX2.out.trans hg3.ext)
    have HR3 := Lib.hid (RdF.made (HIN.out.ext HX2.out) hg3)
    clear hg3 HCN
    go_wp2
    go_ret2
    exact ⟨_, by rw [HG.out]; rfl, by rw [HG.out]; exact HR3.out, HX3.out⟩
  | false =>
    rw [h1, if_neg (by decide)] at HG
    have HI := Lib.hid (is_c p.c epoch false h1)
    clear h1
    go_wp2_with fail
    refine (HI.out _ _).mono ?_
    rintro e2 w2 ⟨rfl, hx2⟩
    obtain ⟨⟨c0, c1, c2, c3, c3'⟩, -⟩ := HC.out w2 hx2
    have HX2 := Lib.hid hx2
    clear hx2 HI
    cases h1 : isC p.s epoch with
    | true =>
      rw [h1, if_pos rfl] at HG
      have HI := Lib.hid (is_c p.s epoch true h1)
      clear h1
      go_wp2_with fail
      refine (HI.out _ _).mono ?_
      rintro e3 w3 ⟨rfl, hx3⟩
      obtain ⟨⟨c0, c1, c2, c3, c3'⟩, hr⟩ := HC.out w3 (HX2.out.trans hx3)
      have HCN := Lib.hid (Clone_any p.s.da vs w3 hr.2.rd (by have := HSL.out; omega))
      have HX3 := Lib.hid (HX.out.trans (HX2.out.trans hx3))
      clear hr hx3 HI
      go_wp2_with fail
      refine HCN.out.mono ?_
      rintro e4 w4 ⟨v4, rfl, hg4⟩
      have HX4 := Lib.hid (HX3.out.trans hg4.ext)
      have HR4 := Lib.hid (RdF.made (HIN.out.ext HX3.out) hg4)
      clear hg4 HCN
      go_wp2
      go_ret2
      exact ⟨_, by rw [HG.out]; rfl, by rw [HG.out]; exact HR4.out, HX4.out⟩
    | false =>
      rw [h1, if_neg (by decide)] at HG
      have HI := Lib.hid (is_c p.s epoch false h1)
      clear h1
      go_wp2_with fail
      refine (HI.out _ _).mono ?_
      rintro e3 w3 ⟨rfl, hx3⟩
      have HX3 := Lib.hid (HX.out.trans (HX2.out.trans hx3))
      clear hx3 HI
      go_wp2
      go_ret2
      exact ⟨_, by rw [HG.out]; rfl, by rw [HG.out]; exact RdF.nilF _ _, HX3.out⟩

end Go.Proofs.Ytddhbokknbmdfaa

/- Package store: a new store, Commit and End. -/
namespace Go.Proofs.Ytddhbokknbmdfaa
open Go.RowKit

theorem Chg.set1 {w w' : World} {b : Nat} (h : Chg (fun k => k = b) w w') (o : Nat) (v : Value) : Chg (fun k => k = b) w (w'.setCell ⟨b, o, none⟩ v) := h.setCell (fun _ => rfl)
/-- A pair's four cells are written. -/
theorem SoAt.put4 {N : Fp} {w w' : World} {g : Nat} {S : StoP} (h : SoAt N w g S) (hS : OkS S) {job : Int} (hj : isJ job = true) (x : LpP) (hx : x.rd N w)
    (hw : w' = (((w.setCell ⟨g, 2 + 4 * (job - 1).toNat, none⟩ (.int .i64 x.p.c.ep)).setCell ⟨g, 2 + 4 * (job - 1).toNat + 1, none⟩ x.vc).setCell ⟨g, 2 + 4 * (job - 1).toNat + 2, none⟩ (.int .i64 x.p.s.ep)).setCell ⟨g, 2 + 4 * (job - 1).toNat + 3, none⟩ x.vs) :
    SoAt N w' g (setJ S job x.p) ∧ Chg (fun k => k = g) w w' := by
  obtain ⟨lp, h1, hb, hr⟩ := h.out
  have hk : (job - 1).toNat < lp.length := by have := hS.idx hj; rw [← h1, List.length_map] at this; exact this
  have hc : Chg (fun k => k = g) w w' := by rw [hw]; exact ((((Chg.refl _ _).set1 _ _).set1 _ _).set1 _ _).set1 _ _
  have hN : ∀ k, k = g → N k := fun k hk => by rw [hk]; exact h.here
  refine ⟨⟨⟨lp.set (job - 1).toNat x, ?_, ?_, fun y hy => ?_⟩, h.isIn.chg hc, h.here⟩, hc⟩
  · unfold setJ; rw [if_pos hj, List.map_set, h1]
  · have h2 := (((hb.set_ (2 + 4 * (job - 1).toNat) (.int .i64 x.p.c.ep)).set_ (2 + 4 * (job - 1).toNat + 1) x.vc).set_ (2 + 4 * (job - 1).toNat + 2) (.int .i64 x.p.s.ep)).set_ (2 + 4 * (job - 1).toNat + 3) x.vs
    simp only [List.setIfInBounds_toArray] at h2
    rw [soC_set4 _ _ _ _ _ _ hk] at h2
    rw [hw, (setJ_room S job x.p).1, (setJ_room S job x.p).2.1, (setJ_room S job x.p).2.2]
    exact h2
  · rcases List.mem_or_eq_of_mem_set hy with hy | rfl
    · exact (hr y hy).chg hc hN
    · exact hx.chg hc hN
/-- The two cells of what is staged are written. -/
theorem SoAt.put2 {N : Fp} {w w' : World} {g : Nat} {S : StoP} (h : SoAt N w g S) (hS : OkS S) {job : Int} (hj : isJ job = true) (e : Int) (d : List UInt8) (v : Value) (hv : RdF (fun k => ¬ N k) w v (d.map B))
    (hw : w' = (w.setCell ⟨g, 2 + 4 * (job - 1).toNat + 2, none⟩ (.int .i64 e)).setCell ⟨g, 2 + 4 * (job - 1).toNat + 3, none⟩ v) :
    SoAt N w' g (setJ S job ⟨(ofJ S job).c, ⟨e, d⟩⟩) ∧ Chg (fun k => k = g) w w' := by
  obtain ⟨lp, h1, hb, hr⟩ := h.out
  have hk : (job - 1).toNat < lp.length := by have := hS.idx hj; rw [← h1, List.length_map] at this; exact this
  have hc : Chg (fun k => k = g) w w' := by rw [hw]; exact ((Chg.refl _ _).set1 _ _).set1 _ _
  have hN : ∀ k, k = g → N k := fun k hk => by rw [hk]; exact h.here
  have hp : (lp.getD (job - 1).toNat zLp).p = ofJ S job := by
    unfold ofJ
    rw [if_pos hj, ← h1, getD_map]
  have hm : lp.getD (job - 1).toNat zLp ∈ lp := by rw [List.getD_eq_getElem?_getD, List.getElem?_eq_getElem hk]; exact List.getElem_mem hk
  refine ⟨⟨⟨lp.set (job - 1).toNat ⟨⟨(lp.getD (job - 1).toNat zLp).p.c, ⟨e, d⟩⟩, (lp.getD (job - 1).toNat zLp).vc, v⟩, ?_, ?_, fun y hy => ?_⟩, h.isIn.chg hc, h.here⟩, hc⟩
  · unfold setJ; rw [if_pos hj, List.map_set, h1, hp]
  · have h2 := (hb.set_ (2 + 4 * (job - 1).toNat + 2) (.int .i64 e)).set_ (2 + 4 * (job - 1).toNat + 3) v
    simp only [List.setIfInBounds_toArray] at h2
    rw [soC_set2 _ _ _ _ _ _ d _ hk] at h2
    rw [hw, (setJ_room S job _).1, (setJ_room S job _).2.1, (setJ_room S job _).2.2]
    exact h2
  · rcases List.mem_or_eq_of_mem_set hy with hy | rfl
    · exact (hr y hy).chg hc hN
    · exact ⟨(hr _ hm).1.chg hc (fun k hk hG => hk (hN k hG)), hv.chg hc (fun k hk hG => hk (hN k hG))⟩

set_option maxRecDepth 100000 in
theorem End_any (N : Fp) (g : Nat) (S : StoP) (job : Int) (w : World) (h : SoAt N w g S) (hS : OkS S) :
    Calls Try.prog 16 #[.pointer (some ⟨g, 0, none⟩), .int .i64 job] w fun e w' => e = .returned (.tuple #[]) ∧ SoAt N w' g (endS S job) ∧ Chg (fun k => k = g) w w' := by
  have HO := Lib.hid (of_any N g S job w h hS)
  have HS := Lib.hid h
  have HK := Lib.hid hS
  clear h hS
  go_enter Try.func16, Try.ntmps16
  go_wp2_with fail
  refine HO.out.mono ?_
  rintro e1 w1 ⟨b, o, rfl, hp, hx, hcase⟩
  obtain ⟨vc, vs, hcc⟩ := hp.cells
  obtain ⟨⟨c0, c1, c2, c3, c3'⟩, -⟩ := hcc w1 (Ext.refl _)
  have f0 := hp.fr o
  have f1 := hp.fr (o + 1)
  have f2 := hp.fr (o + 2)
  have f3 := hp.fr (o + 3)
  have HX := Lib.hid hx
  have HCA := Lib.hid hcase
  clear hp hcc hx hcase HO
  go_wp2
  go_end0
  refine ⟨rfl, ?_⟩
  rcases HCA.out with ⟨hj, rfl, rfl⟩ | ⟨hj, hb, rfl, hk⟩
  · have h1 := (HS.out.ext HX.out).put4 HK.out hj zLp (zLp_rd _ _) rfl
    exact ⟨h1.1, (Chg.of_ext HX.out).trans h1.2 (fun _ _ h => h)⟩
  · have hc := ((((Chg.refl (fun k => k = b) w1).set1 0 (.int .i64 0)).set1 (0 + 1) (.slice none 0 0)).set1 (0 + 2) (.int .i64 0)).set1 (0 + 3) (.slice none 0 0)
    have hx2 := hc.ext HX.out (fun k hk => by rw [hk]; exact hb)
    have e : endS S job = S := by unfold endS; rw [setJ_no hj]
    rw [e]
    exact ⟨HS.out.ext hx2, Chg.of_ext hx2⟩

set_option maxRecDepth 100000 in
theorem Commit_any (N : Fp) (g : Nat) (S : StoP) (job epoch : Int) (w : World) (h : SoAt N w g S) (hS : OkS S) :
    Calls Try.prog 19 #[.pointer (some ⟨g, 0, none⟩), .int .i64 job, .int .i64 epoch] w fun e w' =>
      e = .returned (.int .i64 (commitS S job epoch).1) ∧ SoAt N w' g (commitS S job epoch).2 ∧ Chg (fun k => k = g) w w' := by
  have HO := Lib.hid (of_any N g S job w h hS)
  have HS := Lib.hid h
  have HK := Lib.hid hS
  clear h hS
  go_enter Try.func19, Try.ntmps19
  go_wp2_with fail
  refine HO.out.mono ?_
  rintro e1 w1 ⟨b, o, rfl, hp, hx, hcase⟩
  obtain ⟨vc, vs, hcc⟩ := hp.cells
  have HC := Lib.hid hcc
  have HX := Lib.hid hx
  have HCA := Lib.hid hcase
  have HFR := Lib.hid (fun W (hw : Ext w1 W) (i : Nat) => (hp.ext hw).fr i)
  obtain ⟨⟨c0, c1, c2, c3, c3'⟩, -⟩ := hcc w1 (Ext.refl _)
  obtain ⟨p, hpp⟩ : ∃ p, p = ofJ S job := ⟨_, rfl⟩
  have HG : Hid (commitS S job epoch = if isC p.c epoch = true then (0, S) else if isC p.s epoch = true then (0, setJ S job ⟨p.s, zCk⟩) else (4, S)) := Lib.hid (by rw [hpp]; rfl)
  have HPP := Lib.hid hpp
  rw [← hpp] at HC c0 c2
  clear hp hx hcc hcase HO hpp
  cases h1 : isC p.c epoch with
  | true =>
    rw [h1, if_pos rfl] at HG
    have HI := Lib.hid (is_c p.c epoch true h1)
    clear h1
    go_wp2_with fail
    refine (HI.out _ _).mono ?_
    rintro e2 w2 ⟨rfl, hx2⟩
    have HX2 := Lib.hid (HX.out.trans hx2)
    clear hx2 HI
    go_wp2
    go_ret
    exact ⟨by rw [HG.out]; rfl, by rw [HG.out]; exact HS.out.ext HX2.out, Chg.of_ext HX2.out⟩
  | false =>
    rw [h1, if_neg (by decide)] at HG
    have HI := Lib.hid (is_c p.c epoch false h1)
    clear h1
    go_wp2_with fail
    refine (HI.out _ _).mono ?_
    rintro e2 w2 ⟨rfl, hx2⟩
    obtain ⟨⟨c0, c1, c2, c3, c3'⟩, -⟩ := HC.out w2 hx2
    have HX2 := Lib.hid hx2
    clear hx2 HI
    cases h1 : isC p.s epoch with
    | true =>
      rw [h1, if_pos rfl] at HG
      have HI := Lib.hid (is_c p.s epoch true h1)
      have HJ : Hid (isJ job = true) := Lib.hid (by
        cases hj : isJ job with
        | true => rfl
        | false => rw [HPP.out, ofJ_no hj] at h1; have := (isC_iff.1 h1).1; exact absurd this (by decide))
      clear h1
      go_wp2_with fail
      refine (HI.out _ _).mono ?_
      rintro e3 w3 ⟨rfl, hx3⟩
      obtain ⟨⟨c0, c1, c2, c3, c3'⟩, hr⟩ := HC.out w3 (HX2.out.trans hx3)
      have hf := HFR.out w3 (HX2.out.trans hx3)
      have f0 := hf o
      have f1 := hf (o + 1)
      have f2 := hf (o + 2)
      have f3 := hf (o + 3)
      have HX3 := Lib.hid (HX.out.trans (HX2.out.trans hx3))
      have HR := Lib.hid hr.2
      obtain ⟨As, cs, hvs, -⟩ := hr.2
      clear hr hx3 HI hf
      rw [List.length_map] at hvs
      have hvs : vs = .slice As p.s.da.length cs := hvs
      subst hvs
      go_wp2
      go_ret
      rw [HG.out]
      refine ⟨rfl, ?_⟩
      rcases HCA.out with ⟨hj, rfl, rfl⟩ | ⟨hj, -⟩
      · have h1 := (HS.out.ext HX3.out).put4 HK.out hj ⟨⟨p.s, zCk⟩, _, .slice none 0 0⟩ ⟨HR.out, RdF.nilF _ _⟩ rfl
        exact ⟨h1.1, (Chg.of_ext HX3.out).trans h1.2 (fun _ _ h => h)⟩
      · rw [HJ.out] at hj; cases hj
    | false =>
      rw [h1, if_neg (by decide)] at HG
      have HI := Lib.hid (is_c p.s epoch false h1)
      clear h1
      go_wp2_with fail
      refine (HI.out _ _).mono ?_
      rintro e3 w3 ⟨rfl, hx3⟩
      have HX3 := Lib.hid (HX.out.trans (HX2.out.trans hx3))
      clear hx3 HI
      go_wp2
      go_ret
      exact ⟨by rw [HG.out]; rfl, by rw [HG.out]; exact HS.out.ext HX3.out, Chg.of_ext HX3.out⟩

end Go.Proofs.Ytddhbokknbmdfaa

/- Package store: a new store, and Stage. -/
namespace Go.Proofs.Ytddhbokknbmdfaa
open Go.RowKit

theorem SoAt.count {N : Fp} {w : World} {g : Nat} {S : StoP} (h : SoAt N w g S) (hS : OkS S) (n : Int) : SoAt N (w.setCell ⟨g, 98, none⟩ (.int .i64 n)) g { S with writes := n } := by
  obtain ⟨lp, h1, hb, hr⟩ := h.out
  have hl : lp.length = 24 := by have := hS.len; rw [← h1, List.length_map] at this; exact this
  have hc := (Chg.refl (fun k => k = g) w).set1 98 (.int .i64 n)
  refine ⟨⟨lp, h1, ?_, fun x hx => (hr x hx).chg hc (fun k hk => by rw [hk]; exact h.here)⟩, h.isIn.chg hc, h.here⟩
  have h2 := hb.set_ 98 (.int .i64 n)
  rw [List.setIfInBounds_toArray, soC_setN _ _ _ _ _ hl] at h2
  exact h2
theorem Add_any (N : Fp) (g : Nat) (S : StoP) (w : World) (h : SoAt N w g S) (hS : OkS S) (h0 : 0 ≤ S.writes) (h1 : S.writes ≤ 1000000) :
    Calls Try.prog 68 #[.pointer (some ⟨g, 98, none⟩), .int .i64 1] w fun e w' => e = .returned (.int .i64 (S.writes + 1)) ∧ w' = w.setCell ⟨g, 98, none⟩ (.int .i64 (S.writes + 1)) := by
  obtain ⟨lp, -, hb, -⟩ := h.out
  have hc := h.c98 hS
  have hz := hb.frozen 98
  have hs : (Op.intArith .add .i64 S.writes 1).run Try.prog w = .ok (.int .i64 (S.writes + 1)) w := by
    simp [Op.intArith, go_sem]
    rw [IntWalk.i64_in _ (by omega)]
  have hcall := run_call_add (P := Try.prog) (f := 97) Try.func97 (by kernel_rfl) (by kernel_rfl) (by kernel_rfl) .i64 (by kernel_rfl) hc hz hs
  clear hb h hS hc hz hs
  go_enter Try.func68, Try.ntmps68
  go_wp2
  go_ret
  exact ⟨rfl, rfl⟩

theorem ext_drew11 {B : Nat} {a w : World} (h : Below B a w) : Below B a w.drew := Below.drewN' h 1

set_option maxRecDepth 100000 in
theorem Stage_any (N : Fp) (g : Nat) (S : StoP) (t job epoch : Int) (d : List UInt8) (A : Option Addr) (c : Nat) (w : World) (h : SoAt N w g S) (hS : OkS S) (hr : Rd w (.slice A d.length c) (d.map B)) (hd : d.length ≤ 1000000)
    (h0 : 0 ≤ S.writes) (h1 : S.writes ≤ 1000000) (hu : usedJ S.jobs ≤ 1000000) :
    Calls Try.prog 18 #[.pointer (some ⟨g, 0, none⟩), .int .i64 t, .int .i64 job, .int .i64 epoch, .slice A d.length c] w fun e w' =>
      e = .returned (.int .i64 (stageS S t job epoch d).1) ∧ SoAt N w' g (stageS S t job epoch d).2 ∧ Chg (fun k => k = g) w w' := by
  have HO := Lib.hid (of_any N g S job w h hS)
  have HS := Lib.hid h
  have HK := Lib.hid hS
  have HR := Lib.hid hr
  have HW := Lib.hid (And.intro h0 h1)
  have HJ := Lib.hid (fun W => isJob_any job W)
  have ho := hS.of job
  have HSL := Lib.hid ho.sl
  have HIN := Lib.hid h.isIn
  obtain ⟨nd, hnd⟩ : ∃ n, n = d.length := ⟨_, rfl⟩
  obtain ⟨R, hR⟩ : ∃ R, R = stageS S t job epoch d := ⟨_, rfl⟩
  have HRR := Lib.hid hR
  rw [← hR, ← hnd]
  unfold stageS at hR
  rw [← hnd] at hR hd
  have HND := Lib.hid hnd
  have HD := Lib.hid hd
  have HU := Lib.hid hu
  clear h hS hr h0 h1 hu ho hnd hd
  go_enter Try.func18, Try.ntmps18
  go_wp2_with fail
  refine HO.out.mono ?_
  rintro e1 w1 ⟨b, o, rfl, hp, hx, hcase⟩
  have HS1 := Lib.hid (HS.out.ext hx)
  have HX := Lib.hid hx
  have HCA := Lib.hid hcase
  have hsx := HS1.out
  obtain ⟨lp, -, hb, -⟩ := hsx.out
  have s1 : w1.cell? ⟨g, 1, none⟩ = some (.int .i64 S.term) := hb.cell 1
  have HP := Lib.hid hp
  clear hp hx hcase HO hsx hb
  -- an elder term
  by_cases c1 : t < S.term
  · have d1 : decide (t < S.term) = true := decide_eq_true c1
    rw [if_pos c1] at hR
    have HRE := Lib.hid hR
    clear c1 hR
    go_wp2
    go_ret
    exact ⟨by rw [HRE.out]; rfl, by rw [HRE.out]; exact HS1.out, Chg.of_ext HX.out⟩
  have d1 : decide (t < S.term) = false := decide_eq_false c1
  rw [if_neg c1] at hR
  have HRE := Lib.hid hR
  clear c1 hR
  -- an argument that isn't right
  have HARG : Hid (¬ (isJ job = true ∧ 1 ≤ epoch ∧ epoch ≤ 1000000 ∧ 1 ≤ nd ∧ nd ≤ 100) → R = (1, S)) := Lib.hid (fun hc => by rw [HRE.out, if_pos hc])
  cases hj : isJ job with
  | false =>
    have HI := Lib.hid (HJ.out w1)
    rw [hj] at HI HARG
    have HE : Hid (R = (1, S)) := Lib.hid (HARG.out (fun hc => by cases hc.1))
    clear hj
    go_wp2_with fail
    refine HI.out.mono ?_
    rintro e2 w2 ⟨rfl, rfl⟩
    go_wp2
    go_ret
    exact ⟨by rw [HE.out]; rfl, by rw [HE.out]; exact HS1.out, Chg.of_ext HX.out⟩
  | true =>
  have HI := Lib.hid (HJ.out w1)
  have HJT := Lib.hid hj
  rw [hj] at HI
  clear hj
  go_wp2_with fail
  refine HI.out.mono ?_
  rintro e2 w2 ⟨rfl, rfl⟩
  clear HI
  by_cases c2 : epoch < 1
  · have d2 : decide (epoch < 1) = true := decide_eq_true c2
    have HE : Hid (R = (1, S)) := Lib.hid (HARG.out (fun hc => by omega))
    clear c2
    go_wp2
    go_ret
    exact ⟨by rw [HE.out]; rfl, by rw [HE.out]; exact HS1.out, Chg.of_ext HX.out⟩
  have d2 : decide (epoch < 1) = false := decide_eq_false c2
  by_cases c3 : 1000000 < epoch
  · have d3 : decide ((1000000 : Int) < epoch) = true := decide_eq_true c3
    have HE : Hid (R = (1, S)) := Lib.hid (HARG.out (fun hc => by omega))
    clear c2 c3
    go_wp2
    go_ret
    exact ⟨by rw [HE.out]; rfl, by rw [HE.out]; exact HS1.out, Chg.of_ext HX.out⟩
  have d3 : decide ((1000000 : Int) < epoch) = false := decide_eq_false c3
  by_cases c4 : nd < 1
  · have d4 : decide ((nd : Int) < 1) = true := decide_eq_true (by omega)
    have HE : Hid (R = (1, S)) := Lib.hid (HARG.out (fun hc => by omega))
    clear c2 c3 c4
    go_wp2
    go_ret
    exact ⟨by rw [HE.out]; rfl, by rw [HE.out]; exact HS1.out, Chg.of_ext HX.out⟩
  have d4 : decide ((nd : Int) < 1) = false := decide_eq_false (by omega)
  by_cases c5 : 100 < nd
  · have d5 : decide ((100 : Int) < (nd : Int)) = true := decide_eq_true (by omega)
    have HE : Hid (R = (1, S)) := Lib.hid (HARG.out (fun hc => by omega))
    clear c2 c3 c4 c5
    go_wp2
    go_ret
    exact ⟨by rw [HE.out]; rfl, by rw [HE.out]; exact HS1.out, Chg.of_ext HX.out⟩
  have d5 : decide ((100 : Int) < (nd : Int)) = false := decide_eq_false (by omega)
  have HRE2 := Lib.hid (HRE.out.trans (if_neg (Classical.not_not.2 ⟨HJT.out, by omega, by omega, by omega, by omega⟩)))
  have HE1 : Hid (1 ≤ epoch ∧ 1 ≤ nd ∧ nd ≤ 100) := Lib.hid ⟨by omega, by omega, by omega⟩
  clear c2 c3 c4 c5 HARG HRE
  -- an elder epoch
  obtain ⟨hbg, hog⟩ : b = g ∧ o = 2 + 4 * (job - 1).toNat := by
    rcases HCA.out with ⟨-, h1, h2⟩ | ⟨h1, -⟩
    · exact ⟨h1, h2⟩
    · rw [HJT.out] at h1; cases h1
  have HOG := Lib.hid hog
  subst hbg
  clear hog HCA
  obtain ⟨vc, vs, hcc⟩ := HP.out.cells
  obtain ⟨⟨k0, k1, k2, k3, k3'⟩, hlr⟩ := hcc w1 (Ext.refl _)
  obtain ⟨p, hpp⟩ : ∃ p, p = ofJ S job := ⟨_, rfl⟩
  have HC := Lib.hid hcc
  have HPP := Lib.hid hpp
  rw [← hpp] at HC HRE2 HSL k0 k2
  obtain ⟨As, cs, hvs, -⟩ := hlr.2
  rw [List.length_map] at hvs
  replace hvs : vs = .slice As (ofJ S job).s.da.length cs := hvs
  rw [← hpp] at hvs
  obtain ⟨ns, hns⟩ : ∃ n, n = p.s.da.length := ⟨_, rfl⟩
  rw [← hns] at hvs HRE2 HSL
  subst hvs
  have HNS := Lib.hid hns
  have HFR := Lib.hid HP.out.fr
  clear hcc hlr hpp HP hns
  by_cases c6 : epoch ≤ p.c.ep
  · have d6 : decide (epoch ≤ p.c.ep) = true := decide_eq_true c6
    have HE : Hid (R = (6, S)) := Lib.hid (HRE2.out.trans (if_pos (.inl c6)))
    clear c6
    go_wp2
    go_ret
    exact ⟨by rw [HE.out]; rfl, by rw [HE.out]; exact HS1.out, Chg.of_ext HX.out⟩
  have d6 : decide (epoch ≤ p.c.ep) = false := decide_eq_false c6
  by_cases c7 : epoch < p.s.ep
  · have d7 : decide (epoch < p.s.ep) = true := decide_eq_true c7
    have HE : Hid (R = (6, S)) := Lib.hid (HRE2.out.trans (if_pos (.inr c7)))
    clear c6 c7
    go_wp2
    go_ret
    exact ⟨by rw [HE.out]; rfl, by rw [HE.out]; exact HS1.out, Chg.of_ext HX.out⟩
  have d7 : decide (epoch < p.s.ep) = false := decide_eq_false c7
  have HRE3 := Lib.hid (HRE2.out.trans (if_neg (fun hc => by rcases hc with hc | hc; exact c6 hc; exact c7 hc)))
  clear c6 c7 HRE2
  -- it is staged already
  cases h1 : isC p.s epoch with
  | true =>
    have HE : Hid (R = (0, S)) := Lib.hid (HRE3.out.trans (if_pos h1))
    have HI := Lib.hid (is_c p.s epoch true h1)
    clear h1
    go_wp2_with fail
    refine (HI.out _ _).mono ?_
    rintro e3 w3 ⟨rfl, hx3⟩
    have HX3 := Lib.hid hx3
    clear hx3 HI
    go_wp2
    go_ret
    exact ⟨by rw [HE.out]; rfl, by rw [HE.out]; exact HS1.out.ext HX3.out, Chg.of_ext (HX.out.trans HX3.out)⟩
  | false =>
  have HRE4 := Lib.hid (HRE3.out.trans (if_neg (by rw [h1]; decide)))
  have HI := Lib.hid (is_c p.s epoch false h1)
  clear h1 HRE3
  go_wp2_with fail
  refine (HI.out _ _).mono ?_
  rintro e3 w3 ⟨rfl, hx3⟩
  obtain ⟨⟨k0, k1, k2, k3, k3'⟩, -⟩ := HC.out w3 hx3
  have HX3 := Lib.hid (HX.out.trans hx3)
  have HS3 := Lib.hid (HS1.out.ext hx3)
  have HXX := Lib.hid hx3
  clear hx3 HI HS1
  obtain ⟨U, hU⟩ : ∃ U, U = usedJ S.jobs := ⟨_, rfl⟩
  have HUL : Hid (U ≤ 1000000) := Lib.hid (by rw [hU]; exact HU.out)
  have K1 : Hid (∀ W, Ext w3 W → Calls Try.prog 21 #[.pointer (some ⟨b, 0, none⟩)] W fun e w' => e = .returned (.int .i64 (U : Int)) ∧ Ext w3 w') := Lib.hid fun W hW => by
    have h9 := HU.out
    refine (Used_any N b S W (HS3.out.ext hW) HK.out (by omega)).mono ?_
    rintro e w' ⟨rfl, hh⟩
    exact ⟨by rw [hU], hW.trans hh⟩
  have HCS : Hid (∀ W, Ext w3 W → W.cell? ⟨b, o + 3, none⟩ = some (.slice As ns cs) ∧ W.cell? ⟨b, 0, none⟩ = some (.int .i64 S.room)) := Lib.hid fun W hW => by
    have h5 := HC.out W (HXX.out.trans hW)
    have h6 := HS3.out.ext hW
    obtain ⟨lp, -, hb, -⟩ := h6.out
    exact ⟨h5.1.2.2.2.1, hb.cell 0⟩
  rw [← hU] at HRE4
  clear hU
  have hw1 : IntKind.i64.wrap ((U : Int) - (ns : Int)) = (U : Int) - (ns : Int) := IntWalk.i64_in _ (by have := HUL.out; have := HSL.out; omega)
  obtain ⟨M, hM⟩ : ∃ M, M = (U : Int) - (ns : Int) + (nd : Int) := ⟨_, rfl⟩
  have HM := Lib.hid hM
  have hw2 : IntKind.i64.wrap ((U : Int) - (ns : Int) + (nd : Int)) = M := by rw [hM]; exact IntWalk.i64_in _ (by have := HUL.out; have := HSL.out; have := HD.out; omega)
  rw [← hM] at HRE4
  clear hM k0 k1 k2 k3 k3' s1
  have hge : Ext w3 w3 := Ext.refl w3
  go_wp2_with fail
  go_region_held3 (fun W => W.cell? ⟨b, o + 3, none⟩ = some (.slice As ns cs) ∧ W.cell? ⟨b, 0, none⟩ = some (.int .i64 S.room)) (first | exact HCS.out _ y1 | exact HCS.out _ (Ext.refl _) | exact HCS.out _ (ext_drew11 (Ext.refl _)) | go_keep) (first | (go_at_call 21; (first | (with_reducible refine (K1.out _ (Ext.refl w3)).mono ?_) | (with_reducible refine (K1.out _ (ext_drew11 (Ext.refl w3))).mono ?_)); rintro e4 w4 ⟨rfl, y1⟩))
  have HX4 := Lib.hid (HX3.out.trans y1)
  have HX14 := Lib.hid (HXX.out.trans y1)
  have HS4 := Lib.hid (HS3.out.ext y1)
  clear y1 HCS K1 HS3 HX3 HXX hw1 hw2 hge
  by_cases c8 : S.room < M
  · have d8 : decide (S.room < M) = true := decide_eq_true c8
    have HE : Hid (R = (3, S)) := Lib.hid (HRE4.out.trans (if_pos c8))
    clear c8
    rw [d8]
    go_wp2
    go_ret
    exact ⟨by rw [HE.out]; rfl, by rw [HE.out]; exact HS4.out, Chg.of_ext HX4.out⟩
  have d8 : decide (S.room < M) = false := decide_eq_false c8
  have HE : Hid (R = (0, { setJ S job ⟨p.c, ⟨epoch, d⟩⟩ with writes := S.writes + 1 })) := Lib.hid (by rw [HRE4.out, if_neg c8])
  have HCN : Hid (Calls Try.prog 66 #[.slice A nd c] w4 fun e w' => ∃ v', e = .returned v' ∧ Grew w4.heap.size 5 (.slice none 0 0) w4 (d.map B) v' w') := Lib.hid (by
    have h1 := HR.out.ext HX4.out
    rw [← HND.out] at h1
    exact Clone_any d _ w4 h1 (by have := HD.out; rw [HND.out] at this; omega))
  clear c8 HRE4
  rw [d8]
  go_wp2_with fail
  refine HCN.out.mono ?_
  rintro e5 w5 ⟨v5, rfl, hg5⟩
  have hv5 := RdF.made (HIN.out.ext HX4.out) hg5
  obtain ⟨A5, c5, hv⟩ := own_slice hg5.1
  rw [List.length_map] at hv
  subst hv
  have hx5 := hg5.ext
  have hs5 := HS4.out.ext hx5
  obtain ⟨h6, hc6⟩ := hs5.put2 HK.out HJT.out epoch d _ hv5 rfl
  rw [← HOG.out, ← HPP.out] at h6
  rw [← HOG.out] at hc6
  obtain ⟨lp5, -, hb5, -⟩ := hs5.out
  have f2 := hb5.frozen (o + 2)
  have f3 := hb5.frozen (o + 3)
  have f3' := hb5.frozen (o + 2 + 1)
  obtain ⟨⟨k0, k1, k2, k3, k3'⟩, -⟩ := HC.out w5 (HX14.out.trans hx5)
  have H6 := Lib.hid h6
  have HC6 := Lib.hid hc6
  have HX5 := Lib.hid (HX4.out.trans hx5)
  clear h6 hc6 hx5 hs5 hb5 hv5 hg5 HCN
  have HOK : Hid (OkS (setJ S job ⟨p.c, ⟨epoch, d⟩⟩)) := Lib.hid (by
    have h9 := HK.out.stage t job epoch d
    rw [← HRR.out, HE.out] at h9
    exact ⟨h9.len, h9.each, h9.room, h9.term⟩)
  have HWR : Hid ((setJ S job ⟨p.c, ⟨epoch, d⟩⟩).writes = S.writes) := Lib.hid (setJ_room _ _ _).2.2
  go_wp2_with fail
  refine (Add_any N b (setJ S job ⟨p.c, ⟨epoch, d⟩⟩) _ H6.out HOK.out (by rw [HWR.out]; exact HW.out.1) (by rw [HWR.out]; exact HW.out.2)).mono ?_
  rintro e6 w6 ⟨rfl, rfl⟩
  have h7 := H6.out.count HOK.out (S.writes + 1)
  have HC7 := Lib.hid ((Chg.of_ext HX5.out).trans (HC6.out.set1 98 (.int .i64 (S.writes + 1))) (fun _ _ h => h))
  have H7 := Lib.hid h7
  clear h7
  rw [HWR.out]
  go_wp2
  go_ret
  refine ⟨by rw [HE.out]; rfl, by rw [HE.out]; exact H7.out, HC7.out⟩

end Go.Proofs.Ytddhbokknbmdfaa
