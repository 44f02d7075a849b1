/- Texts that the proof of T rests on, one behind the other. -/
import Derived.Test.YtddhbokknbmdfabTQ8
import Derived.Test.YtddhbokknbmdfabRows

/- Layer 13's statements: the document's example. -/
namespace Go.Proofs.Ytddhbokknbmdfab
open Go.RowKit

def exM1 : Ms := ⟨0, 2, 0, 0, 1, 1, 1, 0, 9, 0, 0⟩
def exM2 : Ms := ⟨0, 3, 0, 0, 1, 1, 0, 0, 9, 0, 0⟩
def exA1 : Ag := ⟨true, 0, 0, 1, 1, 1, 1, 9, 0, 0⟩
def exA2 : Ag := ⟨true, 0, 0, 2, 1, 1, 1, 9, 0, 0⟩
theorem ex_t1 (w : World) : Calls Try.prog 10 #[.agg #[.bool true, .int .i64 0, .int .i64 0, .int .i64 0, .int .i64 0, .int .i64 0, .int .i64 1, .int .i64 0, .int .i64 0, .int .i64 0], .int .i64 2, .agg #[.int .i64 0, .int .i64 2, .int .i64 0, .int .i64 0, .int .i64 1, .int .i64 1, .int .i64 1, .int .i64 0, .int .i64 9, .int .i64 0, .int .i64 0], .int .i64 3, .pointer none] w fun e w' =>
    e = .returned (.tuple #[.agg #[.bool true, .int .i64 0, .int .i64 0, .int .i64 1, .int .i64 1, .int .i64 1, .int .i64 1, .int .i64 9, .int .i64 0, .int .i64 0], .agg #[.int .i64 2, .int .i64 6, .int .i64 0, .int .i64 0, .int .i64 1, .int .i64 1, .int .i64 1, .int .i64 0, .int .i64 0, .int .i64 1, .int .i64 0], .bool true]) ∧ Ext w w' :=
  (Take_nil newA exM1 2 3 w (by decide) (by decide) (by decide)).mono (by
    rintro e w' ⟨rfl, hx⟩
    exact ⟨by rw [show takeA newA exM1 3 (nilS newA exM1 3) = exA1 from rfl, show goesA newA exM1 = true from rfl]; rfl, hx⟩)
theorem ex_t2 (w : World) : Calls Try.prog 10 #[.agg #[.bool true, .int .i64 0, .int .i64 0, .int .i64 1, .int .i64 1, .int .i64 1, .int .i64 1, .int .i64 9, .int .i64 0, .int .i64 0], .int .i64 2, .agg #[.int .i64 0, .int .i64 3, .int .i64 0, .int .i64 0, .int .i64 1, .int .i64 1, .int .i64 0, .int .i64 0, .int .i64 9, .int .i64 0, .int .i64 0], .int .i64 3, .pointer none] w fun e w' =>
    e = .returned (.tuple #[.agg #[.bool true, .int .i64 0, .int .i64 0, .int .i64 2, .int .i64 1, .int .i64 1, .int .i64 1, .int .i64 9, .int .i64 0, .int .i64 0], .agg #[.int .i64 2, .int .i64 6, .int .i64 0, .int .i64 0, .int .i64 1, .int .i64 1, .int .i64 1, .int .i64 0, .int .i64 0, .int .i64 2, .int .i64 0], .bool true]) ∧ Ext w w' :=
  (Take_nil exA1 exM2 2 3 w (by decide) (by decide) (by decide)).mono (by
    rintro e w' ⟨rfl, hx⟩
    exact ⟨by rw [show takeA exA1 exM2 3 (nilS exA1 exM2 3) = exA2 from rfl, show goesA exA1 exM2 = true from rfl]; rfl, hx⟩)

theorem ex_a9 (w : World) : Calls Try.prog 9 #[.agg #[.bool true, .int .i64 0, .int .i64 0, .int .i64 2, .int .i64 1, .int .i64 1, .int .i64 1, .int .i64 9, .int .i64 0, .int .i64 0], .int .i64 9] w fun e w' => e = .returned (.agg #[.bool true, .int .i64 0, .int .i64 0, .int .i64 0, .int .i64 0, .int .i64 0, .int .i64 1, .int .i64 0, .int .i64 0, .int .i64 0]) ∧ Ext w w' := (Act_any exA2 9 w (by decide)).mono (by rintro e w' ⟨rfl, hx⟩; exact ⟨rfl, hx⟩)
theorem ex_a8 (w : World) : Calls Try.prog 9 #[.agg #[.bool true, .int .i64 0, .int .i64 0, .int .i64 2, .int .i64 1, .int .i64 1, .int .i64 1, .int .i64 9, .int .i64 0, .int .i64 0], .int .i64 8] w fun e w' => e = .returned (.agg #[.bool true, .int .i64 0, .int .i64 0, .int .i64 2, .int .i64 1, .int .i64 1, .int .i64 1, .int .i64 9, .int .i64 1, .int .i64 0]) ∧ Ext w w' := (Act_any exA2 8 w (by decide)).mono (by rintro e w' ⟨rfl, hx⟩; exact ⟨rfl, hx⟩)
theorem ex_fn (w : World) : Calls Try.prog 8 #[.agg #[.bool true, .int .i64 0, .int .i64 0, .int .i64 2, .int .i64 1, .int .i64 1, .int .i64 1, .int .i64 9, .int .i64 0, .int .i64 0], .int .i64 9] w fun e w' => e = .returned (.bool true) ∧ Ext w w' := (Fenced_any exA2 9 w).mono (by rintro e w' ⟨rfl, hx⟩; exact ⟨rfl, hx⟩)
theorem ex_fa (w : World) : Calls Try.prog 13 #[.agg #[.bool true, .int .i64 0, .int .i64 0, .int .i64 2, .int .i64 1, .int .i64 1, .int .i64 1, .int .i64 9, .int .i64 0, .int .i64 0]] w fun e w' => e = .returned (.agg #[.bool false, .int .i64 0, .int .i64 0, .int .i64 0, .int .i64 0, .int .i64 0, .int .i64 1, .int .i64 0, .int .i64 0, .int .i64 0]) ∧ Ext w w' := (Fail_any exA2 w).mono (by rintro e w' ⟨rfl, hx⟩; exact ⟨rfl, hx⟩)
theorem ex_ba (w : World) : Calls Try.prog 14 #[.agg #[.bool false, .int .i64 0, .int .i64 0, .int .i64 0, .int .i64 0, .int .i64 0, .int .i64 1, .int .i64 0, .int .i64 0, .int .i64 0]] w fun e w' => e = .returned (.agg #[.bool true, .int .i64 0, .int .i64 0, .int .i64 0, .int .i64 0, .int .i64 0, .int .i64 1, .int .i64 0, .int .i64 0, .int .i64 0]) ∧ Ext w w' := (Back_any (failA exA2) w).mono (by rintro e w' ⟨rfl, hx⟩; exact ⟨rfl, hx⟩)
theorem ex_te (w : World) : Calls Try.prog 11 #[.agg #[.bool true, .int .i64 0, .int .i64 0, .int .i64 1, .int .i64 1, .int .i64 1, .int .i64 1, .int .i64 9, .int .i64 0, .int .i64 0], .int .i64 1] w fun e w' => e = .returned (.agg #[.int .i64 1, .int .i64 6, .int .i64 0, .int .i64 0, .int .i64 1, .int .i64 1, .int .i64 1, .int .i64 0, .int .i64 0, .int .i64 1, .int .i64 0]) ∧ Ext w w' := (Tell_any exA1 1 w).mono (by rintro e w' ⟨rfl, hx⟩; exact ⟨rfl, hx⟩)
theorem ex_nw (w : World) : Calls Try.prog 12 #[] w fun e w' => e = .returned (.agg #[.bool true, .int .i64 0, .int .i64 0, .int .i64 0, .int .i64 0, .int .i64 0, .int .i64 1, .int .i64 0, .int .i64 0, .int .i64 0]) ∧ Ext w w' := (NewA_any w).mono (by rintro e w' ⟨rfl, hx⟩; exact ⟨rfl, hx⟩)
set_option maxRecDepth 100000 in
set_option maxHeartbeats 4000000 in
theorem alive13_any (w : World) : Calls Try.prog 5 #[] w fun e w' => e = .returned (.bool true) ∧ Ext w w' := by
  have hf0 : ∀ W, (Instr.field 23 (.agg #[.bool true, .int .i64 0, .int .i64 0, .int .i64 0, .int .i64 0, .int .i64 0, .int .i64 1, .int .i64 0, .int .i64 0, .int .i64 0]) 3).run Try.prog W = .ok (.int .i64 0) W := fun _ => by kernel_rfl
  have hf1 : ∀ W, (Instr.field 23 (.agg #[.bool true, .int .i64 0, .int .i64 0, .int .i64 2, .int .i64 1, .int .i64 1, .int .i64 1, .int .i64 9, .int .i64 1, .int .i64 0]) 8).run Try.prog W = .ok (.int .i64 1) W := fun _ => by kernel_rfl
  have hf2 : ∀ W, (Instr.field 23 (.agg #[.bool false, .int .i64 0, .int .i64 0, .int .i64 0, .int .i64 0, .int .i64 0, .int .i64 1, .int .i64 0, .int .i64 0, .int .i64 0]) 0).run Try.prog W = .ok (.bool false) W := fun _ => by kernel_rfl
  have hf3 : ∀ W, (Instr.field 23 (.agg #[.bool true, .int .i64 0, .int .i64 0, .int .i64 0, .int .i64 0, .int .i64 0, .int .i64 1, .int .i64 0, .int .i64 0, .int .i64 0]) 0).run Try.prog W = .ok (.bool true) W := fun _ => by kernel_rfl
  have hf4 : ∀ W, (Instr.field 25 (.agg #[.int .i64 1, .int .i64 6, .int .i64 0, .int .i64 0, .int .i64 1, .int .i64 1, .int .i64 1, .int .i64 0, .int .i64 0, .int .i64 1, .int .i64 0]) 4).run Try.prog W = .ok (.int .i64 1) W := fun _ => by kernel_rfl
  go_enter Try.func5, Try.ntmps5
  go_wp2_with fail
  refine (ex_nw w).mono ?_
  rintro e0 w0 ⟨rfl, hx0⟩
  have HX0 := Lib.hid hx0
  clear hx0
  go_wp2_with fail
  refine (ex_t1 w0).mono ?_
  rintro e1 w1 ⟨rfl, hx1⟩
  have HX1 := Lib.hid (HX0.out.trans hx1)
  clear hx1
  obtain ⟨b1, b2, hx⟩ := two_new w1 #[.bool true, .int .i64 0, .int .i64 0, .int .i64 1, .int .i64 1, .int .i64 1, .int .i64 1, .int .i64 9, .int .i64 0, .int .i64 0] #[.int .i64 2, .int .i64 6, .int .i64 0, .int .i64 0, .int .i64 1, .int .i64 1, .int .i64 1, .int .i64 0, .int .i64 0, .int .i64 1, .int .i64 0] 23 25
  obtain ⟨w2, hw2⟩ : ∃ W, W = (w1.alloc (.cells #[.bool true, .int .i64 0, .int .i64 0, .int .i64 1, .int .i64 1, .int .i64 1, .int .i64 1, .int .i64 9, .int .i64 0, .int .i64 0] 23)).alloc (.cells #[.int .i64 2, .int .i64 6, .int .i64 0, .int .i64 0, .int .i64 1, .int .i64 1, .int .i64 1, .int .i64 0, .int .i64 0, .int .i64 1, .int .i64 0] 25) := ⟨_, rfl⟩
  rw [← hw2] at b1 b2 hx
  have HB1 := Lib.hid b1
  have HB2 := Lib.hid b2
  have HX2 := Lib.hid (HX1.out.trans hx)
  clear b1 b2 hx
  go_wp2_with fail
  rw [← hw2]
  clear hw2
  refine (ex_t2 w2).mono ?_
  rintro e3 w3 ⟨rfl, hx3⟩
  obtain ⟨b4, b5, hx⟩ := two_new w3 #[.bool true, .int .i64 0, .int .i64 0, .int .i64 2, .int .i64 1, .int .i64 1, .int .i64 1, .int .i64 9, .int .i64 0, .int .i64 0] #[.int .i64 2, .int .i64 6, .int .i64 0, .int .i64 0, .int .i64 1, .int .i64 1, .int .i64 1, .int .i64 0, .int .i64 0, .int .i64 2, .int .i64 0] 23 25
  obtain ⟨w4, hw4⟩ : ∃ W, W = (w3.alloc (.cells #[.bool true, .int .i64 0, .int .i64 0, .int .i64 2, .int .i64 1, .int .i64 1, .int .i64 1, .int .i64 9, .int .i64 0, .int .i64 0] 23)).alloc (.cells #[.int .i64 2, .int .i64 6, .int .i64 0, .int .i64 0, .int .i64 1, .int .i64 1, .int .i64 1, .int .i64 0, .int .i64 0, .int .i64 2, .int .i64 0] 25) := ⟨_, rfl⟩
  rw [← hw4] at b4 hx
  have HX4 := Lib.hid (HX2.out.trans (hx3.trans hx))
  have HA := Lib.hid (HB1.out.ext (hx3.trans hx))
  have HR := Lib.hid (HB2.out.ext (hx3.trans hx))
  have HB := Lib.hid b4
  clear b4 b5 hx hx3 HB1 HB2 HX0 HX1 HX2
  go_upto_region 3 with (fail)
  rw [← hw4]
  clear hw4
  have a3 : w4.cell? ⟨w1.heap.size, 3, none⟩ = some (.int .i64 1) := HA.out.cell 3
  have r9 : w4.cell? ⟨w1.heap.size + 1, 9, none⟩ = some (.int .i64 1) := HR.out.cell 9
  have r0 : w4.cell? ⟨w1.heap.size + 1, 0, none⟩ = some (.int .i64 2) := HR.out.cell 0
  have k0 : w4.cell? ⟨w3.heap.size, 0, none⟩ = some (.bool true) := HB.out.cell 0
  have k1 : w4.cell? ⟨w3.heap.size, 1, none⟩ = some (.int .i64 0) := HB.out.cell 1
  have k2 : w4.cell? ⟨w3.heap.size, 2, none⟩ = some (.int .i64 0) := HB.out.cell 2
  have k3 : w4.cell? ⟨w3.heap.size, 3, none⟩ = some (.int .i64 2) := HB.out.cell 3
  have k4 : w4.cell? ⟨w3.heap.size, 4, none⟩ = some (.int .i64 1) := HB.out.cell 4
  have k5 : w4.cell? ⟨w3.heap.size, 5, none⟩ = some (.int .i64 1) := HB.out.cell 5
  have k6 : w4.cell? ⟨w3.heap.size, 6, none⟩ = some (.int .i64 1) := HB.out.cell 6
  have k7 : w4.cell? ⟨w3.heap.size, 7, none⟩ = some (.int .i64 9) := HB.out.cell 7
  have k8 : w4.cell? ⟨w3.heap.size, 8, none⟩ = some (.int .i64 0) := HB.out.cell 8
  have k9 : w4.cell? ⟨w3.heap.size, 9, none⟩ = some (.int .i64 0) := HB.out.cell 9
  go_wp2_with fail
  refine (ex_a9 w4).mono ?_
  rintro e5 w5 ⟨rfl, hx⟩
  clear k0 k1 k2 k3 k4 k5 k6 k7 k8 k9
  clear a3 r9 r0
  replace HB := Lib.hid (HB.out.ext hx)
  replace HA := Lib.hid (HA.out.ext hx)
  replace HX4 := Lib.hid (HX4.out.trans hx)
  clear hx
  have k0 : w5.cell? ⟨w3.heap.size, 0, none⟩ = some (.bool true) := HB.out.cell 0
  have k1 : w5.cell? ⟨w3.heap.size, 1, none⟩ = some (.int .i64 0) := HB.out.cell 1
  have k2 : w5.cell? ⟨w3.heap.size, 2, none⟩ = some (.int .i64 0) := HB.out.cell 2
  have k3 : w5.cell? ⟨w3.heap.size, 3, none⟩ = some (.int .i64 2) := HB.out.cell 3
  have k4 : w5.cell? ⟨w3.heap.size, 4, none⟩ = some (.int .i64 1) := HB.out.cell 4
  have k5 : w5.cell? ⟨w3.heap.size, 5, none⟩ = some (.int .i64 1) := HB.out.cell 5
  have k6 : w5.cell? ⟨w3.heap.size, 6, none⟩ = some (.int .i64 1) := HB.out.cell 6
  have k7 : w5.cell? ⟨w3.heap.size, 7, none⟩ = some (.int .i64 9) := HB.out.cell 7
  have k8 : w5.cell? ⟨w3.heap.size, 8, none⟩ = some (.int .i64 0) := HB.out.cell 8
  have k9 : w5.cell? ⟨w3.heap.size, 9, none⟩ = some (.int .i64 0) := HB.out.cell 9
  go_wp2_with fail
  refine (ex_a8 w5).mono ?_
  rintro e6 w6 ⟨rfl, hx⟩
  clear k0 k1 k2 k3 k4 k5 k6 k7 k8 k9
  replace HB := Lib.hid (HB.out.ext hx)
  replace HA := Lib.hid (HA.out.ext hx)
  replace HX4 := Lib.hid (HX4.out.trans hx)
  clear hx
  have k0 : w6.cell? ⟨w3.heap.size, 0, none⟩ = some (.bool true) := HB.out.cell 0
  have k1 : w6.cell? ⟨w3.heap.size, 1, none⟩ = some (.int .i64 0) := HB.out.cell 1
  have k2 : w6.cell? ⟨w3.heap.size, 2, none⟩ = some (.int .i64 0) := HB.out.cell 2
  have k3 : w6.cell? ⟨w3.heap.size, 3, none⟩ = some (.int .i64 2) := HB.out.cell 3
  have k4 : w6.cell? ⟨w3.heap.size, 4, none⟩ = some (.int .i64 1) := HB.out.cell 4
  have k5 : w6.cell? ⟨w3.heap.size, 5, none⟩ = some (.int .i64 1) := HB.out.cell 5
  have k6 : w6.cell? ⟨w3.heap.size, 6, none⟩ = some (.int .i64 1) := HB.out.cell 6
  have k7 : w6.cell? ⟨w3.heap.size, 7, none⟩ = some (.int .i64 9) := HB.out.cell 7
  have k8 : w6.cell? ⟨w3.heap.size, 8, none⟩ = some (.int .i64 0) := HB.out.cell 8
  have k9 : w6.cell? ⟨w3.heap.size, 9, none⟩ = some (.int .i64 0) := HB.out.cell 9
  go_wp2_with fail
  refine (ex_fn w6).mono ?_
  rintro e7 w7 ⟨rfl, hx⟩
  clear k0 k1 k2 k3 k4 k5 k6 k7 k8 k9
  replace HB := Lib.hid (HB.out.ext hx)
  replace HA := Lib.hid (HA.out.ext hx)
  replace HX4 := Lib.hid (HX4.out.trans hx)
  clear hx
  have k0 : w7.cell? ⟨w3.heap.size, 0, none⟩ = some (.bool true) := HB.out.cell 0
  have k1 : w7.cell? ⟨w3.heap.size, 1, none⟩ = some (.int .i64 0) := HB.out.cell 1
  have k2 : w7.cell? ⟨w3.heap.size, 2, none⟩ = some (.int .i64 0) := HB.out.cell 2
  have k3 : w7.cell? ⟨w3.heap.size, 3, none⟩ = some (.int .i64 2) := HB.out.cell 3
  have k4 : w7.cell? ⟨w3.heap.size, 4, none⟩ = some (.int .i64 1) := HB.out.cell 4
  have k5 : w7.cell? ⟨w3.heap.size, 5, none⟩ = some (.int .i64 1) := HB.out.cell 5
  have k6 : w7.cell? ⟨w3.heap.size, 6, none⟩ = some (.int .i64 1) := HB.out.cell 6
  have k7 : w7.cell? ⟨w3.heap.size, 7, none⟩ = some (.int .i64 9) := HB.out.cell 7
  have k8 : w7.cell? ⟨w3.heap.size, 8, none⟩ = some (.int .i64 0) := HB.out.cell 8
  have k9 : w7.cell? ⟨w3.heap.size, 9, none⟩ = some (.int .i64 0) := HB.out.cell 9
  go_wp2_with fail
  refine (ex_fa w7).mono ?_
  rintro e8 w8 ⟨rfl, hx⟩
  clear k0 k1 k2 k3 k4 k5 k6 k7 k8 k9
  replace HB := Lib.hid (HB.out.ext hx)
  replace HA := Lib.hid (HA.out.ext hx)
  replace HX4 := Lib.hid (HX4.out.trans hx)
  clear hx
  have k0 : w8.cell? ⟨w3.heap.size, 0, none⟩ = some (.bool true) := HB.out.cell 0
  have k1 : w8.cell? ⟨w3.heap.size, 1, none⟩ = some (.int .i64 0) := HB.out.cell 1
  have k2 : w8.cell? ⟨w3.heap.size, 2, none⟩ = some (.int .i64 0) := HB.out.cell 2
  have k3 : w8.cell? ⟨w3.heap.size, 3, none⟩ = some (.int .i64 2) := HB.out.cell 3
  have k4 : w8.cell? ⟨w3.heap.size, 4, none⟩ = some (.int .i64 1) := HB.out.cell 4
  have k5 : w8.cell? ⟨w3.heap.size, 5, none⟩ = some (.int .i64 1) := HB.out.cell 5
  have k6 : w8.cell? ⟨w3.heap.size, 6, none⟩ = some (.int .i64 1) := HB.out.cell 6
  have k7 : w8.cell? ⟨w3.heap.size, 7, none⟩ = some (.int .i64 9) := HB.out.cell 7
  have k8 : w8.cell? ⟨w3.heap.size, 8, none⟩ = some (.int .i64 0) := HB.out.cell 8
  have k9 : w8.cell? ⟨w3.heap.size, 9, none⟩ = some (.int .i64 0) := HB.out.cell 9
  go_wp2_with fail
  refine (ex_fa w8).mono ?_
  rintro e9 w9 ⟨rfl, hx⟩
  clear k0 k1 k2 k3 k4 k5 k6 k7 k8 k9
  replace HB := Lib.hid (HB.out.ext hx)
  replace HA := Lib.hid (HA.out.ext hx)
  replace HX4 := Lib.hid (HX4.out.trans hx)
  clear hx
  go_wp2_with fail
  refine (ex_ba w9).mono ?_
  rintro e10 w10 ⟨rfl, hx⟩
  replace HB := Lib.hid (HB.out.ext hx)
  replace HA := Lib.hid (HA.out.ext hx)
  replace HX4 := Lib.hid (HX4.out.trans hx)
  clear hx
  have k0 : w10.cell? ⟨w1.heap.size, 0, none⟩ = some (.bool true) := HA.out.cell 0
  have k1 : w10.cell? ⟨w1.heap.size, 1, none⟩ = some (.int .i64 0) := HA.out.cell 1
  have k2 : w10.cell? ⟨w1.heap.size, 2, none⟩ = some (.int .i64 0) := HA.out.cell 2
  have k3 : w10.cell? ⟨w1.heap.size, 3, none⟩ = some (.int .i64 1) := HA.out.cell 3
  have k4 : w10.cell? ⟨w1.heap.size, 4, none⟩ = some (.int .i64 1) := HA.out.cell 4
  have k5 : w10.cell? ⟨w1.heap.size, 5, none⟩ = some (.int .i64 1) := HA.out.cell 5
  have k6 : w10.cell? ⟨w1.heap.size, 6, none⟩ = some (.int .i64 1) := HA.out.cell 6
  have k7 : w10.cell? ⟨w1.heap.size, 7, none⟩ = some (.int .i64 9) := HA.out.cell 7
  have k8 : w10.cell? ⟨w1.heap.size, 8, none⟩ = some (.int .i64 0) := HA.out.cell 8
  have k9 : w10.cell? ⟨w1.heap.size, 9, none⟩ = some (.int .i64 0) := HA.out.cell 9
  go_wp2_with fail
  refine (ex_te w10).mono ?_
  rintro e11 w11 ⟨rfl, hx⟩
  clear k0 k1 k2 k3 k4 k5 k6 k7 k8 k9
  replace HX4 := Lib.hid (HX4.out.trans hx)
  clear hx
  go_wp2
  go_ret
  exact ⟨rfl, HX4.out⟩

end Go.Proofs.Ytddhbokknbmdfab

/- The reference's Right: of messages, of agents. -/
namespace Go.Proofs.Ytddhbokknbmdfab
open Go.RowKit

def rightA (a : Ag) : Bool := decide (0 ≤ a.term ∧ a.term ≤ 1000000 ∧ 0 ≤ a.gen ∧ a.gen ≤ 1000000 ∧ 0 ≤ a.job ∧ a.job ≤ 24 ∧ 0 ≤ a.inc ∧ a.inc ≤ 1000000 ∧ 0 ≤ a.lease ∧ a.lease ≤ 1000000 ∧ 0 ≤ a.mode ∧ a.mode ≤ 4 ∧ 1 ≤ a.ver ∧ a.ver ≤ 9 ∧ 0 ≤ a.worked ∧ a.worked ≤ 1000000 ∧ 0 ≤ a.aim ∧ a.aim ≤ 9)

set_option maxRecDepth 100000 in
set_option maxHeartbeats 2000000 in
theorem RefRight13_any (a : Ag) (w : World) : Calls Try.prog 6 #[agV a] w fun e w' => e = .returned (.bool (rightA a)) ∧ Ext w w' := by
  have HX := Lib.hid (Ext.alloc_ w (.cells #[.bool a.up, .int .i64 a.term, .int .i64 a.gen, .int .i64 a.mode, .int .i64 a.job, .int .i64 a.inc, .int .i64 a.ver, .int .i64 a.lease, .int .i64 a.worked, .int .i64 a.aim] 23))
  obtain ⟨z, hz⟩ : ∃ z, z = rightA a := ⟨_, rfl⟩
  rw [← hz]
  unfold rightA at hz
  unfold agV
  by_cases h0 : 0 ≤ a.term
  rotate_left
  · have d0 : decide (a.term < 0) = true := decide_eq_true (by omega)
    have HE : Hid (z = false) := Lib.hid (hz.trans (decide_eq_false (by omega)))
    clear hz h0
    go_enter Try.func6, Try.ntmps6
    go_wp2
    go_ret
    exact ⟨by rw [HE.out]; rfl, HX.out⟩
  have d0 : decide (a.term < 0) = false := decide_eq_false (by omega)
  by_cases h1 : a.term ≤ 1000000
  rotate_left
  · have d1 : decide ((1000000 : Int) < a.term) = true := decide_eq_true (by omega)
    have HE : Hid (z = false) := Lib.hid (hz.trans (decide_eq_false (by omega)))
    clear hz h0 h1
    go_enter Try.func6, Try.ntmps6
    go_wp2
    go_ret
    exact ⟨by rw [HE.out]; rfl, HX.out⟩
  have d1 : decide ((1000000 : Int) < a.term) = false := decide_eq_false (by omega)
  by_cases h2 : 0 ≤ a.gen
  rotate_left
  · have d2 : decide (a.gen < 0) = true := decide_eq_true (by omega)
    have HE : Hid (z = false) := Lib.hid (hz.trans (decide_eq_false (by omega)))
    clear hz h0 h1 h2
    go_enter Try.func6, Try.ntmps6
    go_wp2
    go_ret
    exact ⟨by rw [HE.out]; rfl, HX.out⟩
  have d2 : decide (a.gen < 0) = false := decide_eq_false (by omega)
  by_cases h3 : a.gen ≤ 1000000
  rotate_left
  · have d3 : decide ((1000000 : Int) < a.gen) = true := decide_eq_true (by omega)
    have HE : Hid (z = false) := Lib.hid (hz.trans (decide_eq_false (by omega)))
    clear hz h0 h1 h2 h3
    go_enter Try.func6, Try.ntmps6
    go_wp2
    go_ret
    exact ⟨by rw [HE.out]; rfl, HX.out⟩
  have d3 : decide ((1000000 : Int) < a.gen) = false := decide_eq_false (by omega)
  by_cases h4 : 0 ≤ a.job
  rotate_left
  · have d4 : decide (a.job < 0) = true := decide_eq_true (by omega)
    have HE : Hid (z = false) := Lib.hid (hz.trans (decide_eq_false (by omega)))
    clear hz h0 h1 h2 h3 h4
    go_enter Try.func6, Try.ntmps6
    go_wp2
    go_ret
    exact ⟨by rw [HE.out]; rfl, HX.out⟩
  have d4 : decide (a.job < 0) = false := decide_eq_false (by omega)
  by_cases h5 : a.job ≤ 24
  rotate_left
  · have d5 : decide ((24 : Int) < a.job) = true := decide_eq_true (by omega)
    have HE : Hid (z = false) := Lib.hid (hz.trans (decide_eq_false (by omega)))
    clear hz h0 h1 h2 h3 h4 h5
    go_enter Try.func6, Try.ntmps6
    go_wp2
    go_ret
    exact ⟨by rw [HE.out]; rfl, HX.out⟩
  have d5 : decide ((24 : Int) < a.job) = false := decide_eq_false (by omega)
  by_cases h6 : 0 ≤ a.inc
  rotate_left
  · have d6 : decide (a.inc < 0) = true := decide_eq_true (by omega)
    have HE : Hid (z = false) := Lib.hid (hz.trans (decide_eq_false (by omega)))
    clear hz h0 h1 h2 h3 h4 h5 h6
    go_enter Try.func6, Try.ntmps6
    go_wp2
    go_ret
    exact ⟨by rw [HE.out]; rfl, HX.out⟩
  have d6 : decide (a.inc < 0) = false := decide_eq_false (by omega)
  by_cases h7 : a.inc ≤ 1000000
  rotate_left
  · have d7 : decide ((1000000 : Int) < a.inc) = true := decide_eq_true (by omega)
    have HE : Hid (z = false) := Lib.hid (hz.trans (decide_eq_false (by omega)))
    clear hz h0 h1 h2 h3 h4 h5 h6 h7
    go_enter Try.func6, Try.ntmps6
    go_wp2
    go_ret
    exact ⟨by rw [HE.out]; rfl, HX.out⟩
  have d7 : decide ((1000000 : Int) < a.inc) = false := decide_eq_false (by omega)
  by_cases h8 : 0 ≤ a.lease
  rotate_left
  · have d8 : decide (a.lease < 0) = true := decide_eq_true (by omega)
    have HE : Hid (z = false) := Lib.hid (hz.trans (decide_eq_false (by omega)))
    clear hz h0 h1 h2 h3 h4 h5 h6 h7 h8
    go_enter Try.func6, Try.ntmps6
    go_wp2
    go_ret
    exact ⟨by rw [HE.out]; rfl, HX.out⟩
  have d8 : decide (a.lease < 0) = false := decide_eq_false (by omega)
  by_cases h9 : a.lease ≤ 1000000
  rotate_left
  · have d9 : decide ((1000000 : Int) < a.lease) = true := decide_eq_true (by omega)
    have HE : Hid (z = false) := Lib.hid (hz.trans (decide_eq_false (by omega)))
    clear hz h0 h1 h2 h3 h4 h5 h6 h7 h8 h9
    go_enter Try.func6, Try.ntmps6
    go_wp2
    go_ret
    exact ⟨by rw [HE.out]; rfl, HX.out⟩
  have d9 : decide ((1000000 : Int) < a.lease) = false := decide_eq_false (by omega)
  by_cases h10 : 0 ≤ a.mode
  rotate_left
  · have d10 : decide ((0 : Int) ≤ a.mode) = false := decide_eq_false (by omega)
    have HE : Hid (z = false) := Lib.hid (hz.trans (decide_eq_false (by omega)))
    clear hz h0 h1 h2 h3 h4 h5 h6 h7 h8 h9 h10
    go_enter Try.func6, Try.ntmps6
    go_wp2
    go_ret
    exact ⟨by rw [HE.out]; rfl, HX.out⟩
  have d10 : decide ((0 : Int) ≤ a.mode) = true := decide_eq_true (by omega)
  by_cases h11 : a.mode ≤ 4
  rotate_left
  · have d11 : decide (a.mode ≤ 4) = false := decide_eq_false (by omega)
    have HE : Hid (z = false) := Lib.hid (hz.trans (decide_eq_false (by omega)))
    clear hz h0 h1 h2 h3 h4 h5 h6 h7 h8 h9 h10 h11
    go_enter Try.func6, Try.ntmps6
    go_wp2
    go_ret
    exact ⟨by rw [HE.out]; rfl, HX.out⟩
  have d11 : decide (a.mode ≤ 4) = true := decide_eq_true (by omega)
  by_cases h12 : 1 ≤ a.ver
  rotate_left
  · have d12 : decide ((1 : Int) ≤ a.ver) = false := decide_eq_false (by omega)
    have HE : Hid (z = false) := Lib.hid (hz.trans (decide_eq_false (by omega)))
    clear hz h0 h1 h2 h3 h4 h5 h6 h7 h8 h9 h10 h11 h12
    go_enter Try.func6, Try.ntmps6
    go_wp2
    go_ret
    exact ⟨by rw [HE.out]; rfl, HX.out⟩
  have d12 : decide ((1 : Int) ≤ a.ver) = true := decide_eq_true (by omega)
  by_cases h13 : a.ver ≤ 9
  rotate_left
  · have d13 : decide (a.ver ≤ 9) = false := decide_eq_false (by omega)
    have HE : Hid (z = false) := Lib.hid (hz.trans (decide_eq_false (by omega)))
    clear hz h0 h1 h2 h3 h4 h5 h6 h7 h8 h9 h10 h11 h12 h13
    go_enter Try.func6, Try.ntmps6
    go_wp2
    go_ret
    exact ⟨by rw [HE.out]; rfl, HX.out⟩
  have d13 : decide (a.ver ≤ 9) = true := decide_eq_true (by omega)
  by_cases h14 : 0 ≤ a.worked
  rotate_left
  · have d14 : decide ((0 : Int) ≤ a.worked) = false := decide_eq_false (by omega)
    have HE : Hid (z = false) := Lib.hid (hz.trans (decide_eq_false (by omega)))
    clear hz h0 h1 h2 h3 h4 h5 h6 h7 h8 h9 h10 h11 h12 h13 h14
    go_enter Try.func6, Try.ntmps6
    go_wp2
    go_ret
    exact ⟨by rw [HE.out]; rfl, HX.out⟩
  have d14 : decide ((0 : Int) ≤ a.worked) = true := decide_eq_true (by omega)
  by_cases h15 : a.worked ≤ 1000000
  rotate_left
  · have d15 : decide (a.worked ≤ 1000000) = false := decide_eq_false (by omega)
    have HE : Hid (z = false) := Lib.hid (hz.trans (decide_eq_false (by omega)))
    clear hz h0 h1 h2 h3 h4 h5 h6 h7 h8 h9 h10 h11 h12 h13 h14 h15
    go_enter Try.func6, Try.ntmps6
    go_wp2
    go_ret
    exact ⟨by rw [HE.out]; rfl, HX.out⟩
  have d15 : decide (a.worked ≤ 1000000) = true := decide_eq_true (by omega)
  by_cases h16 : 0 ≤ a.aim
  rotate_left
  · have d16 : decide ((0 : Int) ≤ a.aim) = false := decide_eq_false (by omega)
    have HE : Hid (z = false) := Lib.hid (hz.trans (decide_eq_false (by omega)))
    clear hz h0 h1 h2 h3 h4 h5 h6 h7 h8 h9 h10 h11 h12 h13 h14 h15 h16
    go_enter Try.func6, Try.ntmps6
    go_wp2
    go_ret
    exact ⟨by rw [HE.out]; rfl, HX.out⟩
  have d16 : decide ((0 : Int) ≤ a.aim) = true := decide_eq_true (by omega)
  by_cases h17 : a.aim ≤ 9
  rotate_left
  · have d17 : decide (a.aim ≤ 9) = false := decide_eq_false (by omega)
    have HE : Hid (z = false) := Lib.hid (hz.trans (decide_eq_false (by omega)))
    clear hz h0 h1 h2 h3 h4 h5 h6 h7 h8 h9 h10 h11 h12 h13 h14 h15 h16 h17
    go_enter Try.func6, Try.ntmps6
    go_wp2
    go_ret
    exact ⟨by rw [HE.out]; rfl, HX.out⟩
  have d17 : decide (a.aim ≤ 9) = true := decide_eq_true (by omega)
  have HE : Hid (z = true) := Lib.hid (hz.trans (decide_eq_true (by omega)))
  clear hz h0 h1 h2 h3 h4 h5 h6 h7 h8 h9 h10 h11 h12 h13 h14 h15 h16 h17
  go_enter Try.func6, Try.ntmps6
  go_wp2
  go_ret
  exact ⟨by rw [HE.out]; rfl, HX.out⟩

set_option maxRecDepth 100000 in
set_option maxHeartbeats 2000000 in
theorem RefNums12_any (m : Ms) (w : World) : Calls Try.prog 15 #[msV m] w fun e w' => ∃ v, e = .returned v ∧ Rd w' v ((msL m).map I) ∧ Ext w w' := by
  have HX : Hid (∀ cs T, Ext w ((w.alloc (.cells #[.int .i64 m.node, .int .i64 m.kind, .int .i64 m.term, .int .i64 m.gen, .int .i64 m.job, .int .i64 m.inc, .int .i64 m.ver, .int .i64 m.epoch, .int .i64 m.til, .int .i64 m.mode, .int .i64 m.work] 25)).alloc (.cells cs T))) := Lib.hid fun cs T => (Ext.alloc_ w _).trans (Ext.alloc_ _ _)
  have hr := Rd.lit (w.alloc (.cells #[.int .i64 m.node, .int .i64 m.kind, .int .i64 m.term, .int .i64 m.gen, .int .i64 m.job, .int .i64 m.inc, .int .i64 m.ver, .int .i64 m.epoch, .int .i64 m.til, .int .i64 m.mode, .int .i64 m.work] 25)) #[.int .i64 m.node, .int .i64 m.kind, .int .i64 m.term, .int .i64 m.gen, .int .i64 m.job, .int .i64 m.inc, .int .i64 m.ver, .int .i64 m.epoch, .int .i64 m.til, .int .i64 m.mode, .int .i64 m.work] 3 (show 11 ≤ maxLen by decide)
  rw [show (w.alloc (.cells #[.int .i64 m.node, .int .i64 m.kind, .int .i64 m.term, .int .i64 m.gen, .int .i64 m.job, .int .i64 m.inc, .int .i64 m.ver, .int .i64 m.epoch, .int .i64 m.til, .int .i64 m.mode, .int .i64 m.work] 25)).heap.size = w.heap.size + 1 by simp] at hr
  have HR := Lib.hid hr
  clear hr
  unfold msV
  go_enter Try.func15, Try.ntmps15
  go_wp2
  go_ret
  exact ⟨.slice (some ⟨w.heap.size + 1, 0, none⟩) 11 11, rfl, HR.out, HX.out _ _⟩

theorem rightM_eq (m : Ms) : rightM m = (decide (m.node < 6) && (decide (1 ≤ m.kind) && decide (m.kind ≤ 6)) && (msL m).all okN) := rfl
theorem okN_false {n : Int} (h : n < 0 ∨ 1000000 < n) : okN n = false := by unfold okN; rcases h with h | h; (rw [decide_eq_false (by omega)]; rfl); (rw [decide_eq_false (p := n ≤ 1000000) (by omega)]; simp)
theorem okN_true {n : Int} (h : 0 ≤ n ∧ n ≤ 1000000) : okN n = true := by unfold okN; rw [decide_eq_true h.1, decide_eq_true h.2]; rfl

set_option maxRecDepth 100000 in
set_option maxHeartbeats 4000000 in
theorem RefRight12_any (m : Ms) (w : World) : Calls Try.prog 7 #[msV m] w fun e w' => e = .returned (.bool (rightM m)) ∧ Ext w w' := by
  obtain ⟨W, hW⟩ : ∃ W, W = w.alloc (.cells #[.int .i64 m.node, .int .i64 m.kind, .int .i64 m.term, .int .i64 m.gen, .int .i64 m.job, .int .i64 m.inc, .int .i64 m.ver, .int .i64 m.epoch, .int .i64 m.til, .int .i64 m.mode, .int .i64 m.work] 25) := ⟨_, rfl⟩
  have hb : MsAt W w.heap.size m := by rw [hW]; exact ⟨Blk.new _ _ _⟩
  have hx : Ext w W := by rw [hW]; exact Ext.alloc_ _ _
  have HB := Lib.hid hb
  have HX := Lib.hid hx
  have HN := Lib.hid (RefNums12_any m W)
  unfold msV at HN
  obtain ⟨z, hz⟩ : ∃ z, z = rightM m := ⟨_, rfl⟩
  rw [← hz]
  have HZ := Lib.hid hz
  obtain ⟨L, hL⟩ : ∃ L, L = msL m := ⟨_, rfl⟩
  have HL := Lib.hid hL
  have HLN : Hid (L.length = 11) := Lib.hid (by rw [hL]; rfl)
  rw [← hL] at HN
  clear hb hx hz hL
  unfold msV
  go_enter Try.func7, Try.ntmps7
  go_upto_region 1 with (fail)
  rw [← hW]
  clear hW
  obtain ⟨m0, m1, m2, m3, m4, m5, m6, m7, m8, m9, m10⟩ := HB.out.cells
  go_wp2_with fail
  refine HN.out.mono ?_
  rintro e1 w1 ⟨v, rfl, hr, hx1⟩
  obtain ⟨A, c, hv, hlc, hcm, hcell⟩ := hr
  rw [List.length_map, HLN.out] at hv hlc hcell
  subst hv
  obtain ⟨b, o, rfl, hb1, hce⟩ := hcell (by decide)
  have HCE : Hid (∀ k x, L[k]? = some x → w1.cell? ⟨b, o + k, none⟩ = some (.int .i64 x)) := Lib.hid fun k x hx => hce k (I x) (by rw [List.getElem?_map, hx]; rfl)
  have HX1 := Lib.hid (HX.out.trans hx1)
  have HB1 := Lib.hid (HB.out.ext hx1)
  clear hcell hce hx1 m0 m1 m2 m3 m4 m5 m6 m7 m8 m9 m10 HN hb1
  unfold maxLen at hcm
  go_wp2_with fail
  go_loopw [4] (fun i wr => wr = w1 ∧ ∃ k : Nat, i = .int .i64 k ∧ k ≤ 11 ∧ Hid ((L.take k).all okN = true)) (fun i _ => 11 - (intOf i).toNat)
  case atStart => exact ⟨rfl, 0, rfl, Nat.zero_le _, Lib.hid rfl⟩
  case round =>
    obtain ⟨rfl, k, rfl, hk, HK⟩ := hrel
    by_cases hlt : k < 11
    · have e1 : decide ((k : Int) < 11) = true := decide_eq_true (by omega)
      have e1' : decide (k < 11) = true := decide_eq_true hlt
      obtain ⟨n, hn⟩ : ∃ n, L[k]? = some n := ⟨_, List.getElem?_eq_getElem (by rw [HLN.out]; exact hlt)⟩
      have cn := HCE.out k n hn
      have x1 : (0 : Int) ≤ (k : Int) ∧ (k : Int) < 11 := by omega
      have HTK : Hid ((L.take (k + 1)).all okN = okN n) := Lib.hid (by rw [List.take_add_one, hn, List.all_append, HK.out]; simp)
      have HNM := Lib.hid (List.mem_of_getElem? hn)
      have HLT := Lib.hid hlt
      clear hn hlt
      by_cases h0 : n < 0
      · have d0 : decide (n < 0) = true := decide_eq_true h0
        have HF : Hid (z = false) := Lib.hid (by
          rw [HZ.out, rightM_eq, ← HL.out]
          have : L.all okN = false := by
            cases ha : L.all okN with
            | false => rfl
            | true => have h9 := List.all_eq_true.1 ha n HNM.out; rw [okN_false (by omega)] at h9; cases h9
          rw [this, Bool.and_false])
        clear h0
        go_wp2
        go_ret
        exact ⟨by rw [HF.out]; rfl, HX1.out⟩
      have d0 : decide (n < 0) = false := decide_eq_false h0
      by_cases h9 : 1000000 < n
      · have d9 : decide ((1000000 : Int) < n) = true := decide_eq_true h9
        have HF : Hid (z = false) := Lib.hid (by
          rw [HZ.out, rightM_eq, ← HL.out]
          have : L.all okN = false := by
            cases ha : L.all okN with
            | false => rfl
            | true => have h8 := List.all_eq_true.1 ha n HNM.out; rw [okN_false (by omega)] at h8; cases h8
          rw [this, Bool.and_false])
        clear h0 h9
        go_wp2
        go_ret
        exact ⟨by rw [HF.out]; rfl, HX1.out⟩
      have d9 : decide ((1000000 : Int) < n) = false := decide_eq_false h9
      have HK2 : Hid ((L.take (k + 1)).all okN = true) := Lib.hid (by rw [HTK.out]; exact okN_true (by omega))
      have hwq : wrap64 ((k : Int) + 1) = (k : Int) + 1 := IntWalk.wrap64_in _ (by omega)
      clear h0 h9
      go_wp2
      go_roundw
      case rel => first | exact ⟨rfl, k + 1, by go_num, HLT.out, HK2⟩ | exact ⟨trivial, k + 1, by go_num, HLT.out, HK2⟩
      case measure => simp [intOf]; have := HLT.out; omega
    · obtain rfl : k = 11 := by omega
      have e1 : decide ((11 : Int) < 11) = false := by decide
      have HA : Hid (z = (decide (m.node < 6) && (decide (1 ≤ m.kind) && decide (m.kind ≤ 6)))) := Lib.hid (by rw [HZ.out, rightM_eq, ← HL.out]; have h := HK.out; rw [List.take_of_length_le (by rw [HLN.out]; exact Nat.le_refl _)] at h; rw [h, Bool.and_true])
      have m0 := HB1.out.cells.1
      have m1 := HB1.out.cells.2.1
      clear hk hlt HK
      by_cases q0 : m.node ≤ 5
      · have d0 : decide (m.node ≤ 5) = true := decide_eq_true q0
        by_cases q1 : 1 ≤ m.kind
        · have d1 : decide ((1 : Int) ≤ m.kind) = true := decide_eq_true q1
          have HF : Hid (z = decide (m.kind ≤ 6)) := Lib.hid (by rw [HA.out]; rw [decide_eq_true (show m.node < 6 by omega), decide_eq_true q1]; rfl)
          clear q0 q1
          go_wp2
          go_ret
          exact ⟨by rw [HF.out]; rfl, HX1.out⟩
        · have d1 : decide ((1 : Int) ≤ m.kind) = false := decide_eq_false q1
          have HF : Hid (z = false) := Lib.hid (by rw [HA.out]; rw [decide_eq_false q1, Bool.false_and, Bool.and_false])
          clear q0 q1
          go_wp2
          go_ret
          exact ⟨by rw [HF.out]; rfl, HX1.out⟩
      · have d0 : decide (m.node ≤ 5) = false := decide_eq_false q0
        have HF : Hid (z = false) := Lib.hid (by rw [HA.out]; rw [decide_eq_false (show ¬ m.node < 6 by omega)]; rfl)
        clear q0
        go_wp2
        go_ret
        exact ⟨by rw [HF.out]; rfl, HX1.out⟩

end Go.Proofs.Ytddhbokknbmdfab

/- Layer 13's statement AgentTells, walked. -/
namespace Go.Proofs.Ytddhbokknbmdfab
open Go.RowKit

theorem rightM_kind {m : Ms} (h : rightM m = true) : 1 ≤ m.kind ∧ m.kind ≤ 6 := by
  unfold rightM at h
  simp only [Bool.and_eq_true, decide_eq_true_eq] at h
  exact h.1.2
theorem takeA_told (a : Ag) (m : Ms) (now : Int) (sv : Bool) (h : goesA a m = true) : (takeA a m now sv).term = m.term ∧ (takeA a m now sv).gen = m.gen := by
  unfold takeA
  rw [if_pos h]
  unfold doA
  split
  · split <;> exact ⟨rfl, rfl⟩
  · split
    · split
      · exact ⟨rfl, rfl⟩
      · split <;> exact ⟨rfl, rfl⟩
    · split
      · split
        · exact ⟨rfl, rfl⟩
        · split <;> exact ⟨rfl, rfl⟩
      · split
        · split <;> exact ⟨rfl, rfl⟩
        · split <;> exact ⟨rfl, rfl⟩

set_option maxRecDepth 100000 in
set_option maxHeartbeats 1000000 in
theorem AgentTells_calls (a : Ag) (node : Int) (m : Ms) (now : Int) (w : World) : Calls Try.prog 4 #[agV a, .int .i64 node, msV m, .int .i64 now] w fun e w' => e = .returned (.bool true) ∧ Ext w w' := by
  obtain ⟨h1, h2, hx⟩ := two_new w #[.bool a.up, .int .i64 a.term, .int .i64 a.gen, .int .i64 a.mode, .int .i64 a.job, .int .i64 a.inc, .int .i64 a.ver, .int .i64 a.lease, .int .i64 a.worked, .int .i64 a.aim] #[.int .i64 m.node, .int .i64 m.kind, .int .i64 m.term, .int .i64 m.gen, .int .i64 m.job, .int .i64 m.inc, .int .i64 m.ver, .int .i64 m.epoch, .int .i64 m.til, .int .i64 m.mode, .int .i64 m.work] 23 25
  obtain ⟨W, hW⟩ : ∃ W, W = (w.alloc (.cells #[.bool a.up, .int .i64 a.term, .int .i64 a.gen, .int .i64 a.mode, .int .i64 a.job, .int .i64 a.inc, .int .i64 a.ver, .int .i64 a.lease, .int .i64 a.worked, .int .i64 a.aim] 23)).alloc (.cells #[.int .i64 m.node, .int .i64 m.kind, .int .i64 m.term, .int .i64 m.gen, .int .i64 m.job, .int .i64 m.inc, .int .i64 m.ver, .int .i64 m.epoch, .int .i64 m.til, .int .i64 m.mode, .int .i64 m.work] 25) := ⟨_, rfl⟩
  rw [← hW] at h1 h2 hx
  have HA : Hid (AgAt W w.heap.size a) := Lib.hid ⟨h1⟩
  have HM : Hid (MsAt W (w.heap.size + 1) m) := Lib.hid ⟨h2⟩
  have HX := Lib.hid hx
  clear h1 h2 hx
  unfold agV msV
  go_enter Try.func4, Try.ntmps4
  go_wp2_with fail
  rw [← hW]
  clear hW
  refine (alive13_any W).mono ?_
  rintro e0 w0 ⟨rfl, hx⟩
  replace HA := Lib.hid (HA.out.ext hx)
  replace HM := Lib.hid (HM.out.ext hx)
  replace HX := Lib.hid (HX.out.trans hx)
  clear hx
  have HR := Lib.hid (RefRight13_any a w0)
  unfold agV at HR
  obtain ⟨c0, c1, c2, c3, c4, c5, c6, c7, c8, c9⟩ := HA.out.cells
  cases hra : rightA a with
  | false =>
    rw [hra] at HR
    clear hra
    go_wp2_with fail
    refine HR.out.mono ?_
    rintro e1 w1 ⟨rfl, hx⟩
    have HX1 := Lib.hid (HX.out.trans hx)
    clear hx
    go_wp2
    go_ret
    exact ⟨rfl, HX1.out⟩
  | true =>
  have HRA := Lib.hid hra
  rw [hra] at HR
  clear hra
  go_wp2_with fail
  refine HR.out.mono ?_
  rintro e1 w1 ⟨rfl, hx⟩
  replace HA := Lib.hid (HA.out.ext hx)
  replace HM := Lib.hid (HM.out.ext hx)
  replace HX := Lib.hid (HX.out.trans hx)
  clear hx HR c0 c1 c2 c3 c4 c5 c6 c7 c8 c9
  have HR := Lib.hid (RefRight12_any m w1)
  unfold msV at HR
  obtain ⟨m0, m1, m2, m3, m4, m5, m6, m7, m8, m9, m10⟩ := HM.out.cells
  cases hrm : rightM m with
  | false =>
    rw [hrm] at HR
    clear hrm
    go_wp2_with fail
    refine HR.out.mono ?_
    rintro e2 w2 ⟨rfl, hx⟩
    have HX1 := Lib.hid (HX.out.trans hx)
    clear hx
    go_wp2
    go_ret
    exact ⟨rfl, HX1.out⟩
  | true =>
  have HRM := Lib.hid hrm
  rw [hrm] at HR
  clear hrm
  go_wp2_with fail
  refine HR.out.mono ?_
  rintro e2 w2 ⟨rfl, hx⟩
  replace HA := Lib.hid (HA.out.ext hx)
  replace HM := Lib.hid (HM.out.ext hx)
  replace HX := Lib.hid (HX.out.trans hx)
  clear hx HR m0 m1 m2 m3 m4 m5 m6 m7 m8 m9 m10
  obtain ⟨HWK⟩ : Nonempty (Hid (0 ≤ a.worked ∧ a.worked ≤ 1000000000)) := ⟨Lib.hid (by have h := HRA.out; unfold rightA at h; have h := of_decide_eq_true h; omega)⟩
  have HTK := Lib.hid (Take_nil a m node now w2 (by have := rightM_kind HRM.out; omega) HWK.out.1 (by have := HWK.out.2; omega))
  unfold agV at HTK
  cases hg : goesA a m with
  | false =>
    have hta : takeA a m now (nilS a m now) = a := by unfold takeA; rw [hg]; rfl
    rw [hg, hta, if_neg (by decide)] at HTK
    have HT2 : Hid (Calls Try.prog 10 #[.agg #[.bool a.up, .int .i64 a.term, .int .i64 a.gen, .int .i64 a.mode, .int .i64 a.job, .int .i64 a.inc, .int .i64 a.ver, .int .i64 a.lease, .int .i64 a.worked, .int .i64 a.aim], .int .i64 node, .agg #[.int .i64 m.node, .int .i64 m.kind, .int .i64 m.term, .int .i64 m.gen, .int .i64 m.job, .int .i64 m.inc, .int .i64 m.ver, .int .i64 m.epoch, .int .i64 m.til, .int .i64 m.mode, .int .i64 m.work], .int .i64 now, .pointer none] w2 fun e w' => e = .returned (.tuple #[.agg #[.bool a.up, .int .i64 a.term, .int .i64 a.gen, .int .i64 a.mode, .int .i64 a.job, .int .i64 a.inc, .int .i64 a.ver, .int .i64 a.lease, .int .i64 a.worked, .int .i64 a.aim], .agg #[.int .i64 0, .int .i64 0, .int .i64 0, .int .i64 0, .int .i64 0, .int .i64 0, .int .i64 0, .int .i64 0, .int .i64 0, .int .i64 0, .int .i64 0], .bool false]) ∧ Ext w2 w') := HTK
    clear hg hta HTK
    obtain ⟨c0, c1, c2, c3, c4, c5, c6, c7, c8, c9⟩ := HA.out.cells
    obtain ⟨m0, m1, m2, m3, m4, m5, m6, m7, m8, m9, m10⟩ := HM.out.cells
    go_wp2_with fail
    refine HT2.out.mono ?_
    rintro e3 w3 ⟨rfl, hx⟩
    replace HA := Lib.hid (HA.out.ext hx)
    replace HX := Lib.hid (HX.out.trans hx)
    clear hx HT2 c0 c1 c2 c3 c4 c5 c6 c7 c8 c9 m0 m1 m2 m3 m4 m5 m6 m7 m8 m9 m10
    obtain ⟨b7, b8, hx⟩ := two_new w3 #[.bool a.up, .int .i64 a.term, .int .i64 a.gen, .int .i64 a.mode, .int .i64 a.job, .int .i64 a.inc, .int .i64 a.ver, .int .i64 a.lease, .int .i64 a.worked, .int .i64 a.aim] #[.int .i64 0, .int .i64 0, .int .i64 0, .int .i64 0, .int .i64 0, .int .i64 0, .int .i64 0, .int .i64 0, .int .i64 0, .int .i64 0, .int .i64 0] 23 25
    obtain ⟨w4, hw4⟩ : ∃ W, W = (w3.alloc (.cells #[.bool a.up, .int .i64 a.term, .int .i64 a.gen, .int .i64 a.mode, .int .i64 a.job, .int .i64 a.inc, .int .i64 a.ver, .int .i64 a.lease, .int .i64 a.worked, .int .i64 a.aim] 23)).alloc (.cells #[.int .i64 0, .int .i64 0, .int .i64 0, .int .i64 0, .int .i64 0, .int .i64 0, .int .i64 0, .int .i64 0, .int .i64 0, .int .i64 0, .int .i64 0] 25) := ⟨_, rfl⟩
    rw [← hw4] at b7 b8 hx
    have HB := Lib.hid b7
    have HT := Lib.hid b8
    replace HA := Lib.hid (HA.out.ext hx)
    replace HX := Lib.hid (HX.out.trans hx)
    clear b7 b8 hx
    go_upto_region 6 with (fail)
    rw [← hw4]
    clear hw4
    obtain ⟨c0, c1, c2, c3, c4, c5, c6, c7, c8, c9⟩ := HA.out.cells
    have kb0 : w4.cell? ⟨w3.heap.size, 0, none⟩ = some (.bool a.up) := HB.out.cell 0
    have kb1 : w4.cell? ⟨w3.heap.size, 1, none⟩ = some (.int .i64 a.term) := HB.out.cell 1
    have kb2 : w4.cell? ⟨w3.heap.size, 2, none⟩ = some (.int .i64 a.gen) := HB.out.cell 2
    have kb3 : w4.cell? ⟨w3.heap.size, 3, none⟩ = some (.int .i64 a.mode) := HB.out.cell 3
    have kb4 : w4.cell? ⟨w3.heap.size, 4, none⟩ = some (.int .i64 a.job) := HB.out.cell 4
    have kb5 : w4.cell? ⟨w3.heap.size, 5, none⟩ = some (.int .i64 a.inc) := HB.out.cell 5
    have kb6 : w4.cell? ⟨w3.heap.size, 6, none⟩ = some (.int .i64 a.ver) := HB.out.cell 6
    have kb7 : w4.cell? ⟨w3.heap.size, 7, none⟩ = some (.int .i64 a.lease) := HB.out.cell 7
    have kb8 : w4.cell? ⟨w3.heap.size, 8, none⟩ = some (.int .i64 a.worked) := HB.out.cell 8
    have kb9 : w4.cell? ⟨w3.heap.size, 9, none⟩ = some (.int .i64 a.aim) := HB.out.cell 9
    have kt0 : w4.cell? ⟨w3.heap.size + 1, 0, none⟩ = some (.int .i64 0) := HT.out.cell 0
    have kt1 : w4.cell? ⟨w3.heap.size + 1, 1, none⟩ = some (.int .i64 0) := HT.out.cell 1
    have kt2 : w4.cell? ⟨w3.heap.size + 1, 2, none⟩ = some (.int .i64 0) := HT.out.cell 2
    have kt3 : w4.cell? ⟨w3.heap.size + 1, 3, none⟩ = some (.int .i64 0) := HT.out.cell 3
    have kt4 : w4.cell? ⟨w3.heap.size + 1, 4, none⟩ = some (.int .i64 0) := HT.out.cell 4
    have kt5 : w4.cell? ⟨w3.heap.size + 1, 5, none⟩ = some (.int .i64 0) := HT.out.cell 5
    have kt6 : w4.cell? ⟨w3.heap.size + 1, 6, none⟩ = some (.int .i64 0) := HT.out.cell 6
    have kt7 : w4.cell? ⟨w3.heap.size + 1, 7, none⟩ = some (.int .i64 0) := HT.out.cell 7
    have kt8 : w4.cell? ⟨w3.heap.size + 1, 8, none⟩ = some (.int .i64 0) := HT.out.cell 8
    have kt9 : w4.cell? ⟨w3.heap.size + 1, 9, none⟩ = some (.int .i64 0) := HT.out.cell 9
    have kt10 : w4.cell? ⟨w3.heap.size + 1, 10, none⟩ = some (.int .i64 0) := HT.out.cell 10
    go_wp2
    go_ret
    exact ⟨rfl, HX.out⟩
  | true =>
    obtain ⟨b, hb⟩ : ∃ x, x = takeA a m now (nilS a m now) := ⟨_, rfl⟩
    have hbt := takeA_told a m now (nilS a m now) hg
    rw [← hb] at hbt
    rw [hg, if_pos rfl, ← hb] at HTK
    unfold msV tellA at HTK
    have HBT := Lib.hid hbt
    clear hg hb hbt
    obtain ⟨c0, c1, c2, c3, c4, c5, c6, c7, c8, c9⟩ := HA.out.cells
    obtain ⟨m0, m1, m2, m3, m4, m5, m6, m7, m8, m9, m10⟩ := HM.out.cells
    go_wp2_with fail
    refine HTK.out.mono ?_
    rintro e3 w3 ⟨rfl, hx⟩
    replace HA := Lib.hid (HA.out.ext hx)
    replace HM := Lib.hid (HM.out.ext hx)
    replace HX := Lib.hid (HX.out.trans hx)
    clear hx HTK c0 c1 c2 c3 c4 c5 c6 c7 c8 c9 m0 m1 m2 m3 m4 m5 m6 m7 m8 m9 m10
    have hxm : Ext w3 ((w3.alloc (.cells #[.bool b.up, .int .i64 b.term, .int .i64 b.gen, .int .i64 b.mode, .int .i64 b.job, .int .i64 b.inc, .int .i64 b.ver, .int .i64 b.lease, .int .i64 b.worked, .int .i64 b.aim] 23)).alloc (.cells #[.int .i64 node, .int .i64 6, .int .i64 b.term, .int .i64 b.gen, .int .i64 b.job, .int .i64 b.inc, .int .i64 b.ver, .int .i64 0, .int .i64 0, .int .i64 b.mode, .int .i64 b.worked] 25)) := (Ext.alloc_ _ _).trans (Ext.alloc_ _ _)
    replace HM := Lib.hid (HM.out.ext hxm)
    clear hxm
    obtain ⟨b7, b8, hx⟩ := two_new w3 #[.bool b.up, .int .i64 b.term, .int .i64 b.gen, .int .i64 b.mode, .int .i64 b.job, .int .i64 b.inc, .int .i64 b.ver, .int .i64 b.lease, .int .i64 b.worked, .int .i64 b.aim] #[.int .i64 node, .int .i64 6, .int .i64 b.term, .int .i64 b.gen, .int .i64 b.job, .int .i64 b.inc, .int .i64 b.ver, .int .i64 0, .int .i64 0, .int .i64 b.mode, .int .i64 b.worked] 23 25
    obtain ⟨w4, hw4⟩ : ∃ W, W = (w3.alloc (.cells #[.bool b.up, .int .i64 b.term, .int .i64 b.gen, .int .i64 b.mode, .int .i64 b.job, .int .i64 b.inc, .int .i64 b.ver, .int .i64 b.lease, .int .i64 b.worked, .int .i64 b.aim] 23)).alloc (.cells #[.int .i64 node, .int .i64 6, .int .i64 b.term, .int .i64 b.gen, .int .i64 b.job, .int .i64 b.inc, .int .i64 b.ver, .int .i64 0, .int .i64 0, .int .i64 b.mode, .int .i64 b.worked] 25) := ⟨_, rfl⟩
    rw [← hw4] at b7 b8 hx HM
    have HB := Lib.hid b7
    have HT := Lib.hid b8
    replace HA := Lib.hid (HA.out.ext hx)
    replace HX := Lib.hid (HX.out.trans hx)
    clear b7 b8 hx
    have HTL := Lib.hid (Tell_any b node w4)
    unfold agV msV tellA at HTL
    go_upto_region 8 with (fail)
    rw [← hw4]
    clear hw4
    have HS : Hid (∀ W, Ext w4 W → (fun (W : World) => W.cell? ⟨w3.heap.size, 0, none⟩ = some (.bool b.up) ∧ W.cell? ⟨w3.heap.size, 1, none⟩ = some (.int .i64 b.term) ∧ W.cell? ⟨w3.heap.size, 2, none⟩ = some (.int .i64 b.gen) ∧ W.cell? ⟨w3.heap.size, 3, none⟩ = some (.int .i64 b.mode) ∧ W.cell? ⟨w3.heap.size, 4, none⟩ = some (.int .i64 b.job) ∧ W.cell? ⟨w3.heap.size, 5, none⟩ = some (.int .i64 b.inc) ∧ W.cell? ⟨w3.heap.size, 6, none⟩ = some (.int .i64 b.ver) ∧ W.cell? ⟨w3.heap.size, 7, none⟩ = some (.int .i64 b.lease) ∧ W.cell? ⟨w3.heap.size, 8, none⟩ = some (.int .i64 b.worked) ∧ W.cell? ⟨w3.heap.size, 9, none⟩ = some (.int .i64 b.aim) ∧ W.cell? ⟨w3.heap.size + 1, 0, none⟩ = some (.int .i64 node) ∧ W.cell? ⟨w3.heap.size + 1, 1, none⟩ = some (.int .i64 6) ∧ W.cell? ⟨w3.heap.size + 1, 2, none⟩ = some (.int .i64 b.term) ∧ W.cell? ⟨w3.heap.size + 1, 3, none⟩ = some (.int .i64 b.gen) ∧ W.cell? ⟨w3.heap.size + 1, 4, none⟩ = some (.int .i64 b.job) ∧ W.cell? ⟨w3.heap.size + 1, 5, none⟩ = some (.int .i64 b.inc) ∧ W.cell? ⟨w3.heap.size + 1, 6, none⟩ = some (.int .i64 b.ver) ∧ W.cell? ⟨w3.heap.size + 1, 7, none⟩ = some (.int .i64 0) ∧ W.cell? ⟨w3.heap.size + 1, 8, none⟩ = some (.int .i64 0) ∧ W.cell? ⟨w3.heap.size + 1, 9, none⟩ = some (.int .i64 b.mode) ∧ W.cell? ⟨w3.heap.size + 1, 10, none⟩ = some (.int .i64 b.worked) ∧ W.cell? ⟨w.heap.size + 1, 2, none⟩ = some (.int .i64 b.term) ∧ W.cell? ⟨w.heap.size + 1, 3, none⟩ = some (.int .i64 b.gen)) W) := Lib.hid fun W h => ⟨(HB.out.ext h).cell 0, (HB.out.ext h).cell 1, (HB.out.ext h).cell 2, (HB.out.ext h).cell 3, (HB.out.ext h).cell 4, (HB.out.ext h).cell 5, (HB.out.ext h).cell 6, (HB.out.ext h).cell 7, (HB.out.ext h).cell 8, (HB.out.ext h).cell 9, (HT.out.ext h).cell 0, (HT.out.ext h).cell 1, (HT.out.ext h).cell 2, (HT.out.ext h).cell 3, (HT.out.ext h).cell 4, (HT.out.ext h).cell 5, (HT.out.ext h).cell 6, (HT.out.ext h).cell 7, (HT.out.ext h).cell 8, (HT.out.ext h).cell 9, (HT.out.ext h).cell 10, by rw [HBT.out.1]; exact (HM.out.ext h).blk.cell 2, by rw [HBT.out.2]; exact (HM.out.ext h).blk.cell 3⟩
    replace HTL := Lib.hid (Tell_any b node w4.drew)
    unfold agV msV tellA at HTL
    go_wp2_with fail
    refine held_begin (by kernel_rfl) ?_
    have hHeld0 : True := True.intro
    refine held_more (S' := fun (W : World) => W.cell? ⟨w3.heap.size, 0, none⟩ = some (.bool b.up) ∧ W.cell? ⟨w3.heap.size, 1, none⟩ = some (.int .i64 b.term) ∧ W.cell? ⟨w3.heap.size, 2, none⟩ = some (.int .i64 b.gen) ∧ W.cell? ⟨w3.heap.size, 3, none⟩ = some (.int .i64 b.mode) ∧ W.cell? ⟨w3.heap.size, 4, none⟩ = some (.int .i64 b.job) ∧ W.cell? ⟨w3.heap.size, 5, none⟩ = some (.int .i64 b.inc) ∧ W.cell? ⟨w3.heap.size, 6, none⟩ = some (.int .i64 b.ver) ∧ W.cell? ⟨w3.heap.size, 7, none⟩ = some (.int .i64 b.lease) ∧ W.cell? ⟨w3.heap.size, 8, none⟩ = some (.int .i64 b.worked) ∧ W.cell? ⟨w3.heap.size, 9, none⟩ = some (.int .i64 b.aim) ∧ W.cell? ⟨w3.heap.size + 1, 0, none⟩ = some (.int .i64 node) ∧ W.cell? ⟨w3.heap.size + 1, 1, none⟩ = some (.int .i64 6) ∧ W.cell? ⟨w3.heap.size + 1, 2, none⟩ = some (.int .i64 b.term) ∧ W.cell? ⟨w3.heap.size + 1, 3, none⟩ = some (.int .i64 b.gen) ∧ W.cell? ⟨w3.heap.size + 1, 4, none⟩ = some (.int .i64 b.job) ∧ W.cell? ⟨w3.heap.size + 1, 5, none⟩ = some (.int .i64 b.inc) ∧ W.cell? ⟨w3.heap.size + 1, 6, none⟩ = some (.int .i64 b.ver) ∧ W.cell? ⟨w3.heap.size + 1, 7, none⟩ = some (.int .i64 0) ∧ W.cell? ⟨w3.heap.size + 1, 8, none⟩ = some (.int .i64 0) ∧ W.cell? ⟨w3.heap.size + 1, 9, none⟩ = some (.int .i64 b.mode) ∧ W.cell? ⟨w3.heap.size + 1, 10, none⟩ = some (.int .i64 b.worked) ∧ W.cell? ⟨w.heap.size + 1, 2, none⟩ = some (.int .i64 b.term) ∧ W.cell? ⟨w.heap.size + 1, 3, none⟩ = some (.int .i64 b.gen)) (fun _ _ => True.intro) ?_
    have hHeld1 : (fun (W : World) => W.cell? ⟨w3.heap.size, 0, none⟩ = some (.bool b.up) ∧ W.cell? ⟨w3.heap.size, 1, none⟩ = some (.int .i64 b.term) ∧ W.cell? ⟨w3.heap.size, 2, none⟩ = some (.int .i64 b.gen) ∧ W.cell? ⟨w3.heap.size, 3, none⟩ = some (.int .i64 b.mode) ∧ W.cell? ⟨w3.heap.size, 4, none⟩ = some (.int .i64 b.job) ∧ W.cell? ⟨w3.heap.size, 5, none⟩ = some (.int .i64 b.inc) ∧ W.cell? ⟨w3.heap.size, 6, none⟩ = some (.int .i64 b.ver) ∧ W.cell? ⟨w3.heap.size, 7, none⟩ = some (.int .i64 b.lease) ∧ W.cell? ⟨w3.heap.size, 8, none⟩ = some (.int .i64 b.worked) ∧ W.cell? ⟨w3.heap.size, 9, none⟩ = some (.int .i64 b.aim) ∧ W.cell? ⟨w3.heap.size + 1, 0, none⟩ = some (.int .i64 node) ∧ W.cell? ⟨w3.heap.size + 1, 1, none⟩ = some (.int .i64 6) ∧ W.cell? ⟨w3.heap.size + 1, 2, none⟩ = some (.int .i64 b.term) ∧ W.cell? ⟨w3.heap.size + 1, 3, none⟩ = some (.int .i64 b.gen) ∧ W.cell? ⟨w3.heap.size + 1, 4, none⟩ = some (.int .i64 b.job) ∧ W.cell? ⟨w3.heap.size + 1, 5, none⟩ = some (.int .i64 b.inc) ∧ W.cell? ⟨w3.heap.size + 1, 6, none⟩ = some (.int .i64 b.ver) ∧ W.cell? ⟨w3.heap.size + 1, 7, none⟩ = some (.int .i64 0) ∧ W.cell? ⟨w3.heap.size + 1, 8, none⟩ = some (.int .i64 0) ∧ W.cell? ⟨w3.heap.size + 1, 9, none⟩ = some (.int .i64 b.mode) ∧ W.cell? ⟨w3.heap.size + 1, 10, none⟩ = some (.int .i64 b.worked) ∧ W.cell? ⟨w.heap.size + 1, 2, none⟩ = some (.int .i64 b.term) ∧ W.cell? ⟨w.heap.size + 1, 3, none⟩ = some (.int .i64 b.gen)) _ := HS.out _ (ext_dr13 w4)
    clear hHeld0
    refine held_take (i := 0) (v := ?_) rfl (by kernel_rfl) (by kernel_rfl) (by kernel_rfl) (by rfl) (by first | assumption | exact True.intro) ?_ ?_
    rotate_left
    · (intro w hSw; (try dsimp only at hSw); (try obtain ⟨k0, k1, k2, k3, k4, k5, k6, k7, k8, k9, k10, k11, k12, k13, k14, k15, k16, k17, k18, k19, k20, k21, k22⟩ := hSw); go_simp; (try with_reducible rfl))
    try simp only [Act.put, List.setIfInBounds_toArray, List.set_cons_zero, List.set_cons_succ]
    refine held_take (i := 1) (v := ?_) rfl (by kernel_rfl) (by kernel_rfl) (by kernel_rfl) (by rfl) (by first | assumption | exact True.intro) ?_ ?_
    rotate_left
    · (intro w hSw; (try dsimp only at hSw); (try obtain ⟨k0, k1, k2, k3, k4, k5, k6, k7, k8, k9, k10, k11, k12, k13, k14, k15, k16, k17, k18, k19, k20, k21, k22⟩ := hSw); go_simp; (try with_reducible rfl))
    try simp only [Act.put, List.setIfInBounds_toArray, List.set_cons_zero, List.set_cons_succ]
    refine held_take (i := 2) (v := ?_) rfl (by kernel_rfl) (by kernel_rfl) (by kernel_rfl) (by rfl) (by first | assumption | exact True.intro) ?_ ?_
    rotate_left
    · (intro w hSw; (try dsimp only at hSw); (try obtain ⟨k0, k1, k2, k3, k4, k5, k6, k7, k8, k9, k10, k11, k12, k13, k14, k15, k16, k17, k18, k19, k20, k21, k22⟩ := hSw); go_simp; (try with_reducible rfl))
    try simp only [Act.put, List.setIfInBounds_toArray, List.set_cons_zero, List.set_cons_succ]
    refine held_op (i := 3) (by kernel_rfl) rfl (fun K hK => ?_)
    go_simp
    go_at_call 11
    (with_reducible refine (HTL.out).mono ?_)
    rintro e5 w5 ⟨rfl, hx⟩
    refine hK _ _ ?_ (fun hHeld2 => ?_)
    · exact HS.out _ (Ext.trans (ext_dr13 w4) hx)
    clear hK K hHeld1
    try simp only [Act.put, List.setIfInBounds_toArray, List.set_cons_zero, List.set_cons_succ]
    refine held_take (i := 4) (v := ?_) rfl (by kernel_rfl) (by kernel_rfl) (by kernel_rfl) (by rfl) (by first | assumption | exact True.intro) ?_ ?_
    rotate_left
    · (intro w hSw; (try dsimp only at hSw); (try obtain ⟨k0, k1, k2, k3, k4, k5, k6, k7, k8, k9, k10, k11, k12, k13, k14, k15, k16, k17, k18, k19, k20, k21, k22⟩ := hSw); go_simp; (try with_reducible rfl))
    try simp only [Act.put, List.setIfInBounds_toArray, List.set_cons_zero, List.set_cons_succ]
    refine held_take (i := 5) (v := ?_) rfl (by kernel_rfl) (by kernel_rfl) (by kernel_rfl) (by rfl) (by first | assumption | exact True.intro) ?_ ?_
    rotate_left
    · (intro w hSw; (try dsimp only at hSw); (try obtain ⟨k0, k1, k2, k3, k4, k5, k6, k7, k8, k9, k10, k11, k12, k13, k14, k15, k16, k17, k18, k19, k20, k21, k22⟩ := hSw); go_simp; (try with_reducible rfl))
    try simp only [Act.put, List.setIfInBounds_toArray, List.set_cons_zero, List.set_cons_succ]
    refine held_take (i := 6) (v := ?_) rfl (by kernel_rfl) (by kernel_rfl) (by kernel_rfl) (by rfl) (by first | assumption | exact True.intro) ?_ ?_
    rotate_left
    · (intro w hSw; (try dsimp only at hSw); (try obtain ⟨k0, k1, k2, k3, k4, k5, k6, k7, k8, k9, k10, k11, k12, k13, k14, k15, k16, k17, k18, k19, k20, k21, k22⟩ := hSw); go_simp; (try with_reducible rfl))
    try simp only [Act.put, List.setIfInBounds_toArray, List.set_cons_zero, List.set_cons_succ]
    refine held_take (i := 7) (v := ?_) rfl (by kernel_rfl) (by kernel_rfl) (by kernel_rfl) (by rfl) (by first | assumption | exact True.intro) ?_ ?_
    rotate_left
    · (intro w hSw; (try dsimp only at hSw); (try obtain ⟨k0, k1, k2, k3, k4, k5, k6, k7, k8, k9, k10, k11, k12, k13, k14, k15, k16, k17, k18, k19, k20, k21, k22⟩ := hSw); go_simp; (try with_reducible rfl))
    try simp only [Act.put, List.setIfInBounds_toArray, List.set_cons_zero, List.set_cons_succ]
    refine held_take (i := 8) (v := ?_) rfl (by kernel_rfl) (by kernel_rfl) (by kernel_rfl) (by rfl) (by first | assumption | exact True.intro) ?_ ?_
    rotate_left
    · (intro w hSw; (try dsimp only at hSw); (try obtain ⟨k0, k1, k2, k3, k4, k5, k6, k7, k8, k9, k10, k11, k12, k13, k14, k15, k16, k17, k18, k19, k20, k21, k22⟩ := hSw); go_simp; (try with_reducible rfl))
    try simp only [Act.put, List.setIfInBounds_toArray, List.set_cons_zero, List.set_cons_succ]
    refine held_take (i := 9) (v := ?_) rfl (by kernel_rfl) (by kernel_rfl) (by kernel_rfl) (by rfl) (by first | assumption | exact True.intro) ?_ ?_
    rotate_left
    · (intro w hSw; (try dsimp only at hSw); (try obtain ⟨k0, k1, k2, k3, k4, k5, k6, k7, k8, k9, k10, k11, k12, k13, k14, k15, k16, k17, k18, k19, k20, k21, k22⟩ := hSw); go_simp; (try with_reducible rfl))
    try simp only [Act.put, List.setIfInBounds_toArray, List.set_cons_zero, List.set_cons_succ]
    refine held_take (i := 10) (v := ?_) rfl (by kernel_rfl) (by kernel_rfl) (by kernel_rfl) (by rfl) (by first | assumption | exact True.intro) ?_ ?_
    rotate_left
    · (intro w hSw; (try dsimp only at hSw); (try obtain ⟨k0, k1, k2, k3, k4, k5, k6, k7, k8, k9, k10, k11, k12, k13, k14, k15, k16, k17, k18, k19, k20, k21, k22⟩ := hSw); go_simp; (try with_reducible rfl))
    try simp only [Act.put, List.setIfInBounds_toArray, List.set_cons_zero, List.set_cons_succ]
    refine held_take (i := 11) (v := ?_) rfl (by kernel_rfl) (by kernel_rfl) (by kernel_rfl) (by rfl) (by first | assumption | exact True.intro) ?_ ?_
    rotate_left
    · (intro w hSw; (try dsimp only at hSw); (try obtain ⟨k0, k1, k2, k3, k4, k5, k6, k7, k8, k9, k10, k11, k12, k13, k14, k15, k16, k17, k18, k19, k20, k21, k22⟩ := hSw); go_simp; (try with_reducible rfl))
    try simp only [Act.put, List.setIfInBounds_toArray, List.set_cons_zero, List.set_cons_succ]
    refine held_take (i := 12) (v := ?_) rfl (by kernel_rfl) (by kernel_rfl) (by kernel_rfl) (by rfl) (by first | assumption | exact True.intro) ?_ ?_
    rotate_left
    · (intro w hSw; (try dsimp only at hSw); (try obtain ⟨k0, k1, k2, k3, k4, k5, k6, k7, k8, k9, k10, k11, k12, k13, k14, k15, k16, k17, k18, k19, k20, k21, k22⟩ := hSw); go_simp; (try with_reducible rfl))
    try simp only [Act.put, List.setIfInBounds_toArray, List.set_cons_zero, List.set_cons_succ]
    refine held_take (i := 13) (v := ?_) rfl (by kernel_rfl) (by kernel_rfl) (by kernel_rfl) (by rfl) (by first | assumption | exact True.intro) ?_ ?_
    rotate_left
    · (intro w hSw; (try dsimp only at hSw); (try obtain ⟨k0, k1, k2, k3, k4, k5, k6, k7, k8, k9, k10, k11, k12, k13, k14, k15, k16, k17, k18, k19, k20, k21, k22⟩ := hSw); go_simp; (try with_reducible rfl))
    try simp only [Act.put, List.setIfInBounds_toArray, List.set_cons_zero, List.set_cons_succ]
    refine held_take (i := 14) (v := ?_) rfl (by kernel_rfl) (by kernel_rfl) (by kernel_rfl) (by rfl) (by first | assumption | exact True.intro) ?_ ?_
    rotate_left
    · (intro w hSw; (try dsimp only at hSw); (try obtain ⟨k0, k1, k2, k3, k4, k5, k6, k7, k8, k9, k10, k11, k12, k13, k14, k15, k16, k17, k18, k19, k20, k21, k22⟩ := hSw); go_simp; (try with_reducible rfl))
    try simp only [Act.put, List.setIfInBounds_toArray, List.set_cons_zero, List.set_cons_succ]
    refine held_take (i := 15) (v := ?_) rfl (by kernel_rfl) (by kernel_rfl) (by kernel_rfl) (by rfl) (by first | assumption | exact True.intro) ?_ ?_
    rotate_left
    · (intro w hSw; (try dsimp only at hSw); (try obtain ⟨k0, k1, k2, k3, k4, k5, k6, k7, k8, k9, k10, k11, k12, k13, k14, k15, k16, k17, k18, k19, k20, k21, k22⟩ := hSw); go_simp; (try with_reducible rfl))
    try simp only [Act.put, List.setIfInBounds_toArray, List.set_cons_zero, List.set_cons_succ]
    refine held_take (i := 16) (v := ?_) rfl (by kernel_rfl) (by kernel_rfl) (by kernel_rfl) (by rfl) (by first | assumption | exact True.intro) ?_ ?_
    rotate_left
    · (intro w hSw; (try dsimp only at hSw); (try obtain ⟨k0, k1, k2, k3, k4, k5, k6, k7, k8, k9, k10, k11, k12, k13, k14, k15, k16, k17, k18, k19, k20, k21, k22⟩ := hSw); go_simp; (try with_reducible rfl))
    try simp only [Act.put, List.setIfInBounds_toArray, List.set_cons_zero, List.set_cons_succ]
    refine held_take (i := 17) (v := ?_) rfl (by kernel_rfl) (by kernel_rfl) (by kernel_rfl) (by rfl) (by first | assumption | exact True.intro) ?_ ?_
    rotate_left
    · (intro w hSw; (try dsimp only at hSw); (try obtain ⟨k0, k1, k2, k3, k4, k5, k6, k7, k8, k9, k10, k11, k12, k13, k14, k15, k16, k17, k18, k19, k20, k21, k22⟩ := hSw); go_simp; (try with_reducible rfl))
    try simp only [Act.put, List.setIfInBounds_toArray, List.set_cons_zero, List.set_cons_succ]
    refine held_take (i := 18) (v := ?_) rfl (by kernel_rfl) (by kernel_rfl) (by kernel_rfl) (by rfl) (by first | assumption | exact True.intro) ?_ ?_
    rotate_left
    · (intro w hSw; (try dsimp only at hSw); (try obtain ⟨k0, k1, k2, k3, k4, k5, k6, k7, k8, k9, k10, k11, k12, k13, k14, k15, k16, k17, k18, k19, k20, k21, k22⟩ := hSw); go_simp; (try with_reducible rfl))
    try simp only [Act.put, List.setIfInBounds_toArray, List.set_cons_zero, List.set_cons_succ]
    refine held_take (i := 19) (v := ?_) rfl (by kernel_rfl) (by kernel_rfl) (by kernel_rfl) (by rfl) (by first | assumption | exact True.intro) ?_ ?_
    rotate_left
    · (intro w hSw; (try dsimp only at hSw); (try obtain ⟨k0, k1, k2, k3, k4, k5, k6, k7, k8, k9, k10, k11, k12, k13, k14, k15, k16, k17, k18, k19, k20, k21, k22⟩ := hSw); go_simp; (try with_reducible rfl))
    try simp only [Act.put, List.setIfInBounds_toArray, List.set_cons_zero, List.set_cons_succ]
    refine held_take (i := 20) (v := ?_) rfl (by kernel_rfl) (by kernel_rfl) (by kernel_rfl) (by rfl) (by first | assumption | exact True.intro) ?_ ?_
    rotate_left
    · (intro w hSw; (try dsimp only at hSw); (try obtain ⟨k0, k1, k2, k3, k4, k5, k6, k7, k8, k9, k10, k11, k12, k13, k14, k15, k16, k17, k18, k19, k20, k21, k22⟩ := hSw); go_simp; (try with_reducible rfl))
    try simp only [Act.put, List.setIfInBounds_toArray, List.set_cons_zero, List.set_cons_succ]
    refine held_take (i := 21) (v := ?_) rfl (by kernel_rfl) (by kernel_rfl) (by kernel_rfl) (by rfl) (by first | assumption | exact True.intro) ?_ ?_
    rotate_left
    · (intro w hSw; (try dsimp only at hSw); (try obtain ⟨k0, k1, k2, k3, k4, k5, k6, k7, k8, k9, k10, k11, k12, k13, k14, k15, k16, k17, k18, k19, k20, k21, k22⟩ := hSw); go_simp; (try with_reducible rfl))
    try simp only [Act.put, List.setIfInBounds_toArray, List.set_cons_zero, List.set_cons_succ]
    refine held_take (i := 22) (v := ?_) rfl (by kernel_rfl) (by kernel_rfl) (by kernel_rfl) (by rfl) (by first | assumption | exact True.intro) ?_ ?_
    rotate_left
    · (intro w hSw; (try dsimp only at hSw); (try obtain ⟨k0, k1, k2, k3, k4, k5, k6, k7, k8, k9, k10, k11, k12, k13, k14, k15, k16, k17, k18, k19, k20, k21, k22⟩ := hSw); go_simp; (try with_reducible rfl))
    try simp only [Act.put, List.setIfInBounds_toArray, List.set_cons_zero, List.set_cons_succ]
    refine held_take (i := 23) (v := ?_) rfl (by kernel_rfl) (by kernel_rfl) (by kernel_rfl) (by rfl) (by first | assumption | exact True.intro) ?_ ?_
    rotate_left
    · (intro w hSw; (try dsimp only at hSw); (try obtain ⟨k0, k1, k2, k3, k4, k5, k6, k7, k8, k9, k10, k11, k12, k13, k14, k15, k16, k17, k18, k19, k20, k21, k22⟩ := hSw); go_simp; (try with_reducible rfl))
    try simp only [Act.put, List.setIfInBounds_toArray, List.set_cons_zero, List.set_cons_succ]
    refine held_take (i := 24) (v := ?_) rfl (by kernel_rfl) (by kernel_rfl) (by kernel_rfl) (by rfl) (by first | assumption | exact True.intro) ?_ ?_
    rotate_left
    · (intro w hSw; (try dsimp only at hSw); (try obtain ⟨k0, k1, k2, k3, k4, k5, k6, k7, k8, k9, k10, k11, k12, k13, k14, k15, k16, k17, k18, k19, k20, k21, k22⟩ := hSw); go_simp; (try with_reducible rfl))
    try simp only [Act.put, List.setIfInBounds_toArray, List.set_cons_zero, List.set_cons_succ]
    refine held_take (i := 25) (v := ?_) rfl (by kernel_rfl) (by kernel_rfl) (by kernel_rfl) (by rfl) (by first | assumption | exact True.intro) ?_ ?_
    rotate_left
    · (intro w hSw; (try dsimp only at hSw); (try obtain ⟨k0, k1, k2, k3, k4, k5, k6, k7, k8, k9, k10, k11, k12, k13, k14, k15, k16, k17, k18, k19, k20, k21, k22⟩ := hSw); go_simp; (try with_reducible rfl))
    try simp only [Act.put, List.setIfInBounds_toArray, List.set_cons_zero, List.set_cons_succ]
    refine held_take (i := 26) (v := ?_) rfl (by kernel_rfl) (by kernel_rfl) (by kernel_rfl) (by rfl) (by first | assumption | exact True.intro) ?_ ?_
    rotate_left
    · (intro w hSw; (try dsimp only at hSw); (try obtain ⟨k0, k1, k2, k3, k4, k5, k6, k7, k8, k9, k10, k11, k12, k13, k14, k15, k16, k17, k18, k19, k20, k21, k22⟩ := hSw); go_simp; (try with_reducible rfl))
    try simp only [Act.put, List.setIfInBounds_toArray, List.set_cons_zero, List.set_cons_succ]
    refine held_take (i := 27) (v := ?_) rfl (by kernel_rfl) (by kernel_rfl) (by kernel_rfl) (by rfl) (by first | assumption | exact True.intro) ?_ ?_
    rotate_left
    · (intro w hSw; (try dsimp only at hSw); (try obtain ⟨k0, k1, k2, k3, k4, k5, k6, k7, k8, k9, k10, k11, k12, k13, k14, k15, k16, k17, k18, k19, k20, k21, k22⟩ := hSw); go_simp; (try with_reducible rfl))
    try simp only [Act.put, List.setIfInBounds_toArray, List.set_cons_zero, List.set_cons_succ]
    refine held_take (i := 28) (v := ?_) rfl (by kernel_rfl) (by kernel_rfl) (by kernel_rfl) (by rfl) (by first | assumption | exact True.intro) ?_ ?_
    rotate_left
    · (intro w hSw; (try dsimp only at hSw); (try obtain ⟨k0, k1, k2, k3, k4, k5, k6, k7, k8, k9, k10, k11, k12, k13, k14, k15, k16, k17, k18, k19, k20, k21, k22⟩ := hSw); go_simp; (try with_reducible rfl))
    try simp only [Act.put, List.setIfInBounds_toArray, List.set_cons_zero, List.set_cons_succ]
    refine held_take (i := 29) (v := ?_) rfl (by kernel_rfl) (by kernel_rfl) (by kernel_rfl) (by rfl) (by first | assumption | exact True.intro) ?_ ?_
    rotate_left
    · (intro w hSw; (try dsimp only at hSw); (try obtain ⟨k0, k1, k2, k3, k4, k5, k6, k7, k8, k9, k10, k11, k12, k13, k14, k15, k16, k17, k18, k19, k20, k21, k22⟩ := hSw); go_simp; (try with_reducible rfl))
    try simp only [Act.put, List.setIfInBounds_toArray, List.set_cons_zero, List.set_cons_succ]
    refine held_take (i := 30) (v := ?_) rfl (by kernel_rfl) (by kernel_rfl) (by kernel_rfl) (by rfl) (by first | assumption | exact True.intro) ?_ ?_
    rotate_left
    · (intro w hSw; (try dsimp only at hSw); (try obtain ⟨k0, k1, k2, k3, k4, k5, k6, k7, k8, k9, k10, k11, k12, k13, k14, k15, k16, k17, k18, k19, k20, k21, k22⟩ := hSw); go_simp; (try with_reducible rfl))
    try simp only [Act.put, List.setIfInBounds_toArray, List.set_cons_zero, List.set_cons_succ]
    refine held_take (i := 31) (v := ?_) rfl (by kernel_rfl) (by kernel_rfl) (by kernel_rfl) (by rfl) (by first | assumption | exact True.intro) ?_ ?_
    rotate_left
    · (intro w hSw; (try dsimp only at hSw); (try obtain ⟨k0, k1, k2, k3, k4, k5, k6, k7, k8, k9, k10, k11, k12, k13, k14, k15, k16, k17, k18, k19, k20, k21, k22⟩ := hSw); go_simp; (try with_reducible rfl))
    try simp only [Act.put, List.setIfInBounds_toArray, List.set_cons_zero, List.set_cons_succ]
    refine held_take (i := 32) (v := ?_) rfl (by kernel_rfl) (by kernel_rfl) (by kernel_rfl) (by rfl) (by first | assumption | exact True.intro) ?_ ?_
    rotate_left
    · (intro w hSw; (try dsimp only at hSw); (try obtain ⟨k0, k1, k2, k3, k4, k5, k6, k7, k8, k9, k10, k11, k12, k13, k14, k15, k16, k17, k18, k19, k20, k21, k22⟩ := hSw); go_simp; (try with_reducible rfl))
    try simp only [Act.put, List.setIfInBounds_toArray, List.set_cons_zero, List.set_cons_succ]
    refine held_take (i := 33) (v := ?_) rfl (by kernel_rfl) (by kernel_rfl) (by kernel_rfl) (by rfl) (by first | assumption | exact True.intro) ?_ ?_
    rotate_left
    · (intro w hSw; (try dsimp only at hSw); (try obtain ⟨k0, k1, k2, k3, k4, k5, k6, k7, k8, k9, k10, k11, k12, k13, k14, k15, k16, k17, k18, k19, k20, k21, k22⟩ := hSw); go_simp; (try with_reducible rfl))
    try simp only [Act.put, List.setIfInBounds_toArray, List.set_cons_zero, List.set_cons_succ]
    refine held_take (i := 34) (v := ?_) rfl (by kernel_rfl) (by kernel_rfl) (by kernel_rfl) (by rfl) (by first | assumption | exact True.intro) ?_ ?_
    rotate_left
    · (intro w hSw; (try dsimp only at hSw); (try obtain ⟨k0, k1, k2, k3, k4, k5, k6, k7, k8, k9, k10, k11, k12, k13, k14, k15, k16, k17, k18, k19, k20, k21, k22⟩ := hSw); go_simp; (try with_reducible rfl))
    try simp only [Act.put, List.setIfInBounds_toArray, List.set_cons_zero, List.set_cons_succ]
    refine held_take (i := 35) (v := ?_) rfl (by kernel_rfl) (by kernel_rfl) (by kernel_rfl) (by rfl) (by first | assumption | exact True.intro) ?_ ?_
    rotate_left
    · (intro w hSw; (try dsimp only at hSw); (try obtain ⟨k0, k1, k2, k3, k4, k5, k6, k7, k8, k9, k10, k11, k12, k13, k14, k15, k16, k17, k18, k19, k20, k21, k22⟩ := hSw); go_simp; (try with_reducible rfl))
    try simp only [Act.put, List.setIfInBounds_toArray, List.set_cons_zero, List.set_cons_succ]
    refine held_take (i := 36) (v := ?_) rfl (by kernel_rfl) (by kernel_rfl) (by kernel_rfl) (by rfl) (by first | assumption | exact True.intro) ?_ ?_
    rotate_left
    · (intro w hSw; (try dsimp only at hSw); (try obtain ⟨k0, k1, k2, k3, k4, k5, k6, k7, k8, k9, k10, k11, k12, k13, k14, k15, k16, k17, k18, k19, k20, k21, k22⟩ := hSw); go_simp; (try with_reducible rfl))
    try simp only [Act.put, List.setIfInBounds_toArray, List.set_cons_zero, List.set_cons_succ]
    refine held_take (i := 37) (v := ?_) rfl (by kernel_rfl) (by kernel_rfl) (by kernel_rfl) (by rfl) (by first | assumption | exact True.intro) ?_ ?_
    rotate_left
    · (intro w hSw; (try dsimp only at hSw); (try obtain ⟨k0, k1, k2, k3, k4, k5, k6, k7, k8, k9, k10, k11, k12, k13, k14, k15, k16, k17, k18, k19, k20, k21, k22⟩ := hSw); go_simp; (try with_reducible rfl))
    try simp only [Act.put, List.setIfInBounds_toArray, List.set_cons_zero, List.set_cons_succ]
    refine held_take (i := 38) (v := ?_) rfl (by kernel_rfl) (by kernel_rfl) (by kernel_rfl) (by rfl) (by first | assumption | exact True.intro) ?_ ?_
    rotate_left
    · (intro w hSw; (try dsimp only at hSw); (try obtain ⟨k0, k1, k2, k3, k4, k5, k6, k7, k8, k9, k10, k11, k12, k13, k14, k15, k16, k17, k18, k19, k20, k21, k22⟩ := hSw); go_simp; (try with_reducible rfl))
    try simp only [Act.put, List.setIfInBounds_toArray, List.set_cons_zero, List.set_cons_succ]
    refine held_take (i := 39) (v := ?_) rfl (by kernel_rfl) (by kernel_rfl) (by kernel_rfl) (by rfl) (by first | assumption | exact True.intro) ?_ ?_
    rotate_left
    · (intro w hSw; (try dsimp only at hSw); (try obtain ⟨k0, k1, k2, k3, k4, k5, k6, k7, k8, k9, k10, k11, k12, k13, k14, k15, k16, k17, k18, k19, k20, k21, k22⟩ := hSw); go_simp; (try with_reducible rfl))
    try simp only [Act.put, List.setIfInBounds_toArray, List.set_cons_zero, List.set_cons_succ]
    refine held_take (i := 40) (v := ?_) rfl (by kernel_rfl) (by kernel_rfl) (by kernel_rfl) (by rfl) (by first | assumption | exact True.intro) ?_ ?_
    rotate_left
    · (intro w hSw; (try dsimp only at hSw); (try obtain ⟨k0, k1, k2, k3, k4, k5, k6, k7, k8, k9, k10, k11, k12, k13, k14, k15, k16, k17, k18, k19, k20, k21, k22⟩ := hSw); go_simp; (try with_reducible rfl))
    try simp only [Act.put, List.setIfInBounds_toArray, List.set_cons_zero, List.set_cons_succ]
    refine held_take (i := 41) (v := ?_) rfl (by kernel_rfl) (by kernel_rfl) (by kernel_rfl) (by rfl) (by first | assumption | exact True.intro) ?_ ?_
    rotate_left
    · (intro w hSw; (try dsimp only at hSw); (try obtain ⟨k0, k1, k2, k3, k4, k5, k6, k7, k8, k9, k10, k11, k12, k13, k14, k15, k16, k17, k18, k19, k20, k21, k22⟩ := hSw); go_simp; (try with_reducible rfl))
    try simp only [Act.put, List.setIfInBounds_toArray, List.set_cons_zero, List.set_cons_succ]
    refine held_take (i := 42) (v := ?_) rfl (by kernel_rfl) (by kernel_rfl) (by kernel_rfl) (by rfl) (by first | assumption | exact True.intro) ?_ ?_
    rotate_left
    · (intro w hSw; (try dsimp only at hSw); (try obtain ⟨k0, k1, k2, k3, k4, k5, k6, k7, k8, k9, k10, k11, k12, k13, k14, k15, k16, k17, k18, k19, k20, k21, k22⟩ := hSw); go_simp; (try with_reducible rfl))
    try simp only [Act.put, List.setIfInBounds_toArray, List.set_cons_zero, List.set_cons_succ]
    refine held_take (i := 43) (v := ?_) rfl (by kernel_rfl) (by kernel_rfl) (by kernel_rfl) (by rfl) (by first | assumption | exact True.intro) ?_ ?_
    rotate_left
    · (intro w hSw; (try dsimp only at hSw); (try obtain ⟨k0, k1, k2, k3, k4, k5, k6, k7, k8, k9, k10, k11, k12, k13, k14, k15, k16, k17, k18, k19, k20, k21, k22⟩ := hSw); go_simp; (try with_reducible rfl))
    try simp only [Act.put, List.setIfInBounds_toArray, List.set_cons_zero, List.set_cons_succ]
    refine held_take (i := 44) (v := ?_) rfl (by kernel_rfl) (by kernel_rfl) (by kernel_rfl) (by rfl) (by first | assumption | exact True.intro) ?_ ?_
    rotate_left
    · (intro w hSw; (try dsimp only at hSw); (try obtain ⟨k0, k1, k2, k3, k4, k5, k6, k7, k8, k9, k10, k11, k12, k13, k14, k15, k16, k17, k18, k19, k20, k21, k22⟩ := hSw); go_simp; (try with_reducible rfl))
    try simp only [Act.put, List.setIfInBounds_toArray, List.set_cons_zero, List.set_cons_succ]
    refine held_take (i := 45) (v := ?_) rfl (by kernel_rfl) (by kernel_rfl) (by kernel_rfl) (by rfl) (by first | assumption | exact True.intro) ?_ ?_
    rotate_left
    · (intro w hSw; (try dsimp only at hSw); (try obtain ⟨k0, k1, k2, k3, k4, k5, k6, k7, k8, k9, k10, k11, k12, k13, k14, k15, k16, k17, k18, k19, k20, k21, k22⟩ := hSw); go_simp; (try with_reducible rfl))
    try simp only [Act.put, List.setIfInBounds_toArray, List.set_cons_zero, List.set_cons_succ]
    refine held_take (i := 46) (v := ?_) rfl (by kernel_rfl) (by kernel_rfl) (by kernel_rfl) (by rfl) (by first | assumption | exact True.intro) ?_ ?_
    rotate_left
    · (intro w hSw; (try dsimp only at hSw); (try obtain ⟨k0, k1, k2, k3, k4, k5, k6, k7, k8, k9, k10, k11, k12, k13, k14, k15, k16, k17, k18, k19, k20, k21, k22⟩ := hSw); go_simp; (try with_reducible rfl))
    try simp only [Act.put, List.setIfInBounds_toArray, List.set_cons_zero, List.set_cons_succ]
    refine held_take (i := 47) (v := ?_) rfl (by kernel_rfl) (by kernel_rfl) (by kernel_rfl) (by rfl) (by first | assumption | exact True.intro) ?_ ?_
    rotate_left
    · (intro w hSw; (try dsimp only at hSw); (try obtain ⟨k0, k1, k2, k3, k4, k5, k6, k7, k8, k9, k10, k11, k12, k13, k14, k15, k16, k17, k18, k19, k20, k21, k22⟩ := hSw); go_simp; (try with_reducible rfl))
    try simp only [Act.put, List.setIfInBounds_toArray, List.set_cons_zero, List.set_cons_succ]
    refine held_take (i := 48) (v := ?_) rfl (by kernel_rfl) (by kernel_rfl) (by kernel_rfl) (by rfl) (by first | assumption | exact True.intro) ?_ ?_
    rotate_left
    · (intro w hSw; (try dsimp only at hSw); (try obtain ⟨k0, k1, k2, k3, k4, k5, k6, k7, k8, k9, k10, k11, k12, k13, k14, k15, k16, k17, k18, k19, k20, k21, k22⟩ := hSw); go_simp; (try with_reducible rfl))
    try simp only [Act.put, List.setIfInBounds_toArray, List.set_cons_zero, List.set_cons_succ]
    refine held_take (i := 49) (v := ?_) rfl (by kernel_rfl) (by kernel_rfl) (by kernel_rfl) (by rfl) (by first | assumption | exact True.intro) ?_ ?_
    rotate_left
    · (intro w hSw; (try dsimp only at hSw); (try obtain ⟨k0, k1, k2, k3, k4, k5, k6, k7, k8, k9, k10, k11, k12, k13, k14, k15, k16, k17, k18, k19, k20, k21, k22⟩ := hSw); go_simp; (try with_reducible rfl))
    try simp only [Act.put, List.setIfInBounds_toArray, List.set_cons_zero, List.set_cons_succ]
    refine held_take (i := 50) (v := ?_) rfl (by kernel_rfl) (by kernel_rfl) (by kernel_rfl) (by rfl) (by first | assumption | exact True.intro) ?_ ?_
    rotate_left
    · (intro w hSw; (try dsimp only at hSw); (try obtain ⟨k0, k1, k2, k3, k4, k5, k6, k7, k8, k9, k10, k11, k12, k13, k14, k15, k16, k17, k18, k19, k20, k21, k22⟩ := hSw); go_simp; (try with_reducible rfl))
    try simp only [Act.put, List.setIfInBounds_toArray, List.set_cons_zero, List.set_cons_succ]
    refine held_take (i := 51) (v := ?_) rfl (by kernel_rfl) (by kernel_rfl) (by kernel_rfl) (by rfl) (by first | assumption | exact True.intro) ?_ ?_
    rotate_left
    · (intro w hSw; (try dsimp only at hSw); (try obtain ⟨k0, k1, k2, k3, k4, k5, k6, k7, k8, k9, k10, k11, k12, k13, k14, k15, k16, k17, k18, k19, k20, k21, k22⟩ := hSw); go_simp; (try with_reducible rfl))
    try simp only [Act.put, List.setIfInBounds_toArray, List.set_cons_zero, List.set_cons_succ]
    refine held_take (i := 52) (v := ?_) rfl (by kernel_rfl) (by kernel_rfl) (by kernel_rfl) (by rfl) (by first | assumption | exact True.intro) ?_ ?_
    rotate_left
    · (intro w hSw; (try dsimp only at hSw); (try obtain ⟨k0, k1, k2, k3, k4, k5, k6, k7, k8, k9, k10, k11, k12, k13, k14, k15, k16, k17, k18, k19, k20, k21, k22⟩ := hSw); go_simp; (try with_reducible rfl))
    try simp only [Act.put, List.setIfInBounds_toArray, List.set_cons_zero, List.set_cons_succ]
    refine held_take (i := 53) (v := ?_) rfl (by kernel_rfl) (by kernel_rfl) (by kernel_rfl) (by rfl) (by first | assumption | exact True.intro) ?_ ?_
    rotate_left
    · (intro w hSw; (try dsimp only at hSw); (try obtain ⟨k0, k1, k2, k3, k4, k5, k6, k7, k8, k9, k10, k11, k12, k13, k14, k15, k16, k17, k18, k19, k20, k21, k22⟩ := hSw); go_simp; (try with_reducible rfl))
    try simp only [Act.put, List.setIfInBounds_toArray, List.set_cons_zero, List.set_cons_succ]
    refine held_take (i := 54) (v := ?_) rfl (by kernel_rfl) (by kernel_rfl) (by kernel_rfl) (by rfl) (by first | assumption | exact True.intro) ?_ ?_
    rotate_left
    · (intro w hSw; (try dsimp only at hSw); (try obtain ⟨k0, k1, k2, k3, k4, k5, k6, k7, k8, k9, k10, k11, k12, k13, k14, k15, k16, k17, k18, k19, k20, k21, k22⟩ := hSw); go_simp; (try with_reducible rfl))
    try simp only [Act.put, List.setIfInBounds_toArray, List.set_cons_zero, List.set_cons_succ]
    refine held_take (i := 55) (v := ?_) rfl (by kernel_rfl) (by kernel_rfl) (by kernel_rfl) (by rfl) (by first | assumption | exact True.intro) ?_ ?_
    rotate_left
    · (intro w hSw; (try dsimp only at hSw); (try obtain ⟨k0, k1, k2, k3, k4, k5, k6, k7, k8, k9, k10, k11, k12, k13, k14, k15, k16, k17, k18, k19, k20, k21, k22⟩ := hSw); go_simp; (try with_reducible rfl))
    try simp only [Act.put, List.setIfInBounds_toArray, List.set_cons_zero, List.set_cons_succ]
    refine held_take (i := 56) (v := ?_) rfl (by kernel_rfl) (by kernel_rfl) (by kernel_rfl) (by rfl) (by first | assumption | exact True.intro) ?_ ?_
    rotate_left
    · (intro w hSw; (try dsimp only at hSw); (try obtain ⟨k0, k1, k2, k3, k4, k5, k6, k7, k8, k9, k10, k11, k12, k13, k14, k15, k16, k17, k18, k19, k20, k21, k22⟩ := hSw); go_simp; (try with_reducible rfl))
    try simp only [Act.put, List.setIfInBounds_toArray, List.set_cons_zero, List.set_cons_succ]
    refine held_take (i := 57) (v := ?_) rfl (by kernel_rfl) (by kernel_rfl) (by kernel_rfl) (by rfl) (by first | assumption | exact True.intro) ?_ ?_
    rotate_left
    · (intro w hSw; (try dsimp only at hSw); (try obtain ⟨k0, k1, k2, k3, k4, k5, k6, k7, k8, k9, k10, k11, k12, k13, k14, k15, k16, k17, k18, k19, k20, k21, k22⟩ := hSw); go_simp; (try with_reducible rfl))
    try simp only [Act.put, List.setIfInBounds_toArray, List.set_cons_zero, List.set_cons_succ]
    refine held_take (i := 58) (v := ?_) rfl (by kernel_rfl) (by kernel_rfl) (by kernel_rfl) (by rfl) (by first | assumption | exact True.intro) ?_ ?_
    rotate_left
    · (intro w hSw; (try dsimp only at hSw); (try obtain ⟨k0, k1, k2, k3, k4, k5, k6, k7, k8, k9, k10, k11, k12, k13, k14, k15, k16, k17, k18, k19, k20, k21, k22⟩ := hSw); go_simp; (try with_reducible rfl))
    try simp only [Act.put, List.setIfInBounds_toArray, List.set_cons_zero, List.set_cons_succ]
    refine held_take (i := 59) (v := ?_) rfl (by kernel_rfl) (by kernel_rfl) (by kernel_rfl) (by rfl) (by first | assumption | exact True.intro) ?_ ?_
    rotate_left
    · (intro w hSw; (try dsimp only at hSw); (try obtain ⟨k0, k1, k2, k3, k4, k5, k6, k7, k8, k9, k10, k11, k12, k13, k14, k15, k16, k17, k18, k19, k20, k21, k22⟩ := hSw); go_simp; (try with_reducible rfl))
    try simp only [Act.put, List.setIfInBounds_toArray, List.set_cons_zero, List.set_cons_succ]
    refine held_take (i := 60) (v := ?_) rfl (by kernel_rfl) (by kernel_rfl) (by kernel_rfl) (by rfl) (by first | assumption | exact True.intro) ?_ ?_
    rotate_left
    · (intro w hSw; (try dsimp only at hSw); (try obtain ⟨k0, k1, k2, k3, k4, k5, k6, k7, k8, k9, k10, k11, k12, k13, k14, k15, k16, k17, k18, k19, k20, k21, k22⟩ := hSw); go_simp; (try with_reducible rfl))
    try simp only [Act.put, List.setIfInBounds_toArray, List.set_cons_zero, List.set_cons_succ]
    refine held_take (i := 61) (v := ?_) rfl (by kernel_rfl) (by kernel_rfl) (by kernel_rfl) (by rfl) (by first | assumption | exact True.intro) ?_ ?_
    rotate_left
    · (intro w hSw; (try dsimp only at hSw); (try obtain ⟨k0, k1, k2, k3, k4, k5, k6, k7, k8, k9, k10, k11, k12, k13, k14, k15, k16, k17, k18, k19, k20, k21, k22⟩ := hSw); go_simp; (try with_reducible rfl))
    try simp only [Act.put, List.setIfInBounds_toArray, List.set_cons_zero, List.set_cons_succ]
    refine held_take (i := 62) (v := ?_) rfl (by kernel_rfl) (by kernel_rfl) (by kernel_rfl) (by rfl) (by first | assumption | exact True.intro) ?_ ?_
    rotate_left
    · (intro w hSw; (try dsimp only at hSw); (try obtain ⟨k0, k1, k2, k3, k4, k5, k6, k7, k8, k9, k10, k11, k12, k13, k14, k15, k16, k17, k18, k19, k20, k21, k22⟩ := hSw); go_simp; (try with_reducible rfl))
    try simp only [Act.put, List.setIfInBounds_toArray, List.set_cons_zero, List.set_cons_succ]
    refine held_take (i := 63) (v := ?_) rfl (by kernel_rfl) (by kernel_rfl) (by kernel_rfl) (by rfl) (by first | assumption | exact True.intro) ?_ ?_
    rotate_left
    · (intro w hSw; (try dsimp only at hSw); (try obtain ⟨k0, k1, k2, k3, k4, k5, k6, k7, k8, k9, k10, k11, k12, k13, k14, k15, k16, k17, k18, k19, k20, k21, k22⟩ := hSw); go_simp; (try with_reducible rfl))
    try simp only [Act.put, List.setIfInBounds_toArray, List.set_cons_zero, List.set_cons_succ]
    refine held_take (i := 64) (v := ?_) rfl (by kernel_rfl) (by kernel_rfl) (by kernel_rfl) (by rfl) (by first | assumption | exact True.intro) ?_ ?_
    rotate_left
    · (intro w hSw; (try dsimp only at hSw); (try obtain ⟨k0, k1, k2, k3, k4, k5, k6, k7, k8, k9, k10, k11, k12, k13, k14, k15, k16, k17, k18, k19, k20, k21, k22⟩ := hSw); go_simp; (try with_reducible rfl))
    try simp only [Act.put, List.setIfInBounds_toArray, List.set_cons_zero, List.set_cons_succ]
    refine held_take (i := 65) (v := ?_) rfl (by kernel_rfl) (by kernel_rfl) (by kernel_rfl) (by rfl) (by first | assumption | exact True.intro) ?_ ?_
    rotate_left
    · (intro w hSw; (try dsimp only at hSw); (try obtain ⟨k0, k1, k2, k3, k4, k5, k6, k7, k8, k9, k10, k11, k12, k13, k14, k15, k16, k17, k18, k19, k20, k21, k22⟩ := hSw); go_simp; (try with_reducible rfl))
    try simp only [Act.put, List.setIfInBounds_toArray, List.set_cons_zero, List.set_cons_succ]
    refine held_take (i := 66) (v := ?_) rfl (by kernel_rfl) (by kernel_rfl) (by kernel_rfl) (by rfl) (by first | assumption | exact True.intro) ?_ ?_
    rotate_left
    · (intro w hSw; (try dsimp only at hSw); (try obtain ⟨k0, k1, k2, k3, k4, k5, k6, k7, k8, k9, k10, k11, k12, k13, k14, k15, k16, k17, k18, k19, k20, k21, k22⟩ := hSw); go_simp; (try with_reducible rfl))
    try simp only [Act.put, List.setIfInBounds_toArray, List.set_cons_zero, List.set_cons_succ]
    refine held_take (i := 67) (v := ?_) rfl (by kernel_rfl) (by kernel_rfl) (by kernel_rfl) (by rfl) (by first | assumption | exact True.intro) ?_ ?_
    rotate_left
    · (intro w hSw; (try dsimp only at hSw); (try obtain ⟨k0, k1, k2, k3, k4, k5, k6, k7, k8, k9, k10, k11, k12, k13, k14, k15, k16, k17, k18, k19, k20, k21, k22⟩ := hSw); go_simp; (try with_reducible rfl))
    try simp only [Act.put, List.setIfInBounds_toArray, List.set_cons_zero, List.set_cons_succ]
    refine held_take (i := 68) (v := ?_) rfl (by kernel_rfl) (by kernel_rfl) (by kernel_rfl) (by rfl) (by first | assumption | exact True.intro) ?_ ?_
    rotate_left
    · (intro w hSw; (try dsimp only at hSw); (try obtain ⟨k0, k1, k2, k3, k4, k5, k6, k7, k8, k9, k10, k11, k12, k13, k14, k15, k16, k17, k18, k19, k20, k21, k22⟩ := hSw); go_simp; (try with_reducible rfl))
    try simp only [Act.put, List.setIfInBounds_toArray, List.set_cons_zero, List.set_cons_succ]
    refine held_take (i := 69) (v := ?_) rfl (by kernel_rfl) (by kernel_rfl) (by kernel_rfl) (by rfl) (by first | assumption | exact True.intro) ?_ ?_
    rotate_left
    · (intro w hSw; (try dsimp only at hSw); (try obtain ⟨k0, k1, k2, k3, k4, k5, k6, k7, k8, k9, k10, k11, k12, k13, k14, k15, k16, k17, k18, k19, k20, k21, k22⟩ := hSw); go_simp; (try with_reducible rfl))
    try simp only [Act.put, List.setIfInBounds_toArray, List.set_cons_zero, List.set_cons_succ]
    refine held_take (i := 70) (v := ?_) rfl (by kernel_rfl) (by kernel_rfl) (by kernel_rfl) (by rfl) (by first | assumption | exact True.intro) ?_ ?_
    rotate_left
    · (intro w hSw; (try dsimp only at hSw); (try obtain ⟨k0, k1, k2, k3, k4, k5, k6, k7, k8, k9, k10, k11, k12, k13, k14, k15, k16, k17, k18, k19, k20, k21, k22⟩ := hSw); go_simp; (try with_reducible rfl))
    try simp only [Act.put, List.setIfInBounds_toArray, List.set_cons_zero, List.set_cons_succ]
    refine wpAnyH_done (by kernel_rfl) ?_ _
    refine NoPanic.normal ?_
    clear hHeld2
    have HX5 := Lib.hid (HX.out.trans (Ext.trans (ext_dr13 w4) hx))
    clear hx
    go_wp2
    go_ret
    exact ⟨rfl, HX5.out⟩

end Go.Proofs.Ytddhbokknbmdfab

/- Two closed facts on the program that every row asks. -/
namespace Go.Proofs.Ytddhbokknbmdfab
open Go.RowKit

theorem Try.ownKnob : ownKnob Try.prog.godebug = none := by kernel_rfl

theorem Try.laidOut : laidOutB Try.prog = true := by kernel_rfl

end Go.Proofs.Ytddhbokknbmdfab

/- Layer 13: agents and messages as arguments. -/
namespace Go.Proofs.Ytddhbokknbmdfab
open Go.ChangeShapes Go.WideShapes Go.ChangeAt Go.RowKit Go.Deep

section
variable {H : Type} {enc : TypeId × Value → H} {P : Program}
theorem dec_nums13 {w : World} {base : Nat} {held : Bool} {r : Reach} {b0 : Nat} {t : TypeId} {fs : Array Field} {v : Value} {d : DataW H} {p : List MemPlace} (hs : P.underlying t = some (.struct fs)) (hone : oneCellFields P fs = true) (hC : P.cellsOf t = fs.size)
    {ti : TypeId} (hta : (fs.all fun f => f.type == ti) = true) (hi : P.underlying ti = some (.int .i64)) (hv : Value.okWide P w r b0 t v) (h : DataW.Trod enc P w base (fun _ => true) held t v d p) : ∃ l : List Int, l.length = fs.size ∧ v = .agg (l.map (Value.int .i64)).toArray := by
  obtain ⟨cs, rfl, hsz⟩ := okWide_struct hs hv
  obtain ⟨fuel, hf⟩ := h
  have hti : ∀ f ∈ fs, P.underlying f.type = some (.int .i64) := fun f hf => by
    obtain ⟨i, hlt, rfl⟩ := Array.getElem_of_mem hf
    have := Array.all_eq_true.1 hta i hlt
    rw [beq_iff_eq] at this
    rw [this]
    exact hi
  obtain ⟨hl, hp⟩ := struct_parts hs hone hC hf
  have hl' : cs.size = fs.size := hsz.trans hC
  refine ⟨cs.toList.map intOf, by simpa using hl', ?_⟩
  congr 1
  apply Array.ext'
  apply List.ext_getElem?
  intro i
  by_cases hi : i < fs.size
  · obtain ⟨u, n, y, hu, hy⟩ := hp i fs[i] (Array.getElem?_eq_getElem hi)
    obtain ⟨z, hz, _, _⟩ := DataW.trod_int (hti _ (Array.getElem_mem hi)) hy
    simp only [List.cons.injEq, and_true] at hz
    subst hz
    have hu' : cs.toList[i]? = some (.int .i64 z) := hu
    simp only [List.getElem?_map, hu', Option.map_some, intOf]
  · rw [List.getElem?_eq_none (by simp; omega), List.getElem?_eq_none (by simp; omega)]

/-! ### Slices of structs -/


end

section
variable {H : Type} {enc : TypeId × Value → H} {w : World} {base : Nat} {held : Bool} {r : Reach} {b0 : Nat}
set_option maxRecDepth 100000 in
theorem dec_msg {v : Value} {d : DataW H} {p : List MemPlace} (hv : Value.okWide Try.prog w r b0 25 v) (h : DataW.Trod enc Try.prog w base (fun _ => true) held 25 v d p) : ∃ m : Ms, v = msV m := by
  obtain ⟨l, hl, rfl⟩ := dec_nums13 Try.underlying25 (by kernel_rfl) (by kernel_rfl) (ti := 3) (by kernel_rfl) Try.underlying3 hv h
  match l, hl with
  | [a, b, c, d, e, f, g, h, i, j, k], _ => exact ⟨⟨a, b, c, d, e, f, g, h, i, j, k⟩, rfl⟩
theorem tr_int13 {m : Nat} {u : Value} {y : DataW H × List MemPlace} (h : DataW.trod enc Try.prog w base (fun _ => true) held m 3 [u] = some y) : ∃ z : Int, u = .int .i64 z := by
  obtain ⟨z, hz, _, _⟩ := DataW.trod_int Try.underlying3 h
  simp only [List.cons.injEq, and_true] at hz
  exact ⟨z, hz⟩
theorem tr_bool13 {m : Nat} {u : Value} {y : DataW H × List MemPlace} (h : DataW.trod enc Try.prog w base (fun _ => true) held m 4 [u] = some y) : ∃ z : Bool, u = .bool z := by
  obtain ⟨z, hz, _⟩ := DataW.trod_bool Try.underlying4 h
  simp only [List.cons.injEq, and_true] at hz
  exact ⟨z, hz⟩
set_option maxRecDepth 100000 in
theorem dec_agent {v : Value} {d : DataW H} {p : List MemPlace} (hv : Value.okWide Try.prog w r b0 23 v) (h : DataW.Trod enc Try.prog w base (fun _ => true) held 23 v d p) : ∃ a : Ag, v = agV a := by
  obtain ⟨cs, rfl, hsz⟩ := okWide_struct Try.underlying23 hv
  obtain ⟨fuel, hf⟩ := h
  obtain ⟨hl, hp⟩ := struct_parts Try.underlying23 (by kernel_rfl) (by kernel_rfl) hf
  obtain ⟨u0, k0, y0, c0, t0⟩ := hp 0 _ rfl
  obtain ⟨u1, k1, y1, c1, t1⟩ := hp 1 _ rfl
  obtain ⟨u2, k2, y2, c2, t2⟩ := hp 2 _ rfl
  obtain ⟨u3, k3, y3, c3, t3⟩ := hp 3 _ rfl
  obtain ⟨u4, k4, y4, c4, t4⟩ := hp 4 _ rfl
  obtain ⟨u5, k5, y5, c5, t5⟩ := hp 5 _ rfl
  obtain ⟨u6, k6, y6, c6, t6⟩ := hp 6 _ rfl
  obtain ⟨u7, k7, y7, c7, t7⟩ := hp 7 _ rfl
  obtain ⟨u8, k8, y8, c8, t8⟩ := hp 8 _ rfl
  obtain ⟨u9, k9, y9, c9, t9⟩ := hp 9 _ rfl
  obtain ⟨z0, rfl⟩ := tr_bool13 t0
  obtain ⟨z1, rfl⟩ := tr_int13 t1
  obtain ⟨z2, rfl⟩ := tr_int13 t2
  obtain ⟨z3, rfl⟩ := tr_int13 t3
  obtain ⟨z4, rfl⟩ := tr_int13 t4
  obtain ⟨z5, rfl⟩ := tr_int13 t5
  obtain ⟨z6, rfl⟩ := tr_int13 t6
  obtain ⟨z7, rfl⟩ := tr_int13 t7
  obtain ⟨z8, rfl⟩ := tr_int13 t8
  obtain ⟨z9, rfl⟩ := tr_int13 t9
  refine ⟨⟨z0, z1, z2, z3, z4, z5, z6, z7, z8, z9⟩, ?_⟩
  have hsz' : cs.toList.length = 10 := hl
  obtain ⟨l⟩ := cs
  match l, hsz' with
  | [a, b, c, d, e, f, g, h, i, j], _ =>
    simp only [Value.cells, List.getElem?_cons_zero, List.getElem?_cons_succ, Option.some.injEq] at c0 c1 c2 c3 c4 c5 c6 c7 c8 c9
    subst c0 c1 c2 c3 c4 c5 c6 c7 c8 c9
    rfl
end

end Go.Proofs.Ytddhbokknbmdfab
