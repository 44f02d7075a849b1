/- Texts that the proof of F rests on, one behind the other. -/
import Derived.Test.YtbfjlhddebollaaDoorFQ5
import Derived.Deep.LoopGhost
import Derived.BigQuiet
import Derived.Deep.QuietTactic

/- The reference of layer 9: whether a fleet may be; whether a job's numbers may be asked. -/
namespace Go.Proofs.YtbfjlhddebollaaDoor
open Go.RowKit

set_option maxRecDepth 100000 in
set_option maxHeartbeats 4000000 in
theorem RefMay_any (c : Cf) (w : World) :
    Calls Tryd.prog 7 #[cfV c] w fun e w' => e = .returned (.bool (mayC c)) ∧ Ext w w' := by
  have HX := Lib.hid fun cs => (Below.refl w.heap.size w).alloc (Nat.le_refl _) (.cells cs 23)
  unfold cfV
  obtain ⟨R, hR⟩ : ∃ R, R = mayC c := ⟨_, rfl⟩
  rw [← hR]
  have HR : Hid (R = mayC c) := Lib.hid hR
  clear hR
  by_cases b0 : c.nodes < 1
  · have HZ : Hid (R = false) := Lib.hid (HR.out.trans (by
      rw [Bool.eq_false_iff]
      intro h
      simp only [mayC, Bool.and_eq_true, inR_iff] at h
      omega))
    have d0_0 : decide (c.nodes < 1) = true := decide_eq_true (by omega)
    have d0_1 : decide (c.nodes ≤ 0) = true := decide_eq_true (by omega)
    clear b0
    go_enter Tryd.func7, Tryd.ntmps7
    go_wp2
    go_ret
    exact ⟨by rw [HZ.out]; rfl, HX.out _⟩
  have d0_0 : decide (c.nodes < 1) = false := decide_eq_false (by omega)
  have d0_1 : decide (c.nodes ≤ 0) = false := decide_eq_false (by omega)
  by_cases b1 : c.nodes > 6
  · have HZ : Hid (R = false) := Lib.hid (HR.out.trans (by
      rw [Bool.eq_false_iff]
      intro h
      simp only [mayC, Bool.and_eq_true, inR_iff] at h
      omega))
    have d1_0 : decide (6 < c.nodes) = true := decide_eq_true (by omega)
    have d1_1 : decide (7 ≤ c.nodes) = true := decide_eq_true (by omega)
    clear b0 b1
    go_enter Tryd.func7, Tryd.ntmps7
    go_wp2
    go_ret
    exact ⟨by rw [HZ.out]; rfl, HX.out _⟩
  have d1_0 : decide (6 < c.nodes) = false := decide_eq_false (by omega)
  have d1_1 : decide (7 ≤ c.nodes) = false := decide_eq_false (by omega)
  by_cases b2 : c.queues < 1
  · have HZ : Hid (R = false) := Lib.hid (HR.out.trans (by
      rw [Bool.eq_false_iff]
      intro h
      simp only [mayC, Bool.and_eq_true, inR_iff] at h
      omega))
    have d2_0 : decide (c.queues < 1) = true := decide_eq_true (by omega)
    have d2_1 : decide (c.queues ≤ 0) = true := decide_eq_true (by omega)
    clear b0 b1 b2
    go_enter Tryd.func7, Tryd.ntmps7
    go_wp2
    go_ret
    exact ⟨by rw [HZ.out]; rfl, HX.out _⟩
  have d2_0 : decide (c.queues < 1) = false := decide_eq_false (by omega)
  have d2_1 : decide (c.queues ≤ 0) = false := decide_eq_false (by omega)
  by_cases b3 : c.queues > 3
  · have HZ : Hid (R = false) := Lib.hid (HR.out.trans (by
      rw [Bool.eq_false_iff]
      intro h
      simp only [mayC, Bool.and_eq_true, inR_iff] at h
      omega))
    have d3_0 : decide (3 < c.queues) = true := decide_eq_true (by omega)
    have d3_1 : decide (4 ≤ c.queues) = true := decide_eq_true (by omega)
    clear b0 b1 b2 b3
    go_enter Tryd.func7, Tryd.ntmps7
    go_wp2
    go_ret
    exact ⟨by rw [HZ.out]; rfl, HX.out _⟩
  have d3_0 : decide (3 < c.queues) = false := decide_eq_false (by omega)
  have d3_1 : decide (4 ≤ c.queues) = false := decide_eq_false (by omega)
  by_cases b4 : c.quota < 0
  · have HZ : Hid (R = false) := Lib.hid (HR.out.trans (by
      rw [Bool.eq_false_iff]
      intro h
      simp only [mayC, Bool.and_eq_true, inR_iff] at h
      omega))
    have d4_0 : decide (c.quota < 0) = true := decide_eq_true (by omega)
    have d4_1 : decide (c.quota ≤ -1) = true := decide_eq_true (by omega)
    clear b0 b1 b2 b3 b4
    go_enter Tryd.func7, Tryd.ntmps7
    go_wp2
    go_ret
    exact ⟨by rw [HZ.out]; rfl, HX.out _⟩
  have d4_0 : decide (c.quota < 0) = false := decide_eq_false (by omega)
  have d4_1 : decide (c.quota ≤ -1) = false := decide_eq_false (by omega)
  by_cases b5 : c.quota > 4
  · have HZ : Hid (R = false) := Lib.hid (HR.out.trans (by
      rw [Bool.eq_false_iff]
      intro h
      simp only [mayC, Bool.and_eq_true, inR_iff] at h
      omega))
    have d5_0 : decide (4 < c.quota) = true := decide_eq_true (by omega)
    have d5_1 : decide (5 ≤ c.quota) = true := decide_eq_true (by omega)
    clear b0 b1 b2 b3 b4 b5
    go_enter Tryd.func7, Tryd.ntmps7
    go_wp2
    go_ret
    exact ⟨by rw [HZ.out]; rfl, HX.out _⟩
  have d5_0 : decide (4 < c.quota) = false := decide_eq_false (by omega)
  have d5_1 : decide (5 ≤ c.quota) = false := decide_eq_false (by omega)
  by_cases b6 : c.wave < 1
  · have HZ : Hid (R = false) := Lib.hid (HR.out.trans (by
      rw [Bool.eq_false_iff]
      intro h
      simp only [mayC, Bool.and_eq_true, inR_iff] at h
      omega))
    have d6_0 : decide (c.wave < 1) = true := decide_eq_true (by omega)
    have d6_1 : decide (c.wave ≤ 0) = true := decide_eq_true (by omega)
    clear b0 b1 b2 b3 b4 b5 b6
    go_enter Tryd.func7, Tryd.ntmps7
    go_wp2
    go_ret
    exact ⟨by rw [HZ.out]; rfl, HX.out _⟩
  have d6_0 : decide (c.wave < 1) = false := decide_eq_false (by omega)
  have d6_1 : decide (c.wave ≤ 0) = false := decide_eq_false (by omega)
  by_cases b7 : c.wave > 6
  · have HZ : Hid (R = false) := Lib.hid (HR.out.trans (by
      rw [Bool.eq_false_iff]
      intro h
      simp only [mayC, Bool.and_eq_true, inR_iff] at h
      omega))
    have d7_0 : decide (6 < c.wave) = true := decide_eq_true (by omega)
    have d7_1 : decide (7 ≤ c.wave) = true := decide_eq_true (by omega)
    clear b0 b1 b2 b3 b4 b5 b6 b7
    go_enter Tryd.func7, Tryd.ntmps7
    go_wp2
    go_ret
    exact ⟨by rw [HZ.out]; rfl, HX.out _⟩
  have d7_0 : decide (6 < c.wave) = false := decide_eq_false (by omega)
  have d7_1 : decide (7 ≤ c.wave) = false := decide_eq_false (by omega)
  by_cases b8 : c.lease < 2
  · have HZ : Hid (R = false) := Lib.hid (HR.out.trans (by
      rw [Bool.eq_false_iff]
      intro h
      simp only [mayC, Bool.and_eq_true, inR_iff] at h
      omega))
    have d8_0 : decide (c.lease < 2) = true := decide_eq_true (by omega)
    have d8_1 : decide (c.lease ≤ 1) = true := decide_eq_true (by omega)
    clear b0 b1 b2 b3 b4 b5 b6 b7 b8
    go_enter Tryd.func7, Tryd.ntmps7
    go_wp2
    go_ret
    exact ⟨by rw [HZ.out]; rfl, HX.out _⟩
  have d8_0 : decide (c.lease < 2) = false := decide_eq_false (by omega)
  have d8_1 : decide (c.lease ≤ 1) = false := decide_eq_false (by omega)
  by_cases b9 : c.lease > 30
  · have HZ : Hid (R = false) := Lib.hid (HR.out.trans (by
      rw [Bool.eq_false_iff]
      intro h
      simp only [mayC, Bool.and_eq_true, inR_iff] at h
      omega))
    have d9_0 : decide (30 < c.lease) = true := decide_eq_true (by omega)
    have d9_1 : decide (31 ≤ c.lease) = true := decide_eq_true (by omega)
    clear b0 b1 b2 b3 b4 b5 b6 b7 b8 b9
    go_enter Tryd.func7, Tryd.ntmps7
    go_wp2
    go_ret
    exact ⟨by rw [HZ.out]; rfl, HX.out _⟩
  have d9_0 : decide (30 < c.lease) = false := decide_eq_false (by omega)
  have d9_1 : decide (31 ≤ c.lease) = false := decide_eq_false (by omega)
  by_cases b10 : c.retry < 1
  · have HZ : Hid (R = false) := Lib.hid (HR.out.trans (by
      rw [Bool.eq_false_iff]
      intro h
      simp only [mayC, Bool.and_eq_true, inR_iff] at h
      omega))
    have d10_0 : decide (c.retry < 1) = true := decide_eq_true (by omega)
    have d10_1 : decide (c.retry ≤ 0) = true := decide_eq_true (by omega)
    clear b0 b1 b2 b3 b4 b5 b6 b7 b8 b9 b10
    go_enter Tryd.func7, Tryd.ntmps7
    go_wp2
    go_ret
    exact ⟨by rw [HZ.out]; rfl, HX.out _⟩
  have d10_0 : decide (c.retry < 1) = false := decide_eq_false (by omega)
  have d10_1 : decide (c.retry ≤ 0) = false := decide_eq_false (by omega)
  by_cases b11 : c.retry > 20
  · have HZ : Hid (R = false) := Lib.hid (HR.out.trans (by
      rw [Bool.eq_false_iff]
      intro h
      simp only [mayC, Bool.and_eq_true, inR_iff] at h
      omega))
    have d11_0 : decide (20 < c.retry) = true := decide_eq_true (by omega)
    have d11_1 : decide (21 ≤ c.retry) = true := decide_eq_true (by omega)
    clear b0 b1 b2 b3 b4 b5 b6 b7 b8 b9 b10 b11
    go_enter Tryd.func7, Tryd.ntmps7
    go_wp2
    go_ret
    exact ⟨by rw [HZ.out]; rfl, HX.out _⟩
  have d11_0 : decide (20 < c.retry) = false := decide_eq_false (by omega)
  have d11_1 : decide (21 ≤ c.retry) = false := decide_eq_false (by omega)
  by_cases b12 : c.deadline < 1
  · have HZ : Hid (R = false) := Lib.hid (HR.out.trans (by
      rw [Bool.eq_false_iff]
      intro h
      simp only [mayC, Bool.and_eq_true, inR_iff] at h
      omega))
    have d12_0 : decide (c.deadline < 1) = true := decide_eq_true (by omega)
    have d12_1 : decide (c.deadline ≤ 0) = true := decide_eq_true (by omega)
    clear b0 b1 b2 b3 b4 b5 b6 b7 b8 b9 b10 b11 b12
    go_enter Tryd.func7, Tryd.ntmps7
    go_wp2
    go_ret
    exact ⟨by rw [HZ.out]; rfl, HX.out _⟩
  have d12_0 : decide (c.deadline < 1) = false := decide_eq_false (by omega)
  have d12_1 : decide (c.deadline ≤ 0) = false := decide_eq_false (by omega)
  by_cases b13 : c.deadline > 60
  · have HZ : Hid (R = false) := Lib.hid (HR.out.trans (by
      rw [Bool.eq_false_iff]
      intro h
      simp only [mayC, Bool.and_eq_true, inR_iff] at h
      omega))
    have d13_0 : decide (60 < c.deadline) = true := decide_eq_true (by omega)
    have d13_1 : decide (61 ≤ c.deadline) = true := decide_eq_true (by omega)
    clear b0 b1 b2 b3 b4 b5 b6 b7 b8 b9 b10 b11 b12 b13
    go_enter Tryd.func7, Tryd.ntmps7
    go_wp2
    go_ret
    exact ⟨by rw [HZ.out]; rfl, HX.out _⟩
  have d13_0 : decide (60 < c.deadline) = false := decide_eq_false (by omega)
  have d13_1 : decide (61 ≤ c.deadline) = false := decide_eq_false (by omega)
  by_cases b14 : ¬ (c.room ≥ 0)
  · have HZ : Hid (R = false) := Lib.hid (HR.out.trans (by
      rw [Bool.eq_false_iff]
      intro h
      simp only [mayC, Bool.and_eq_true, inR_iff] at h
      omega))
    have d14_0 : decide (0 ≤ c.room) = false := decide_eq_false (by omega)
    have d14_1 : decide (-1 < c.room) = false := decide_eq_false (by omega)
    clear b0 b1 b2 b3 b4 b5 b6 b7 b8 b9 b10 b11 b12 b13 b14
    go_enter Tryd.func7, Tryd.ntmps7
    go_wp2
    go_ret
    exact ⟨by rw [HZ.out]; rfl, HX.out _⟩
  have d14_0 : decide (0 ≤ c.room) = true := decide_eq_true (by omega)
  have d14_1 : decide (-1 < c.room) = true := decide_eq_true (by omega)
  by_cases b15 : ¬ (c.room ≤ 5000)
  · have HZ : Hid (R = false) := Lib.hid (HR.out.trans (by
      rw [Bool.eq_false_iff]
      intro h
      simp only [mayC, Bool.and_eq_true, inR_iff] at h
      omega))
    have d15_0 : decide (c.room ≤ 5000) = false := decide_eq_false (by omega)
    have d15_1 : decide (c.room < 5001) = false := decide_eq_false (by omega)
    clear b0 b1 b2 b3 b4 b5 b6 b7 b8 b9 b10 b11 b12 b13 b14 b15
    go_enter Tryd.func7, Tryd.ntmps7
    go_wp2
    go_ret
    exact ⟨by rw [HZ.out]; rfl, HX.out _⟩
  have d15_0 : decide (c.room ≤ 5000) = true := decide_eq_true (by omega)
  have d15_1 : decide (c.room < 5001) = true := decide_eq_true (by omega)
  by_cases b16 : ¬ (c.disk ≥ 2000)
  · have HZ : Hid (R = false) := Lib.hid (HR.out.trans (by
      rw [Bool.eq_false_iff]
      intro h
      simp only [mayC, Bool.and_eq_true, inR_iff] at h
      omega))
    have d16_0 : decide (2000 ≤ c.disk) = false := decide_eq_false (by omega)
    have d16_1 : decide (1999 < c.disk) = false := decide_eq_false (by omega)
    clear b0 b1 b2 b3 b4 b5 b6 b7 b8 b9 b10 b11 b12 b13 b14 b15 b16
    go_enter Tryd.func7, Tryd.ntmps7
    go_wp2
    go_ret
    exact ⟨by rw [HZ.out]; rfl, HX.out _⟩
  have d16_0 : decide (2000 ≤ c.disk) = true := decide_eq_true (by omega)
  have d16_1 : decide (1999 < c.disk) = true := decide_eq_true (by omega)
  by_cases b17 : ¬ (c.disk ≤ 40000)
  · have HZ : Hid (R = false) := Lib.hid (HR.out.trans (by
      rw [Bool.eq_false_iff]
      intro h
      simp only [mayC, Bool.and_eq_true, inR_iff] at h
      omega))
    have d17_0 : decide (c.disk ≤ 40000) = false := decide_eq_false (by omega)
    have d17_1 : decide (c.disk < 40001) = false := decide_eq_false (by omega)
    clear b0 b1 b2 b3 b4 b5 b6 b7 b8 b9 b10 b11 b12 b13 b14 b15 b16 b17
    go_enter Tryd.func7, Tryd.ntmps7
    go_wp2
    go_ret
    exact ⟨by rw [HZ.out]; rfl, HX.out _⟩
  have d17_0 : decide (c.disk ≤ 40000) = true := decide_eq_true (by omega)
  have d17_1 : decide (c.disk < 40001) = true := decide_eq_true (by omega)
  have HZ : Hid (R = true) := Lib.hid (HR.out.trans (by
    simp only [mayC, Bool.and_eq_true, inR_iff]
    omega))
  clear b0 b1 b2 b3 b4 b5 b6 b7 b8 b9 b10 b11 b12 b13 b14 b15 b16 b17
  go_enter Tryd.func7, Tryd.ntmps7
  go_wp2
  go_ret
  exact ⟨by rw [HZ.out]; rfl, HX.out _⟩

set_option maxRecDepth 100000 in
set_option maxHeartbeats 4000000 in
theorem RefAsked_any (c : Cf) (j : Jb) (w : World) :
    Calls Tryd.prog 47 #[cfV c, jbV j] w fun e w' => e = .returned (.bool (askedJ c j)) ∧ Ext w w' := by
  have HX := Lib.hid fun c1 c2 => ext2 w 23 56 c1 c2
  unfold cfV jbV
  obtain ⟨R, hR⟩ : ∃ R, R = askedJ c j := ⟨_, rfl⟩
  rw [← hR]
  have HR : Hid (R = askedJ c j) := Lib.hid hR
  clear hR
  by_cases b0 : ¬ (j.queue ≥ 0)
  · have HZ : Hid (R = false) := Lib.hid (HR.out.trans (by
      rw [Bool.eq_false_iff]
      intro h
      simp only [askedJ, Bool.and_eq_true, inR_iff, decide_eq_true_eq] at h
      omega))
    have d0_0 : decide (0 ≤ j.queue) = false := decide_eq_false (by omega)
    have d0_1 : decide (-1 < j.queue) = false := decide_eq_false (by omega)
    clear b0
    go_enter Tryd.func47, Tryd.ntmps47
    go_wp2
    go_ret
    exact ⟨by rw [HZ.out]; rfl, HX.out _ _⟩
  have d0_0 : decide (0 ≤ j.queue) = true := decide_eq_true (by omega)
  have d0_1 : decide (-1 < j.queue) = true := decide_eq_true (by omega)
  by_cases b1 : ¬ (j.queue < c.queues)
  · have HZ : Hid (R = false) := Lib.hid (HR.out.trans (by
      rw [Bool.eq_false_iff]
      intro h
      simp only [askedJ, Bool.and_eq_true, inR_iff, decide_eq_true_eq] at h
      omega))
    have d1_0 : decide (j.queue < c.queues) = false := decide_eq_false (by omega)
    clear b0 b1
    go_enter Tryd.func47, Tryd.ntmps47
    go_wp2
    go_ret
    exact ⟨by rw [HZ.out]; rfl, HX.out _ _⟩
  have d1_0 : decide (j.queue < c.queues) = true := decide_eq_true (by omega)
  by_cases b2 : ¬ (j.prio ≥ 0)
  · have HZ : Hid (R = false) := Lib.hid (HR.out.trans (by
      rw [Bool.eq_false_iff]
      intro h
      simp only [askedJ, Bool.and_eq_true, inR_iff, decide_eq_true_eq] at h
      omega))
    have d2_0 : decide (0 ≤ j.prio) = false := decide_eq_false (by omega)
    have d2_1 : decide (-1 < j.prio) = false := decide_eq_false (by omega)
    clear b0 b1 b2
    go_enter Tryd.func47, Tryd.ntmps47
    go_wp2
    go_ret
    exact ⟨by rw [HZ.out]; rfl, HX.out _ _⟩
  have d2_0 : decide (0 ≤ j.prio) = true := decide_eq_true (by omega)
  have d2_1 : decide (-1 < j.prio) = true := decide_eq_true (by omega)
  by_cases b3 : ¬ (j.prio ≤ 9)
  · have HZ : Hid (R = false) := Lib.hid (HR.out.trans (by
      rw [Bool.eq_false_iff]
      intro h
      simp only [askedJ, Bool.and_eq_true, inR_iff, decide_eq_true_eq] at h
      omega))
    have d3_0 : decide (j.prio ≤ 9) = false := decide_eq_false (by omega)
    have d3_1 : decide (j.prio < 10) = false := decide_eq_false (by omega)
    clear b0 b1 b2 b3
    go_enter Tryd.func47, Tryd.ntmps47
    go_wp2
    go_ret
    exact ⟨by rw [HZ.out]; rfl, HX.out _ _⟩
  have d3_0 : decide (j.prio ≤ 9) = true := decide_eq_true (by omega)
  have d3_1 : decide (j.prio < 10) = true := decide_eq_true (by omega)
  by_cases b4 : ¬ (j.least ≥ 1)
  · have HZ : Hid (R = false) := Lib.hid (HR.out.trans (by
      rw [Bool.eq_false_iff]
      intro h
      simp only [askedJ, Bool.and_eq_true, inR_iff, decide_eq_true_eq] at h
      omega))
    have d4_0 : decide (1 ≤ j.least) = false := decide_eq_false (by omega)
    have d4_1 : decide (0 < j.least) = false := decide_eq_false (by omega)
    clear b0 b1 b2 b3 b4
    go_enter Tryd.func47, Tryd.ntmps47
    go_wp2
    go_ret
    exact ⟨by rw [HZ.out]; rfl, HX.out _ _⟩
  have d4_0 : decide (1 ≤ j.least) = true := decide_eq_true (by omega)
  have d4_1 : decide (0 < j.least) = true := decide_eq_true (by omega)
  by_cases b5 : ¬ (j.least ≤ j.most)
  · have HZ : Hid (R = false) := Lib.hid (HR.out.trans (by
      rw [Bool.eq_false_iff]
      intro h
      simp only [askedJ, Bool.and_eq_true, inR_iff, decide_eq_true_eq] at h
      omega))
    have d5_0 : decide (j.least ≤ j.most) = false := decide_eq_false (by omega)
    clear b0 b1 b2 b3 b4 b5
    go_enter Tryd.func47, Tryd.ntmps47
    go_wp2
    go_ret
    exact ⟨by rw [HZ.out]; rfl, HX.out _ _⟩
  have d5_0 : decide (j.least ≤ j.most) = true := decide_eq_true (by omega)
  by_cases b6 : ¬ (j.most ≤ c.nodes)
  · have HZ : Hid (R = false) := Lib.hid (HR.out.trans (by
      rw [Bool.eq_false_iff]
      intro h
      simp only [askedJ, Bool.and_eq_true, inR_iff, decide_eq_true_eq] at h
      omega))
    have d6_0 : decide (j.most ≤ c.nodes) = false := decide_eq_false (by omega)
    clear b0 b1 b2 b3 b4 b5 b6
    go_enter Tryd.func47, Tryd.ntmps47
    go_wp2
    go_ret
    exact ⟨by rw [HZ.out]; rfl, HX.out _ _⟩
  have d6_0 : decide (j.most ≤ c.nodes) = true := decide_eq_true (by omega)
  by_cases b7 : ¬ (j.work ≥ 1)
  · have HZ : Hid (R = false) := Lib.hid (HR.out.trans (by
      rw [Bool.eq_false_iff]
      intro h
      simp only [askedJ, Bool.and_eq_true, inR_iff, decide_eq_true_eq] at h
      omega))
    have d7_0 : decide (1 ≤ j.work) = false := decide_eq_false (by omega)
    have d7_1 : decide (0 < j.work) = false := decide_eq_false (by omega)
    clear b0 b1 b2 b3 b4 b5 b6 b7
    go_enter Tryd.func47, Tryd.ntmps47
    go_wp2
    go_ret
    exact ⟨by rw [HZ.out]; rfl, HX.out _ _⟩
  have d7_0 : decide (1 ≤ j.work) = true := decide_eq_true (by omega)
  have d7_1 : decide (0 < j.work) = true := decide_eq_true (by omega)
  by_cases b8 : ¬ (j.work ≤ 1000)
  · have HZ : Hid (R = false) := Lib.hid (HR.out.trans (by
      rw [Bool.eq_false_iff]
      intro h
      simp only [askedJ, Bool.and_eq_true, inR_iff, decide_eq_true_eq] at h
      omega))
    have d8_0 : decide (j.work ≤ 1000) = false := decide_eq_false (by omega)
    have d8_1 : decide (j.work < 1001) = false := decide_eq_false (by omega)
    clear b0 b1 b2 b3 b4 b5 b6 b7 b8
    go_enter Tryd.func47, Tryd.ntmps47
    go_wp2
    go_ret
    exact ⟨by rw [HZ.out]; rfl, HX.out _ _⟩
  have d8_0 : decide (j.work ≤ 1000) = true := decide_eq_true (by omega)
  have d8_1 : decide (j.work < 1001) = true := decide_eq_true (by omega)
  by_cases b9 : ¬ (j.pin ≥ 0)
  · have HZ : Hid (R = false) := Lib.hid (HR.out.trans (by
      rw [Bool.eq_false_iff]
      intro h
      simp only [askedJ, Bool.and_eq_true, inR_iff, decide_eq_true_eq] at h
      omega))
    have d9_0 : decide (0 ≤ j.pin) = false := decide_eq_false (by omega)
    have d9_1 : decide (-1 < j.pin) = false := decide_eq_false (by omega)
    clear b0 b1 b2 b3 b4 b5 b6 b7 b8 b9
    go_enter Tryd.func47, Tryd.ntmps47
    go_wp2
    go_ret
    exact ⟨by rw [HZ.out]; rfl, HX.out _ _⟩
  have d9_0 : decide (0 ≤ j.pin) = true := decide_eq_true (by omega)
  have d9_1 : decide (-1 < j.pin) = true := decide_eq_true (by omega)
  by_cases b10 : ¬ (j.pin ≤ 9)
  · have HZ : Hid (R = false) := Lib.hid (HR.out.trans (by
      rw [Bool.eq_false_iff]
      intro h
      simp only [askedJ, Bool.and_eq_true, inR_iff, decide_eq_true_eq] at h
      omega))
    have d10_0 : decide (j.pin ≤ 9) = false := decide_eq_false (by omega)
    have d10_1 : decide (j.pin < 10) = false := decide_eq_false (by omega)
    clear b0 b1 b2 b3 b4 b5 b6 b7 b8 b9 b10
    go_enter Tryd.func47, Tryd.ntmps47
    go_wp2
    go_ret
    exact ⟨by rw [HZ.out]; rfl, HX.out _ _⟩
  have d10_0 : decide (j.pin ≤ 9) = true := decide_eq_true (by omega)
  have d10_1 : decide (j.pin < 10) = true := decide_eq_true (by omega)
  have HZ : Hid (R = true) := Lib.hid (HR.out.trans (by
    simp only [askedJ, Bool.and_eq_true, inR_iff, decide_eq_true_eq]
    omega))
  clear b0 b1 b2 b3 b4 b5 b6 b7 b8 b9 b10
  go_enter Tryd.func47, Tryd.ntmps47
  go_wp2
  go_ret
  exact ⟨by rw [HZ.out]; rfl, HX.out _ _⟩

theorem RefNumber_any (n : Int) (w : World) :
    Calls Tryd.prog 56 #[.int .i64 n] w fun e w' => e = .returned (.bool (inR n 0 1000000)) ∧ w = w' := by
  by_cases h1 : 0 ≤ n
  · by_cases h2 : n ≤ 1000000
    · have d1 : decide (0 ≤ n) = true := decide_eq_true h1
      have d2 : decide (n ≤ 1000000) = true := decide_eq_true h2
      rw [inR_iff.2 ⟨h1, h2⟩]
      clear h1 h2
      go_enter Tryd.func56, Tryd.ntmps56
      go_wp2
      go_ret
      exact ⟨rfl, rfl⟩
    · have d1 : decide (0 ≤ n) = true := decide_eq_true h1
      have d2 : decide (n ≤ 1000000) = false := decide_eq_false h2
      rw [show inR n 0 1000000 = false from Bool.eq_false_iff.2 fun h => h2 (inR_iff.1 h).2]
      clear h1 h2
      go_enter Tryd.func56, Tryd.ntmps56
      go_wp2
      go_ret
      exact ⟨rfl, rfl⟩
  · have d1 : decide (0 ≤ n) = false := decide_eq_false h1
    rw [show inR n 0 1000000 = false from Bool.eq_false_iff.2 fun h => h1 (inR_iff.1 h).1]
    clear h1
    go_enter Tryd.func56, Tryd.ntmps56
    go_wp2
    go_ret
    exact ⟨rfl, rfl⟩

end Go.Proofs.YtbfjlhddebollaaDoor

/- The reference of layer 9: whether nodes fit a job. -/
namespace Go.Proofs.YtbfjlhddebollaaDoor
open Go.RowKit

/-- Behind q of six nodes: the version that they have, or 0. -/
structure FitI (s : St) (j : Jb) (set : Int) (q : Nat) (ver : Int) : Prop where
  a : ∀ i, i < q → hasS set i = true → i < s.nodes.length
  b : ∀ i n, i < q → s.nodes[i]? = some n → hasS set i = true → n.version = ver ∧ (j.pin ≠ 0 → n.version = j.pin)
  c : ver ≠ 0 → ∃ i n, i < q ∧ s.nodes[i]? = some n ∧ hasS set i = true ∧ n.version = ver
theorem FitI.zero (s : St) (j : Jb) (set : Int) : FitI s j set 0 0 := ⟨fun i h => absurd h (Nat.not_lt_zero i), fun i _ h => absurd h (Nat.not_lt_zero i), fun h => absurd rfl h⟩
theorem FitI.skip {s : St} {j : Jb} {set : Int} {q : Nat} {ver : Int} (h : FitI s j set q ver) (hs : hasS set q = false) : FitI s j set (q + 1) ver := by
  refine ⟨fun i hi hh => ?_, fun i n hi hn hh => ?_, fun hv => ?_⟩
  · rcases Nat.lt_or_ge i q with h' | h'
    · exact h.a i h' hh
    · obtain rfl : i = q := by omega
      rw [hs] at hh
      cases hh
  · rcases Nat.lt_or_ge i q with h' | h'
    · exact h.b i n h' hn hh
    · obtain rfl : i = q := by omega
      rw [hs] at hh
      cases hh
  · obtain ⟨i, n, h1, h2⟩ := h.c hv
    exact ⟨i, n, by omega, h2⟩
theorem FitI.take {s : St} {j : Jb} {set : Int} {q : Nat} {ver : Int} {n : Nd} (h : FitI s j set q ver) (hs : hasS set q = true) (hn : s.nodes[q]? = some n) (hv : ver = 0 ∨ n.version = ver) (hp : j.pin = 0 ∨ n.version = j.pin) (h1 : ∀ (i : Nat) (n : Nd), s.nodes[i]? = some n → 1 ≤ n.version) : FitI s j set (q + 1) n.version := by
  refine ⟨fun i hi hh => ?_, fun i m hi hm hh => ?_, fun _ => ⟨q, n, by omega, hn, hs, rfl⟩⟩
  · rcases Nat.lt_or_ge i q with h' | h'
    · exact h.a i h' hh
    · obtain rfl : i = q := by omega
      exact (List.getElem?_eq_some_iff.1 hn).1
  · rcases Nat.lt_or_ge i q with h' | h'
    · obtain ⟨e1, e2⟩ := h.b i m h' hm hh
      have := h1 i m hm
      refine ⟨?_, e2⟩
      rcases hv with hv | hv
      · omega
      · omega
    · obtain rfl : i = q := by omega
      rw [hn] at hm
      cases hm
      refine ⟨rfl, fun h0 => ?_⟩
      rcases hp with hp | hp
      · exact absurd hp h0
      · exact hp
theorem FitI.done {s : St} {j : Jb} {set : Int} {ver : Int} (h : FitI s j set 6 ver) (h0 : 0 ≤ set) (h64 : set < 64) (hl : j.least ≤ (manyS set : Int)) (hm : (manyS set : Int) ≤ j.most) (hlen : s.nodes.length ≤ 6) : FitsP s j set := by
  have six : ∀ i n, s.nodes[i]? = some n → i < 6 := fun i n hn => by have := (List.getElem?_eq_some_iff.1 hn).1; omega
  refine ⟨h0, ?_, hl, hm, fun i n hn hh hp => (h.b i n (six i n hn) hn hh).2 hp, fun i n k m hn hh hk hh2 => by rw [(h.b i n (six i n hn) hn hh).1, (h.b k m (six k m hk) hk hh2).1]⟩
  obtain ⟨m, rfl⟩ := Int.eq_ofNat_of_zero_le h0
  have hlt : m < 2 ^ s.nodes.length := by
    apply Nat.lt_pow_two_of_testBit
    intro i hi
    rw [← hasS_nat]
    cases hh : hasS (m : Int) i with
    | false => rfl
    | true =>
      by_cases h6 : i < 6
      · have := h.a i h6 hh
        omega
      · have h64' : (m : Int) < 2 ^ 6 := by omega
        rw [hasS_high h0 h64' (by omega)] at hh
        cases hh
  have : ((2 ^ s.nodes.length : Nat) : Int) = (2 : Int) ^ s.nodes.length := by simp
  omega

set_option maxRecDepth 100000 in
set_option maxHeartbeats 4000000 in
theorem RefFits_any (vn vj : Value) (s : St) (j : Jb) (set : Int) (w : World) (hr : RdNd w vn s.nodes) (hn : s.nodes.length ≤ 6) (hver : ∀ (i : Nat) (n : Nd), s.nodes[i]? = some n → 1 ≤ n.version) :
    Calls Tryd.prog 48 #[stV vn vj s, jbV j, .int .i64 set] w fun e w' => ∃ b, e = .returned (.bool b) ∧ (b = true ↔ FitsP s j set) ∧ Ext w w' := by
  obtain ⟨A, c, rfl, hnc, hcm, hcell⟩ := has_cells hr
  obtain ⟨W2, hW2⟩ : ∃ W, W = (w.alloc (.cells #[.slice A s.nodes.length c, vj, .int .i64 s.goal, .int .i64 s.prior, .int .i64 s.mode, .int .i64 s.term] 30)).alloc (.cells #[.int .i64 j.queue, .int .i64 j.prio, .int .i64 j.least, .int .i64 j.most, .int .i64 j.work, .int .i64 j.pin, .int .i64 j.phase, .int .i64 j.inc, .int .i64 j.nodes, .int .i64 j.since, .int .i64 j.til, .int .i64 j.epoch] 56) := ⟨_, rfl⟩
  have hx2 : Ext w W2 := by rw [hW2]; exact ext2 w _ _ _ _
  have hb0 : Blk W2 w.heap.size 30 #[.slice A s.nodes.length c, vj, .int .i64 s.goal, .int .i64 s.prior, .int .i64 s.mode, .int .i64 s.term] := by rw [hW2]; exact (Blk.new w _ _).alloc _
  have hb1 : Blk W2 (w.heap.size + 1) 56 #[.int .i64 j.queue, .int .i64 j.prio, .int .i64 j.least, .int .i64 j.most, .int .i64 j.work, .int .i64 j.pin, .int .i64 j.phase, .int .i64 j.inc, .int .i64 j.nodes, .int .i64 j.since, .int .i64 j.til, .int .i64 j.epoch] := by
    have h1 := Blk.new (w.alloc (.cells #[.slice A s.nodes.length c, vj, .int .i64 s.goal, .int .i64 s.prior, .int .i64 s.mode, .int .i64 s.term] 30)) 56 #[.int .i64 j.queue, .int .i64 j.prio, .int .i64 j.least, .int .i64 j.most, .int .i64 j.work, .int .i64 j.pin, .int .i64 j.phase, .int .i64 j.inc, .int .i64 j.nodes, .int .i64 j.since, .int .i64 j.til, .int .i64 j.epoch]
    have e : (w.alloc (.cells #[.slice A s.nodes.length c, vj, .int .i64 s.goal, .int .i64 s.prior, .int .i64 s.mode, .int .i64 s.term] 30)).heap.size = w.heap.size + 1 := by simp
    rw [e] at h1
    rw [hW2]
    exact h1
  have HC := Lib.hid hcell
  have HV := Lib.hid hver
  have HX := Lib.hid hx2
  have HB0 := Lib.hid hb0
  have HB1 := Lib.hid hb1
  have HN6 := Lib.hid hn
  have HMN : Hid (∀ W, Calls Tryd.prog 49 #[.int .i64 set] W fun e w' => e = .returned (.int .i64 (manyS set : Int)) ∧ w' = W) := Lib.hid fun W => (RefMany_any set W).mono fun _ _ ⟨h1, h2⟩ => ⟨h1, h2.symm⟩
  have HHS := Lib.hid fun i hi W => RefHas_any set i hi W
  have HDN : Hid (∀ ver, 0 ≤ set → set < 64 → j.least ≤ (manyS set : Int) → (manyS set : Int) ≤ j.most → FitI s j set 6 ver → FitsP s j set) := Lib.hid fun ver a1 a2 a3 a4 h => h.done a1 a2 a3 a4 HN6.out
  have HLO : Hid (FitsP s j set → 0 ≤ set ∧ set < 64 ∧ j.least ≤ (manyS set : Int) ∧ (manyS set : Int) ≤ j.most) := Lib.hid fun h => ⟨(h.lt64 HN6.out).1, (h.lt64 HN6.out).2, h.least, h.most⟩
  obtain ⟨M, hM⟩ : ∃ M, M = manyS set := ⟨_, rfl⟩
  rw [← hM] at HMN HDN HLO
  have j2 : W2.cell? ⟨w.heap.size + 1, 2, none⟩ = some (.int .i64 j.least) := hb1.cell 2
  have j3 : W2.cell? ⟨w.heap.size + 1, 3, none⟩ = some (.int .i64 j.most) := hb1.cell 3
  clear hr hn hver hcell hx2 hb0 hb1 hM
  unfold stV jbV
  by_cases h1 : set < 0
  · have HNO : Hid (¬ FitsP s j set) := Lib.hid fun h => by have := HLO.out h; omega
    have d1 : decide (set < 0) = true := decide_eq_true h1
    clear h1
    go_enter Tryd.func48, Tryd.ntmps48
    go_wp2_with fail
    rw [← hW2]
    clear hW2
    go_quiet ((go_at_call 49; exact Calls.quiet_of_same (HMN.out _)))
    have HXE := Lib.hid (Below.drewN' HX.out nq)
    go_wp2
    go_ret
    exact ⟨false, rfl, ⟨(fun h => by cases h), fun h => absurd h HNO.out⟩, HXE.out⟩
  have d1 : decide (set < 0) = false := decide_eq_false h1
  by_cases h2 : 64 ≤ set
  · have HNO : Hid (¬ FitsP s j set) := Lib.hid fun h => by have := HLO.out h; omega
    have d2 : decide (64 ≤ set) = true := decide_eq_true h2
    clear h2
    go_enter Tryd.func48, Tryd.ntmps48
    go_wp2_with fail
    rw [← hW2]
    clear hW2
    go_quiet ((go_at_call 49; exact Calls.quiet_of_same (HMN.out _)))
    have HXE := Lib.hid (Below.drewN' HX.out nq)
    go_wp2
    go_ret
    exact ⟨false, rfl, ⟨(fun h => by cases h), fun h => absurd h HNO.out⟩, HXE.out⟩
  have d2 : decide (64 ≤ set) = false := decide_eq_false h2
  by_cases h3 : (M : Int) < j.least
  · have HNO : Hid (¬ FitsP s j set) := Lib.hid fun h => by have := HLO.out h; omega
    have d3 : decide ((M : Int) < j.least) = true := decide_eq_true h3
    clear h3
    go_enter Tryd.func48, Tryd.ntmps48
    go_wp2_with fail
    rw [← hW2]
    clear hW2
    go_quiet ((go_at_call 49; exact Calls.quiet_of_same (HMN.out _)))
    have HXE := Lib.hid (Below.drewN' HX.out nq)
    go_wp2
    go_ret
    exact ⟨false, rfl, ⟨(fun h => by cases h), fun h => absurd h HNO.out⟩, HXE.out⟩
  have d3 : decide ((M : Int) < j.least) = false := decide_eq_false h3
  by_cases h4 : j.most < (M : Int)
  · have HNO : Hid (¬ FitsP s j set) := Lib.hid fun h => by have := HLO.out h; omega
    have d4 : decide (j.most < (M : Int)) = true := decide_eq_true h4
    clear h4
    go_enter Tryd.func48, Tryd.ntmps48
    go_wp2_with fail
    rw [← hW2]
    clear hW2
    go_quiet ((go_at_call 49; exact Calls.quiet_of_same (HMN.out _)))
    have HXE := Lib.hid (Below.drewN' HX.out nq)
    go_wp2
    go_ret
    exact ⟨false, rfl, ⟨(fun h => by cases h), fun h => absurd h HNO.out⟩, HXE.out⟩
  have d4 : decide (j.most < (M : Int)) = false := decide_eq_false h4
  have HBN : Hid (0 ≤ set ∧ set < 64 ∧ j.least ≤ (M : Int) ∧ (M : Int) ≤ j.most) := Lib.hid (by omega)
  clear h1 h2 h3 h4
  go_enter Tryd.func48, Tryd.ntmps48
  go_wp2_with fail
  rw [← hW2]
  clear hW2
  go_quiet ((go_at_call 49; exact Calls.quiet_of_same (HMN.out _)))
  obtain ⟨w2, hw2⟩ : ∃ W, W = W2.drewN nq := ⟨_, rfl⟩
  have HX2 : Hid (Ext w w2) := Lib.hid (by rw [hw2]; exact Below.drewN' HX.out nq)
  have HXB : Hid (Ext W2 w2) := Lib.hid (by rw [hw2]; exact Below.drewN' (Ext.refl _) nq)
  rw [← hw2]
  clear hw2 d1 d2 d3 d4 j2 j3 HX
  go_wp2_with fail
  go_loopg [7, 8] 6 (fun gg v i wr => ∃ (q : Nat) (ver : Int), i = .int .i64 q ∧ v = .int .i64 ver ∧ q ≤ 6 ∧ gg = 6 - q ∧ Hid (Ext w2 wr ∧ FitI s j set q ver))
  case atStart => exact ⟨0, 0, rfl, rfl, by omega, rfl, Lib.hid ⟨Ext.refl _, FitI.zero s j set⟩⟩
  case round =>
    obtain ⟨q, ver, rfl, rfl, hq, rfl, HR⟩ := hrel
    by_cases hlt : q < 6
    · have d1 : decide ((q : Int) < 6) = true := decide_eq_true (by omega)
      have HLT := Lib.hid hlt
      have HXR := Lib.hid HR.out.1
      have HI := Lib.hid HR.out.2
      clear HR
      go_wp2_with fail
      refine (HHS.out q (by omega) _).mono ?_
      rintro e3 w3 ⟨rfl, rfl⟩
      cases hs : hasS set q
      · have HI2 := Lib.hid (HI.out.skip hs)
        clear hs hlt
        go_wp2_with fail
        go_roundg (6 - (q + 1))
        case measure => have := HLT.out; omega
        case rel => exact ⟨q + 1, ver, by go_num, rfl, HLT.out, rfl, Lib.hid ⟨HXR.out, HI2.out⟩⟩
      have HS := Lib.hid hs
      have s0 := ((HB0.out.ext HXB.out).ext HXR.out).cell 0
      simp only [List.getElem?_toArray, List.getElem?_cons_zero] at s0
      by_cases hln : s.nodes.length ≤ q
      · have d2 : decide ((s.nodes.length : Int) ≤ (q : Int)) = true := decide_eq_true (by omega)
        have d2' : decide (s.nodes.length ≤ q) = true := decide_eq_true hln
        have HNO : Hid (¬ FitsP s j set) := Lib.hid fun h => by
          rw [hasS_high h.low h.high hln] at hs
          cases hs
        have HXE := Lib.hid (HX2.out.trans HXR.out)
        clear hs hlt hln
        go_wp2
        go_ret
        exact ⟨false, rfl, ⟨(fun h => by cases h), fun h => absurd h HNO.out⟩, HXE.out⟩
      have d2 : decide ((s.nodes.length : Int) ≤ (q : Int)) = false := decide_eq_false (by omega)
      have d2' : decide (s.nodes.length ≤ q) = false := decide_eq_false hln
      obtain ⟨n, hn⟩ : ∃ n, s.nodes[q]? = some n := ⟨_, List.getElem?_eq_getElem (by omega)⟩
      obtain ⟨b, o, rfl, hb, hat⟩ := HC.out q n hn
      have n3 := (hat.ext ((HX2.out).trans HXR.out) hb).c3
      have p5 := ((HB1.out.ext HXB.out).ext HXR.out).cell 5
      simp only [List.getElem?_toArray, List.getElem?_cons_succ, List.getElem?_cons_zero] at p5
      have x1 : (0 : Int) ≤ (q : Int) ∧ (q : Int) < (s.nodes.length : Int) := by omega
      have HNN := Lib.hid hn
      have HTK := Lib.hid fun h1 h2 => HI.out.take hs hn h1 h2 HV.out
      have HBV : Hid (ver ≠ 0 → n.version ≠ ver → ¬ FitsP s j set) := Lib.hid fun h0 h1 h => by
        obtain ⟨i, m, _, hm, hh, e⟩ := HI.out.c h0
        exact h1 (by rw [← e]; exact h.one q n i m hn hs hm hh)
      have HBP : Hid (j.pin ≠ 0 → n.version ≠ j.pin → ¬ FitsP s j set) := Lib.hid fun h0 h1 h => h1 (h.pin q n hn hs h0)
      have HXE := Lib.hid (HX2.out.trans HXR.out)
      generalize n.version = v at *
      clear hn hat hb hs hlt hln
      by_cases hv0 : ver = 0
      · have e0 : (ver != 0) = false := by rw [hv0]; rfl
        by_cases hp0 : j.pin = 0
        · have e2 : (j.pin != 0) = false := by rw [hp0]; rfl
          have HT := Lib.hid (HTK.out (.inl hv0) (.inl hp0))
          clear hp0 HTK hv0
          go_wp2_with fail
          go_roundg (6 - (q + 1))
          case measure => have := HLT.out; omega
          case rel => exact ⟨q + 1, v, by go_num, rfl, HLT.out, rfl, Lib.hid ⟨HXR.out, HT.out⟩⟩
        · have e2 : (j.pin != 0) = true := by rw [bne_iff_ne]; exact hp0
          by_cases hpv : v = j.pin
          · have e3 : (v != j.pin) = false := by rw [hpv]; exact bne_self_eq_false _
            have HT := Lib.hid (HTK.out (.inl hv0) (.inr hpv))
            clear hp0 hpv HTK hv0
            go_wp2_with fail
            go_roundg (6 - (q + 1))
            case measure => have := HLT.out; omega
            case rel => exact ⟨q + 1, v, by go_num, rfl, HLT.out, rfl, Lib.hid ⟨HXR.out, HT.out⟩⟩
          · have e3 : (v != j.pin) = true := by rw [bne_iff_ne]; exact hpv
            have HNO := Lib.hid (HBP.out hp0 hpv)
            clear hp0 hpv HTK hv0
            go_wp2
            go_ret
            exact ⟨false, rfl, ⟨(fun h => by cases h), fun h => absurd h HNO.out⟩, HXE.out⟩
      · have e0 : (ver != 0) = true := by rw [bne_iff_ne]; exact hv0
        by_cases hvv : v = ver
        · have e1 : (v != ver) = false := by rw [hvv]; exact bne_self_eq_false _
          by_cases hp0 : j.pin = 0
          · have e2 : (j.pin != 0) = false := by rw [hp0]; rfl
            have HT := Lib.hid (HTK.out (.inr hvv) (.inl hp0))
            clear hp0 HTK hv0 hvv
            go_wp2_with fail
            go_roundg (6 - (q + 1))
            case measure => have := HLT.out; omega
            case rel => exact ⟨q + 1, v, by go_num, rfl, HLT.out, rfl, Lib.hid ⟨HXR.out, HT.out⟩⟩
          · have e2 : (j.pin != 0) = true := by rw [bne_iff_ne]; exact hp0
            by_cases hpv : v = j.pin
            · have e3 : (v != j.pin) = false := by rw [hpv]; exact bne_self_eq_false _
              have HT := Lib.hid (HTK.out (.inr hvv) (.inr hpv))
              clear hp0 hpv HTK hv0 hvv
              go_wp2_with fail
              go_roundg (6 - (q + 1))
              case measure => have := HLT.out; omega
              case rel => exact ⟨q + 1, v, by go_num, rfl, HLT.out, rfl, Lib.hid ⟨HXR.out, HT.out⟩⟩
            · have e3 : (v != j.pin) = true := by rw [bne_iff_ne]; exact hpv
              have HNO := Lib.hid (HBP.out hp0 hpv)
              clear hp0 hpv HTK hv0 hvv
              go_wp2
              go_ret
              exact ⟨false, rfl, ⟨(fun h => by cases h), fun h => absurd h HNO.out⟩, HXE.out⟩
        · have e1 : (v != ver) = true := by rw [bne_iff_ne]; exact hvv
          have HNO := Lib.hid (HBV.out hv0 hvv)
          clear hv0 hvv HTK
          go_wp2
          go_ret
          exact ⟨false, rfl, ⟨(fun h => by cases h), fun h => absurd h HNO.out⟩, HXE.out⟩
    · have d1 : decide ((q : Int) < 6) = false := decide_eq_false (by omega)
      obtain rfl : q = 6 := by omega
      have HY : Hid (FitsP s j set) := Lib.hid (HDN.out ver HBN.out.1 HBN.out.2.1 HBN.out.2.2.1 HBN.out.2.2.2 HR.out.2)
      have HXE := Lib.hid (HX2.out.trans HR.out.1)
      clear HR hlt hq
      go_wp2
      go_ret
      exact ⟨true, rfl, ⟨fun _ => HY.out, fun _ => rfl⟩, HXE.out⟩

end Go.Proofs.YtbfjlhddebollaaDoor

/- Package book: the page that ops are done to, in memory. -/
namespace Go.Proofs.YtbfjlhddebollaaDoor
open Go.RowKit

def pgC (c : Cf) (vn vj : Value) (s : St) : Array Value := #[.int .i64 c.nodes, .int .i64 c.queues, .int .i64 c.quota, .int .i64 c.wave, .int .i64 c.lease, .int .i64 c.retry, .int .i64 c.deadline, .int .i64 c.room, .int .i64 c.disk, vn, vj, .int .i64 s.goal, .int .i64 s.prior, .int .i64 s.mode, .int .i64 s.term]
/-- The page at g: its fleet, its state; all in the set. -/
def Pg (F : Fp) (w : World) (g : Nat) (c : Cf) (vn vj : Value) (s : St) : Prop :=
  ObjF F w g 58 (pgC c vn vj s) [⟨45, 5, vn, s.nodes.length, nodesC s.nodes⟩, ⟨56, 12, vj, s.jobs.length, jobsC s.jobs⟩]

section
variable {F G : Fp} {w w' : World} {g : Nat} {c : Cf} {vn vj : Value} {s : St}
theorem Pg.ext (h : Pg F w g c vn vj s) (hx : Ext w w') : Pg F w' g c vn vj s := ObjF.ext h hx
theorem Pg.isIn (h : Pg F w g c vn vj s) : F.isIn w := ObjF.isIn h
theorem Pg.mono (h : Pg F w g c vn vj s) (hf : ∀ k, F k → G k) (hi : G.isIn w) : Pg G w g c vn vj s := ObjF.mono h hf hi
theorem Pg.blk (h : Pg F w g c vn vj s) : Blk w g 58 (pgC c vn vj s) := ObjF.blk h
theorem Pg.lt (h : Pg F w g c vn vj s) : g < w.heap.size := (ObjF.blk h).lt
theorem Pg.rowN (h : Pg F w g c vn vj s) : w.ownsRow 0 45 5 vn s.nodes.length (nodesC s.nodes) := (ObjF.ok h ⟨45, 5, vn, s.nodes.length, nodesC s.nodes⟩ (by simp)).1
theorem Pg.rowJ (h : Pg F w g c vn vj s) : w.ownsRow 0 56 12 vj s.jobs.length (jobsC s.jobs) := (ObjF.ok h ⟨56, 12, vj, s.jobs.length, jobsC s.jobs⟩ (by simp)).1
theorem Pg.rd (h : Pg F w g c vn vj s) : RdSt w vn vj s := ⟨RdS.own h.rowN, RdS.own h.rowJ⟩
theorem Pg.fr (h : Pg F w g c vn vj s) (i : Nat) : w.frozen? ⟨g, i, none⟩ = false := (ObjF.blk h).frozen i
/-- What a walk wants of a node. -/
theorem Pg.nodeAt (h : Pg F w g c vn vj s) {i : Nat} {n : Nd} (hi : s.nodes[i]? = some n) : ∃ b cap, vn = .slice (some ⟨b, 0, none⟩) s.nodes.length cap ∧ s.nodes.length ≤ cap ∧ cap ≤ 9223372036854775807 ∧ b < w.heap.size ∧ b ≠ g ∧ NdAt w b (i * 5) n ∧ ∀ k, w.frozen? ⟨b, k, none⟩ = false := by
  have hr := h.rowN
  have hil := (List.getElem?_eq_some_iff.1 hi).1
  rcases hr.2 with ⟨_, h0⟩ | ⟨b, cap, cur, hv, hg, hh, hn, hcap, hs, ht⟩
  · omega
  · have hoff := ObjF.off h ⟨45, 5, vn, s.nodes.length, nodesC s.nodes⟩ (by simp)
    subst hv
    refine ⟨b, cap, rfl, hn, by unfold maxLen at hcap; omega, (Array.getElem?_eq_some_iff.1 hh).1, fun e => hoff (by rw [e]; rfl), ?_, fun k => hr.frozenAt k⟩
    refine NdAt.of fun j u hu => ?_
    have hj : j < 5 := (List.getElem?_eq_some_iff.1 hu).1
    rw [hr.cellAt _ (by omega)]
    exact (flat_get Nd.len hi j hj).trans hu
theorem Pg.jobAt (h : Pg F w g c vn vj s) {i : Nat} {n : Jb} (hi : s.jobs[i]? = some n) : ∃ b cap, vj = .slice (some ⟨b, 0, none⟩) s.jobs.length cap ∧ s.jobs.length ≤ cap ∧ cap ≤ 9223372036854775807 ∧ b < w.heap.size ∧ b ≠ g ∧ JbAt w b (i * 12) n ∧ ∀ k, w.frozen? ⟨b, k, none⟩ = false := by
  have hr := h.rowJ
  have hil := (List.getElem?_eq_some_iff.1 hi).1
  rcases hr.2 with ⟨_, h0⟩ | ⟨b, cap, cur, hv, hg, hh, hn, hcap, hs, ht⟩
  · omega
  · have hoff := ObjF.off h ⟨56, 12, vj, s.jobs.length, jobsC s.jobs⟩ (by simp)
    subst hv
    refine ⟨b, cap, rfl, hn, by unfold maxLen at hcap; omega, (Array.getElem?_eq_some_iff.1 hh).1, fun e => hoff (by rw [e]; rfl), ?_, fun k => hr.frozenAt k⟩
    refine JbAt.of fun j u hu => ?_
    have hj : j < 12 := (List.getElem?_eq_some_iff.1 hu).1
    rw [hr.cellAt _ (by omega)]
    exact (flat_get Jb.len hi j hj).trans hu
theorem Pg.far (h : Pg F w g c vn vj s) : ∀ k, vn.ownBlock = some k → vj.ownBlock ≠ some k := by
  have := ObjF.apart h
  rw [List.pairwise_cons] at this
  exact this.1 ⟨56, 12, vj, s.jobs.length, jobsC s.jobs⟩ (by simp)

theorem chg_cell {b k : Nat} {u : Value} (hF : F b) : Chg F w (w.setCell ⟨b, k, none⟩ u) := (Chg.refl F w).setCell fun _ => hF
/-- A node's field is written. -/
theorem Pg.setN (h : Pg F w g c vn vj s) {i : Nat} {n n' : Nd} (hi : s.nodes[i]? = some n) {b cap : Nat} (hv : vn = .slice (some ⟨b, 0, none⟩) s.nodes.length cap) (j : Nat) (hj : j < 5) (u : Value) (hn : n'.cells = n.cells.set j u) :
    Pg F (w.setCell ⟨b, i * 5 + j, none⟩ u) g c vn vj (setN s i n') ∧ Chg F w (w.setCell ⟨b, i * 5 + j, none⟩ u) := by
  have hr := h.rowN
  have hF : F b := (ObjF.ok h ⟨45, 5, vn, s.nodes.length, nodesC s.nodes⟩ (by simp)).2 b (by rw [hv]; rfl)
  have hc := chg_cell (w := w) (k := i * 5 + j) (u := u) hF
  subst hv
  obtain ⟨h1, h2⟩ := hr.stored (i * 5 + j) u
  have hset : nodesC (s.nodes.set i n') = (nodesC s.nodes).set (i * 5 + j) u := flat_set Nd.len hi j hj u hn
  have ht := ObjF.turn (w' := w.setCell ⟨b, i * 5 + j, none⟩ u) h 0 (by simp) ⟨45, 5, .slice (some ⟨b, 0, none⟩) s.nodes.length cap, (s.nodes.set i n').length, nodesC (s.nodes.set i n')⟩ (by rw [hset, List.length_set]; exact h1)
    ((Chg.refl _ w).setCell fun _ => rfl) (fun k hk => .inl hk)
  refine ⟨?_, hc⟩
  have hm : Pg (Fp.since F w (w.setCell ⟨b, i * 5 + j, none⟩ u)) (w.setCell ⟨b, i * 5 + j, none⟩ u) g c (.slice (some ⟨b, 0, none⟩) s.nodes.length cap) vj (Go.Proofs.YtbfjlhddebollaaDoor.setN s i n') := ht.1
  refine hm.mono (fun k hk => ?_) (h.isIn.chg hc)
  rcases hk with hk | hk
  · exact hk
  · simp at hk
    omega
/-- A job's field is written. -/
theorem Pg.setJ (h : Pg F w g c vn vj s) {i : Nat} {n n' : Jb} (hi : s.jobs[i]? = some n) {b cap : Nat} (hv : vj = .slice (some ⟨b, 0, none⟩) s.jobs.length cap) (j : Nat) (hj : j < 12) (u : Value) (hn : n'.cells = n.cells.set j u) :
    Pg F (w.setCell ⟨b, i * 12 + j, none⟩ u) g c vn vj (setJ s i n') ∧ Chg F w (w.setCell ⟨b, i * 12 + j, none⟩ u) := by
  have hr := h.rowJ
  have hF : F b := (ObjF.ok h ⟨56, 12, vj, s.jobs.length, jobsC s.jobs⟩ (by simp)).2 b (by rw [hv]; rfl)
  have hc := chg_cell (w := w) (k := i * 12 + j) (u := u) hF
  subst hv
  obtain ⟨h1, h2⟩ := hr.stored (i * 12 + j) u
  have hset : jobsC (s.jobs.set i n') = (jobsC s.jobs).set (i * 12 + j) u := flat_set Jb.len hi j hj u hn
  have ht := ObjF.turn (w' := w.setCell ⟨b, i * 12 + j, none⟩ u) h 1 (by simp) ⟨56, 12, .slice (some ⟨b, 0, none⟩) s.jobs.length cap, (s.jobs.set i n').length, jobsC (s.jobs.set i n')⟩ (by rw [hset, List.length_set]; exact h1)
    ((Chg.refl _ w).setCell fun _ => rfl) (fun k hk => .inl hk)
  refine ⟨?_, hc⟩
  have hm : Pg (Fp.since F w (w.setCell ⟨b, i * 12 + j, none⟩ u)) (w.setCell ⟨b, i * 12 + j, none⟩ u) g c vn (.slice (some ⟨b, 0, none⟩) s.jobs.length cap) (Go.Proofs.YtbfjlhddebollaaDoor.setJ s i n') := ht.1
  refine hm.mono (fun k hk => ?_) (h.isIn.chg hc)
  rcases hk with hk | hk
  · exact hk
  · simp at hk
    omega
/-- One of the state's numbers is written. -/
theorem Pg.setG (h : Pg F w g c vn vj s) (s' : St) (k : Nat) (u : Value) (hn : s'.nodes = s.nodes) (hj : s'.jobs = s.jobs) (hc : pgC c vn vj s' = (pgC c vn vj s).setIfInBounds k u) :
    Pg F (w.setCell ⟨g, k, none⟩ u) g c vn vj s' ∧ Chg F w (w.setCell ⟨g, k, none⟩ u) := by
  have := ObjF.setCell h k u
  unfold Pg
  rw [hn, hj, hc]
  exact this
end

end Go.Proofs.YtbfjlhddebollaaDoor

/- Package book: a page's small methods. -/
namespace Go.Proofs.YtbfjlhddebollaaDoor
open Go.RowKit

section
variable {F : Fp} {w : World} {g : Nat} {c : Cf} {vn vj : Value} {s : St}
theorem Pg.c9 (h : Pg F w g c vn vj s) : w.cell? ⟨g, 9, none⟩ = some vn := h.blk.cell 9
theorem Pg.c10 (h : Pg F w g c vn vj s) : w.cell? ⟨g, 10, none⟩ = some vj := h.blk.cell 10
theorem Pg.c11 (h : Pg F w g c vn vj s) : w.cell? ⟨g, 11, none⟩ = some (.int .i64 s.goal) := h.blk.cell 11
theorem Pg.c12 (h : Pg F w g c vn vj s) : w.cell? ⟨g, 12, none⟩ = some (.int .i64 s.prior) := h.blk.cell 12
theorem Pg.c13 (h : Pg F w g c vn vj s) : w.cell? ⟨g, 13, none⟩ = some (.int .i64 s.mode) := h.blk.cell 13
theorem Pg.c14 (h : Pg F w g c vn vj s) : w.cell? ⟨g, 14, none⟩ = some (.int .i64 s.term) := h.blk.cell 14
theorem Pg.slN (h : Pg F w g c vn vj s) : ∃ A cap, vn = .slice A s.nodes.length cap ∧ s.nodes.length ≤ cap ∧ cap ≤ 9223372036854775807 := h.rd.nodes.slice_
theorem Pg.slJ (h : Pg F w g c vn vj s) : ∃ A cap, vj = .slice A s.jobs.length cap ∧ s.jobs.length ≤ cap ∧ cap ≤ 9223372036854775807 := h.rd.jobs.slice_
end

theorem isJob_any (F : Fp) (w : World) (g : Nat) (c : Cf) (vn vj : Value) (s : St) (a : Int) (h : Pg F w g c vn vj s) :
    Calls Tryd.prog 69 #[.pointer (some ⟨g, 0, none⟩), .int .i64 a] w fun e w' => e = .returned (.bool (inR a 1 (s.jobs.length : Int))) ∧ w = w' := by
  have HF := Lib.hid fun n lo hi w' => isFrom_any n lo hi w'
  have c10 := h.c10
  obtain ⟨A, cap, rfl, h1, h2⟩ := h.slJ
  clear h
  go_enter Tryd.func69, Tryd.ntmps69
  go_wp2_with fail
  refine (HF.out _ _ _ _).mono ?_
  rintro e1 w1 ⟨rfl, rfl⟩
  go_wp2
  go_ret
  exact ⟨rfl, rfl⟩

theorem isNode_any (F : Fp) (w : World) (g : Nat) (c : Cf) (vn vj : Value) (s : St) (a : Int) (h : Pg F w g c vn vj s) :
    Calls Tryd.prog 70 #[.pointer (some ⟨g, 0, none⟩), .int .i64 a] w fun e w' => e = .returned (.bool (inR a 0 ((s.nodes.length : Int) - 1))) ∧ w = w' := by
  have HF := Lib.hid fun n lo hi w' => isFrom_any n lo hi w'
  have c9 := h.c9
  obtain ⟨A, cap, rfl, h1, h2⟩ := h.slN
  have hw : wrap64 ((s.nodes.length : Int) - 1) = (s.nodes.length : Int) - 1 := IntWalk.wrap64_in _ (by omega)
  clear h
  go_enter Tryd.func70, Tryd.ntmps70
  go_wp2_with fail
  refine (HF.out _ _ _ _).mono ?_
  rintro e1 w1 ⟨rfl, rfl⟩
  go_wp2
  go_ret
  exact ⟨rfl, rfl⟩

theorem node_any (F : Fp) (w : World) (g : Nat) (c : Cf) (vj : Value) (s : St) (i b cap : Nat) (n : Nd) (h : Pg F w g c (.slice (some ⟨b, 0, none⟩) s.nodes.length cap) vj s) (hi : s.nodes[i]? = some n) :
    Calls Tryd.prog 105 #[.pointer (some ⟨g, 0, none⟩), .int .i64 (i : Int)] w fun e w' => e = .returned (.pointer (some ⟨b, i * 5, none⟩)) ∧ w = w' := by
  have c9 := h.c9
  have hil := (List.getElem?_eq_some_iff.1 hi).1
  clear h hi
  go_enter Tryd.func105, Tryd.ntmps105
  go_wp2
  go_ret
  exact ⟨by simp, rfl⟩

theorem job_any (F : Fp) (w : World) (g : Nat) (c : Cf) (vn : Value) (s : St) (i b cap : Nat) (n : Jb) (h : Pg F w g c vn (.slice (some ⟨b, 0, none⟩) s.jobs.length cap) s) (hi : s.jobs[i]? = some n) (hc : cap ≤ 9223372036854775807) (hn : s.jobs.length ≤ cap) :
    Calls Tryd.prog 106 #[.pointer (some ⟨g, 0, none⟩), .int .i64 ((i : Int) + 1)] w fun e w' => e = .returned (.pointer (some ⟨b, i * 12, none⟩)) ∧ w = w' := by
  have c10 := h.c10
  have hil := (List.getElem?_eq_some_iff.1 hi).1
  have hw1 : wrap64 ((i : Int) + 1 - 1) = (i : Int) := by rw [IntWalk.wrap64_in _ (by omega)]; omega
  clear h hi
  go_enter Tryd.func106, Tryd.ntmps106
  go_wp2
  go_ret
  exact ⟨by simp, rfl⟩

theorem Index_any (xs : List Int) (x : Int) (v : Value) (w : World) (hr : Rd w v (xs.map I)) (hl : xs.length ≤ 100) :
    Calls Tryd.prog 113 #[v, .int .i64 x] w fun e w' => ∃ r : Int, e = .returned (.int .i64 r) ∧ (0 ≤ r ↔ x ∈ xs) ∧ w = w' := by
  obtain ⟨A, cap, rfl, hnc, hcm⟩ := hr.sliceN (n := xs.length) (by simp)
  have HR := Lib.hid hr
  clear hr
  go_enter Tryd.func113, Tryd.ntmps113
  go_wp2_with fail
  go_loop [8] (fun i => ∃ k : Nat, i = .int .i64 k ∧ k ≤ xs.length ∧ Hid (∀ j y, j < k → xs[j]? = some y → y ≠ x)) (fun i => xs.length - (intOf i).toNat)
  case atStart => exact ⟨0, rfl, Nat.zero_le _, Lib.hid (fun j y h => absurd h (Nat.not_lt_zero j))⟩
  case round =>
    obtain ⟨k, rfl, hk, HA⟩ := hrel
    by_cases hlt : k < xs.length
    · have d1 : decide ((k : Int) < (xs.length : Int)) = true := decide_eq_true (by omega)
      have d1' : decide (k < xs.length) = true := decide_eq_true hlt
      obtain ⟨y, hy⟩ : ∃ y, xs[k]? = some y := ⟨_, List.getElem?_eq_getElem hlt⟩
      obtain ⟨b, o, rfl, _, hc⟩ := HR.out.get (by simpa using (show 0 < xs.length by omega))
      have c0 := hc k (I y) (by rw [List.getElem?_map, hy]; rfl)
      have HY := Lib.hid hy
      have HLT := Lib.hid hlt
      clear hc hy
      by_cases he : x = y
      · have e1 : (x == y) = true := by rw [he]; exact beq_self_eq_true _
        have HM : Hid (x ∈ xs) := Lib.hid (by rw [he]; exact List.mem_of_getElem? HY.out)
        clear he
        go_wp2
        go_ret
        exact ⟨(k : Int), rfl, ⟨fun _ => HM.out, fun _ => by omega⟩, rfl⟩
      · have e1 : (x == y) = false := by rw [beq_eq_false_iff_ne]; exact he
        have HE := Lib.hid he
        clear he
        go_wp2
        go_round
        case rel =>
          refine ⟨k + 1, by go_num, HLT.out, Lib.hid fun j z hj hz => ?_⟩
          rcases Nat.lt_or_ge j k with h' | h'
          · exact HA.out j z h' hz
          · obtain rfl : j = k := by omega
            rw [HY.out] at hz
            cases hz
            exact fun e => HE.out e.symm
        case measure => have := HLT.out; simp [intOf]; omega
    · have d1 : decide ((k : Int) < (xs.length : Int)) = false := decide_eq_false (by omega)
      have d1' : decide (k < xs.length) = false := decide_eq_false hlt
      obtain rfl : k = xs.length := by omega
      have HM : Hid (¬ x ∈ xs) := Lib.hid fun hm => by
        obtain ⟨j, hj, e⟩ := List.getElem_of_mem hm
        exact HA.out j x hj (by rw [List.getElem?_eq_getElem hj, e]) rfl
      go_wp2
      go_ret
      exact ⟨-1, rfl, ⟨fun h => by omega, fun h => absurd h HM.out⟩, rfl⟩

theorem Contains_any (xs : List Int) (x : Int) (v : Value) (w : World) (hr : Rd w v (xs.map I)) (hl : xs.length ≤ 100) :
    Calls Tryd.prog 110 #[v, .int .i64 x] w fun e w' => e = .returned (.bool (decide (x ∈ xs))) ∧ w = w' := by
  have HI := Lib.hid (Index_any xs x v w hr hl)
  clear hr
  go_enter Tryd.func110, Tryd.ntmps110
  go_wp2_with fail
  refine HI.out.mono ?_
  rintro e1 w1 ⟨r, rfl, hr, rfl⟩
  have HD : Hid (decide (0 ≤ r) = decide (x ∈ xs)) := Lib.hid (by rw [decide_eq_decide]; exact hr)
  clear hr
  go_wp2
  go_ret
  exact ⟨by rw [← HD.out]; rfl, rfl⟩

theorem is_any (F : Fp) (w : World) (g : Nat) (c : Cf) (vn vj : Value) (s : St) (i : Nat) (j : Jb) (xs : List Int) (v : Value) (h : Pg F w g c vn vj s) (hi : s.jobs[i]? = some j) (hr : Rd w v (xs.map I)) (hl : xs.length ≤ 100) :
    Calls Tryd.prog 103 #[.pointer (some ⟨g, 0, none⟩), .int .i64 ((i : Int) + 1), v] w fun e w' => e = .returned (.bool (decide (j.phase ∈ xs))) ∧ w = w' := by
  obtain ⟨b, cap, rfl, hnc, hcm, hb, hbg, hat, hfr⟩ := h.jobAt hi
  have HJ := Lib.hid (job_any F w g c vn s i b cap j h hi hcm hnc)
  have HC := Lib.hid (Contains_any xs j.phase v w hr hl)
  have c6 := hat.c6
  generalize decide (j.phase ∈ xs) = d at *
  clear h hi hr hat hfr hb hbg
  go_enter Tryd.func103, Tryd.ntmps103
  go_wp2_with fail
  refine HJ.out.mono ?_
  rintro e1 w1 ⟨rfl, rfl⟩
  go_wp2_with fail
  refine HC.out.mono ?_
  rintro e1 w1 ⟨rfl, rfl⟩
  go_wp2
  go_ret
  exact ⟨rfl, rfl⟩

end Go.Proofs.YtbfjlhddebollaaDoor

/- Package book: nodes get a job, or none; a job is let go; whether nodes are free. -/
namespace Go.Proofs.YtbfjlhddebollaaDoor
open Go.RowKit

/-- The first k nodes of the set have got the job. -/
def giveK (l : List Nd) (set job : Int) (k : Nat) : List Nd := l.mapIdx fun i n => if i < k ∧ hasS set i = true then { n with job := job } else n
theorem giveK_zero (l : List Nd) (set job : Int) : giveK l set job 0 = l := by
  unfold giveK
  apply List.ext_getElem?
  intro i
  rw [List.getElem?_mapIdx]
  cases l[i]? <;> simp
theorem giveK_len (l : List Nd) (set job : Int) (k : Nat) : (giveK l set job k).length = l.length := by unfold giveK; simp
theorem giveK_all (l : List Nd) (set job : Int) : giveK l set job l.length = giveL l set job := by
  unfold giveK giveL
  apply List.ext_getElem?
  intro i
  rw [List.getElem?_mapIdx, List.getElem?_mapIdx]
  by_cases h : i < l.length
  · simp [h]
  · rw [List.getElem?_eq_none (by omega)]; rfl
theorem giveK_get {l : List Nd} {set job : Int} {k : Nat} {n : Nd} (h : l[k]? = some n) : (giveK l set job k)[k]? = some n := by
  unfold giveK
  rw [List.getElem?_mapIdx, h]
  simp
theorem giveK_skip {l : List Nd} {set job : Int} {k : Nat} (hs : hasS set k = false) : giveK l set job (k + 1) = giveK l set job k := by
  unfold giveK
  apply List.ext_getElem?
  intro i
  rw [List.getElem?_mapIdx, List.getElem?_mapIdx]
  cases l[i]? with
  | none => rfl
  | some n =>
    simp only [Option.map_some, Option.some.injEq]
    by_cases hi : i < k
    · have h1 : i < k + 1 := by omega
      simp [hi, h1]
    · by_cases he : i = k
      · subst he
        simp [hs]
      · have h1 : ¬ i < k + 1 := by omega
        simp [hi, h1]
theorem giveK_set {l : List Nd} {set job : Int} {k : Nat} {n : Nd} (h : l[k]? = some n) (hs : hasS set k = true) : (giveK l set job k).set k { n with job := job } = giveK l set job (k + 1) := by
  unfold giveK
  apply List.ext_getElem?
  intro i
  rw [List.getElem?_set, List.getElem?_mapIdx, List.getElem?_mapIdx]
  have hk := (List.getElem?_eq_some_iff.1 h).1
  by_cases he : k = i
  · subst he
    rw [h]
    simp [hs, hk]
  · rw [if_neg he]
    cases l[i]? with
    | none => rfl
    | some m =>
      simp only [Option.map_some, Option.some.injEq]
      by_cases hi : i < k
      · have h1 : i < k + 1 := by omega
        simp [hi, h1]
      · have h1 : ¬ i < k + 1 := by omega
        simp [hi, h1]

theorem Nd.setJob (n : Nd) (job : Int) : ({ n with job := job } : Nd).cells = n.cells.set 4 (.int .i64 job) := rfl

set_option maxRecDepth 100000 in
set_option maxHeartbeats 4000000 in
theorem give_any (F : Fp) (w : World) (g : Nat) (c : Cf) (vn vj : Value) (s : St) (set job : Int) (h : Pg F w g c vn vj s) (hn : s.nodes.length ≤ 6) :
    Calls Tryd.prog 108 #[.pointer (some ⟨g, 0, none⟩), .int .i64 set, .int .i64 job] w fun e w' => e = .returned (.tuple #[]) ∧ Pg F w' g c vn vj (giveS s set job) ∧ Chg F w w' := by
  have HH := Lib.hid fun i hi w' => has_any set i hi w'
  have c9 := h.c9
  obtain ⟨A, cap, rfl, hnc, hcm⟩ := h.slN
  have HP := Lib.hid h
  clear h
  go_enter Tryd.func108, Tryd.ntmps108
  go_wp2_with fail
  go_loopg [13] s.nodes.length (fun gg i wr => ∃ (q : Nat), i = .int .i64 q ∧ q ≤ s.nodes.length ∧ gg = s.nodes.length - q ∧ Hid (Pg F wr g c (.slice A s.nodes.length cap) vj { s with nodes := giveK s.nodes set job q } ∧ Chg F w wr))
  case atStart => exact ⟨0, rfl, Nat.zero_le _, by omega, Lib.hid ⟨by rw [giveK_zero]; exact HP.out, Chg.refl _ _⟩⟩
  case round =>
    obtain ⟨q, rfl, hq, rfl, HR⟩ := hrel
    by_cases hlt : q < s.nodes.length
    · have d1 : decide ((q : Int) < (s.nodes.length : Int)) = true := decide_eq_true (by omega)
      have d1' : decide (q < s.nodes.length) = true := decide_eq_true hlt
      obtain ⟨n, hnk⟩ : ∃ n, s.nodes[q]? = some n := ⟨_, List.getElem?_eq_getElem hlt⟩
      have hq64 : q < 64 := by omega
      have HNK := Lib.hid hnk
      have HLT := Lib.hid hlt
      clear hnk
      go_wp2_with fail
      refine (HH.out q hq64 _).mono ?_
      rintro e1 w1 ⟨rfl, rfl⟩
      cases hh : hasS set q
      · have HR2 := Lib.hid (show Pg F wr g c (.slice A s.nodes.length cap) vj { s with nodes := giveK s.nodes set job (q + 1) } by rw [giveK_skip hh]; exact HR.out.1)
        go_wp2
        go_roundg (s.nodes.length - (q + 1))
        case measure => have := HLT.out; omega
        case rel => exact ⟨q + 1, by go_num, HLT.out, rfl, Lib.hid ⟨HR2.out, HR.out.2⟩⟩
      · have hl := giveK_len s.nodes set job q
        have hg1 := giveK_get (set := set) (job := job) HNK.out
        obtain ⟨b, cap2, hv, hnc2, hcm2, hb, hbg, hat, hfr⟩ := HR.out.1.nodeAt (i := q) (n := n) hg1
        simp only [hl] at hv
        injection hv with hA _ hcap
        subst hA hcap
        have HN := Lib.hid (node_any F wr g c vj { s with nodes := giveK s.nodes set job q } q b cap n (by simp only [hl]; exact HR.out.1) hg1)
        have HS := Lib.hid (HR.out.1.setN (b := b) (cap := cap) (n' := { n with job := job }) hg1 (by simp only [hl]) 4 (by omega) (.int .i64 job) (Nd.setJob n job))
        have c4 := hat.c4
        have f4 := hfr (q * 5 + 4)
        have HR2 : Hid (Pg F (wr.setCell ⟨b, q * 5 + 4, none⟩ (.int .i64 job)) g c (.slice (some ⟨b, 0, none⟩) s.nodes.length cap) vj { s with nodes := giveK s.nodes set job (q + 1) } ∧ Chg F w (wr.setCell ⟨b, q * 5 + 4, none⟩ (.int .i64 job))) := Lib.hid (by
          rw [← giveK_set HNK.out hh]
          exact ⟨HS.out.1, HR.out.2.trans HS.out.2 (fun _ _ h => h)⟩)
        clear hat hfr hb hbg hg1 HS hl
        go_wp2_with fail
        refine HN.out.mono ?_
        rintro e1 w1_ ⟨rfl, rfl⟩
        go_wp2
        go_roundg (s.nodes.length - (q + 1))
        case measure => have := HLT.out; omega
        case rel => exact ⟨q + 1, by go_num, HLT.out, rfl, HR2⟩
    · have d1 : decide ((q : Int) < (s.nodes.length : Int)) = false := decide_eq_false (by omega)
      have d1' : decide (q < s.nodes.length) = false := decide_eq_false hlt
      obtain rfl : q = s.nodes.length := by omega
      go_wp2
      go_end0
      refine ⟨rfl, ?_, HR.out.2⟩
      have := HR.out.1
      rw [giveK_all] at this
      exact this

section
variable {F : Fp} {w : World} {g : Nat} {c : Cf} {vn vj : Value} {s : St}
/-- Four fields of a job are written. -/
theorem Pg.gone (h : Pg F w g c vn vj s) {k : Nat} {j : Jb} (hj : s.jobs[k]? = some j) {b cap : Nat} (hv : vj = .slice (some ⟨b, 0, none⟩) s.jobs.length cap) (phase : Int) :
    Pg F ((((w.setCell ⟨b, k * 12 + 6, none⟩ (.int .i64 phase)).setCell ⟨b, k * 12 + 8, none⟩ (.int .i64 0)).setCell ⟨b, k * 12 + 9, none⟩ (.int .i64 0)).setCell ⟨b, k * 12 + 10, none⟩ (.int .i64 0)) g c vn vj (Go.Proofs.YtbfjlhddebollaaDoor.setJ s k (Go.Proofs.YtbfjlhddebollaaDoor.gone j phase)) ∧
      Chg F w ((((w.setCell ⟨b, k * 12 + 6, none⟩ (.int .i64 phase)).setCell ⟨b, k * 12 + 8, none⟩ (.int .i64 0)).setCell ⟨b, k * 12 + 9, none⟩ (.int .i64 0)).setCell ⟨b, k * 12 + 10, none⟩ (.int .i64 0)) := by
  have hk := (List.getElem?_eq_some_iff.1 hj).1
  have set_at : ∀ (l : List Jb) (x : Jb), l.length = s.jobs.length → (l.set k x)[k]? = some x := fun l x hl => by rw [List.getElem?_set_self (by omega)]
  obtain ⟨h1, e1⟩ := h.setJ (n' := { j with phase := phase }) hj hv 6 (by omega) (.int .i64 phase) rfl
  obtain ⟨h2, e2⟩ := h1.setJ (n' := { j with phase := phase, nodes := 0 }) (set_at s.jobs _ rfl) (b := b) (cap := cap) (by rw [hv]; simp [Go.Proofs.YtbfjlhddebollaaDoor.setJ]) 8 (by omega) (.int .i64 0) rfl
  obtain ⟨h3, e3⟩ := h2.setJ (n' := { j with phase := phase, nodes := 0, since := 0 }) (set_at _ _ (by simp [Go.Proofs.YtbfjlhddebollaaDoor.setJ])) (b := b) (cap := cap) (by rw [hv]; simp [Go.Proofs.YtbfjlhddebollaaDoor.setJ]) 9 (by omega) (.int .i64 0) rfl
  obtain ⟨h4, e4⟩ := h3.setJ (n' := Go.Proofs.YtbfjlhddebollaaDoor.gone j phase) (set_at _ _ (by simp [Go.Proofs.YtbfjlhddebollaaDoor.setJ])) (b := b) (cap := cap) (by rw [hv]; simp [Go.Proofs.YtbfjlhddebollaaDoor.setJ]) 10 (by omega) (.int .i64 0) rfl
  refine ⟨?_, ((e1.trans e2 (fun _ _ h => h)).trans e3 (fun _ _ h => h)).trans e4 (fun _ _ h => h)⟩
  simp only [Go.Proofs.YtbfjlhddebollaaDoor.setJ, List.set_set] at h4 ⊢
  exact h4
end

set_option maxRecDepth 100000 in
set_option maxHeartbeats 4000000 in
theorem letGo_any (F : Fp) (w : World) (g : Nat) (c : Cf) (vn vj : Value) (s : St) (k : Nat) (j : Jb) (phase : Int) (h : Pg F w g c vn vj s) (hj : s.jobs[k]? = some j) (hn : s.nodes.length ≤ 6) :
    Calls Tryd.prog 104 #[.pointer (some ⟨g, 0, none⟩), .int .i64 ((k : Int) + 1), .int .i64 phase] w fun e w' => e = .returned (.tuple #[]) ∧ Pg F w' g c vn vj (letGoS s k j phase) ∧ Chg F w w' := by
  obtain ⟨b, cap, rfl, hnc, hcm, hb, hbg, hat, hfr⟩ := h.jobAt hj
  have HJ := Lib.hid (job_any F w g c vn s k b cap j h hj hcm hnc)
  have HG := Lib.hid (give_any F w g c vn (.slice (some ⟨b, 0, none⟩) s.jobs.length cap) s j.nodes 0 h hn)
  have c8 := hat.c8
  have HK := Lib.hid hj
  clear h hat hfr hj
  go_enter Tryd.func104, Tryd.ntmps104
  go_wp2_with fail
  refine HJ.out.mono ?_
  rintro e1 w1 ⟨rfl, rfl⟩
  go_wp2_with fail
  refine HG.out.mono ?_
  rintro e2 w2 ⟨rfl, hp, hc⟩
  have HC := Lib.hid hc
  have hj2 : (giveS s j.nodes 0).jobs[k]? = some j := HK.out
  have HS := Lib.hid (hp.gone hj2 (b := b) (cap := cap) rfl phase)
  obtain ⟨b', cap', hv, _, _, hb', hbg', hat', hfr'⟩ := hp.jobAt hj2
  injection hv with hA _ hcap
  injection hA with hA
  injection hA with hA
  subst hA hcap
  have c6 := hat'.c6
  have c8 := hat'.c8
  have c9 := hat'.c9
  have c10 := hat'.c10
  have f6 := hfr' (k * 12 + 6)
  have f8 := hfr' (k * 12 + 8)
  have f9 := hfr' (k * 12 + 9)
  have f10 := hfr' (k * 12 + 10)
  clear hp hc hj2 hat' hfr' hb hb' hbg hbg'
  go_wp2
  go_end0
  exact ⟨rfl, HS.out.1, HC.out.trans HS.out.2 (fun _ _ h => h)⟩

end Go.Proofs.YtbfjlhddebollaaDoor

/- Package book: the ops of a node. -/
namespace Go.Proofs.YtbfjlhddebollaaDoor
open Go.RowKit

/-- What an op's function leaves. -/
def MDone (F : Fp) (w : World) (g : Nat) (c : Cf) (res : Res9) (e : Ending) (w' : World) : Prop := e = .returned (.int .i64 res.2) ∧ (∃ vn vj, Pg (F.since w w') w' g c vn vj res.1) ∧ Chg F w w'
theorem MDone.of {F : Fp} {w w' : World} {g : Nat} {c : Cf} {vn vj : Value} {res : Res9} {s' : St} {er : Int} {e : Ending} (hres : res = (s', er)) (he : e = .returned (.int .i64 er)) (hp : Pg F w' g c vn vj s') (hc : Chg F w w') : MDone F w g c res e w' := by
  subst hres
  refine ⟨he, ⟨vn, vj, hp.mono (fun k hk => .inl hk) fun k hk => ?_⟩, hc⟩
  rcases hk with hk | hk
  · exact hp.isIn k hk
  · exact hk.2
theorem chg2 {F : Fp} {a b c : World} (h1 : Ext a b) (h2 : Chg F b c) : Chg F a c := (Chg.of_ext h1).trans h2 (fun _ _ h => h)
theorem chg3 {F : Fp} {a b c : World} (h1 : Chg F a b) (h2 : Chg F b c) : Chg F a c := h1.trans h2 (fun _ _ h => h)
theorem boxOp (w : World) (oc : Array Value) : Ext w (w.alloc (.cells oc 36)) ∧ Blk (w.alloc (.cells oc 36)) w.heap.size 36 oc := ⟨(Below.refl _ _).alloc (Nat.le_refl _) _, Blk.new w _ _⟩
theorem set_set_get {l : List Nd} {i : Nat} {n m : Nd} (h : l[i]? = some n) : (l.set i m)[i]? = some m := by rw [List.getElem?_set_self (List.getElem?_eq_some_iff.1 h).1]

set_option maxRecDepth 100000 in
set_option maxHeartbeats 4000000 in
theorem cordon_any (F : Fp) (w : World) (g : Nat) (c : Cf) (vn vj : Value) (s : St) (z v a3 a4 a5 a6 : Int) (i : Nat) (n : Nd) (h : Pg F w g c vn vj s) (hi : s.nodes[i]? = some n) :
    Calls Tryd.prog 86 #[.pointer (some ⟨g, 0, none⟩), .agg #[.int .i64 z, .int .i64 (i : Int), .int .i64 v, .int .i64 a3, .int .i64 a4, .int .i64 a5, .int .i64 a6]] w fun e w' => e = .returned (.int .i64 (cordonS s i n).2) ∧ (∃ vn vj, Pg (F.since w w') w' g c vn vj (cordonS s i n).1) ∧ Chg F w w' := by
  obtain ⟨hx, hbk⟩ := boxOp w #[.int .i64 z, .int .i64 (i : Int), .int .i64 v, .int .i64 a3, .int .i64 a4, .int .i64 a5, .int .i64 a6]
  obtain ⟨W1, hW1⟩ : ∃ W1, W1 = w.alloc (.cells #[.int .i64 z, .int .i64 (i : Int), .int .i64 v, .int .i64 a3, .int .i64 a4, .int .i64 a5, .int .i64 a6] 36) := ⟨_, rfl⟩
  rw [← hW1] at hx hbk
  have hp := h.ext hx
  obtain ⟨b, cap, rfl, hnc, hcm, hb, hbg, hat, hfr⟩ := hp.nodeAt hi
  have HN := Lib.hid (node_any F W1 g c vj s i b cap n hp hi)
  have HX := Lib.hid hx
  have HP := Lib.hid hp
  have HI := Lib.hid hi
  have HB := Lib.hid hbk
  have HF0 := Lib.hid hfr
  have hlw : w.heap.size ≠ b := fun e => by
    obtain ⟨b0, cap0, e0, _, _, hb0, _⟩ := h.nodeAt hi
    injection e0 with e1
    injection e1 with e1
    injection e1 with e1
    omega
  have q2 : W1.cell? ⟨w.heap.size, 2, none⟩ = some (.int .i64 v) := hbk.cell 2
  obtain ⟨c0, c1, c2, c3, c4⟩ := hat
  have f0 := hfr (i * 5)
  have f1 := hfr (i * 5 + 1)
  have f2 := hfr (i * 5 + 2)
  have f3 := hfr (i * 5 + 3)
  have f4 := hfr (i * 5 + 4)
  clear hx hp hi hfr hbk h
  have HS := Lib.hid (HP.out.setN HI.out rfl 1 (by omega) (.bool true) (n' := { n with cordon := true }) rfl)
  cases hup : n.up
  · have hr : cordonS s i n = (s, 5) := by rw [cordonS, if_neg (by rw [hup]; simp)]
    have HR := Lib.hid hr
    clear hr
    go_enter Tryd.func86, Tryd.ntmps86
    go_wp2_with fail
    rw [← hW1]
    clear hW1
    refine HN.out.mono ?_
    rintro e1 w1 ⟨rfl, rfl⟩
    go_wp2
    go_ret
    exact MDone.of (HR.out) rfl HP.out (Chg.of_ext HX.out)
  cases hco : n.cordon
  · have hr : cordonS s i n = (setN s i { n with cordon := true }, 0) := by rw [cordonS, if_pos ⟨hup, hco⟩]
    have HR := Lib.hid hr
    clear hr
    go_enter Tryd.func86, Tryd.ntmps86
    go_wp2_with fail
    rw [← hW1]
    clear hW1
    refine HN.out.mono ?_
    rintro e1 w1 ⟨rfl, rfl⟩
    go_wp2
    go_ret
    exact MDone.of (HR.out) rfl HS.out.1 (chg2 HX.out HS.out.2)
  · have hr : cordonS s i n = (s, 5) := by rw [cordonS, if_neg (by rw [hco]; simp)]
    have HR := Lib.hid hr
    clear hr
    go_enter Tryd.func86, Tryd.ntmps86
    go_wp2_with fail
    rw [← hW1]
    clear hW1
    refine HN.out.mono ?_
    rintro e1 w1 ⟨rfl, rfl⟩
    go_wp2
    go_ret
    exact MDone.of (HR.out) rfl HP.out (Chg.of_ext HX.out)

set_option maxRecDepth 100000 in
set_option maxHeartbeats 4000000 in
theorem uncordon_any (F : Fp) (w : World) (g : Nat) (c : Cf) (vn vj : Value) (s : St) (z v a3 a4 a5 a6 : Int) (i : Nat) (n : Nd) (h : Pg F w g c vn vj s) (hi : s.nodes[i]? = some n) :
    Calls Tryd.prog 87 #[.pointer (some ⟨g, 0, none⟩), .agg #[.int .i64 z, .int .i64 (i : Int), .int .i64 v, .int .i64 a3, .int .i64 a4, .int .i64 a5, .int .i64 a6]] w fun e w' => e = .returned (.int .i64 (uncordonS s i n).2) ∧ (∃ vn vj, Pg (F.since w w') w' g c vn vj (uncordonS s i n).1) ∧ Chg F w w' := by
  obtain ⟨hx, hbk⟩ := boxOp w #[.int .i64 z, .int .i64 (i : Int), .int .i64 v, .int .i64 a3, .int .i64 a4, .int .i64 a5, .int .i64 a6]
  obtain ⟨W1, hW1⟩ : ∃ W1, W1 = w.alloc (.cells #[.int .i64 z, .int .i64 (i : Int), .int .i64 v, .int .i64 a3, .int .i64 a4, .int .i64 a5, .int .i64 a6] 36) := ⟨_, rfl⟩
  rw [← hW1] at hx hbk
  have hp := h.ext hx
  obtain ⟨b, cap, rfl, hnc, hcm, hb, hbg, hat, hfr⟩ := hp.nodeAt hi
  have HN := Lib.hid (node_any F W1 g c vj s i b cap n hp hi)
  have HX := Lib.hid hx
  have HP := Lib.hid hp
  have HI := Lib.hid hi
  have HB := Lib.hid hbk
  have HF0 := Lib.hid hfr
  have hlw : w.heap.size ≠ b := fun e => by
    obtain ⟨b0, cap0, e0, _, _, hb0, _⟩ := h.nodeAt hi
    injection e0 with e1
    injection e1 with e1
    injection e1 with e1
    omega
  have q2 : W1.cell? ⟨w.heap.size, 2, none⟩ = some (.int .i64 v) := hbk.cell 2
  obtain ⟨c0, c1, c2, c3, c4⟩ := hat
  have f0 := hfr (i * 5)
  have f1 := hfr (i * 5 + 1)
  have f2 := hfr (i * 5 + 2)
  have f3 := hfr (i * 5 + 3)
  have f4 := hfr (i * 5 + 4)
  clear hx hp hi hfr hbk h
  have HS := Lib.hid (HP.out.setN HI.out rfl 1 (by omega) (.bool false) (n' := { n with cordon := false }) rfl)
  cases hco : n.cordon
  · have hr : uncordonS s i n = (s, 5) := by rw [uncordonS, if_neg (by rw [hco]; simp)]
    have HR := Lib.hid hr
    clear hr
    go_enter Tryd.func87, Tryd.ntmps87
    go_wp2_with fail
    rw [← hW1]
    clear hW1
    refine HN.out.mono ?_
    rintro e1 w1 ⟨rfl, rfl⟩
    go_wp2
    go_ret
    exact MDone.of (HR.out) rfl HP.out (Chg.of_ext HX.out)
  cases hmv : n.moving
  · have hr : uncordonS s i n = (setN s i { n with cordon := false }, 0) := by rw [uncordonS, if_pos ⟨hco, hmv⟩]
    have HR := Lib.hid hr
    clear hr
    go_enter Tryd.func87, Tryd.ntmps87
    go_wp2_with fail
    rw [← hW1]
    clear hW1
    refine HN.out.mono ?_
    rintro e1 w1 ⟨rfl, rfl⟩
    go_wp2
    go_ret
    exact MDone.of (HR.out) rfl HS.out.1 (chg2 HX.out HS.out.2)
  · have hr : uncordonS s i n = (s, 5) := by rw [uncordonS, if_neg (by rw [hmv]; simp)]
    have HR := Lib.hid hr
    clear hr
    go_enter Tryd.func87, Tryd.ntmps87
    go_wp2_with fail
    rw [← hW1]
    clear hW1
    refine HN.out.mono ?_
    rintro e1 w1 ⟨rfl, rfl⟩
    go_wp2
    go_ret
    exact MDone.of (HR.out) rfl HP.out (Chg.of_ext HX.out)

set_option maxRecDepth 100000 in
set_option maxHeartbeats 4000000 in
theorem move_any (F : Fp) (w : World) (g : Nat) (c : Cf) (vn vj : Value) (s : St) (z v a3 a4 a5 a6 : Int) (i : Nat) (n : Nd) (h : Pg F w g c vn vj s) (hi : s.nodes[i]? = some n) :
    Calls Tryd.prog 88 #[.pointer (some ⟨g, 0, none⟩), .agg #[.int .i64 z, .int .i64 (i : Int), .int .i64 v, .int .i64 a3, .int .i64 a4, .int .i64 a5, .int .i64 a6]] w fun e w' => e = .returned (.int .i64 (moveS s i n).2) ∧ (∃ vn vj, Pg (F.since w w') w' g c vn vj (moveS s i n).1) ∧ Chg F w w' := by
  obtain ⟨hx, hbk⟩ := boxOp w #[.int .i64 z, .int .i64 (i : Int), .int .i64 v, .int .i64 a3, .int .i64 a4, .int .i64 a5, .int .i64 a6]
  obtain ⟨W1, hW1⟩ : ∃ W1, W1 = w.alloc (.cells #[.int .i64 z, .int .i64 (i : Int), .int .i64 v, .int .i64 a3, .int .i64 a4, .int .i64 a5, .int .i64 a6] 36) := ⟨_, rfl⟩
  rw [← hW1] at hx hbk
  have hp := h.ext hx
  obtain ⟨b, cap, rfl, hnc, hcm, hb, hbg, hat, hfr⟩ := hp.nodeAt hi
  have HN := Lib.hid (node_any F W1 g c vj s i b cap n hp hi)
  have HX := Lib.hid hx
  have HP := Lib.hid hp
  have HI := Lib.hid hi
  have HB := Lib.hid hbk
  have HF0 := Lib.hid hfr
  have hlw : w.heap.size ≠ b := fun e => by
    obtain ⟨b0, cap0, e0, _, _, hb0, _⟩ := h.nodeAt hi
    injection e0 with e1
    injection e1 with e1
    injection e1 with e1
    omega
  have q2 : W1.cell? ⟨w.heap.size, 2, none⟩ = some (.int .i64 v) := hbk.cell 2
  obtain ⟨c0, c1, c2, c3, c4⟩ := hat
  have f0 := hfr (i * 5)
  have f1 := hfr (i * 5 + 1)
  have f2 := hfr (i * 5 + 2)
  have f3 := hfr (i * 5 + 3)
  have f4 := hfr (i * 5 + 4)
  clear hx hp hi hfr hbk h
  have HS := Lib.hid (HP.out.setN HI.out rfl 2 (by omega) (.bool true) (n' := { n with moving := true }) rfl)
  cases hup : n.up
  · have hr : moveS s i n = (s, 5) := by rw [moveS, if_neg (by rw [hup]; simp)]
    have HR := Lib.hid hr
    clear hr
    go_enter Tryd.func88, Tryd.ntmps88
    go_wp2_with fail
    rw [← hW1]
    clear hW1
    refine HN.out.mono ?_
    rintro e1 w1 ⟨rfl, rfl⟩
    go_wp2
    go_ret
    exact MDone.of (HR.out) rfl HP.out (Chg.of_ext HX.out)
  cases hco : n.cordon
  · have hr : moveS s i n = (s, 5) := by rw [moveS, if_neg (by rw [hco]; simp)]
    have HR := Lib.hid hr
    clear hr
    go_enter Tryd.func88, Tryd.ntmps88
    go_wp2_with fail
    rw [← hW1]
    clear hW1
    refine HN.out.mono ?_
    rintro e1 w1 ⟨rfl, rfl⟩
    go_wp2
    go_ret
    exact MDone.of (HR.out) rfl HP.out (Chg.of_ext HX.out)
  cases hmv : n.moving
  · by_cases hj : n.job = 0
    · have hr : moveS s i n = (setN s i { n with moving := true }, 0) := by rw [moveS, if_pos ⟨hup, hco, hmv, hj⟩]
      have HR := Lib.hid hr
      have hj1 : (n.job != 0) = false := by rw [hj]; rfl
      clear hr hj
      go_enter Tryd.func88, Tryd.ntmps88
      go_wp2_with fail
      rw [← hW1]
      clear hW1
      refine HN.out.mono ?_
      rintro e1 w1 ⟨rfl, rfl⟩
      go_wp2
      go_ret
      exact MDone.of (HR.out) rfl HS.out.1 (chg2 HX.out HS.out.2)
    · have hr : moveS s i n = (s, 5) := by rw [moveS, if_neg (fun h => hj h.2.2.2)]
      have HR := Lib.hid hr
      have hj1 : (n.job != 0) = true := by rw [bne_iff_ne]; exact hj
      clear hr hj
      go_enter Tryd.func88, Tryd.ntmps88
      go_wp2_with fail
      rw [← hW1]
      clear hW1
      refine HN.out.mono ?_
      rintro e1 w1 ⟨rfl, rfl⟩
      go_wp2
      go_ret
      exact MDone.of (HR.out) rfl HP.out (Chg.of_ext HX.out)
  · have hr : moveS s i n = (s, 5) := by rw [moveS, if_neg (by rw [hmv]; simp)]
    have HR := Lib.hid hr
    clear hr
    go_enter Tryd.func88, Tryd.ntmps88
    go_wp2_with fail
    rw [← hW1]
    clear hW1
    refine HN.out.mono ?_
    rintro e1 w1 ⟨rfl, rfl⟩
    go_wp2
    go_ret
    exact MDone.of (HR.out) rfl HP.out (Chg.of_ext HX.out)

set_option maxRecDepth 100000 in
set_option maxHeartbeats 4000000 in
theorem moved_any (F : Fp) (w : World) (g : Nat) (c : Cf) (vn vj : Value) (s : St) (z v a3 a4 a5 a6 : Int) (i : Nat) (n : Nd) (h : Pg F w g c vn vj s) (hi : s.nodes[i]? = some n) :
    Calls Tryd.prog 89 #[.pointer (some ⟨g, 0, none⟩), .agg #[.int .i64 z, .int .i64 (i : Int), .int .i64 v, .int .i64 a3, .int .i64 a4, .int .i64 a5, .int .i64 a6]] w fun e w' => e = .returned (.int .i64 (movedS s i n v).2) ∧ (∃ vn vj, Pg (F.since w w') w' g c vn vj (movedS s i n v).1) ∧ Chg F w w' := by
  obtain ⟨hx, hbk⟩ := boxOp w #[.int .i64 z, .int .i64 (i : Int), .int .i64 v, .int .i64 a3, .int .i64 a4, .int .i64 a5, .int .i64 a6]
  obtain ⟨W1, hW1⟩ : ∃ W1, W1 = w.alloc (.cells #[.int .i64 z, .int .i64 (i : Int), .int .i64 v, .int .i64 a3, .int .i64 a4, .int .i64 a5, .int .i64 a6] 36) := ⟨_, rfl⟩
  rw [← hW1] at hx hbk
  have hp := h.ext hx
  obtain ⟨b, cap, rfl, hnc, hcm, hb, hbg, hat, hfr⟩ := hp.nodeAt hi
  have HN := Lib.hid (node_any F W1 g c vj s i b cap n hp hi)
  have HX := Lib.hid hx
  have HP := Lib.hid hp
  have HI := Lib.hid hi
  have HB := Lib.hid hbk
  have HF0 := Lib.hid hfr
  have hlw : w.heap.size ≠ b := fun e => by
    obtain ⟨b0, cap0, e0, _, _, hb0, _⟩ := h.nodeAt hi
    injection e0 with e1
    injection e1 with e1
    injection e1 with e1
    omega
  have q2 : W1.cell? ⟨w.heap.size, 2, none⟩ = some (.int .i64 v) := hbk.cell 2
  obtain ⟨c0, c1, c2, c3, c4⟩ := hat
  have f0 := hfr (i * 5)
  have f1 := hfr (i * 5 + 1)
  have f2 := hfr (i * 5 + 2)
  have f3 := hfr (i * 5 + 3)
  have f4 := hfr (i * 5 + 4)
  clear hx hp hi hfr hbk h
  have HV := Lib.hid fun w' => isVersion_any v w'
  have hil := (List.getElem?_eq_some_iff.1 HI.out).1
  obtain ⟨h1, e1⟩ := HP.out.setN HI.out rfl 3 (by omega) (.int .i64 v) (n' := { n with version := v }) rfl
  obtain ⟨h2, e2⟩ := h1.setN (b := b) (cap := cap) (n := { n with version := v }) (set_set_get HI.out) (by simp [setN]) 2 (by omega) (.bool false) (n' := { n with version := v, moving := false }) rfl
  obtain ⟨h3, e3⟩ := h2.setN (b := b) (cap := cap) (n := { n with version := v, moving := false }) (set_set_get (set_set_get HI.out)) (by simp [setN]) 1 (by omega) (.bool false) (n' := { n with version := v, moving := false, cordon := false }) rfl
  simp only [setN, List.set_set] at h3
  have HS := Lib.hid (And.intro h3 (chg3 (chg3 e1 e2) e3))
  clear h1 h2 h3 e1 e2 e3
  cases hv : inR v 1 9
  · have hr : movedS s i n v = (s, 1) := by rw [movedS, if_pos hv]
    have HR := Lib.hid hr
    clear hr
    go_enter Tryd.func89, Tryd.ntmps89
    go_wp2_with fail
    rw [← hW1]
    clear hW1
    refine HN.out.mono ?_
    rintro e1 w1 ⟨rfl, rfl⟩
    go_wp2_with fail
    refine (HV.out _).mono ?_
    rintro e1 w1 ⟨rfl, rfl⟩
    go_wp2
    go_ret
    exact MDone.of (HR.out) rfl HP.out (Chg.of_ext HX.out)
  cases hmv : n.moving
  · have hr : movedS s i n v = (s, 5) := by rw [movedS, if_neg (by rw [hv]; simp), if_neg (by rw [hmv]; simp)]
    have HR := Lib.hid hr
    clear hr
    go_enter Tryd.func89, Tryd.ntmps89
    go_wp2_with fail
    rw [← hW1]
    clear hW1
    refine HN.out.mono ?_
    rintro e1 w1 ⟨rfl, rfl⟩
    go_wp2_with fail
    refine (HV.out _).mono ?_
    rintro e1 w1 ⟨rfl, rfl⟩
    go_wp2
    go_ret
    exact MDone.of (HR.out) rfl HP.out (Chg.of_ext HX.out)
  · have hr : movedS s i n v = (setN s i { n with version := v, moving := false, cordon := false }, 0) := by rw [movedS, if_neg (by rw [hv]; simp), if_pos hmv]
    have HR := Lib.hid hr
    clear hr
    go_enter Tryd.func89, Tryd.ntmps89
    go_wp2_with fail
    rw [← hW1]
    clear hW1
    refine HN.out.mono ?_
    rintro e1 w1 ⟨rfl, rfl⟩
    go_wp2_with fail
    refine (HV.out _).mono ?_
    rintro e1 w1 ⟨rfl, rfl⟩
    go_wp2
    go_ret
    exact MDone.of (HR.out) rfl HS.out.1 (chg2 HX.out HS.out.2)

set_option maxRecDepth 100000 in
set_option maxHeartbeats 4000000 in
theorem up_any (F : Fp) (w : World) (g : Nat) (c : Cf) (vn vj : Value) (s : St) (z v a3 a4 a5 a6 : Int) (i : Nat) (n : Nd) (h : Pg F w g c vn vj s) (hi : s.nodes[i]? = some n) :
    Calls Tryd.prog 78 #[.pointer (some ⟨g, 0, none⟩), .agg #[.int .i64 z, .int .i64 (i : Int), .int .i64 v, .int .i64 a3, .int .i64 a4, .int .i64 a5, .int .i64 a6]] w fun e w' => e = .returned (.int .i64 (upS s i n v).2) ∧ (∃ vn vj, Pg (F.since w w') w' g c vn vj (upS s i n v).1) ∧ Chg F w w' := by
  obtain ⟨hx, hbk⟩ := boxOp w #[.int .i64 z, .int .i64 (i : Int), .int .i64 v, .int .i64 a3, .int .i64 a4, .int .i64 a5, .int .i64 a6]
  obtain ⟨W1, hW1⟩ : ∃ W1, W1 = w.alloc (.cells #[.int .i64 z, .int .i64 (i : Int), .int .i64 v, .int .i64 a3, .int .i64 a4, .int .i64 a5, .int .i64 a6] 36) := ⟨_, rfl⟩
  rw [← hW1] at hx hbk
  have hp := h.ext hx
  obtain ⟨b, cap, rfl, hnc, hcm, hb, hbg, hat, hfr⟩ := hp.nodeAt hi
  have HN := Lib.hid (node_any F W1 g c vj s i b cap n hp hi)
  have HX := Lib.hid hx
  have HP := Lib.hid hp
  have HI := Lib.hid hi
  have HB := Lib.hid hbk
  have HF0 := Lib.hid hfr
  have hlw : w.heap.size ≠ b := fun e => by
    obtain ⟨b0, cap0, e0, _, _, hb0, _⟩ := h.nodeAt hi
    injection e0 with e1
    injection e1 with e1
    injection e1 with e1
    omega
  have q2 : W1.cell? ⟨w.heap.size, 2, none⟩ = some (.int .i64 v) := hbk.cell 2
  obtain ⟨c0, c1, c2, c3, c4⟩ := hat
  have f0 := hfr (i * 5)
  have f1 := hfr (i * 5 + 1)
  have f2 := hfr (i * 5 + 2)
  have f3 := hfr (i * 5 + 3)
  have f4 := hfr (i * 5 + 4)
  clear hx hp hi hfr hbk h
  have HV := Lib.hid fun w' => isVersion_any v w'
  obtain ⟨h1, e1⟩ := HP.out.setN HI.out rfl 0 (by omega) (.bool true) (n' := { n with up := true }) rfl
  obtain ⟨h2, e2⟩ := h1.setN (b := b) (cap := cap) (n := { n with up := true }) (set_set_get HI.out) (by simp [setN]) 3 (by omega) (.int .i64 v) (n' := { n with up := true, version := v }) rfl
  simp only [setN, List.set_set] at h2
  have HS := Lib.hid (And.intro h2 (chg3 e1 e2))
  clear h1 h2 e1 e2
  cases hv : inR v 1 9
  · have hr : upS s i n v = (s, 1) := by rw [upS, if_pos hv]
    have HR := Lib.hid hr
    clear hr
    go_enter Tryd.func78, Tryd.ntmps78
    go_wp2_with fail
    rw [← hW1]
    clear hW1
    refine HN.out.mono ?_
    rintro e1 w1 ⟨rfl, rfl⟩
    go_wp2_with fail
    refine (HV.out _).mono ?_
    rintro e1 w1 ⟨rfl, rfl⟩
    go_wp2
    go_ret
    exact MDone.of (HR.out) rfl HP.out (Chg.of_ext HX.out)
  cases hup : n.up
  · have hr : upS s i n v = (setN s i { n with up := true, version := v }, 0) := by rw [upS, if_neg (by rw [hv]; simp), if_neg (by rw [hup]; simp)]
    have HR := Lib.hid hr
    clear hr
    go_enter Tryd.func78, Tryd.ntmps78
    go_wp2_with fail
    rw [← hW1]
    clear hW1
    refine HN.out.mono ?_
    rintro e1 w1 ⟨rfl, rfl⟩
    go_wp2_with fail
    refine (HV.out _).mono ?_
    rintro e1 w1 ⟨rfl, rfl⟩
    go_wp2_with fail
    go_region
    go_wp2
    go_ret
    exact MDone.of (HR.out) rfl (ObjF.drew HS.out.1) (chg2 HX.out HS.out.2).drew
  · have hr : upS s i n v = (s, 5) := by rw [upS, if_neg (by rw [hv]; simp), if_pos hup]
    have HR := Lib.hid hr
    clear hr
    go_enter Tryd.func78, Tryd.ntmps78
    go_wp2_with fail
    rw [← hW1]
    clear hW1
    refine HN.out.mono ?_
    rintro e1 w1 ⟨rfl, rfl⟩
    go_wp2_with fail
    refine (HV.out _).mono ?_
    rintro e1 w1 ⟨rfl, rfl⟩
    go_wp2
    go_ret
    exact MDone.of (HR.out) rfl HP.out (Chg.of_ext HX.out)

theorem giveL_get {l : List Nd} {set job : Int} {i : Nat} {n : Nd} (h : l[i]? = some n) (hs : hasS set i = true) : (giveL l set job)[i]? = some { n with job := job } := by
  unfold giveL
  rw [List.getElem?_mapIdx, h]
  simp [hs]
theorem giveL_len (l : List Nd) (set job : Int) : (giveL l set job).length = l.length := by unfold giveL; simp

set_option maxRecDepth 100000 in
set_option maxHeartbeats 4000000 in
theorem down_any (F : Fp) (w : World) (g : Nat) (c : Cf) (vn vj : Value) (s : St) (z v a3 a4 a5 a6 : Int) (i : Nat) (n : Nd) (h : Pg F w g c vn vj s) (hi : s.nodes[i]? = some n) (hn : s.nodes.length ≤ 6) (hj : n.job = 0 ∨ ∃ (k : Nat) (j : Jb), n.job = (k : Int) + 1 ∧ s.jobs[k]? = some j ∧ hasS j.nodes i = true) :
    Calls Tryd.prog 77 #[.pointer (some ⟨g, 0, none⟩), .agg #[.int .i64 z, .int .i64 (i : Int), .int .i64 v, .int .i64 a3, .int .i64 a4, .int .i64 a5, .int .i64 a6]] w fun e w' => e = .returned (.int .i64 (downS s i n).2) ∧ (∃ vn vj, Pg (F.since w w') w' g c vn vj (downS s i n).1) ∧ Chg F w w' := by
  obtain ⟨hx, hbk⟩ := boxOp w #[.int .i64 z, .int .i64 (i : Int), .int .i64 v, .int .i64 a3, .int .i64 a4, .int .i64 a5, .int .i64 a6]
  obtain ⟨W1, hW1⟩ : ∃ W1, W1 = w.alloc (.cells #[.int .i64 z, .int .i64 (i : Int), .int .i64 v, .int .i64 a3, .int .i64 a4, .int .i64 a5, .int .i64 a6] 36) := ⟨_, rfl⟩
  rw [← hW1] at hx hbk
  have hp := h.ext hx
  obtain ⟨b, cap, rfl, hnc, hcm, hb, hbg, hat, hfr⟩ := hp.nodeAt hi
  have HN := Lib.hid (node_any F W1 g c vj s i b cap n hp hi)
  have HX := Lib.hid hx
  have HP := Lib.hid hp
  have HI := Lib.hid hi
  have HB := Lib.hid hbk
  have HF0 := Lib.hid hfr
  have hlw : w.heap.size ≠ b := fun e => by
    obtain ⟨b0, cap0, e0, _, _, hb0, _⟩ := h.nodeAt hi
    injection e0 with e1
    injection e1 with e1
    injection e1 with e1
    omega
  have q2 : W1.cell? ⟨w.heap.size, 2, none⟩ = some (.int .i64 v) := hbk.cell 2
  obtain ⟨c0, c1, c2, c3, c4⟩ := hat
  have f0 := hfr (i * 5)
  have f1 := hfr (i * 5 + 1)
  have f2 := hfr (i * 5 + 2)
  have f3 := hfr (i * 5 + 3)
  have f4 := hfr (i * 5 + 4)
  clear hx hp hi hfr hbk h
  cases hup : n.up
  · have hr : downS s i n = (s, 5) := by rw [downS, if_neg (by rw [hup]; simp)]
    have HR := Lib.hid hr
    clear hr
    go_enter Tryd.func77, Tryd.ntmps77
    go_wp2_with fail
    rw [← hW1]
    clear hW1
    refine HN.out.mono ?_
    rintro e1 w1 ⟨rfl, rfl⟩
    go_wp2
    go_ret
    exact MDone.of (HR.out) rfl HP.out (Chg.of_ext HX.out)
  rcases hj with hj | ⟨k, j, hj, hk, hs⟩
  · have hr : downS s i n = (setN s i { n with up := false, moving := false }, 0) := by
      have hd : dropS s n = s := by rw [dropS, hj]; rfl
      rw [downS, if_pos hup, hd]
      congr 3
      rw [hj]
    obtain ⟨h1, e1⟩ := HP.out.setN HI.out rfl 0 (by omega) (.bool false) (n' := { n with up := false }) rfl
    obtain ⟨h2, e2⟩ := h1.setN (b := b) (cap := cap) (n := { n with up := false }) (set_set_get HI.out) (by simp [setN]) 2 (by omega) (.bool false) (n' := { n with up := false, moving := false }) rfl
    simp only [setN, List.set_set] at h2
    have HS := Lib.hid (And.intro h2 (chg3 e1 e2))
    have HR := Lib.hid hr
    have hj1 : (n.job != 0) = false := by rw [hj]; rfl
    clear hr hj h1 h2 e1 e2
    go_enter Tryd.func77, Tryd.ntmps77
    go_wp2_with fail
    rw [← hW1]
    clear hW1
    refine HN.out.mono ?_
    rintro e1 w1 ⟨rfl, rfl⟩
    go_wp2
    go_ret
    exact MDone.of (HR.out) rfl HS.out.1 (chg2 HX.out HS.out.2)
  · have hdr : dropS s n = letGoS s k j 0 := by
      have h1 : jobOf s n.job = some j := by
        rw [hj, jobOf, if_pos (by omega)]
        have : ((k : Int) + 1 - 1).toNat = k := by omega
        rw [this]
        exact hk
      have h2 : (n.job - 1).toNat = k := by omega
      rw [dropS, h1]
      simp only [h2]
    have hr : downS s i n = (setN (letGoS s k j 0) i { n with up := false, moving := false, job := 0 }, 0) := by rw [downS, if_pos hup, hdr]
    have HR := Lib.hid hr
    have HL := Lib.hid (letGo_any F W1 g c (.slice (some ⟨b, 0, none⟩) s.nodes.length cap) vj s k j 0 HP.out hk hn)
    have HJ := Lib.hid hj
    have HG : Hid ((letGoS s k j 0).nodes[i]? = some { n with job := 0 }) := Lib.hid (giveL_get HI.out hs)
    have HLN : Hid ((letGoS s k j 0).nodes.length = s.nodes.length) := Lib.hid (giveL_len _ _ _)
    have hj1 : (n.job != 0) = true := by rw [hj, bne_iff_ne]; omega
    have hj2 : n.job = (k : Int) + 1 := hj
    have HJ2 := Lib.hid hj2
    clear hr hdr hj hk hs hj2
    go_enter Tryd.func77, Tryd.ntmps77
    go_wp2_with fail
    rw [← hW1]
    clear hW1
    refine HN.out.mono ?_
    rintro e1 w1 ⟨rfl, rfl⟩
    rw [HJ2.out] at c4 hj1
    go_wp2_with fail
    refine HL.out.mono ?_
    rintro e2 w2 ⟨rfl, hp2, hc2⟩
    have HC2 := Lib.hid hc2
    obtain ⟨b', cap', hv, _, _, hb', hbg', hat', hfr'⟩ := hp2.nodeAt HG.out
    injection hv with hA _ hcap
    injection hA with hA
    injection hA with hA
    subst hA hcap
    obtain ⟨h1, e1⟩ := hp2.setN (b := b) (cap := cap) HG.out (by rw [HLN.out]) 0 (by omega) (.bool false) (n' := { n with job := 0, up := false }) rfl
    obtain ⟨h2, e2⟩ := h1.setN (b := b) (cap := cap) (n := { n with job := 0, up := false }) (set_set_get HG.out) (by simp only [setN, List.length_set]; rw [HLN.out]) 2 (by omega) (.bool false) (n' := { n with job := 0, up := false, moving := false }) rfl
    simp only [setN, List.set_set] at h2
    have HS := Lib.hid (And.intro h2 (chg3 e1 e2))
    have c0 := hat'.c0
    have c2 := hat'.c2
    have f0 := hfr' (i * 5)
    have f2 := hfr' (i * 5 + 2)
    clear h1 h2 e1 e2 hat' hfr' hp2 hc2 c1 c3 c4 f1 f3 f4 q2
    go_wp2
    go_ret
    exact MDone.of HR.out rfl HS.out.1 (chg3 (chg2 HX.out HC2.out) HS.out.2)

end Go.Proofs.YtbfjlhddebollaaDoor
