/- Texts that the proof of B rests on, one behind the other. -/
import Derived.Test.YtkpcjdhnbjkaaaaDoorBQ9

/- Package book: the ops of a job. -/
namespace Go.Proofs.YtkpcjdhnbjkaaaaDoor
open Go.RowKit

theorem set_get_j {l : List Jb} {i : Nat} {n m : Jb} (h : l[i]? = some n) : (l.set i m)[i]? = some m := by rw [List.getElem?_set_self (List.getElem?_eq_some_iff.1 h).1]

set_option maxRecDepth 100000 in
set_option maxHeartbeats 4000000 in
theorem cancel_any (F : Fp) (w : World) (g : Nat) (c : Cf) (vn vj : Value) (s : St) (z v a3 a4 a5 a6 : Int) (k : Nat) (j : Jb) (h : Pg F w g c vn vj s) (hj : s.jobs[k]? = some j) (hn : s.nodes.length ≤ 6) :
    Calls Tryd.prog 44 #[.pointer (some ⟨g, 0, none⟩), .agg #[.int .i64 z, .int .i64 ((k : Int) + 1), .int .i64 v, .int .i64 a3, .int .i64 a4, .int .i64 a5, .int .i64 a6]] w fun e w' => e = .returned (.int .i64 (cancelS s k j).2) ∧ (∃ vn vj, Pg (F.since w w') w' g c vn vj (cancelS s k j).1) ∧ Chg F w w' := by
  obtain ⟨hx0, hbk0⟩ := boxOp w #[.int .i64 z, .int .i64 ((k : Int) + 1), .int .i64 v, .int .i64 a3, .int .i64 a4, .int .i64 a5, .int .i64 a6]
  obtain ⟨W1, hW1⟩ : ∃ W1, W1 = (w.alloc (.cells #[.int .i64 z, .int .i64 ((k : Int) + 1), .int .i64 v, .int .i64 a3, .int .i64 a4, .int .i64 a5, .int .i64 a6] 32)).alloc (.cells #[.int .i64 4] 3) := ⟨_, rfl⟩
  have hx1 : Ext (w.alloc (.cells #[.int .i64 z, .int .i64 ((k : Int) + 1), .int .i64 v, .int .i64 a3, .int .i64 a4, .int .i64 a5, .int .i64 a6] 32)) W1 := by rw [hW1]; exact (Below.refl _ _).alloc (Nat.le_refl _) _
  have hx := hx0.trans hx1
  have hbk := hbk0.ext hx1
  have hrs : Rd W1 (.slice (some ⟨w.heap.size + 1, 0, none⟩) 1 1) (([4] : List Int).map I) := by
    rw [hW1]
    exact Rd.litI _ [4] _ _ 1 _ (by decide) rfl rfl (by simp)
  have hp := h.ext hx
  obtain ⟨b, cap, rfl, hnc, hcm, hb, hbg, hat, hfr⟩ := hp.jobAt hj
  have HIS := Lib.hid (is_any F W1 g c vn (.slice (some ⟨b, 0, none⟩) s.jobs.length cap) s k j [4] _ hp hj hrs (by decide))
  have HJ := Lib.hid (job_any F W1 g c vn s k b cap j hp hj hcm hnc)
  have HX := Lib.hid hx
  have HP := Lib.hid hp
  have HI := Lib.hid hj
  have HB := Lib.hid hbk
  have HF0 := Lib.hid hfr
  have hlw : w.heap.size ≠ b := fun e => by
    obtain ⟨b0, cap0, e0, _, _, hb0, _⟩ := h.jobAt hj
    injection e0 with e1
    injection e1 with e1
    injection e1 with e1
    omega
  have hlg : w.heap.size ≠ g := fun e => by have := h.lt; omega
  have q1 : W1.cell? ⟨w.heap.size, 1, none⟩ = some (.int .i64 ((k : Int) + 1)) := hbk.cell 1
  have q2 : W1.cell? ⟨w.heap.size, 2, none⟩ = some (.int .i64 v) := hbk.cell 2
  have hk0 := (List.getElem?_eq_some_iff.1 hj).1
  clear hx0 hbk0 hx1 hx hbk hp hj hfr hrs h
  by_cases ht : j.phase = 4
  · have hr : cancelS s k j = (s, 5) := by rw [cancelS, if_pos ht]
    have HR := Lib.hid hr
    have hd : decide (j.phase ∈ ([4] : List Int)) = true := by simp; omega
    rw [hd] at HIS
    clear hr ht hd
    go_enter Tryd.func44, Tryd.ntmps44
    go_wp2_with fail
    rw [← hW1]
    clear hW1
    refine HIS.out.mono ?_
    rintro e1 w1 ⟨rfl, rfl⟩
    go_wp2
    go_ret
    exact MDone.of HR.out rfl HP.out (Chg.of_ext HX.out)
  · have hr : cancelS s k j = (letGoS s k j 4, 0) := by rw [cancelS, if_neg ht]
    have HR := Lib.hid hr
    have hd : decide (j.phase ∈ ([4] : List Int)) = false := by simp; omega
    have HL := Lib.hid (letGo_any F W1 g c vn (.slice (some ⟨b, 0, none⟩) s.jobs.length cap) s k j 4 HP.out HI.out hn)
    rw [hd] at HIS
    clear hr ht hd
    go_enter Tryd.func44, Tryd.ntmps44
    go_wp2_with fail
    rw [← hW1]
    clear hW1
    refine HIS.out.mono ?_
    rintro e1 w1 ⟨rfl, rfl⟩
    go_wp2_with fail
    refine HL.out.mono ?_
    rintro e2 w2 ⟨rfl, hp2, hc2⟩
    have HS := Lib.hid (And.intro hp2 hc2)
    clear hp2 hc2
    go_wp2
    go_ret
    exact MDone.of HR.out rfl HS.out.1 (chg2 HX.out HS.out.2)

set_option maxRecDepth 100000 in
set_option maxHeartbeats 4000000 in
theorem unhold_any (F : Fp) (w : World) (g : Nat) (c : Cf) (vn vj : Value) (s : St) (z v a3 a4 a5 a6 : Int) (k : Nat) (j : Jb) (h : Pg F w g c vn vj s) (hj : s.jobs[k]? = some j) (hn : s.nodes.length ≤ 6) :
    Calls Tryd.prog 53 #[.pointer (some ⟨g, 0, none⟩), .agg #[.int .i64 z, .int .i64 ((k : Int) + 1), .int .i64 v, .int .i64 a3, .int .i64 a4, .int .i64 a5, .int .i64 a6]] w fun e w' => e = .returned (.int .i64 (unholdS s k j).2) ∧ (∃ vn vj, Pg (F.since w w') w' g c vn vj (unholdS s k j).1) ∧ Chg F w w' := by
  obtain ⟨hx0, hbk0⟩ := boxOp w #[.int .i64 z, .int .i64 ((k : Int) + 1), .int .i64 v, .int .i64 a3, .int .i64 a4, .int .i64 a5, .int .i64 a6]
  obtain ⟨W1, hW1⟩ : ∃ W1, W1 = (w.alloc (.cells #[.int .i64 z, .int .i64 ((k : Int) + 1), .int .i64 v, .int .i64 a3, .int .i64 a4, .int .i64 a5, .int .i64 a6] 32)).alloc (.cells #[.int .i64 1] 3) := ⟨_, rfl⟩
  have hx1 : Ext (w.alloc (.cells #[.int .i64 z, .int .i64 ((k : Int) + 1), .int .i64 v, .int .i64 a3, .int .i64 a4, .int .i64 a5, .int .i64 a6] 32)) W1 := by rw [hW1]; exact (Below.refl _ _).alloc (Nat.le_refl _) _
  have hx := hx0.trans hx1
  have hbk := hbk0.ext hx1
  have hrs : Rd W1 (.slice (some ⟨w.heap.size + 1, 0, none⟩) 1 1) (([1] : List Int).map I) := by
    rw [hW1]
    exact Rd.litI _ [1] _ _ 1 _ (by decide) rfl rfl (by simp)
  have hp := h.ext hx
  obtain ⟨b, cap, rfl, hnc, hcm, hb, hbg, hat, hfr⟩ := hp.jobAt hj
  have HIS := Lib.hid (is_any F W1 g c vn (.slice (some ⟨b, 0, none⟩) s.jobs.length cap) s k j [1] _ hp hj hrs (by decide))
  have HJ := Lib.hid (job_any F W1 g c vn s k b cap j hp hj hcm hnc)
  have HX := Lib.hid hx
  have HP := Lib.hid hp
  have HI := Lib.hid hj
  have HB := Lib.hid hbk
  have HF0 := Lib.hid hfr
  have hlw : w.heap.size ≠ b := fun e => by
    obtain ⟨b0, cap0, e0, _, _, hb0, _⟩ := h.jobAt hj
    injection e0 with e1
    injection e1 with e1
    injection e1 with e1
    omega
  have hlg : w.heap.size ≠ g := fun e => by have := h.lt; omega
  have q1 : W1.cell? ⟨w.heap.size, 1, none⟩ = some (.int .i64 ((k : Int) + 1)) := hbk.cell 1
  have q2 : W1.cell? ⟨w.heap.size, 2, none⟩ = some (.int .i64 v) := hbk.cell 2
  have hk0 := (List.getElem?_eq_some_iff.1 hj).1
  clear hx0 hbk0 hx1 hx hbk hp hj hfr hrs h
  by_cases ht : j.phase = 1
  · have hr : unholdS s k j = (letGoS s k j 0, 0) := by rw [unholdS, if_pos ht]
    have HR := Lib.hid hr
    have hd : decide (j.phase ∈ ([1] : List Int)) = true := by simp; omega
    have HL := Lib.hid (letGo_any F W1 g c vn (.slice (some ⟨b, 0, none⟩) s.jobs.length cap) s k j 0 HP.out HI.out hn)
    rw [hd] at HIS
    clear hr ht hd
    go_enter Tryd.func53, Tryd.ntmps53
    go_wp2_with fail
    rw [← hW1]
    clear hW1
    refine HIS.out.mono ?_
    rintro e1 w1 ⟨rfl, rfl⟩
    go_wp2_with fail
    refine HL.out.mono ?_
    rintro e2 w2 ⟨rfl, hp2, hc2⟩
    have HS := Lib.hid (And.intro hp2 hc2)
    clear hp2 hc2
    go_wp2
    go_ret
    exact MDone.of HR.out rfl HS.out.1 (chg2 HX.out HS.out.2)
  · have hr : unholdS s k j = (s, 5) := by rw [unholdS, if_neg ht]
    have HR := Lib.hid hr
    have hd : decide (j.phase ∈ ([1] : List Int)) = false := by simp; omega
    rw [hd] at HIS
    clear hr ht hd
    go_enter Tryd.func53, Tryd.ntmps53
    go_wp2_with fail
    rw [← hW1]
    clear hW1
    refine HIS.out.mono ?_
    rintro e1 w1 ⟨rfl, rfl⟩
    go_wp2
    go_ret
    exact MDone.of HR.out rfl HP.out (Chg.of_ext HX.out)

set_option maxRecDepth 100000 in
set_option maxHeartbeats 4000000 in
theorem evict_any (F : Fp) (w : World) (g : Nat) (c : Cf) (vn vj : Value) (s : St) (z v a3 a4 a5 a6 : Int) (k : Nat) (j : Jb) (h : Pg F w g c vn vj s) (hj : s.jobs[k]? = some j) (hn : s.nodes.length ≤ 6) :
    Calls Tryd.prog 56 #[.pointer (some ⟨g, 0, none⟩), .agg #[.int .i64 z, .int .i64 ((k : Int) + 1), .int .i64 v, .int .i64 a3, .int .i64 a4, .int .i64 a5, .int .i64 a6]] w fun e w' => e = .returned (.int .i64 (evictS s k j).2) ∧ (∃ vn vj, Pg (F.since w w') w' g c vn vj (evictS s k j).1) ∧ Chg F w w' := by
  obtain ⟨hx0, hbk0⟩ := boxOp w #[.int .i64 z, .int .i64 ((k : Int) + 1), .int .i64 v, .int .i64 a3, .int .i64 a4, .int .i64 a5, .int .i64 a6]
  obtain ⟨W1, hW1⟩ : ∃ W1, W1 = (w.alloc (.cells #[.int .i64 z, .int .i64 ((k : Int) + 1), .int .i64 v, .int .i64 a3, .int .i64 a4, .int .i64 a5, .int .i64 a6] 32)).alloc (.cells #[.int .i64 3] 3) := ⟨_, rfl⟩
  have hx1 : Ext (w.alloc (.cells #[.int .i64 z, .int .i64 ((k : Int) + 1), .int .i64 v, .int .i64 a3, .int .i64 a4, .int .i64 a5, .int .i64 a6] 32)) W1 := by rw [hW1]; exact (Below.refl _ _).alloc (Nat.le_refl _) _
  have hx := hx0.trans hx1
  have hbk := hbk0.ext hx1
  have hrs : Rd W1 (.slice (some ⟨w.heap.size + 1, 0, none⟩) 1 1) (([3] : List Int).map I) := by
    rw [hW1]
    exact Rd.litI _ [3] _ _ 1 _ (by decide) rfl rfl (by simp)
  have hp := h.ext hx
  obtain ⟨b, cap, rfl, hnc, hcm, hb, hbg, hat, hfr⟩ := hp.jobAt hj
  have HIS := Lib.hid (is_any F W1 g c vn (.slice (some ⟨b, 0, none⟩) s.jobs.length cap) s k j [3] _ hp hj hrs (by decide))
  have HJ := Lib.hid (job_any F W1 g c vn s k b cap j hp hj hcm hnc)
  have HX := Lib.hid hx
  have HP := Lib.hid hp
  have HI := Lib.hid hj
  have HB := Lib.hid hbk
  have HF0 := Lib.hid hfr
  have hlw : w.heap.size ≠ b := fun e => by
    obtain ⟨b0, cap0, e0, _, _, hb0, _⟩ := h.jobAt hj
    injection e0 with e1
    injection e1 with e1
    injection e1 with e1
    omega
  have hlg : w.heap.size ≠ g := fun e => by have := h.lt; omega
  have q1 : W1.cell? ⟨w.heap.size, 1, none⟩ = some (.int .i64 ((k : Int) + 1)) := hbk.cell 1
  have q2 : W1.cell? ⟨w.heap.size, 2, none⟩ = some (.int .i64 v) := hbk.cell 2
  have hk0 := (List.getElem?_eq_some_iff.1 hj).1
  clear hx0 hbk0 hx1 hx hbk hp hj hfr hrs h
  by_cases ht : j.phase = 3
  · have hr : evictS s k j = (letGoS s k j 0, 0) := by rw [evictS, if_pos ht]
    have HR := Lib.hid hr
    have hd : decide (j.phase ∈ ([3] : List Int)) = true := by simp; omega
    have HL := Lib.hid (letGo_any F W1 g c vn (.slice (some ⟨b, 0, none⟩) s.jobs.length cap) s k j 0 HP.out HI.out hn)
    rw [hd] at HIS
    clear hr ht hd
    go_enter Tryd.func56, Tryd.ntmps56
    go_wp2_with fail
    rw [← hW1]
    clear hW1
    refine HIS.out.mono ?_
    rintro e1 w1 ⟨rfl, rfl⟩
    go_wp2_with fail
    refine HL.out.mono ?_
    rintro e2 w2 ⟨rfl, hp2, hc2⟩
    have HS := Lib.hid (And.intro hp2 hc2)
    clear hp2 hc2
    go_wp2
    go_ret
    exact MDone.of HR.out rfl HS.out.1 (chg2 HX.out HS.out.2)
  · have hr : evictS s k j = (s, 5) := by rw [evictS, if_neg ht]
    have HR := Lib.hid hr
    have hd : decide (j.phase ∈ ([3] : List Int)) = false := by simp; omega
    rw [hd] at HIS
    clear hr ht hd
    go_enter Tryd.func56, Tryd.ntmps56
    go_wp2_with fail
    rw [← hW1]
    clear hW1
    refine HIS.out.mono ?_
    rintro e1 w1 ⟨rfl, rfl⟩
    go_wp2
    go_ret
    exact MDone.of HR.out rfl HP.out (Chg.of_ext HX.out)

set_option maxRecDepth 100000 in
set_option maxHeartbeats 4000000 in
theorem done_any (F : Fp) (w : World) (g : Nat) (c : Cf) (vn vj : Value) (s : St) (z v a3 a4 a5 a6 : Int) (k : Nat) (j : Jb) (h : Pg F w g c vn vj s) (hj : s.jobs[k]? = some j) (hn : s.nodes.length ≤ 6) :
    Calls Tryd.prog 57 #[.pointer (some ⟨g, 0, none⟩), .agg #[.int .i64 z, .int .i64 ((k : Int) + 1), .int .i64 v, .int .i64 a3, .int .i64 a4, .int .i64 a5, .int .i64 a6]] w fun e w' => e = .returned (.int .i64 (doneS s k j).2) ∧ (∃ vn vj, Pg (F.since w w') w' g c vn vj (doneS s k j).1) ∧ Chg F w w' := by
  obtain ⟨hx0, hbk0⟩ := boxOp w #[.int .i64 z, .int .i64 ((k : Int) + 1), .int .i64 v, .int .i64 a3, .int .i64 a4, .int .i64 a5, .int .i64 a6]
  obtain ⟨W1, hW1⟩ : ∃ W1, W1 = (w.alloc (.cells #[.int .i64 z, .int .i64 ((k : Int) + 1), .int .i64 v, .int .i64 a3, .int .i64 a4, .int .i64 a5, .int .i64 a6] 32)).alloc (.cells #[.int .i64 2, .int .i64 3] 3) := ⟨_, rfl⟩
  have hx1 : Ext (w.alloc (.cells #[.int .i64 z, .int .i64 ((k : Int) + 1), .int .i64 v, .int .i64 a3, .int .i64 a4, .int .i64 a5, .int .i64 a6] 32)) W1 := by rw [hW1]; exact (Below.refl _ _).alloc (Nat.le_refl _) _
  have hx := hx0.trans hx1
  have hbk := hbk0.ext hx1
  have hrs : Rd W1 (.slice (some ⟨w.heap.size + 1, 0, none⟩) 2 2) (([2, 3] : List Int).map I) := by
    rw [hW1]
    exact Rd.litI _ [2, 3] _ _ 2 _ (by decide) rfl rfl (by simp)
  have hp := h.ext hx
  obtain ⟨b, cap, rfl, hnc, hcm, hb, hbg, hat, hfr⟩ := hp.jobAt hj
  have HIS := Lib.hid (is_any F W1 g c vn (.slice (some ⟨b, 0, none⟩) s.jobs.length cap) s k j [2, 3] _ hp hj hrs (by decide))
  have HJ := Lib.hid (job_any F W1 g c vn s k b cap j hp hj hcm hnc)
  have HX := Lib.hid hx
  have HP := Lib.hid hp
  have HI := Lib.hid hj
  have HB := Lib.hid hbk
  have HF0 := Lib.hid hfr
  have hlw : w.heap.size ≠ b := fun e => by
    obtain ⟨b0, cap0, e0, _, _, hb0, _⟩ := h.jobAt hj
    injection e0 with e1
    injection e1 with e1
    injection e1 with e1
    omega
  have hlg : w.heap.size ≠ g := fun e => by have := h.lt; omega
  have q1 : W1.cell? ⟨w.heap.size, 1, none⟩ = some (.int .i64 ((k : Int) + 1)) := hbk.cell 1
  have q2 : W1.cell? ⟨w.heap.size, 2, none⟩ = some (.int .i64 v) := hbk.cell 2
  have hk0 := (List.getElem?_eq_some_iff.1 hj).1
  clear hx0 hbk0 hx1 hx hbk hp hj hfr hrs h
  by_cases ht : j.phase = 2 ∨ j.phase = 3
  · have hr : doneS s k j = (letGoS s k j 4, 0) := by rw [doneS, if_pos ht]
    have HR := Lib.hid hr
    have hd : decide (j.phase ∈ ([2, 3] : List Int)) = true := by simp; omega
    have HL := Lib.hid (letGo_any F W1 g c vn (.slice (some ⟨b, 0, none⟩) s.jobs.length cap) s k j 4 HP.out HI.out hn)
    rw [hd] at HIS
    clear hr ht hd
    go_enter Tryd.func57, Tryd.ntmps57
    go_wp2_with fail
    rw [← hW1]
    clear hW1
    refine HIS.out.mono ?_
    rintro e1 w1 ⟨rfl, rfl⟩
    go_wp2_with fail
    refine HL.out.mono ?_
    rintro e2 w2 ⟨rfl, hp2, hc2⟩
    have HS := Lib.hid (And.intro hp2 hc2)
    clear hp2 hc2
    go_wp2
    go_ret
    exact MDone.of HR.out rfl HS.out.1 (chg2 HX.out HS.out.2)
  · have hr : doneS s k j = (s, 5) := by rw [doneS, if_neg ht]
    have HR := Lib.hid hr
    have hd : decide (j.phase ∈ ([2, 3] : List Int)) = false := by simp; omega
    rw [hd] at HIS
    clear hr ht hd
    go_enter Tryd.func57, Tryd.ntmps57
    go_wp2_with fail
    rw [← hW1]
    clear hW1
    refine HIS.out.mono ?_
    rintro e1 w1 ⟨rfl, rfl⟩
    go_wp2
    go_ret
    exact MDone.of HR.out rfl HP.out (Chg.of_ext HX.out)

set_option maxRecDepth 100000 in
set_option maxHeartbeats 4000000 in
theorem start_any (F : Fp) (w : World) (g : Nat) (c : Cf) (vn vj : Value) (s : St) (z v a3 a4 a5 a6 : Int) (k : Nat) (j : Jb) (h : Pg F w g c vn vj s) (hj : s.jobs[k]? = some j) :
    Calls Tryd.prog 52 #[.pointer (some ⟨g, 0, none⟩), .agg #[.int .i64 z, .int .i64 ((k : Int) + 1), .int .i64 v, .int .i64 a3, .int .i64 a4, .int .i64 a5, .int .i64 a6]] w fun e w' => e = .returned (.int .i64 (startS s k j v).2) ∧ (∃ vn vj, Pg (F.since w w') w' g c vn vj (startS s k j v).1) ∧ Chg F w w' := by
  obtain ⟨hx0, hbk0⟩ := boxOp w #[.int .i64 z, .int .i64 ((k : Int) + 1), .int .i64 v, .int .i64 a3, .int .i64 a4, .int .i64 a5, .int .i64 a6]
  obtain ⟨W1, hW1⟩ : ∃ W1, W1 = (w.alloc (.cells #[.int .i64 z, .int .i64 ((k : Int) + 1), .int .i64 v, .int .i64 a3, .int .i64 a4, .int .i64 a5, .int .i64 a6] 32)).alloc (.cells #[.int .i64 1] 3) := ⟨_, rfl⟩
  have hx1 : Ext (w.alloc (.cells #[.int .i64 z, .int .i64 ((k : Int) + 1), .int .i64 v, .int .i64 a3, .int .i64 a4, .int .i64 a5, .int .i64 a6] 32)) W1 := by rw [hW1]; exact (Below.refl _ _).alloc (Nat.le_refl _) _
  have hx := hx0.trans hx1
  have hbk := hbk0.ext hx1
  have hrs : Rd W1 (.slice (some ⟨w.heap.size + 1, 0, none⟩) 1 1) (([1] : List Int).map I) := by
    rw [hW1]
    exact Rd.litI _ [1] _ _ 1 _ (by decide) rfl rfl (by simp)
  have hp := h.ext hx
  obtain ⟨b, cap, rfl, hnc, hcm, hb, hbg, hat, hfr⟩ := hp.jobAt hj
  have HIS := Lib.hid (is_any F W1 g c vn (.slice (some ⟨b, 0, none⟩) s.jobs.length cap) s k j [1] _ hp hj hrs (by decide))
  have HJ := Lib.hid (job_any F W1 g c vn s k b cap j hp hj hcm hnc)
  have HX := Lib.hid hx
  have HP := Lib.hid hp
  have HI := Lib.hid hj
  have HB := Lib.hid hbk
  have HF0 := Lib.hid hfr
  have hlw : w.heap.size ≠ b := fun e => by
    obtain ⟨b0, cap0, e0, _, _, hb0, _⟩ := h.jobAt hj
    injection e0 with e1
    injection e1 with e1
    injection e1 with e1
    omega
  have hlg : w.heap.size ≠ g := fun e => by have := h.lt; omega
  have q1 : W1.cell? ⟨w.heap.size, 1, none⟩ = some (.int .i64 ((k : Int) + 1)) := hbk.cell 1
  have q2 : W1.cell? ⟨w.heap.size, 2, none⟩ = some (.int .i64 v) := hbk.cell 2
  have hk0 := (List.getElem?_eq_some_iff.1 hj).1
  clear hx0 hbk0 hx1 hx hbk hp hj hfr hrs h
  obtain ⟨c0, c1, c2, c3, c4, c5, c6, c7, c8, c9, c10, c11⟩ := hat
  by_cases ht : ¬ (j.phase = 1)
  · have hr : startS s k j v = (s, 5) := by rw [startS, if_neg ht]
    have HR := Lib.hid hr
    have hd : decide (j.phase ∈ ([1] : List Int)) = false := by simp; omega
    rw [hd] at HIS
    clear hr ht hd
    go_enter Tryd.func52, Tryd.ntmps52
    go_wp2_with fail
    rw [← hW1]
    clear hW1
    refine HIS.out.mono ?_
    rintro e1 w1 ⟨rfl, rfl⟩
    go_wp2
    go_ret
    exact MDone.of HR.out rfl HP.out (Chg.of_ext HX.out)
  replace ht := Classical.not_not.1 ht
  have hd : decide (j.phase ∈ ([1] : List Int)) = true := by simp; omega
  rw [hd] at HIS
  have HT := Lib.hid ht
  clear hd
  have f6 := HF0.out (k * 12 + 6)
  have f9 := HF0.out (k * 12 + 9)
  obtain ⟨h1, e1⟩ := HP.out.setJ HI.out (b := b) (cap := cap) rfl 6 (by omega) (.int .i64 2) (n' := { j with phase := 2 }) rfl
  obtain ⟨h2, e2⟩ := h1.setJ (b := b) (cap := cap) (n := { j with phase := 2 }) (set_get_j HI.out) (by simp [setJ]) 9 (by omega) (.int .i64 v) (n' := { j with phase := 2, since := v }) rfl
  simp only [setJ, List.set_set] at h2
  have HS := Lib.hid (And.intro h2 (chg3 e1 e2))
  have hr : startS s k j v = (setJ s k { j with phase := 2, since := v }, 0) := by rw [startS, if_pos ht]
  have HR := Lib.hid hr
  clear h1 h2 e1 e2 hr ht
  go_enter Tryd.func52, Tryd.ntmps52
  go_wp2_with fail
  rw [← hW1]
  clear hW1
  refine HIS.out.mono ?_
  rintro e1 w1 ⟨rfl, rfl⟩
  go_wp2_with fail
  refine HJ.out.mono ?_
  rintro e1 w1 ⟨rfl, rfl⟩
  go_wp2_with fail
  go_region
  go_wp2
  go_ret
  exact MDone.of HR.out rfl (ObjF.drew HS.out.1) (chg2 HX.out HS.out.2).drew

set_option maxRecDepth 100000 in
set_option maxHeartbeats 4000000 in
theorem saved_any (F : Fp) (w : World) (g : Nat) (c : Cf) (vn vj : Value) (s : St) (z v a3 a4 a5 a6 : Int) (k : Nat) (j : Jb) (h : Pg F w g c vn vj s) (hj : s.jobs[k]? = some j) :
    Calls Tryd.prog 55 #[.pointer (some ⟨g, 0, none⟩), .agg #[.int .i64 z, .int .i64 ((k : Int) + 1), .int .i64 v, .int .i64 a3, .int .i64 a4, .int .i64 a5, .int .i64 a6]] w fun e w' => e = .returned (.int .i64 (savedS s k j v).2) ∧ (∃ vn vj, Pg (F.since w w') w' g c vn vj (savedS s k j v).1) ∧ Chg F w w' := by
  obtain ⟨hx0, hbk0⟩ := boxOp w #[.int .i64 z, .int .i64 ((k : Int) + 1), .int .i64 v, .int .i64 a3, .int .i64 a4, .int .i64 a5, .int .i64 a6]
  obtain ⟨W1, hW1⟩ : ∃ W1, W1 = (w.alloc (.cells #[.int .i64 z, .int .i64 ((k : Int) + 1), .int .i64 v, .int .i64 a3, .int .i64 a4, .int .i64 a5, .int .i64 a6] 32)).alloc (.cells #[.int .i64 2, .int .i64 3] 3) := ⟨_, rfl⟩
  have hx1 : Ext (w.alloc (.cells #[.int .i64 z, .int .i64 ((k : Int) + 1), .int .i64 v, .int .i64 a3, .int .i64 a4, .int .i64 a5, .int .i64 a6] 32)) W1 := by rw [hW1]; exact (Below.refl _ _).alloc (Nat.le_refl _) _
  have hx := hx0.trans hx1
  have hbk := hbk0.ext hx1
  have hrs : Rd W1 (.slice (some ⟨w.heap.size + 1, 0, none⟩) 2 2) (([2, 3] : List Int).map I) := by
    rw [hW1]
    exact Rd.litI _ [2, 3] _ _ 2 _ (by decide) rfl rfl (by simp)
  have hp := h.ext hx
  obtain ⟨b, cap, rfl, hnc, hcm, hb, hbg, hat, hfr⟩ := hp.jobAt hj
  have HIS := Lib.hid (is_any F W1 g c vn (.slice (some ⟨b, 0, none⟩) s.jobs.length cap) s k j [2, 3] _ hp hj hrs (by decide))
  have HJ := Lib.hid (job_any F W1 g c vn s k b cap j hp hj hcm hnc)
  have HX := Lib.hid hx
  have HP := Lib.hid hp
  have HI := Lib.hid hj
  have HB := Lib.hid hbk
  have HF0 := Lib.hid hfr
  have hlw : w.heap.size ≠ b := fun e => by
    obtain ⟨b0, cap0, e0, _, _, hb0, _⟩ := h.jobAt hj
    injection e0 with e1
    injection e1 with e1
    injection e1 with e1
    omega
  have hlg : w.heap.size ≠ g := fun e => by have := h.lt; omega
  have q1 : W1.cell? ⟨w.heap.size, 1, none⟩ = some (.int .i64 ((k : Int) + 1)) := hbk.cell 1
  have q2 : W1.cell? ⟨w.heap.size, 2, none⟩ = some (.int .i64 v) := hbk.cell 2
  have hk0 := (List.getElem?_eq_some_iff.1 hj).1
  clear hx0 hbk0 hx1 hx hbk hp hj hfr hrs h
  obtain ⟨c0, c1, c2, c3, c4, c5, c6, c7, c8, c9, c10, c11⟩ := hat
  by_cases ht : ¬ (j.phase = 2 ∨ j.phase = 3)
  · have hr : savedS s k j v = (s, 5) := by rw [savedS, if_neg ht]
    have HR := Lib.hid hr
    have hd : decide (j.phase ∈ ([2, 3] : List Int)) = false := by simp; omega
    rw [hd] at HIS
    clear hr ht hd
    go_enter Tryd.func55, Tryd.ntmps55
    go_wp2_with fail
    rw [← hW1]
    clear hW1
    refine HIS.out.mono ?_
    rintro e1 w1 ⟨rfl, rfl⟩
    go_wp2
    go_ret
    exact MDone.of HR.out rfl HP.out (Chg.of_ext HX.out)
  replace ht := Classical.not_not.1 ht
  have hd : decide (j.phase ∈ ([2, 3] : List Int)) = true := by simp; omega
  rw [hd] at HIS
  have HT := Lib.hid ht
  clear hd
  have f11 := HF0.out (k * 12 + 11)
  have HS := Lib.hid (HP.out.setJ HI.out (b := b) (cap := cap) rfl 11 (by omega) (.int .i64 v) (n' := { j with epoch := v }) rfl)
  by_cases h1 : v = j.inc
  · have d1 : (v != j.inc) = false := by rw [h1]; exact bne_self_eq_false _
    by_cases h2 : j.epoch < v
    · have d2 : decide (v ≤ j.epoch) = false := decide_eq_false (by omega)
      have hr : savedS s k j v = (setJ s k { j with epoch := v }, 0) := by rw [savedS, if_pos ht, if_pos ⟨h1, h2⟩]
      have HR := Lib.hid hr
      clear hr ht h1 h2
      go_enter Tryd.func55, Tryd.ntmps55
      go_wp2_with fail
      rw [← hW1]
      clear hW1
      refine HIS.out.mono ?_
      rintro e1 w1 ⟨rfl, rfl⟩
      go_wp2_with fail
      refine HJ.out.mono ?_
      rintro e1 w1 ⟨rfl, rfl⟩
      go_wp2_with fail
      go_quiet (fail)
      have HS2 : Hid (Pg F ((W1.drewN nq).setCell ⟨b, k * 12 + 11, none⟩ (.int .i64 v)) g c vn (.slice (some ⟨b, 0, none⟩) s.jobs.length cap) (setJ s k { j with epoch := v }) ∧ Chg F W1 ((W1.drewN nq).setCell ⟨b, k * 12 + 11, none⟩ (.int .i64 v))) := Lib.hid (by
        obtain ⟨h1, h2⟩ := ((HP.out.ext (Below.drewN' (Ext.refl W1) nq)).setJ HI.out (b := b) (cap := cap) rfl 11 (by omega) (.int .i64 v) (n' := { j with epoch := v }) rfl)
        exact ⟨h1, chg2 (Below.drewN' (Ext.refl W1) nq) h2⟩)
      go_wp2
      go_ret
      exact MDone.of HR.out rfl HS2.out.1 (chg2 HX.out HS2.out.2)
    · have d2 : decide (v ≤ j.epoch) = true := decide_eq_true (by omega)
      have hr : savedS s k j v = (s, 6) := by rw [savedS, if_pos ht, if_neg (fun h => h2 h.2)]
      have HR := Lib.hid hr
      clear hr ht h1 h2
      go_enter Tryd.func55, Tryd.ntmps55
      go_wp2_with fail
      rw [← hW1]
      clear hW1
      refine HIS.out.mono ?_
      rintro e1 w1 ⟨rfl, rfl⟩
      go_wp2_with fail
      refine HJ.out.mono ?_
      rintro e1 w1 ⟨rfl, rfl⟩
      go_wp2_with fail
      go_quiet (fail)
      go_wp2
      go_ret
      exact MDone.of HR.out rfl (HP.out.ext (Below.drewN' (Ext.refl W1) nq)) (Chg.of_ext (Below.drewN' HX.out nq))
  · have d1 : (v != j.inc) = true := by rw [bne_iff_ne]; exact h1
    have hr : savedS s k j v = (s, 6) := by rw [savedS, if_pos ht, if_neg (fun h => h1 h.1)]
    have HR := Lib.hid hr
    clear hr ht h1
    go_enter Tryd.func55, Tryd.ntmps55
    go_wp2_with fail
    rw [← hW1]
    clear hW1
    refine HIS.out.mono ?_
    rintro e1 w1 ⟨rfl, rfl⟩
    go_wp2_with fail
    refine HJ.out.mono ?_
    rintro e1 w1 ⟨rfl, rfl⟩
    go_wp2_with fail
    go_quiet (fail)
    go_wp2
    go_ret
    exact MDone.of HR.out rfl (HP.out.ext (Below.drewN' (Ext.refl W1) nq)) (Chg.of_ext (Below.drewN' HX.out nq))

set_option maxRecDepth 100000 in
set_option maxHeartbeats 4000000 in
theorem drain_any (F : Fp) (w : World) (g : Nat) (c : Cf) (vn vj : Value) (s : St) (z v a3 a4 a5 a6 : Int) (k : Nat) (j : Jb) (h : Pg F w g c vn vj s) (hj : s.jobs[k]? = some j) :
    Calls Tryd.prog 54 #[.pointer (some ⟨g, 0, none⟩), .agg #[.int .i64 z, .int .i64 ((k : Int) + 1), .int .i64 v, .int .i64 a3, .int .i64 a4, .int .i64 a5, .int .i64 a6]] w fun e w' => e = .returned (.int .i64 (drainS c s k j v).2) ∧ (∃ vn vj, Pg (F.since w w') w' g c vn vj (drainS c s k j v).1) ∧ Chg F w w' := by
  obtain ⟨hx0, hbk0⟩ := boxOp w #[.int .i64 z, .int .i64 ((k : Int) + 1), .int .i64 v, .int .i64 a3, .int .i64 a4, .int .i64 a5, .int .i64 a6]
  obtain ⟨W1, hW1⟩ : ∃ W1, W1 = (w.alloc (.cells #[.int .i64 z, .int .i64 ((k : Int) + 1), .int .i64 v, .int .i64 a3, .int .i64 a4, .int .i64 a5, .int .i64 a6] 32)).alloc (.cells #[.int .i64 2] 3) := ⟨_, rfl⟩
  have hx1 : Ext (w.alloc (.cells #[.int .i64 z, .int .i64 ((k : Int) + 1), .int .i64 v, .int .i64 a3, .int .i64 a4, .int .i64 a5, .int .i64 a6] 32)) W1 := by rw [hW1]; exact (Below.refl _ _).alloc (Nat.le_refl _) _
  have hx := hx0.trans hx1
  have hbk := hbk0.ext hx1
  have hrs : Rd W1 (.slice (some ⟨w.heap.size + 1, 0, none⟩) 1 1) (([2] : List Int).map I) := by
    rw [hW1]
    exact Rd.litI _ [2] _ _ 1 _ (by decide) rfl rfl (by simp)
  have hp := h.ext hx
  obtain ⟨b, cap, rfl, hnc, hcm, hb, hbg, hat, hfr⟩ := hp.jobAt hj
  have HIS := Lib.hid (is_any F W1 g c vn (.slice (some ⟨b, 0, none⟩) s.jobs.length cap) s k j [2] _ hp hj hrs (by decide))
  have HJ := Lib.hid (job_any F W1 g c vn s k b cap j hp hj hcm hnc)
  have HX := Lib.hid hx
  have HP := Lib.hid hp
  have HI := Lib.hid hj
  have HB := Lib.hid hbk
  have HF0 := Lib.hid hfr
  have hlw : w.heap.size ≠ b := fun e => by
    obtain ⟨b0, cap0, e0, _, _, hb0, _⟩ := h.jobAt hj
    injection e0 with e1
    injection e1 with e1
    injection e1 with e1
    omega
  have hlg : w.heap.size ≠ g := fun e => by have := h.lt; omega
  have q1 : W1.cell? ⟨w.heap.size, 1, none⟩ = some (.int .i64 ((k : Int) + 1)) := hbk.cell 1
  have q2 : W1.cell? ⟨w.heap.size, 2, none⟩ = some (.int .i64 v) := hbk.cell 2
  have hk0 := (List.getElem?_eq_some_iff.1 hj).1
  clear hx0 hbk0 hx1 hx hbk hp hj hfr hrs h
  obtain ⟨c0, c1, c2, c3, c4, c5, c6, c7, c8, c9, c10, c11⟩ := hat
  by_cases ht : ¬ (j.phase = 2)
  · have hr : drainS c s k j v = (s, 5) := by rw [drainS, if_neg ht]
    have HR := Lib.hid hr
    have hd : decide (j.phase ∈ ([2] : List Int)) = false := by simp; omega
    rw [hd] at HIS
    clear hr ht hd
    go_enter Tryd.func54, Tryd.ntmps54
    go_wp2_with fail
    rw [← hW1]
    clear hW1
    refine HIS.out.mono ?_
    rintro e1 w1 ⟨rfl, rfl⟩
    go_wp2
    go_ret
    exact MDone.of HR.out rfl HP.out (Chg.of_ext HX.out)
  replace ht := Classical.not_not.1 ht
  have hd : decide (j.phase ∈ ([2] : List Int)) = true := by simp; omega
  rw [hd] at HIS
  have HT := Lib.hid ht
  clear hd
  have HD : Hid (∀ w', Ext W1 w' → Calls Tryd.prog 19 #[stV vn (.slice (some ⟨b, 0, none⟩) s.jobs.length cap) s, .int .i64 j.queue] w' fun e w'' => e = .returned (.int .i64 (drainsS s j.queue : Int)) ∧ Ext w' w'') := Lib.hid fun w' hx => Drains_any vn _ s j.queue w' (HP.out.rd.jobs.ext hx)
  unfold stV at HD
  generalize hD : (drainsS s j.queue : Int) = D at *
  have p9 := HP.out.c9
  have p10 := HP.out.c10
  have p11 := HP.out.c11
  have p12 := HP.out.c12
  have p13 := HP.out.c13
  have p14 := HP.out.c14
  have p2 : W1.cell? ⟨g, 2, none⟩ = some (.int .i64 c.quota) := HP.out.blk.cell 2
  have HSF : Hid (∀ w2, Ext W1 w2 → Pg F ((w2.setCell ⟨b, k * 12 + 6, none⟩ (.int .i64 3)).setCell ⟨b, k * 12 + 10, none⟩ (.int .i64 v)) g c vn (.slice (some ⟨b, 0, none⟩) s.jobs.length cap) (setJ s k { j with phase := 3, til := v }) ∧
      Chg F w2 ((w2.setCell ⟨b, k * 12 + 6, none⟩ (.int .i64 3)).setCell ⟨b, k * 12 + 10, none⟩ (.int .i64 v))) := Lib.hid fun w2 h2 => by
    obtain ⟨h1, e1⟩ := (HP.out.ext h2).setJ HI.out (b := b) (cap := cap) rfl 6 (by omega) (.int .i64 3) (n' := { j with phase := 3 }) rfl
    obtain ⟨h2, e2⟩ := h1.setJ (b := b) (cap := cap) (n := { j with phase := 3 }) (set_get_j HI.out) (by simp [setJ]) 10 (by omega) (.int .i64 v) (n' := { j with phase := 3, til := v }) rfl
    simp only [setJ, List.set_set] at h2
    exact ⟨h2, chg3 e1 e2⟩
  by_cases h1 : D = c.quota
  · have d1 : (D == c.quota) = true := by rw [h1]; exact beq_self_eq_true _
    have hr : drainS c s k j v = (s, 7) := by rw [drainS, if_pos ht, if_pos (hD.trans h1)]
    have HR := Lib.hid hr
    clear hr ht h1 hD
    go_enter Tryd.func54, Tryd.ntmps54
    go_wp2_with fail
    rw [← hW1]
    clear hW1
    refine HIS.out.mono ?_
    rintro e1 w1 ⟨rfl, rfl⟩
    go_wp2_with fail
    refine HJ.out.mono ?_
    rintro e1 w1 ⟨rfl, rfl⟩
    go_wp2_with fail
    go_region_with ((go_at_call 19); (first | (refine (HD.out _ (Ext.refl _)).mono ?_) | (refine (HD.out _ (ext_drew9 (Ext.refl _))).mono ?_)); (rintro e2 w2 ⟨rfl, hx2⟩); (first | (have hx3 : Ext W1 w2 := hx2) | (have hx3 : Ext W1 w2 := Ext.of_drew hx2)); (have k2 : w2.cell? ⟨g, 2, none⟩ = some (.int .i64 c.quota) := (HP.out.ext hx3).blk.cell 2))
    all_goals
      have HP2 := Lib.hid (HP.out.ext hx3)
      have HX2 := Lib.hid (HX.out.trans hx3)
      clear hx2 hx3 k2
      go_wp2
      go_ret
      exact MDone.of HR.out rfl HP2.out (Chg.of_ext HX2.out)
  · have d1 : (D == c.quota) = false := by rw [beq_eq_false_iff_ne]; exact h1
    have hr : drainS c s k j v = (setJ s k { j with phase := 3, til := v }, 0) := by rw [drainS, if_pos ht, if_neg (by rw [hD]; exact h1)]
    have HR := Lib.hid hr
    clear hr ht h1 hD
    go_enter Tryd.func54, Tryd.ntmps54
    go_wp2_with fail
    rw [← hW1]
    clear hW1
    refine HIS.out.mono ?_
    rintro e1 w1 ⟨rfl, rfl⟩
    go_wp2_with fail
    refine HJ.out.mono ?_
    rintro e1 w1 ⟨rfl, rfl⟩
    go_wp2_with fail
    go_region_with ((go_at_call 19); (first | (refine (HD.out _ (Ext.refl _)).mono ?_) | (refine (HD.out _ (ext_drew9 (Ext.refl _))).mono ?_)); (rintro e2 w2 ⟨rfl, hx2⟩); (first | (have hx3 : Ext W1 w2 := hx2) | (have hx3 : Ext W1 w2 := Ext.of_drew hx2)); (have k2 : w2.cell? ⟨g, 2, none⟩ = some (.int .i64 c.quota) := (HP.out.ext hx3).blk.cell 2))
    all_goals
      have HX2 := Lib.hid (HX.out.trans hx3)
      have HS := Lib.hid (HSF.out w2 hx3)
      have hq2 : w2.cell? ⟨w.heap.size, 2, none⟩ = some (.int .i64 v) := (HB.out.ext hx3).cell 2
      obtain ⟨bz, capz, hvz, _, _, _, _, hatz, hfrz⟩ := (HP.out.ext hx3).jobAt HI.out
      injection hvz with hA _ hcap
      injection hA with hA
      injection hA with hA
      subst hA hcap
      have z6 := hatz.c6
      have z10 := hatz.c10
      have f6 := hfrz (k * 12 + 6)
      have f10 := hfrz (k * 12 + 10)
      clear hx2 hx3 k2 hatz hfrz
      go_wp2_with fail
      go_region
      go_wp2
      go_ret
      exact MDone.of HR.out rfl (ObjF.drew HS.out.1) (chg2 HX2.out HS.out.2).drew

end Go.Proofs.YtkpcjdhnbjkaaaaDoor
