/- Texts that the proof of F rests on, one behind the other. -/
import Derived.Test.YtbfjlhddebollaaDoorFQ12
import Derived.Deep.Cut
import Derived.Deep.LoopGhost
import Derived.BigQuiet
import Derived.Deep.QuietTactic

/- The reference of layer 9: Why, at a kind. -/
namespace Go.Proofs.YtbfjlhddebollaaDoor
open Go.RowKit

set_option maxRecDepth 100000 in
set_option maxHeartbeats 4000000 in
theorem Why_18 (c : Cf) (vn vj : Value) (s : St) (a1 a2 a3 a4 a5 a6 : Int) (w : World) (h : RdSt w vn vj s) (hR : RightP c s) (hr : rightO (18, a1, a2, a3, a4, a5, a6) = true) :
    Calls Tryd.prog 29 #[cfV c, stV vn vj s, .agg #[.int .i64 18, .int .i64 a1, .int .i64 a2, .int .i64 a3, .int .i64 a4, .int .i64 a5, .int .i64 a6]] w fun e w' => e = .returned (.int .i64 (doS c s (18, a1, a2, a3, a4, a5, a6)).2) ∧ Ext w w' := by
  have hR6 := hR.len.2
  have hj24 := hR.nj
  have hin := op_in hr
  dsimp only at hin
  obtain ⟨⟨ha0, ha9_⟩, ⟨hb0_, hb9_⟩⟩ := hin
  have HA9 := Lib.hid ha9_
  have HB9 := Lib.hid hb9_
  clear ha9_ hb9_ hb0_
  obtain ⟨An, cn, rfl, hnc, hcm, hNN⟩ := has_cells h.nodes
  obtain ⟨Aj, cj, rfl, hjc, hjm, hJJ⟩ := jobs_cells h.jobs
  obtain ⟨W3, hW3, hx3, hb0, hb1, hb2⟩ := three_blocks w 23 30 36 #[.int .i64 c.nodes, .int .i64 c.queues, .int .i64 c.quota, .int .i64 c.wave, .int .i64 c.lease, .int .i64 c.retry, .int .i64 c.deadline, .int .i64 c.room, .int .i64 c.disk] #[.slice An s.nodes.length cn, .slice Aj s.jobs.length cj, .int .i64 s.goal, .int .i64 s.prior, .int .i64 s.mode, .int .i64 s.term] #[.int .i64 18, .int .i64 a1, .int .i64 a2, .int .i64 a3, .int .i64 a4, .int .i64 a5, .int .i64 a6]
  have HRR := Lib.hid (RefRight08 (18, a1, a2, a3, a4, a5, a6) W3)
  rw [hr] at HRR
  have HX3 := Lib.hid hx3
  have HB0 := Lib.hid hb0
  have HB1 := Lib.hid hb1
  have HB2 := Lib.hid hb2
  have HNN := Lib.hid hNN
  have HJJ := Lib.hid hJJ
  have HH := Lib.hid h
  have HRP := Lib.hid hR
  have o0 : W3.cell? ⟨w.heap.size + 2, 0, none⟩ = some (.int .i64 18) := hb2.cell 0
  have o1 : W3.cell? ⟨w.heap.size + 2, 1, none⟩ = some (.int .i64 a1) := hb2.cell 1
  have o2 : W3.cell? ⟨w.heap.size + 2, 2, none⟩ = some (.int .i64 a2) := hb2.cell 2
  have o3 : W3.cell? ⟨w.heap.size + 2, 3, none⟩ = some (.int .i64 a3) := hb2.cell 3
  have o4 : W3.cell? ⟨w.heap.size + 2, 4, none⟩ = some (.int .i64 a4) := hb2.cell 4
  have o5 : W3.cell? ⟨w.heap.size + 2, 5, none⟩ = some (.int .i64 a5) := hb2.cell 5
  have o6 : W3.cell? ⟨w.heap.size + 2, 6, none⟩ = some (.int .i64 a6) := hb2.cell 6
  rw [show opV (18, a1, a2, a3, a4, a5, a6) = .agg #[.int .i64 18, .int .i64 a1, .int .i64 a2, .int .i64 a3, .int .i64 a4, .int .i64 a5, .int .i64 a6] from rfl] at *
  unfold cfV stV
  clear hx3 hb0 hb1 hb2 hNN hJJ h hR hr
  go_enter Tryd.func29, Tryd.ntmps29
  go_wp2_with fail
  rw [← hW3]
  clear hW3
  refine HRR.out.mono ?_
  rintro e1 w1 ⟨rfl, hx1⟩
  have HX1 := Lib.hid (HX3.out.trans hx1)
  have HC0 := Lib.hid (HB0.out.ext hx1)
  have HC1 := Lib.hid (HB1.out.ext hx1)
  have HC2 := Lib.hid (HB2.out.ext hx1)
  clear hx1 HX3 HB0 HB1 HB2 HRR o0 o1 o2 o3 o4 o5 o6
  have hlw : w.heap.size + 2 < w1.heap.size := HC2.out.lt
  have hlw1 : w.heap.size + 1 < w1.heap.size := by omega
  have hlw0 : w.heap.size < w1.heap.size := by omega
  have HXE : Hid (∀ c1 t1 c2 t2, Ext w ((w1.alloc (.cells c1 t1)).alloc (.cells c2 t2))) := Lib.hid fun c1 t1 c2 t2 => (HX1.out.alloc HX1.out.size _).alloc (by have := HX1.out.size; simp; omega) _
  have o0 : w1.cell? ⟨w.heap.size + 2, 0, none⟩ = some (.int .i64 18) := HC2.out.cell 0
  have o1 : w1.cell? ⟨w.heap.size + 2, 1, none⟩ = some (.int .i64 a1) := HC2.out.cell 1
  have o2 : w1.cell? ⟨w.heap.size + 2, 2, none⟩ = some (.int .i64 a2) := HC2.out.cell 2
  have o3 : w1.cell? ⟨w.heap.size + 2, 3, none⟩ = some (.int .i64 a3) := HC2.out.cell 3
  have o4 : w1.cell? ⟨w.heap.size + 2, 4, none⟩ = some (.int .i64 a4) := HC2.out.cell 4
  have o5 : w1.cell? ⟨w.heap.size + 2, 5, none⟩ = some (.int .i64 a5) := HC2.out.cell 5
  have o6 : w1.cell? ⟨w.heap.size + 2, 6, none⟩ = some (.int .i64 a6) := HC2.out.cell 6
  have s0 : w1.cell? ⟨w.heap.size + 1, 0, none⟩ = some (.slice An s.nodes.length cn) := HC1.out.cell 0
  have s1 : w1.cell? ⟨w.heap.size + 1, 1, none⟩ = some (.slice Aj s.jobs.length cj) := HC1.out.cell 1
  have s2 : w1.cell? ⟨w.heap.size + 1, 2, none⟩ = some (.int .i64 s.goal) := HC1.out.cell 2
  have s3 : w1.cell? ⟨w.heap.size + 1, 3, none⟩ = some (.int .i64 s.prior) := HC1.out.cell 3
  have s4 : w1.cell? ⟨w.heap.size + 1, 4, none⟩ = some (.int .i64 s.mode) := HC1.out.cell 4
  have s5 : w1.cell? ⟨w.heap.size + 1, 5, none⟩ = some (.int .i64 s.term) := HC1.out.cell 5
  obtain ⟨i, rfl⟩ : ∃ i : Nat, a1 = (i : Int) := ⟨a1.toNat, by omega⟩
  by_cases h_n : s.nodes.length ≤ i
  · have d_n : decide ((s.nodes.length : Int) ≤ (i : Int)) = true := decide_eq_true (by omega)
    have d_n' : decide (s.nodes.length ≤ i) = true := decide_eq_true h_n
    have HV : Hid ((doS c s (18, (i : Int), a2, a3, a4, a5, a6)).2 = 4) := Lib.hid (by rw [do_nodeN (by simpa using h_n) (by decide)])
    clear h_n
    go_wp2
    all_goals
      go_ret
      exact ⟨congrArg (fun n => Ending.returned (.int .i64 n)) HV.out.symm, HXE.out _ _ _ _⟩
  have d_n : decide ((s.nodes.length : Int) ≤ (i : Int)) = false := decide_eq_false (by omega)
  have d_n' : decide (s.nodes.length ≤ i) = false := decide_eq_false h_n
  obtain ⟨⟨up, cd, mv, ver, job⟩, hn⟩ : ∃ n, s.nodes[i]? = some n := ⟨_, List.getElem?_eq_getElem (by omega)⟩
  have HNK := Lib.hid hn
  have HDO : Hid (doS c s (18, (i : Int), a2, a3, a4, a5, a6) = nodeOp s 18 i ⟨up, cd, mv, ver, job⟩ a2) := Lib.hid (by have := do_node (c := c) (s := s) (kd := 18) (a := (i : Int)) (b := a2) (t := (a3, a4, a5, a6)) (by simpa using hn) (by decide); simpa using this)
  obtain ⟨bk, o, rfl, hb, hat⟩ := HNN.out i _ hn
  obtain ⟨n0, n1, n2, n3, n4⟩ := hat.ext HX1.out hb
  dsimp only at n0 n1 n2 n3 n4
  have hbl : bk < w1.heap.size := Nat.lt_of_lt_of_le hb HX1.out.size
  have x1 : (0 : Int) ≤ (i : Int) ∧ (i : Int) < (s.nodes.length : Int) := by omega
  clear hn hat hb h_n
  cases up
  · have HV : Hid ((doS c s (18, (i : Int), a2, a3, a4, a5, a6)).2 = 5) := Lib.hid (by rw [HDO.out]; unfold nodeOp moveS; simp [])
    go_wp2
    all_goals
      go_ret
      exact ⟨congrArg (fun n => Ending.returned (.int .i64 n)) HV.out.symm, HXE.out _ _ _ _⟩
  cases cd
  · have HV : Hid ((doS c s (18, (i : Int), a2, a3, a4, a5, a6)).2 = 5) := Lib.hid (by rw [HDO.out]; unfold nodeOp moveS; simp [])
    go_wp2
    all_goals
      go_ret
      exact ⟨congrArg (fun n => Ending.returned (.int .i64 n)) HV.out.symm, HXE.out _ _ _ _⟩
  cases mv
  · by_cases h_j : job = 0
    · have d_j : (job == 0) = true := by rw [beq_iff_eq]; exact h_j
      have HV : Hid ((doS c s (18, (i : Int), a2, a3, a4, a5, a6)).2 = 0) := Lib.hid (by rw [HDO.out]; unfold nodeOp moveS; simp [h_j])
      clear h_j
      go_wp2
      all_goals
        go_ret
        exact ⟨congrArg (fun n => Ending.returned (.int .i64 n)) HV.out.symm, HXE.out _ _ _ _⟩
    have d_j : (job == 0) = false := by rw [beq_eq_false_iff_ne]; exact h_j
    have HV : Hid ((doS c s (18, (i : Int), a2, a3, a4, a5, a6)).2 = 5) := Lib.hid (by rw [HDO.out]; unfold nodeOp moveS; simp [h_j])
    clear h_j
    go_wp2
    all_goals
      go_ret
      exact ⟨congrArg (fun n => Ending.returned (.int .i64 n)) HV.out.symm, HXE.out _ _ _ _⟩
  · have HV : Hid ((doS c s (18, (i : Int), a2, a3, a4, a5, a6)).2 = 5) := Lib.hid (by rw [HDO.out]; unfold nodeOp moveS; simp [])
    go_wp2
    all_goals
      go_ret
      exact ⟨congrArg (fun n => Ending.returned (.int .i64 n)) HV.out.symm, HXE.out _ _ _ _⟩

end Go.Proofs.YtbfjlhddebollaaDoor

/- The reference of layer 9: Why, at a kind. -/
namespace Go.Proofs.YtbfjlhddebollaaDoor
open Go.RowKit

set_option maxRecDepth 100000 in
set_option maxHeartbeats 4000000 in
theorem Why_19 (c : Cf) (vn vj : Value) (s : St) (a1 a2 a3 a4 a5 a6 : Int) (w : World) (h : RdSt w vn vj s) (hR : RightP c s) (hr : rightO (19, a1, a2, a3, a4, a5, a6) = true) :
    Calls Tryd.prog 29 #[cfV c, stV vn vj s, .agg #[.int .i64 19, .int .i64 a1, .int .i64 a2, .int .i64 a3, .int .i64 a4, .int .i64 a5, .int .i64 a6]] w fun e w' => e = .returned (.int .i64 (doS c s (19, a1, a2, a3, a4, a5, a6)).2) ∧ Ext w w' := by
  have hR6 := hR.len.2
  have hj24 := hR.nj
  have hin := op_in hr
  dsimp only at hin
  obtain ⟨⟨ha0, ha9_⟩, ⟨hb0_, hb9_⟩⟩ := hin
  have HA9 := Lib.hid ha9_
  have HB9 := Lib.hid hb9_
  clear ha9_ hb9_ hb0_
  obtain ⟨An, cn, rfl, hnc, hcm, hNN⟩ := has_cells h.nodes
  obtain ⟨Aj, cj, rfl, hjc, hjm, hJJ⟩ := jobs_cells h.jobs
  obtain ⟨W3, hW3, hx3, hb0, hb1, hb2⟩ := three_blocks w 23 30 36 #[.int .i64 c.nodes, .int .i64 c.queues, .int .i64 c.quota, .int .i64 c.wave, .int .i64 c.lease, .int .i64 c.retry, .int .i64 c.deadline, .int .i64 c.room, .int .i64 c.disk] #[.slice An s.nodes.length cn, .slice Aj s.jobs.length cj, .int .i64 s.goal, .int .i64 s.prior, .int .i64 s.mode, .int .i64 s.term] #[.int .i64 19, .int .i64 a1, .int .i64 a2, .int .i64 a3, .int .i64 a4, .int .i64 a5, .int .i64 a6]
  have HRR := Lib.hid (RefRight08 (19, a1, a2, a3, a4, a5, a6) W3)
  rw [hr] at HRR
  have HX3 := Lib.hid hx3
  have HB0 := Lib.hid hb0
  have HB1 := Lib.hid hb1
  have HB2 := Lib.hid hb2
  have HNN := Lib.hid hNN
  have HJJ := Lib.hid hJJ
  have HH := Lib.hid h
  have HRP := Lib.hid hR
  have o0 : W3.cell? ⟨w.heap.size + 2, 0, none⟩ = some (.int .i64 19) := hb2.cell 0
  have o1 : W3.cell? ⟨w.heap.size + 2, 1, none⟩ = some (.int .i64 a1) := hb2.cell 1
  have o2 : W3.cell? ⟨w.heap.size + 2, 2, none⟩ = some (.int .i64 a2) := hb2.cell 2
  have o3 : W3.cell? ⟨w.heap.size + 2, 3, none⟩ = some (.int .i64 a3) := hb2.cell 3
  have o4 : W3.cell? ⟨w.heap.size + 2, 4, none⟩ = some (.int .i64 a4) := hb2.cell 4
  have o5 : W3.cell? ⟨w.heap.size + 2, 5, none⟩ = some (.int .i64 a5) := hb2.cell 5
  have o6 : W3.cell? ⟨w.heap.size + 2, 6, none⟩ = some (.int .i64 a6) := hb2.cell 6
  rw [show opV (19, a1, a2, a3, a4, a5, a6) = .agg #[.int .i64 19, .int .i64 a1, .int .i64 a2, .int .i64 a3, .int .i64 a4, .int .i64 a5, .int .i64 a6] from rfl] at *
  unfold cfV stV
  clear hx3 hb0 hb1 hb2 hNN hJJ h hR hr
  go_enter Tryd.func29, Tryd.ntmps29
  go_wp2_with fail
  rw [← hW3]
  clear hW3
  refine HRR.out.mono ?_
  rintro e1 w1 ⟨rfl, hx1⟩
  have HX1 := Lib.hid (HX3.out.trans hx1)
  have HC0 := Lib.hid (HB0.out.ext hx1)
  have HC1 := Lib.hid (HB1.out.ext hx1)
  have HC2 := Lib.hid (HB2.out.ext hx1)
  clear hx1 HX3 HB0 HB1 HB2 HRR o0 o1 o2 o3 o4 o5 o6
  have hlw : w.heap.size + 2 < w1.heap.size := HC2.out.lt
  have hlw1 : w.heap.size + 1 < w1.heap.size := by omega
  have hlw0 : w.heap.size < w1.heap.size := by omega
  have HXE : Hid (∀ c1 t1 c2 t2, Ext w ((w1.alloc (.cells c1 t1)).alloc (.cells c2 t2))) := Lib.hid fun c1 t1 c2 t2 => (HX1.out.alloc HX1.out.size _).alloc (by have := HX1.out.size; simp; omega) _
  have o0 : w1.cell? ⟨w.heap.size + 2, 0, none⟩ = some (.int .i64 19) := HC2.out.cell 0
  have o1 : w1.cell? ⟨w.heap.size + 2, 1, none⟩ = some (.int .i64 a1) := HC2.out.cell 1
  have o2 : w1.cell? ⟨w.heap.size + 2, 2, none⟩ = some (.int .i64 a2) := HC2.out.cell 2
  have o3 : w1.cell? ⟨w.heap.size + 2, 3, none⟩ = some (.int .i64 a3) := HC2.out.cell 3
  have o4 : w1.cell? ⟨w.heap.size + 2, 4, none⟩ = some (.int .i64 a4) := HC2.out.cell 4
  have o5 : w1.cell? ⟨w.heap.size + 2, 5, none⟩ = some (.int .i64 a5) := HC2.out.cell 5
  have o6 : w1.cell? ⟨w.heap.size + 2, 6, none⟩ = some (.int .i64 a6) := HC2.out.cell 6
  have s0 : w1.cell? ⟨w.heap.size + 1, 0, none⟩ = some (.slice An s.nodes.length cn) := HC1.out.cell 0
  have s1 : w1.cell? ⟨w.heap.size + 1, 1, none⟩ = some (.slice Aj s.jobs.length cj) := HC1.out.cell 1
  have s2 : w1.cell? ⟨w.heap.size + 1, 2, none⟩ = some (.int .i64 s.goal) := HC1.out.cell 2
  have s3 : w1.cell? ⟨w.heap.size + 1, 3, none⟩ = some (.int .i64 s.prior) := HC1.out.cell 3
  have s4 : w1.cell? ⟨w.heap.size + 1, 4, none⟩ = some (.int .i64 s.mode) := HC1.out.cell 4
  have s5 : w1.cell? ⟨w.heap.size + 1, 5, none⟩ = some (.int .i64 s.term) := HC1.out.cell 5
  obtain ⟨i, rfl⟩ : ∃ i : Nat, a1 = (i : Int) := ⟨a1.toNat, by omega⟩
  by_cases h_n : s.nodes.length ≤ i
  · have d_n : decide ((s.nodes.length : Int) ≤ (i : Int)) = true := decide_eq_true (by omega)
    have d_n' : decide (s.nodes.length ≤ i) = true := decide_eq_true h_n
    have HV : Hid ((doS c s (19, (i : Int), a2, a3, a4, a5, a6)).2 = 4) := Lib.hid (by rw [do_nodeN (by simpa using h_n) (by decide)])
    clear h_n
    go_wp2
    all_goals
      go_ret
      exact ⟨congrArg (fun n => Ending.returned (.int .i64 n)) HV.out.symm, HXE.out _ _ _ _⟩
  have d_n : decide ((s.nodes.length : Int) ≤ (i : Int)) = false := decide_eq_false (by omega)
  have d_n' : decide (s.nodes.length ≤ i) = false := decide_eq_false h_n
  obtain ⟨⟨up, cd, mv, ver, job⟩, hn⟩ : ∃ n, s.nodes[i]? = some n := ⟨_, List.getElem?_eq_getElem (by omega)⟩
  have HNK := Lib.hid hn
  have HDO : Hid (doS c s (19, (i : Int), a2, a3, a4, a5, a6) = nodeOp s 19 i ⟨up, cd, mv, ver, job⟩ a2) := Lib.hid (by have := do_node (c := c) (s := s) (kd := 19) (a := (i : Int)) (b := a2) (t := (a3, a4, a5, a6)) (by simpa using hn) (by decide); simpa using this)
  obtain ⟨bk, o, rfl, hb, hat⟩ := HNN.out i _ hn
  obtain ⟨n0, n1, n2, n3, n4⟩ := hat.ext HX1.out hb
  dsimp only at n0 n1 n2 n3 n4
  have hbl : bk < w1.heap.size := Nat.lt_of_lt_of_le hb HX1.out.size
  have x1 : (0 : Int) ≤ (i : Int) ∧ (i : Int) < (s.nodes.length : Int) := by omega
  clear hn hat hb h_n
  by_cases h_v : ¬ 1 ≤ a2
  · have d_v : decide (1 ≤ a2) = false := decide_eq_false h_v
    have HV : Hid ((doS c s (19, (i : Int), a2, a3, a4, a5, a6)).2 = 1) := Lib.hid (by rw [HDO.out]; unfold nodeOp movedS; simp [show inR a2 1 9 = false by unfold inR; simp; omega])
    clear h_v
    go_wp2
    all_goals
      go_ret
      exact ⟨congrArg (fun n => Ending.returned (.int .i64 n)) HV.out.symm, HXE.out _ _ _ _⟩
  have hv1 := Classical.not_not.1 h_v
  have d_v : decide (1 ≤ a2) = true := decide_eq_true hv1
  by_cases h_w : ¬ a2 ≤ 9
  · have d_w : decide (a2 ≤ 9) = false := decide_eq_false h_w
    have HV : Hid ((doS c s (19, (i : Int), a2, a3, a4, a5, a6)).2 = 1) := Lib.hid (by rw [HDO.out]; unfold nodeOp movedS; simp [show inR a2 1 9 = false by unfold inR; simp; omega])
    clear h_v h_w hv1
    go_wp2
    all_goals
      go_ret
      exact ⟨congrArg (fun n => Ending.returned (.int .i64 n)) HV.out.symm, HXE.out _ _ _ _⟩
  have hw1 := Classical.not_not.1 h_w
  have d_w : decide (a2 ≤ 9) = true := decide_eq_true hw1
  have HIN : Hid (inR a2 1 9 = true) := Lib.hid (inR_iff.2 ⟨hv1, hw1⟩)
  clear h_v h_w hv1 hw1
  cases mv
  · have HV : Hid ((doS c s (19, (i : Int), a2, a3, a4, a5, a6)).2 = 5) := Lib.hid (by rw [HDO.out]; unfold nodeOp movedS; simp [HIN.out])
    go_wp2
    all_goals
      go_ret
      exact ⟨congrArg (fun n => Ending.returned (.int .i64 n)) HV.out.symm, HXE.out _ _ _ _⟩
  · have HV : Hid ((doS c s (19, (i : Int), a2, a3, a4, a5, a6)).2 = 0) := Lib.hid (by rw [HDO.out]; unfold nodeOp movedS; simp [HIN.out])
    go_wp2
    all_goals
      go_ret
      exact ⟨congrArg (fun n => Ending.returned (.int .i64 n)) HV.out.symm, HXE.out _ _ _ _⟩

end Go.Proofs.YtbfjlhddebollaaDoor

/- The reference of layer 9: Why, at a kind. -/
namespace Go.Proofs.YtbfjlhddebollaaDoor
open Go.RowKit

set_option maxRecDepth 100000 in
set_option maxHeartbeats 4000000 in
theorem Why_20 (c : Cf) (vn vj : Value) (s : St) (a1 a2 a3 a4 a5 a6 : Int) (w : World) (h : RdSt w vn vj s) (hR : RightP c s) (hr : rightO (20, a1, a2, a3, a4, a5, a6) = true) :
    Calls Tryd.prog 29 #[cfV c, stV vn vj s, .agg #[.int .i64 20, .int .i64 a1, .int .i64 a2, .int .i64 a3, .int .i64 a4, .int .i64 a5, .int .i64 a6]] w fun e w' => e = .returned (.int .i64 (doS c s (20, a1, a2, a3, a4, a5, a6)).2) ∧ Ext w w' := by
  have hR6 := hR.len.2
  have hj24 := hR.nj
  have hin := op_in hr
  dsimp only at hin
  obtain ⟨⟨ha0, ha9_⟩, ⟨hb0_, hb9_⟩⟩ := hin
  have HA9 := Lib.hid ha9_
  have HB9 := Lib.hid hb9_
  clear ha9_ hb9_
  obtain ⟨An, cn, rfl, hnc, hcm, hNN⟩ := has_cells h.nodes
  obtain ⟨Aj, cj, rfl, hjc, hjm, hJJ⟩ := jobs_cells h.jobs
  obtain ⟨W3, hW3, hx3, hb0, hb1, hb2⟩ := three_blocks w 23 30 36 #[.int .i64 c.nodes, .int .i64 c.queues, .int .i64 c.quota, .int .i64 c.wave, .int .i64 c.lease, .int .i64 c.retry, .int .i64 c.deadline, .int .i64 c.room, .int .i64 c.disk] #[.slice An s.nodes.length cn, .slice Aj s.jobs.length cj, .int .i64 s.goal, .int .i64 s.prior, .int .i64 s.mode, .int .i64 s.term] #[.int .i64 20, .int .i64 a1, .int .i64 a2, .int .i64 a3, .int .i64 a4, .int .i64 a5, .int .i64 a6]
  have HRR := Lib.hid (RefRight08 (20, a1, a2, a3, a4, a5, a6) W3)
  rw [hr] at HRR
  have HX3 := Lib.hid hx3
  have HB0 := Lib.hid hb0
  have HB1 := Lib.hid hb1
  have HB2 := Lib.hid hb2
  have HNN := Lib.hid hNN
  have HJJ := Lib.hid hJJ
  have HH := Lib.hid h
  have HRP := Lib.hid hR
  have o0 : W3.cell? ⟨w.heap.size + 2, 0, none⟩ = some (.int .i64 20) := hb2.cell 0
  have o1 : W3.cell? ⟨w.heap.size + 2, 1, none⟩ = some (.int .i64 a1) := hb2.cell 1
  have o2 : W3.cell? ⟨w.heap.size + 2, 2, none⟩ = some (.int .i64 a2) := hb2.cell 2
  have o3 : W3.cell? ⟨w.heap.size + 2, 3, none⟩ = some (.int .i64 a3) := hb2.cell 3
  have o4 : W3.cell? ⟨w.heap.size + 2, 4, none⟩ = some (.int .i64 a4) := hb2.cell 4
  have o5 : W3.cell? ⟨w.heap.size + 2, 5, none⟩ = some (.int .i64 a5) := hb2.cell 5
  have o6 : W3.cell? ⟨w.heap.size + 2, 6, none⟩ = some (.int .i64 a6) := hb2.cell 6
  rw [show opV (20, a1, a2, a3, a4, a5, a6) = .agg #[.int .i64 20, .int .i64 a1, .int .i64 a2, .int .i64 a3, .int .i64 a4, .int .i64 a5, .int .i64 a6] from rfl] at *
  unfold cfV stV
  clear hx3 hb0 hb1 hb2 hNN hJJ h hR hr
  go_enter Tryd.func29, Tryd.ntmps29
  go_wp2_with fail
  rw [← hW3]
  clear hW3
  refine HRR.out.mono ?_
  rintro e1 w1 ⟨rfl, hx1⟩
  have HX1 := Lib.hid (HX3.out.trans hx1)
  have HC0 := Lib.hid (HB0.out.ext hx1)
  have HC1 := Lib.hid (HB1.out.ext hx1)
  have HC2 := Lib.hid (HB2.out.ext hx1)
  clear hx1 HX3 HB0 HB1 HB2 HRR o0 o1 o2 o3 o4 o5 o6
  have hlw : w.heap.size + 2 < w1.heap.size := HC2.out.lt
  have hlw1 : w.heap.size + 1 < w1.heap.size := by omega
  have hlw0 : w.heap.size < w1.heap.size := by omega
  have HXE : Hid (∀ c1 t1 c2 t2, Ext w ((w1.alloc (.cells c1 t1)).alloc (.cells c2 t2))) := Lib.hid fun c1 t1 c2 t2 => (HX1.out.alloc HX1.out.size _).alloc (by have := HX1.out.size; simp; omega) _
  have o0 : w1.cell? ⟨w.heap.size + 2, 0, none⟩ = some (.int .i64 20) := HC2.out.cell 0
  have o1 : w1.cell? ⟨w.heap.size + 2, 1, none⟩ = some (.int .i64 a1) := HC2.out.cell 1
  have o2 : w1.cell? ⟨w.heap.size + 2, 2, none⟩ = some (.int .i64 a2) := HC2.out.cell 2
  have o3 : w1.cell? ⟨w.heap.size + 2, 3, none⟩ = some (.int .i64 a3) := HC2.out.cell 3
  have o4 : w1.cell? ⟨w.heap.size + 2, 4, none⟩ = some (.int .i64 a4) := HC2.out.cell 4
  have o5 : w1.cell? ⟨w.heap.size + 2, 5, none⟩ = some (.int .i64 a5) := HC2.out.cell 5
  have o6 : w1.cell? ⟨w.heap.size + 2, 6, none⟩ = some (.int .i64 a6) := HC2.out.cell 6
  have s0 : w1.cell? ⟨w.heap.size + 1, 0, none⟩ = some (.slice An s.nodes.length cn) := HC1.out.cell 0
  have s1 : w1.cell? ⟨w.heap.size + 1, 1, none⟩ = some (.slice Aj s.jobs.length cj) := HC1.out.cell 1
  have s2 : w1.cell? ⟨w.heap.size + 1, 2, none⟩ = some (.int .i64 s.goal) := HC1.out.cell 2
  have s3 : w1.cell? ⟨w.heap.size + 1, 3, none⟩ = some (.int .i64 s.prior) := HC1.out.cell 3
  have s4 : w1.cell? ⟨w.heap.size + 1, 4, none⟩ = some (.int .i64 s.mode) := HC1.out.cell 4
  have s5 : w1.cell? ⟨w.heap.size + 1, 5, none⟩ = some (.int .i64 s.term) := HC1.out.cell 5
  by_cases h_l : a1 < 1
  · have d_l : decide (a1 < 1) = true := decide_eq_true h_l
    have HV : Hid ((doS c s (20, a1, a2, a3, a4, a5, a6)).2 = 4) := Lib.hid (by rw [do_jobN (by unfold jobOf; rw [if_neg (by omega)]) (by decide) (by decide)])
    clear h_l
    go_wp2
    all_goals
      go_ret
      exact ⟨congrArg (fun n => Ending.returned (.int .i64 n)) HV.out.symm, HXE.out _ _ _ _⟩
  have d_l : decide (a1 < 1) = false := decide_eq_false h_l
  by_cases h_n : (s.jobs.length : Int) < a1
  · have d_n : decide ((s.jobs.length : Int) < a1) = true := decide_eq_true h_n
    have HV : Hid ((doS c s (20, a1, a2, a3, a4, a5, a6)).2 = 4) := Lib.hid (by rw [do_jobN (by unfold jobOf; rw [if_pos (by omega)]; exact List.getElem?_eq_none (by omega)) (by decide) (by decide)])
    clear h_n h_l
    go_wp2
    all_goals
      go_ret
      exact ⟨congrArg (fun n => Ending.returned (.int .i64 n)) HV.out.symm, HXE.out _ _ _ _⟩
  have d_n : decide ((s.jobs.length : Int) < a1) = false := decide_eq_false h_n
  obtain ⟨k, hk1⟩ : ∃ k : Nat, a1 - 1 = (k : Int) := ⟨(a1 - 1).toNat, by omega⟩
  obtain ⟨j, hj⟩ : ∃ j, s.jobs[k]? = some j := ⟨_, List.getElem?_eq_getElem (by omega)⟩
  have HJK := Lib.hid hj
  have hk2 : (a1 - 1).toNat = k := by omega
  have HDO : Hid (doS c s (20, a1, a2, a3, a4, a5, a6) = jobOp c s 20 k j a2) := Lib.hid (by have := do_job (c := c) (s := s) (kd := 20) (a := a1) (b := a2) (t := (a3, a4, a5, a6)) (j := j) (by unfold jobOf; rw [if_pos (by omega), hk2]; exact hj) (by decide) (by decide); rw [hk2] at this; exact this)
  obtain ⟨bk, o, rfl, hb, hat⟩ := HJJ.out k j hj
  obtain ⟨n0, n1, n2, n3, n4, n5, n6, n7, n8, n9, n10, n11⟩ := hat.ext HX1.out hb
  have hbl : bk < w1.heap.size := Nat.lt_of_lt_of_le hb HX1.out.size
  have x1 : (0 : Int) ≤ (k : Int) ∧ (k : Int) < (s.jobs.length : Int) := by omega
  have hwk : IntKind.i64.wrap (a1 - 1) = (k : Int) := by rw [hk1]; exact IntWalk.i64_in _ (by omega)
  have hwk' : wrap64 (a1 - 1) = (k : Int) := by rw [hk1]; exact IntWalk.wrap64_in _ (by omega)
  clear hj hat hb h_n h_l hk2 hk1 ha0
  obtain ⟨i, rfl⟩ : ∃ i : Nat, a2 = (i : Int) := ⟨a2.toNat, by have := hb0_; omega⟩
  by_cases h_m : s.nodes.length ≤ i
  · have d_m : decide ((s.nodes.length : Int) ≤ (i : Int)) = true := decide_eq_true (by omega)
    have d_m' : decide (s.nodes.length ≤ i) = true := decide_eq_true h_m
    have HV : Hid ((doS c s (20, a1, (i : Int), a3, a4, a5, a6)).2 = 4) := Lib.hid (by rw [HDO.out]; unfold jobOp; rw [if_neg (by decide), if_neg (by decide), if_neg (by decide), if_neg (by decide), if_neg (by decide), if_neg (by decide), if_neg (by decide), if_neg (by decide)]; rw [show s.nodes[((i : Int)).toNat]? = none by simpa using h_m])
    clear h_m
    go_wp2
    all_goals
      go_ret
      exact ⟨congrArg (fun n => Ending.returned (.int .i64 n)) HV.out.symm, HXE.out _ _ _ _⟩
  have d_m : decide ((s.nodes.length : Int) ≤ (i : Int)) = false := decide_eq_false (by omega)
  have d_m' : decide (s.nodes.length ≤ i) = false := decide_eq_false h_m
  obtain ⟨n, hn⟩ : ∃ n, s.nodes[i]? = some n := ⟨_, List.getElem?_eq_getElem (by omega)⟩
  have HDV : Hid ((doS c s (20, a1, (i : Int), a3, a4, a5, a6)).2 = (shrinkS s k j i n).2) := Lib.hid (by rw [HDO.out]; unfold jobOp; rw [if_neg (by decide), if_neg (by decide), if_neg (by decide), if_neg (by decide), if_neg (by decide), if_neg (by decide), if_neg (by decide), if_neg (by decide)]; rw [show s.nodes[((i : Int)).toNat]? = some n by simpa using hn]; rfl)
  have hi6 : i < 6 := by omega
  clear hn h_m
  by_cases h_p : ¬ j.phase = 2
  · have d_p : (j.phase == 2) = false := by rw [beq_eq_false_iff_ne]; exact h_p
    have HV : Hid ((doS c s (20, a1, (i : Int), a3, a4, a5, a6)).2 = 5) := Lib.hid (by rw [HDV.out]; unfold shrinkS; rw [if_neg h_p])
    clear h_p
    go_wp2
    all_goals
      go_ret
      exact ⟨congrArg (fun n => Ending.returned (.int .i64 n)) HV.out.symm, HXE.out _ _ _ _⟩
  have hp := Classical.not_not.1 h_p
  have d_p : (j.phase == 2) = true := by rw [hp]; rfl
  have HHS : Hid (∀ W, Calls Tryd.prog 31 #[.int .i64 j.nodes, .int .i64 (i : Int)] W fun e w' => e = .returned (.bool (hasS j.nodes i)) ∧ w' = W) := Lib.hid fun W => (RefHas_any j.nodes i (by omega) W).mono fun _ _ ⟨h1, h2⟩ => ⟨h1, h2.symm⟩
  have HMN : Hid (∀ W, Calls Tryd.prog 49 #[.int .i64 j.nodes] W fun e w' => e = .returned (.int .i64 (manyS j.nodes : Int)) ∧ w' = W) := Lib.hid fun W => (RefMany_any j.nodes W).mono fun _ _ ⟨h1, h2⟩ => ⟨h1, h2.symm⟩
  have HDW : Hid ((doS c s (20, a1, (i : Int), a3, a4, a5, a6)).2 = if hasS j.nodes i = true ∧ j.least < (manyS j.nodes : Int) then 0 else 8) := Lib.hid (by rw [HDV.out]; unfold shrinkS; rw [if_pos hp]; split <;> rfl)
  clear h_p hp
  generalize manyS j.nodes = M at *
  generalize hasS j.nodes i = hs at *
  cases hs
  · have HV : Hid ((doS c s (20, a1, (i : Int), a3, a4, a5, a6)).2 = 8) := Lib.hid (by rw [HDW.out, if_neg (by simp)])
    go_upto_region 103 with (fail)
    all_goals
      go_quiet ((first | (go_at_call 31; exact Calls.quiet_of_same (HHS.out _)) | (go_at_call 49; exact Calls.quiet_of_same (HMN.out _))))
      go_wp2
      go_ret
      exact ⟨congrArg (fun n => Ending.returned (.int .i64 n)) HV.out.symm, Below.drewN' (HXE.out _ _ _ _) _⟩
  by_cases h_l2 : (M : Int) ≤ j.least
  · have d_l2 : decide ((M : Int) ≤ j.least) = true := decide_eq_true h_l2
    have HV : Hid ((doS c s (20, a1, (i : Int), a3, a4, a5, a6)).2 = 8) := Lib.hid (by rw [HDW.out, if_neg (by omega)])
    clear h_l2
    go_upto_region 103 with (fail)
    all_goals
      go_quiet ((first | (go_at_call 31; exact Calls.quiet_of_same (HHS.out _)) | (go_at_call 49; exact Calls.quiet_of_same (HMN.out _))))
      go_wp2
      go_ret
      exact ⟨congrArg (fun n => Ending.returned (.int .i64 n)) HV.out.symm, Below.drewN' (HXE.out _ _ _ _) _⟩
  have d_l2 : decide ((M : Int) ≤ j.least) = false := decide_eq_false h_l2
  have HV : Hid ((doS c s (20, a1, (i : Int), a3, a4, a5, a6)).2 = 0) := Lib.hid (by rw [HDW.out, if_pos ⟨rfl, by omega⟩])
  clear h_l2
  go_upto_region 103 with (fail)
  all_goals
    go_quiet ((first | (go_at_call 31; exact Calls.quiet_of_same (HHS.out _)) | (go_at_call 49; exact Calls.quiet_of_same (HMN.out _))))
    go_wp2
    go_ret
    exact ⟨congrArg (fun n => Ending.returned (.int .i64 n)) HV.out.symm, Below.drewN' (HXE.out _ _ _ _) _⟩

end Go.Proofs.YtbfjlhddebollaaDoor

/- The reference of layer 9: Why, at a kind. -/
namespace Go.Proofs.YtbfjlhddebollaaDoor
open Go.RowKit

set_option maxRecDepth 100000 in
set_option maxHeartbeats 4000000 in
theorem Why_21 (c : Cf) (vn vj : Value) (s : St) (a1 a2 a3 a4 a5 a6 : Int) (w : World) (h : RdSt w vn vj s) (hR : RightP c s) (hr : rightO (21, a1, a2, a3, a4, a5, a6) = true) :
    Calls Tryd.prog 29 #[cfV c, stV vn vj s, .agg #[.int .i64 21, .int .i64 a1, .int .i64 a2, .int .i64 a3, .int .i64 a4, .int .i64 a5, .int .i64 a6]] w fun e w' => e = .returned (.int .i64 (doS c s (21, a1, a2, a3, a4, a5, a6)).2) ∧ Ext w w' := by
  have hR6 := hR.len.2
  have hj24 := hR.nj
  have hin := op_in hr
  dsimp only at hin
  obtain ⟨⟨ha0, ha9_⟩, ⟨hb0_, hb9_⟩⟩ := hin
  have HA9 := Lib.hid ha9_
  have HB9 := Lib.hid hb9_
  clear ha9_ hb9_ hb0_
  obtain ⟨An, cn, rfl, hnc, hcm, hNN⟩ := has_cells h.nodes
  obtain ⟨Aj, cj, rfl, hjc, hjm, hJJ⟩ := jobs_cells h.jobs
  obtain ⟨W3, hW3, hx3, hb0, hb1, hb2⟩ := three_blocks w 23 30 36 #[.int .i64 c.nodes, .int .i64 c.queues, .int .i64 c.quota, .int .i64 c.wave, .int .i64 c.lease, .int .i64 c.retry, .int .i64 c.deadline, .int .i64 c.room, .int .i64 c.disk] #[.slice An s.nodes.length cn, .slice Aj s.jobs.length cj, .int .i64 s.goal, .int .i64 s.prior, .int .i64 s.mode, .int .i64 s.term] #[.int .i64 21, .int .i64 a1, .int .i64 a2, .int .i64 a3, .int .i64 a4, .int .i64 a5, .int .i64 a6]
  have HRR := Lib.hid (RefRight08 (21, a1, a2, a3, a4, a5, a6) W3)
  rw [hr] at HRR
  have HX3 := Lib.hid hx3
  have HB0 := Lib.hid hb0
  have HB1 := Lib.hid hb1
  have HB2 := Lib.hid hb2
  have HNN := Lib.hid hNN
  have HJJ := Lib.hid hJJ
  have HH := Lib.hid h
  have HRP := Lib.hid hR
  have o0 : W3.cell? ⟨w.heap.size + 2, 0, none⟩ = some (.int .i64 21) := hb2.cell 0
  have o1 : W3.cell? ⟨w.heap.size + 2, 1, none⟩ = some (.int .i64 a1) := hb2.cell 1
  have o2 : W3.cell? ⟨w.heap.size + 2, 2, none⟩ = some (.int .i64 a2) := hb2.cell 2
  have o3 : W3.cell? ⟨w.heap.size + 2, 3, none⟩ = some (.int .i64 a3) := hb2.cell 3
  have o4 : W3.cell? ⟨w.heap.size + 2, 4, none⟩ = some (.int .i64 a4) := hb2.cell 4
  have o5 : W3.cell? ⟨w.heap.size + 2, 5, none⟩ = some (.int .i64 a5) := hb2.cell 5
  have o6 : W3.cell? ⟨w.heap.size + 2, 6, none⟩ = some (.int .i64 a6) := hb2.cell 6
  rw [show opV (21, a1, a2, a3, a4, a5, a6) = .agg #[.int .i64 21, .int .i64 a1, .int .i64 a2, .int .i64 a3, .int .i64 a4, .int .i64 a5, .int .i64 a6] from rfl] at *
  unfold cfV stV
  clear hx3 hb0 hb1 hb2 hNN hJJ h hR hr
  go_enter Tryd.func29, Tryd.ntmps29
  go_wp2_with fail
  rw [← hW3]
  clear hW3
  refine HRR.out.mono ?_
  rintro e1 w1 ⟨rfl, hx1⟩
  have HX1 := Lib.hid (HX3.out.trans hx1)
  have HC0 := Lib.hid (HB0.out.ext hx1)
  have HC1 := Lib.hid (HB1.out.ext hx1)
  have HC2 := Lib.hid (HB2.out.ext hx1)
  clear hx1 HX3 HB0 HB1 HB2 HRR o0 o1 o2 o3 o4 o5 o6
  have hlw : w.heap.size + 2 < w1.heap.size := HC2.out.lt
  have hlw1 : w.heap.size + 1 < w1.heap.size := by omega
  have hlw0 : w.heap.size < w1.heap.size := by omega
  have HXE : Hid (∀ c1 t1 c2 t2, Ext w ((w1.alloc (.cells c1 t1)).alloc (.cells c2 t2))) := Lib.hid fun c1 t1 c2 t2 => (HX1.out.alloc HX1.out.size _).alloc (by have := HX1.out.size; simp; omega) _
  have o0 : w1.cell? ⟨w.heap.size + 2, 0, none⟩ = some (.int .i64 21) := HC2.out.cell 0
  have o1 : w1.cell? ⟨w.heap.size + 2, 1, none⟩ = some (.int .i64 a1) := HC2.out.cell 1
  have o2 : w1.cell? ⟨w.heap.size + 2, 2, none⟩ = some (.int .i64 a2) := HC2.out.cell 2
  have o3 : w1.cell? ⟨w.heap.size + 2, 3, none⟩ = some (.int .i64 a3) := HC2.out.cell 3
  have o4 : w1.cell? ⟨w.heap.size + 2, 4, none⟩ = some (.int .i64 a4) := HC2.out.cell 4
  have o5 : w1.cell? ⟨w.heap.size + 2, 5, none⟩ = some (.int .i64 a5) := HC2.out.cell 5
  have o6 : w1.cell? ⟨w.heap.size + 2, 6, none⟩ = some (.int .i64 a6) := HC2.out.cell 6
  have s0 : w1.cell? ⟨w.heap.size + 1, 0, none⟩ = some (.slice An s.nodes.length cn) := HC1.out.cell 0
  have s1 : w1.cell? ⟨w.heap.size + 1, 1, none⟩ = some (.slice Aj s.jobs.length cj) := HC1.out.cell 1
  have s2 : w1.cell? ⟨w.heap.size + 1, 2, none⟩ = some (.int .i64 s.goal) := HC1.out.cell 2
  have s3 : w1.cell? ⟨w.heap.size + 1, 3, none⟩ = some (.int .i64 s.prior) := HC1.out.cell 3
  have s4 : w1.cell? ⟨w.heap.size + 1, 4, none⟩ = some (.int .i64 s.mode) := HC1.out.cell 4
  have s5 : w1.cell? ⟨w.heap.size + 1, 5, none⟩ = some (.int .i64 s.term) := HC1.out.cell 5
  by_cases h_m : s.term = 1000000
  · have d_m : (s.term == 1000000) = true := by rw [beq_iff_eq]; exact h_m
    have HV : Hid ((doS c s (21, a1, a2, a3, a4, a5, a6)).2 = 3) := Lib.hid (by show (newtermS s).2 = 3; unfold newtermS; rw [if_pos h_m])
    clear h_m
    go_wp2
    all_goals
      go_ret
      exact ⟨congrArg (fun n => Ending.returned (.int .i64 n)) HV.out.symm, HXE.out _ _ _ _⟩
  have d_m : (s.term == 1000000) = false := by rw [beq_eq_false_iff_ne]; exact h_m
  have HV : Hid ((doS c s (21, a1, a2, a3, a4, a5, a6)).2 = 0) := Lib.hid (by show (newtermS s).2 = 0; unfold newtermS; rw [if_neg h_m])
  clear h_m
  go_wp2
  all_goals
    go_ret
    exact ⟨congrArg (fun n => Ending.returned (.int .i64 n)) HV.out.symm, HXE.out _ _ _ _⟩

end Go.Proofs.YtbfjlhddebollaaDoor

/- The reference of layer 9: Why, of a state that may be. -/
namespace Go.Proofs.YtbfjlhddebollaaDoor
open Go.RowKit

theorem RefWhy_any (c : Cf) (vn vj : Value) (s : St) (o : OpN) (w : World) (h : RdSt w vn vj s) (hR : RightP c s) :
    Calls Tryd.prog 29 #[cfV c, stV vn vj s, opV o] w fun e w' => e = .returned (.int .i64 (applyS c s o).2) ∧ Ext w w' := by
  obtain ⟨kd, a1, a2, a3, a4, a5, a6⟩ := o
  unfold applyS
  cases hr : rightO (kd, a1, a2, a3, a4, a5, a6)
  · rw [if_pos rfl]
    exact Why_no c vn vj s kd a1 a2 a3 a4 a5 a6 w h hr
  · rw [if_neg (by decide)]
    have hk := (rightO_iff.1 hr).1
    dsimp only at hk
    have hk2 : kd = 1 ∨ kd = 2 ∨ kd = 3 ∨ kd = 4 ∨ kd = 5 ∨ kd = 6 ∨ kd = 7 ∨ kd = 8 ∨ kd = 9 ∨ kd = 10 ∨ kd = 11 ∨ kd = 12 ∨ kd = 13 ∨ kd = 14 ∨ kd = 15 ∨ kd = 16 ∨ kd = 17 ∨ kd = 18 ∨ kd = 19 ∨ kd = 20 ∨ kd = 21 := by omega
    rcases hk2 with rfl | rfl | rfl | rfl | rfl | rfl | rfl | rfl | rfl | rfl | rfl | rfl | rfl | rfl | rfl | rfl | rfl | rfl | rfl | rfl | rfl
    · exact Why_1 c vn vj s a1 a2 a3 a4 a5 a6 w h hR hr
    · exact Why_2 c vn vj s a1 a2 a3 a4 a5 a6 w h hR hr
    · exact Why_3 c vn vj s a1 a2 a3 a4 a5 a6 w h hR hr
    · exact Why_4 c vn vj s a1 a2 a3 a4 a5 a6 w h hR hr
    · exact Why_5 c vn vj s a1 a2 a3 a4 a5 a6 w h hR hr
    · exact Why_6 c vn vj s a1 a2 a3 a4 a5 a6 w h hR hr
    · exact Why_7 c vn vj s a1 a2 a3 a4 a5 a6 w h hR hr
    · exact Why_8 c vn vj s a1 a2 a3 a4 a5 a6 w h hR hr
    · exact Why_9 c vn vj s a1 a2 a3 a4 a5 a6 w h hR hr
    · exact Why_10 c vn vj s a1 a2 a3 a4 a5 a6 w h hR hr
    · exact Why_11 c vn vj s a1 a2 a3 a4 a5 a6 w h hR hr
    · exact Why_12 c vn vj s a1 a2 a3 a4 a5 a6 w h hR hr
    · exact Why_13 c vn vj s a1 a2 a3 a4 a5 a6 w h hR hr
    · exact Why_14 c vn vj s a1 a2 a3 a4 a5 a6 w h hR hr
    · exact Why_15 c vn vj s a1 a2 a3 a4 a5 a6 w h hR hr
    · exact Why_16 c vn vj s a1 a2 a3 a4 a5 a6 w h hR hr
    · exact Why_17 c vn vj s a1 a2 a3 a4 a5 a6 w h hR hr
    · exact Why_18 c vn vj s a1 a2 a3 a4 a5 a6 w h hR hr
    · exact Why_19 c vn vj s a1 a2 a3 a4 a5 a6 w h hR hr
    · exact Why_20 c vn vj s a1 a2 a3 a4 a5 a6 w h hR hr
    · exact Why_21 c vn vj s a1 a2 a3 a4 a5 a6 w h hR hr

end Go.Proofs.YtbfjlhddebollaaDoor

/- A variable that holds a state, with rows of its own. -/
namespace Go.Proofs.YtbfjlhddebollaaDoor
open Go.RowKit

def vsC (vn vj : Value) (s : St) : Array Value := #[vn, vj, .int .i64 s.goal, .int .i64 s.prior, .int .i64 s.mode, .int .i64 s.term]
/-- The variable at g holds a state, with rows of its own; all in the set. -/
def Sg (F : Fp) (w : World) (g : Nat) (vn vj : Value) (s : St) : Prop :=
  ObjF F w g 30 (vsC vn vj s) [⟨45, 5, vn, s.nodes.length, nodesC s.nodes⟩, ⟨56, 12, vj, s.jobs.length, jobsC s.jobs⟩]

section
variable {F G : Fp} {w w' : World} {g : Nat} {vn vj : Value} {s : St}
theorem Sg.ext (h : Sg F w g vn vj s) (hx : Ext w w') : Sg F w' g vn vj s := ObjF.ext h hx
theorem Sg.isIn (h : Sg F w g vn vj s) : F.isIn w := ObjF.isIn h
theorem Sg.mono (h : Sg F w g vn vj s) (hf : ∀ k, F k → G k) (hi : G.isIn w) : Sg G w g vn vj s := ObjF.mono h hf hi
theorem Sg.blk (h : Sg F w g vn vj s) : Blk w g 30 (vsC vn vj s) := ObjF.blk h
theorem Sg.lt (h : Sg F w g vn vj s) : g < w.heap.size := (ObjF.blk h).lt
theorem Sg.rowN (h : Sg F w g vn vj s) : w.ownsRow 0 45 5 vn s.nodes.length (nodesC s.nodes) := (ObjF.ok h ⟨45, 5, vn, s.nodes.length, nodesC s.nodes⟩ (by simp)).1
theorem Sg.rowJ (h : Sg F w g vn vj s) : w.ownsRow 0 56 12 vj s.jobs.length (jobsC s.jobs) := (ObjF.ok h ⟨56, 12, vj, s.jobs.length, jobsC s.jobs⟩ (by simp)).1
theorem Sg.rd (h : Sg F w g vn vj s) : RdSt w vn vj s := ⟨RdS.own h.rowN, RdS.own h.rowJ⟩
theorem Sg.fr (h : Sg F w g vn vj s) (i : Nat) : w.frozen? ⟨g, i, none⟩ = false := (ObjF.blk h).frozen i
/-- What a walk wants of a node. -/
theorem Sg.nodeAt (h : Sg F w g vn vj s) {i : Nat} {n : Nd} (hi : s.nodes[i]? = some n) : ∃ b cap, vn = .slice (some ⟨b, 0, none⟩) s.nodes.length cap ∧ s.nodes.length ≤ cap ∧ cap ≤ 9223372036854775807 ∧ b < w.heap.size ∧ b ≠ g ∧ NdAt w b (i * 5) n ∧ ∀ k, w.frozen? ⟨b, k, none⟩ = false := by
  have hr := h.rowN
  have hil := (List.getElem?_eq_some_iff.1 hi).1
  rcases hr.2 with ⟨_, h0⟩ | ⟨b, cap, cur, hv, hg, hh, hn, hcap, hs, ht⟩
  · omega
  · have hoff := ObjF.off h ⟨45, 5, vn, s.nodes.length, nodesC s.nodes⟩ (by simp)
    subst hv
    refine ⟨b, cap, rfl, hn, by unfold maxLen at hcap; omega, (Array.getElem?_eq_some_iff.1 hh).1, fun e => hoff (by rw [e]; rfl), ?_, fun k => hr.frozenAt k⟩
    refine NdAt.of fun j u hu => ?_
    have hj : j < 5 := (List.getElem?_eq_some_iff.1 hu).1
    rw [hr.cellAt _ (by omega)]
    exact (flat_get Nd.len hi j hj).trans hu
theorem Sg.jobAt (h : Sg F w g vn vj s) {i : Nat} {n : Jb} (hi : s.jobs[i]? = some n) : ∃ b cap, vj = .slice (some ⟨b, 0, none⟩) s.jobs.length cap ∧ s.jobs.length ≤ cap ∧ cap ≤ 9223372036854775807 ∧ b < w.heap.size ∧ b ≠ g ∧ JbAt w b (i * 12) n ∧ ∀ k, w.frozen? ⟨b, k, none⟩ = false := by
  have hr := h.rowJ
  have hil := (List.getElem?_eq_some_iff.1 hi).1
  rcases hr.2 with ⟨_, h0⟩ | ⟨b, cap, cur, hv, hg, hh, hn, hcap, hs, ht⟩
  · omega
  · have hoff := ObjF.off h ⟨56, 12, vj, s.jobs.length, jobsC s.jobs⟩ (by simp)
    subst hv
    refine ⟨b, cap, rfl, hn, by unfold maxLen at hcap; omega, (Array.getElem?_eq_some_iff.1 hh).1, fun e => hoff (by rw [e]; rfl), ?_, fun k => hr.frozenAt k⟩
    refine JbAt.of fun j u hu => ?_
    have hj : j < 12 := (List.getElem?_eq_some_iff.1 hu).1
    rw [hr.cellAt _ (by omega)]
    exact (flat_get Jb.len hi j hj).trans hu
theorem Sg.far (h : Sg F w g vn vj s) : ∀ k, vn.ownBlock = some k → vj.ownBlock ≠ some k := by
  have := ObjF.apart h
  rw [List.pairwise_cons] at this
  exact this.1 ⟨56, 12, vj, s.jobs.length, jobsC s.jobs⟩ (by simp)

theorem chg_cellS {b k : Nat} {u : Value} (hF : F b) : Chg F w (w.setCell ⟨b, k, none⟩ u) := (Chg.refl F w).setCell fun _ => hF
/-- A node's field is written. -/
theorem Sg.setN (h : Sg F w g vn vj s) {i : Nat} {n n' : Nd} (hi : s.nodes[i]? = some n) {b cap : Nat} (hv : vn = .slice (some ⟨b, 0, none⟩) s.nodes.length cap) (j : Nat) (hj : j < 5) (u : Value) (hn : n'.cells = n.cells.set j u) :
    Sg F (w.setCell ⟨b, i * 5 + j, none⟩ u) g vn vj (setN s i n') ∧ Chg F w (w.setCell ⟨b, i * 5 + j, none⟩ u) := by
  have hr := h.rowN
  have hF : F b := (ObjF.ok h ⟨45, 5, vn, s.nodes.length, nodesC s.nodes⟩ (by simp)).2 b (by rw [hv]; rfl)
  have hc := chg_cellS (w := w) (k := i * 5 + j) (u := u) hF
  subst hv
  obtain ⟨h1, h2⟩ := hr.stored (i * 5 + j) u
  have hset : nodesC (s.nodes.set i n') = (nodesC s.nodes).set (i * 5 + j) u := flat_set Nd.len hi j hj u hn
  have ht := ObjF.turn (w' := w.setCell ⟨b, i * 5 + j, none⟩ u) h 0 (by simp) ⟨45, 5, .slice (some ⟨b, 0, none⟩) s.nodes.length cap, (s.nodes.set i n').length, nodesC (s.nodes.set i n')⟩ (by rw [hset, List.length_set]; exact h1)
    ((Chg.refl _ w).setCell fun _ => rfl) (fun k hk => .inl hk)
  refine ⟨?_, hc⟩
  have hm : Sg (Fp.since F w (w.setCell ⟨b, i * 5 + j, none⟩ u)) (w.setCell ⟨b, i * 5 + j, none⟩ u) g (.slice (some ⟨b, 0, none⟩) s.nodes.length cap) vj (Go.Proofs.YtbfjlhddebollaaDoor.setN s i n') := ht.1
  refine hm.mono (fun k hk => ?_) (h.isIn.chg hc)
  rcases hk with hk | hk
  · exact hk
  · simp at hk
    omega
/-- A job's field is written. -/
theorem Sg.setJ (h : Sg F w g vn vj s) {i : Nat} {n n' : Jb} (hi : s.jobs[i]? = some n) {b cap : Nat} (hv : vj = .slice (some ⟨b, 0, none⟩) s.jobs.length cap) (j : Nat) (hj : j < 12) (u : Value) (hn : n'.cells = n.cells.set j u) :
    Sg F (w.setCell ⟨b, i * 12 + j, none⟩ u) g vn vj (setJ s i n') ∧ Chg F w (w.setCell ⟨b, i * 12 + j, none⟩ u) := by
  have hr := h.rowJ
  have hF : F b := (ObjF.ok h ⟨56, 12, vj, s.jobs.length, jobsC s.jobs⟩ (by simp)).2 b (by rw [hv]; rfl)
  have hc := chg_cellS (w := w) (k := i * 12 + j) (u := u) hF
  subst hv
  obtain ⟨h1, h2⟩ := hr.stored (i * 12 + j) u
  have hset : jobsC (s.jobs.set i n') = (jobsC s.jobs).set (i * 12 + j) u := flat_set Jb.len hi j hj u hn
  have ht := ObjF.turn (w' := w.setCell ⟨b, i * 12 + j, none⟩ u) h 1 (by simp) ⟨56, 12, .slice (some ⟨b, 0, none⟩) s.jobs.length cap, (s.jobs.set i n').length, jobsC (s.jobs.set i n')⟩ (by rw [hset, List.length_set]; exact h1)
    ((Chg.refl _ w).setCell fun _ => rfl) (fun k hk => .inl hk)
  refine ⟨?_, hc⟩
  have hm : Sg (Fp.since F w (w.setCell ⟨b, i * 12 + j, none⟩ u)) (w.setCell ⟨b, i * 12 + j, none⟩ u) g vn (.slice (some ⟨b, 0, none⟩) s.jobs.length cap) (Go.Proofs.YtbfjlhddebollaaDoor.setJ s i n') := ht.1
  refine hm.mono (fun k hk => ?_) (h.isIn.chg hc)
  rcases hk with hk | hk
  · exact hk
  · simp at hk
    omega
/-- One of the state's numbers is written. -/
theorem Sg.setG (h : Sg F w g vn vj s) (s' : St) (k : Nat) (u : Value) (hn : s'.nodes = s.nodes) (hj : s'.jobs = s.jobs) (hc : vsC vn vj s' = (vsC vn vj s).setIfInBounds k u) :
    Sg F (w.setCell ⟨g, k, none⟩ u) g vn vj s' ∧ Chg F w (w.setCell ⟨g, k, none⟩ u) := by
  have := ObjF.setCell h k u
  unfold Sg
  rw [hn, hj, hc]
  exact this
end

theorem Sg.make {w0 W : World} {g base : Nat} {vn vj : Value} {s : St} (hb : Blk W g 30 (vsC vn vj s)) (hg : w0.heap.size ≤ g) (ho : OwnSt base 45 56 W vn vj s) (hbase : w0.heap.size ≤ base)
    (hne : ∀ k, vn.ownBlock = some k ∨ vj.ownBlock = some k → k ≠ g) : Sg (fun k => w0.heap.size ≤ k ∧ k < W.heap.size) W g vn vj s := by
  have own0 : ∀ {e : TypeId} {K n : Nat} {v : Value} {xs : List Value}, W.ownsRow base e K v n xs → W.ownsRow 0 e K v n xs := fun h => by
    refine ⟨h.1, ?_⟩
    rcases h.2 with hv | ⟨b, cap, cur, hv, _, r⟩
    · exact .inl hv
    · exact .inr ⟨b, cap, cur, hv, Nat.zero_le _, r⟩
  refine ⟨hb, ⟨hg, hb.lt⟩, fun k hk => hk.2, fun r hr => ?_, fun r hr e => ?_, ?_⟩
  · simp only [List.mem_cons, List.not_mem_nil, or_false] at hr
    rcases hr with rfl | rfl
    · exact ⟨own0 ho.nodes, fun k hk => ⟨Nat.le_trans hbase (ho.nodes.lt k hk).1, (ho.nodes.lt k hk).2⟩⟩
    · exact ⟨own0 ho.jobs, fun k hk => ⟨Nat.le_trans hbase (ho.jobs.lt k hk).1, (ho.jobs.lt k hk).2⟩⟩
  · simp only [List.mem_cons, List.not_mem_nil, or_false] at hr
    rcases hr with rfl | rfl
    · exact hne g (.inl e) rfl
    · exact hne g (.inr e) rfl
  · refine List.Pairwise.cons (fun r hr => ?_) (List.Pairwise.cons (fun r hr => by cases hr) List.Pairwise.nil)
    simp only [List.mem_cons, List.not_mem_nil, or_false] at hr
    subst hr
    exact ho.off
/-- What the rows' blocks are in. -/
theorem Sg.inN {F : Fp} {w : World} {g : Nat} {vn vj : Value} {s : St} (h : Sg F w g vn vj s) : ∀ k, vn.ownBlock = some k → F k ∧ k ≠ g := fun k hk =>
  ⟨(ObjF.ok h ⟨45, 5, vn, s.nodes.length, nodesC s.nodes⟩ (by simp)).2 k hk, fun e => ObjF.off h ⟨45, 5, vn, s.nodes.length, nodesC s.nodes⟩ (by simp) (by rw [hk, e])⟩
theorem Sg.inJ {F : Fp} {w : World} {g : Nat} {vn vj : Value} {s : St} (h : Sg F w g vn vj s) : ∀ k, vj.ownBlock = some k → F k ∧ k ≠ g := fun k hk =>
  ⟨(ObjF.ok h ⟨56, 12, vj, s.jobs.length, jobsC s.jobs⟩ (by simp)).2 k hk, fun e => ObjF.off h ⟨56, 12, vj, s.jobs.length, jobsC s.jobs⟩ (by simp) (by rw [hk, e])⟩

/-- A job's count of holds goes up, its times are struck: three cells are written. -/
theorem sg_want {F : Fp} {w : World} {g k : Nat} {vn vj : Value} {s : St} {j : Jb} (h : Sg F w g vn vj s) (hk : s.jobs[k]? = some j) : ∃ bj cap, vj = .slice (some ⟨bj, 0, none⟩) s.jobs.length cap ∧ ∀ w1 w2 w3, w1 = w.setCell ⟨bj, k * 12 + 7, none⟩ (.int .i64 (j.inc + 1)) → w2 = w1.setCell ⟨bj, k * 12 + 9, none⟩ (.int .i64 0) → w3 = w2.setCell ⟨bj, k * 12 + 10, none⟩ (.int .i64 0) →
    (w.cell? ⟨g, 1, none⟩ = some vj ∧ w.cell? ⟨bj, k * 12 + 7, none⟩ = some (.int .i64 j.inc) ∧ w.frozen? ⟨bj, k * 12 + 7, none⟩ = false) ∧ (w1.cell? ⟨g, 1, none⟩ = some vj ∧ w1.cell? ⟨bj, k * 12 + 9, none⟩ = some (.int .i64 j.since) ∧ w1.frozen? ⟨bj, k * 12 + 9, none⟩ = false) ∧
    (w2.cell? ⟨g, 1, none⟩ = some vj ∧ w2.cell? ⟨bj, k * 12 + 10, none⟩ = some (.int .i64 j.til) ∧ w2.frozen? ⟨bj, k * 12 + 10, none⟩ = false) ∧ Sg F w3 g vn vj (setJ s k (wantJ j)) ∧ Chg F w w3 := by
  have hkl := (List.getElem?_eq_some_iff.1 hk).1
  obtain ⟨bj, cap, rfl, -, -, -, -, hat, hfr⟩ := h.jobAt hk
  refine ⟨bj, cap, rfl, ?_⟩
  rintro w1 w2 w3 rfl rfl rfl
  obtain ⟨h1, c1⟩ := h.setJ (n' := { j with inc := j.inc + 1 }) hk rfl 7 (by omega) (.int .i64 (j.inc + 1)) rfl
  have l1 : (setJ s k { j with inc := j.inc + 1 }).jobs.length = s.jobs.length := by simp [setJ]
  have k1 : (setJ s k { j with inc := j.inc + 1 }).jobs[k]? = some { j with inc := j.inc + 1 } := by simp only [setJ]; rw [List.getElem?_set_self hkl]
  obtain ⟨b1, p1, e1, -, -, -, -, hat1, hfr1⟩ := h1.jobAt k1
  rw [l1] at e1
  cases e1
  obtain ⟨h2, c2⟩ := h1.setJ (b := bj) (cap := cap) (n' := { j with inc := j.inc + 1, since := 0 }) k1 (by rw [l1]) 9 (by omega) (.int .i64 0) rfl
  rw [setJ_setJ] at h2
  have l2 : (setJ s k { j with inc := j.inc + 1, since := 0 }).jobs.length = s.jobs.length := by simp [setJ]
  have k2 : (setJ s k { j with inc := j.inc + 1, since := 0 }).jobs[k]? = some { j with inc := j.inc + 1, since := 0 } := by simp only [setJ]; rw [List.getElem?_set_self hkl]
  obtain ⟨b2, p2, e2, -, -, -, -, hat2, hfr2⟩ := h2.jobAt k2
  rw [l2] at e2
  cases e2
  obtain ⟨h3, c3⟩ := h2.setJ (b := bj) (cap := cap) (n' := wantJ j) k2 (by rw [l2]) 10 (by omega) (.int .i64 0) rfl
  rw [setJ_setJ] at h3
  exact ⟨⟨h.blk.cell 1, hat.c7, hfr _⟩, ⟨h1.blk.cell 1, hat1.c9, hfr1 _⟩, ⟨h2.blk.cell 1, hat2.c10, hfr2 _⟩, h3, (c1.trans c2 (fun _ _ h => h)).trans c3 (fun _ _ h => h)⟩

end Go.Proofs.YtbfjlhddebollaaDoor

/- The reference of layer 9: New. -/
namespace Go.Proofs.YtbfjlhddebollaaDoor
open Go.RowKit

theorem blk_three (w : World) (t1 t2 t3 : TypeId) (c1 c2 c3 : Array Value) : ∃ W, W = ((w.alloc (.cells c1 t1)).alloc (.cells c2 t2)).alloc (.cells c3 t3) ∧ Ext w W ∧ Blk W w.heap.size t1 c1 ∧ Blk W (w.heap.size + 1) t2 c2 ∧ Blk W (w.heap.size + 2) t3 c3 ∧ W.heap.size = w.heap.size + 3 := by
  refine ⟨_, rfl, ext3 w t1 t2 t3 c1 c2 c3, ((Blk.new w t1 c1).alloc _).alloc _, ?_, ?_, by simp⟩
  · have := (Blk.new (w.alloc (.cells c1 t1)) t2 c2).alloc (.cells c3 t3)
    have e : (w.alloc (.cells c1 t1)).heap.size = w.heap.size + 1 := by simp
    rw [e] at this
    exact this
  · have := Blk.new ((w.alloc (.cells c1 t1)).alloc (.cells c2 t2)) t3 c3
    have e : ((w.alloc (.cells c1 t1)).alloc (.cells c2 t2)).heap.size = w.heap.size + 2 := by simp
    rw [e] at this
    exact this
theorem grown_blk {w w' : World} {row : Option Nat} {g : Nat} {T : TypeId} {cs : Array Value} (h : w.grownBy w' row) (hb : Blk w g T cs) (hne : some g ≠ row) : Blk w' g T cs := (h.block g hb.lt hne).trans hb

/-- Behind k nodes. -/
structure RnR (w : World) (c : Cf) (q : Nat) (wr : World) : Prop where
  out : ∃ v, Below w.heap.size w wr ∧ Blk wr w.heap.size 23 #[.int .i64 c.nodes, .int .i64 c.queues, .int .i64 c.quota, .int .i64 c.wave, .int .i64 c.lease, .int .i64 c.retry, .int .i64 c.deadline, .int .i64 c.room, .int .i64 c.disk] ∧
    Blk wr (w.heap.size + 1) 30 #[.slice none 0 0, .slice none 0 0, .int .i64 0, .int .i64 0, .int .i64 0, .int .i64 0] ∧ Blk wr (w.heap.size + 2) 30 #[v, .slice none 0 0, .int .i64 0, .int .i64 0, .int .i64 0, .int .i64 0] ∧
    wr.ownsRow (w.heap.size + 3) 45 5 v q (nodesC (List.replicate q newN)) ∧ w.heap.size + 3 ≤ wr.heap.size

set_option maxRecDepth 100000 in
set_option maxHeartbeats 4000000 in
theorem RefNew_any (c : Cf) (w : World) :
    Calls Tryd.prog 9 #[cfV c] w fun e w' => ∃ vn vj, e = .returned (stV vn vj (newSt c)) ∧ RdSt w' vn vj (newSt c) ∧ Ext w w' ∧ ∀ k, vn.ownBlock = some k ∨ vj.ownBlock = some k → w.heap.size ≤ k := by
  have HM := Lib.hid fun w' => RefMay_any c w'
  obtain ⟨W3, hW3, hx, hb0, hb1, hb2, hs⟩ := blk_three w 23 30 30 #[.int .i64 c.nodes, .int .i64 c.queues, .int .i64 c.quota, .int .i64 c.wave, .int .i64 c.lease, .int .i64 c.retry, .int .i64 c.deadline, .int .i64 c.room, .int .i64 c.disk] #[.slice none 0 0, .slice none 0 0, .int .i64 0, .int .i64 0, .int .i64 0, .int .i64 0] #[.slice none 0 0, .slice none 0 0, .int .i64 0, .int .i64 0, .int .i64 0, .int .i64 0]
  have HX := Lib.hid hx
  have HB0 := Lib.hid hb0
  have HB1 := Lib.hid hb1
  have HB2 := Lib.hid hb2
  have HS := Lib.hid hs
  unfold cfV at HM
  unfold cfV
  clear hx hb0 hb1 hb2 hs
  go_enter Tryd.func9, Tryd.ntmps9
  go_upto_region 2 with (fail)
  rw [← hW3]
  clear hW3
  have k0 : W3.cell? ⟨w.heap.size, 0, none⟩ = some (.int .i64 c.nodes) := HB0.out.cell 0
  have k1 : W3.cell? ⟨w.heap.size, 1, none⟩ = some (.int .i64 c.queues) := HB0.out.cell 1
  have k2 : W3.cell? ⟨w.heap.size, 2, none⟩ = some (.int .i64 c.quota) := HB0.out.cell 2
  have k3 : W3.cell? ⟨w.heap.size, 3, none⟩ = some (.int .i64 c.wave) := HB0.out.cell 3
  have k4 : W3.cell? ⟨w.heap.size, 4, none⟩ = some (.int .i64 c.lease) := HB0.out.cell 4
  have k5 : W3.cell? ⟨w.heap.size, 5, none⟩ = some (.int .i64 c.retry) := HB0.out.cell 5
  have k6 : W3.cell? ⟨w.heap.size, 6, none⟩ = some (.int .i64 c.deadline) := HB0.out.cell 6
  have k7 : W3.cell? ⟨w.heap.size, 7, none⟩ = some (.int .i64 c.room) := HB0.out.cell 7
  have k8 : W3.cell? ⟨w.heap.size, 8, none⟩ = some (.int .i64 c.disk) := HB0.out.cell 8
  go_wp2_with fail
  refine (HM.out _).mono ?_
  rintro e1 w1 ⟨rfl, hx1⟩
  have HXW := Lib.hid (HX.out.trans hx1)
  have HC0 := Lib.hid (HB0.out.ext hx1)
  have HC1 := Lib.hid (HB1.out.ext hx1)
  have HC2 := Lib.hid (HB2.out.ext hx1)
  have HSZ : Hid (w.heap.size + 3 ≤ w1.heap.size) := Lib.hid (by have := HS.out; have := hx1.size; omega)
  clear hx1 k0 k1 k2 k3 k4 k5 k6 k7 k8 HX HB0 HB1 HB2 HS
  cases hm : mayC c
  · have hnew : newSt c = zeroS := by rw [newSt, if_neg (by rw [hm]; simp)]
    have HN := Lib.hid hnew
    clear hnew
    have r0 : w1.cell? ⟨w.heap.size + 1, 0, none⟩ = some (.slice none 0 0) := HC1.out.cell 0
    have r1 : w1.cell? ⟨w.heap.size + 1, 1, none⟩ = some (.slice none 0 0) := HC1.out.cell 1
    have r2 : w1.cell? ⟨w.heap.size + 1, 2, none⟩ = some (.int .i64 0) := HC1.out.cell 2
    have r3 : w1.cell? ⟨w.heap.size + 1, 3, none⟩ = some (.int .i64 0) := HC1.out.cell 3
    have r4 : w1.cell? ⟨w.heap.size + 1, 4, none⟩ = some (.int .i64 0) := HC1.out.cell 4
    have r5 : w1.cell? ⟨w.heap.size + 1, 5, none⟩ = some (.int .i64 0) := HC1.out.cell 5
    have g0 : w1.frozen? ⟨w.heap.size + 1, 0, none⟩ = false := HC1.out.frozen 0
    have g1 : w1.frozen? ⟨w.heap.size + 1, 1, none⟩ = false := HC1.out.frozen 1
    have g2 : w1.frozen? ⟨w.heap.size + 1, 2, none⟩ = false := HC1.out.frozen 2
    have g3 : w1.frozen? ⟨w.heap.size + 1, 3, none⟩ = false := HC1.out.frozen 3
    have g4 : w1.frozen? ⟨w.heap.size + 1, 4, none⟩ = false := HC1.out.frozen 4
    have g5 : w1.frozen? ⟨w.heap.size + 1, 5, none⟩ = false := HC1.out.frozen 5
    have p0 : w1.cell? ⟨w.heap.size + 2, 0, none⟩ = some (.slice none 0 0) := HC2.out.cell 0
    have p1 : w1.cell? ⟨w.heap.size + 2, 1, none⟩ = some (.slice none 0 0) := HC2.out.cell 1
    have p2 : w1.cell? ⟨w.heap.size + 2, 2, none⟩ = some (.int .i64 0) := HC2.out.cell 2
    have p3 : w1.cell? ⟨w.heap.size + 2, 3, none⟩ = some (.int .i64 0) := HC2.out.cell 3
    have p4 : w1.cell? ⟨w.heap.size + 2, 4, none⟩ = some (.int .i64 0) := HC2.out.cell 4
    have p5 : w1.cell? ⟨w.heap.size + 2, 5, none⟩ = some (.int .i64 0) := HC2.out.cell 5
    go_wp2
    have hq := (((((PB.start HC1.out).set 0 (.slice none 0 0)).set 1 (.slice none 0 0)).set 2 (.int .i64 0)).set 3 (.int .i64 0)).set 4 (.int .i64 0)
    replace hq := hq.set 5 (.int .i64 0)
    simp only [List.setIfInBounds_toArray, List.set_cons_zero, List.set_cons_succ] at hq
    rw [HN.out]
    exact bodyPost_ret (results_cell_row rfl _ _ (w.heap.size + 1) 30 _ (0, 0) _ rfl hq.blk rfl rfl (by kernel_rfl)) rfl ⟨.slice none 0 0, .slice none 0 0, rfl, ⟨RdS.own (World.ownsRow_nil _ 0 45 5), RdS.own (World.ownsRow_nil _ 0 56 12)⟩, hq.below _ _ HXW.out (Nat.le_succ _), fun k hk => by rcases hk with hk | hk <;> cases hk⟩
  have hm2 : 1 ≤ c.nodes ∧ c.nodes ≤ 6 := by
    simp only [mayC, Bool.and_eq_true, inR_iff] at hm
    exact ⟨by omega, by omega⟩
  obtain ⟨n, hn⟩ : ∃ n : Nat, c.nodes = (n : Int) := ⟨c.nodes.toNat, by omega⟩
  have hnew : newSt c = newS n := by rw [newSt, if_pos hm, hn]; rfl
  have HN := Lib.hid hnew
  have HCN := Lib.hid hn
  have hn6 : n ≤ 6 := by omega
  have HR0 : Hid (RnR w c 0 w1) := Lib.hid ⟨.slice none 0 0, HXW.out, HC0.out, HC1.out, HC2.out, World.ownsRow_nil _ _ _ _, HSZ.out⟩
  clear hnew hm2 hn HXW HC0 HC1 HC2 HSZ HM
  go_wp2_with fail
  go_loopg [4] n (fun gg i wr => ∃ q : Nat, i = .int .i64 q ∧ q ≤ n ∧ gg = n - q ∧ Hid (RnR w c q wr))
  case atStart => exact ⟨0, rfl, Nat.zero_le _, by omega, HR0⟩
  case round =>
    obtain ⟨q, rfl, hq, rfl, HR⟩ := hrel
    clear HR0
    obtain ⟨v, hx, hb0, hb1, hb2, hrow, hsz⟩ := HR.out.out
    obtain ⟨A1, k1, rfl⟩ := own_slice hrow
    have k0 : wr.cell? ⟨w.heap.size, 0, none⟩ = some (.int .i64 n) := by rw [← HCN.out]; exact hb0.cell 0
    have p0 : wr.cell? ⟨w.heap.size + 2, 0, none⟩ = some (.slice A1 q k1) := hb2.cell 0
    have f0 : wr.frozen? ⟨w.heap.size + 2, 0, none⟩ = false := hb2.frozen 0
    have HX := Lib.hid hx
    have HB0 := Lib.hid hb0
    have HB1 := Lib.hid hb1
    have HB2 := Lib.hid hb2
    have HRW := Lib.hid hrow
    have HSZ := Lib.hid hsz
    clear hx hb0 hb1 hb2 hrow hsz HR
    by_cases hlt : q < n
    · have d1 : decide ((q : Int) < (n : Int)) = true := decide_eq_true (by omega)
      have d1' : decide (q < n) = true := decide_eq_true hlt
      have HLT := Lib.hid hlt
      have HQM : Hid (q + 1 ≤ maxLen) := Lib.hid (by unfold maxLen; omega)
      have HQB : Hid ((q + 1) * 24 ≤ 140737488355328) := Lib.hid (by omega)
      clear hlt
      go_wp2_with (at_builtin; refine wpList_pushN rfl (.tmp 16) (.tmp 18) 27 rfl (w.heap.size + 3) 45 _ 5 24 Tryd.underlying27 Tryd.infoNode rfl (by decide) (.slice A1 q k1) q _ HRW.out rfl #[.bool true, .bool false, .bool false, .int .i64 1, .int .i64 0] rfl (by simp [Value.oneCell']) rfl rfl HQM.out HQB.out HSZ.out ?_; intro v' w' hg; have hgs := hg.2.1.size; have pb := grown_blk hg.2.1 HB2.out (fun e => by have := (HRW.out.lt _ e.symm).1; omega); have p0' : w'.cell? ⟨w.heap.size + 2, 0, none⟩ = some (.slice A1 q k1) := pb.cell 0; have f0' : w'.frozen? ⟨w.heap.size + 2, 0, none⟩ = false := pb.frozen 0; obtain ⟨A2, k2, rfl⟩ := own_slice hg.1)
      have hb0' := grown_blk hg.2.1 HB0.out (fun e => by have := (HRW.out.lt _ e.symm).1; omega)
      have hb1' := grown_blk hg.2.1 HB1.out (fun e => by have := (HRW.out.lt _ e.symm).1; omega)
      have hx' : Below w.heap.size w w' := HX.out.grown hg.2.1 (HX.out.size) (fun k e => by have := (HRW.out.lt _ e).1; omega)
      have hrow' := hg.1
      rw [show nodesC (List.replicate q newN) ++ (#[Value.bool true, .bool false, .bool false, .int .i64 1, .int .i64 0] : Array Value).toList = nodesC (List.replicate (q + 1) newN) by rw [List.replicate_succ']; simp [nodesC, List.flatMap_append, newN, Nd.cells]] at hrow'
      have HRN : Hid (RnR w c (q + 1) (w'.setCell ⟨w.heap.size + 2, 0, none⟩ (.slice A2 (q + 1) k2))) := Lib.hid ⟨.slice A2 (q + 1) k2, Below.setCell hx' (by show w.heap.size ≤ w.heap.size + 2; omega) _, hb0'.far (by show w.heap.size ≠ w.heap.size + 2; omega) _, hb1'.far (by show w.heap.size + 1 ≠ w.heap.size + 2; omega) _, pb.set_ 0 (.slice A2 (q + 1) k2), own_at hrow' (fun k hk => Below.heap_setCell _ _ _ _ (by have := (hrow'.lt k hk).1; show k ≠ w.heap.size + 2; omega)), by have := HSZ.out; simp; omega⟩
      clear hb0' hb1' hx' hrow' pb p0' f0' hg hgs
      go_roundg (n - (q + 1))
      case measure => have := HLT.out; omega
      case rel => exact ⟨q + 1, by go_num, HLT.out, rfl, HRN⟩
    · have d1 : decide ((q : Int) < (n : Int)) = false := decide_eq_false (by omega)
      have d1' : decide (q < n) = false := decide_eq_false hlt
      obtain rfl : q = n := by omega
      have p1 : wr.cell? ⟨w.heap.size + 2, 1, none⟩ = some (.slice none 0 0) := HB2.out.cell 1
      have p2 : wr.cell? ⟨w.heap.size + 2, 2, none⟩ = some (.int .i64 0) := HB2.out.cell 2
      have p3 : wr.cell? ⟨w.heap.size + 2, 3, none⟩ = some (.int .i64 0) := HB2.out.cell 3
      have p4 : wr.cell? ⟨w.heap.size + 2, 4, none⟩ = some (.int .i64 0) := HB2.out.cell 4
      have p5 : wr.cell? ⟨w.heap.size + 2, 5, none⟩ = some (.int .i64 0) := HB2.out.cell 5
      have f2 : wr.frozen? ⟨w.heap.size + 2, 2, none⟩ = false := HB2.out.frozen 2
      have f3 : wr.frozen? ⟨w.heap.size + 2, 3, none⟩ = false := HB2.out.frozen 3
      have r0 : wr.cell? ⟨w.heap.size + 1, 0, none⟩ = some (.slice none 0 0) := HB1.out.cell 0
      have r1 : wr.cell? ⟨w.heap.size + 1, 1, none⟩ = some (.slice none 0 0) := HB1.out.cell 1
      have r2 : wr.cell? ⟨w.heap.size + 1, 2, none⟩ = some (.int .i64 0) := HB1.out.cell 2
      have r3 : wr.cell? ⟨w.heap.size + 1, 3, none⟩ = some (.int .i64 0) := HB1.out.cell 3
      have r4 : wr.cell? ⟨w.heap.size + 1, 4, none⟩ = some (.int .i64 0) := HB1.out.cell 4
      have r5 : wr.cell? ⟨w.heap.size + 1, 5, none⟩ = some (.int .i64 0) := HB1.out.cell 5
      have g0 : wr.frozen? ⟨w.heap.size + 1, 0, none⟩ = false := HB1.out.frozen 0
      have g1 : wr.frozen? ⟨w.heap.size + 1, 1, none⟩ = false := HB1.out.frozen 1
      have g2 : wr.frozen? ⟨w.heap.size + 1, 2, none⟩ = false := HB1.out.frozen 2
      have g3 : wr.frozen? ⟨w.heap.size + 1, 3, none⟩ = false := HB1.out.frozen 3
      have g4 : wr.frozen? ⟨w.heap.size + 1, 4, none⟩ = false := HB1.out.frozen 4
      have g5 : wr.frozen? ⟨w.heap.size + 1, 5, none⟩ = false := HB1.out.frozen 5
      clear hlt hq
      go_wp2
      have ha := ((PB.start HB2.out).set 2 (.int .i64 1)).set 3 (.int .i64 1)
      have hb1 := (ha.same (w.heap.size + 1) (by omega)).trans HB1.out
      have hq := (((((PB.start hb1).set 0 (.slice A1 q k1)).set 1 (.slice none 0 0)).set 2 (.int .i64 1)).set 3 (.int .i64 1)).set 4 (.int .i64 0)
      replace hq := hq.set 5 (.int .i64 0)
      simp only [List.setIfInBounds_toArray, List.set_cons_zero, List.set_cons_succ] at hq
      rw [HN.out]
      have hne : ∀ k, (Value.slice A1 q k1).ownBlock = some k → k ≠ w.heap.size + 1 ∧ k ≠ w.heap.size + 2 := fun k hk => by have := (HRW.out.lt k hk).1; omega
      have hrow := own_at (own_at HRW.out fun k hk => ha.same k (hne k hk).2) fun k hk => hq.same k (hne k hk).1
      have hl : (newS q).nodes.length = q := by simp [newS]
      refine bodyPost_ret (results_cell_row rfl _ _ (w.heap.size + 1) 30 _ (0, 0) _ rfl hq.blk rfl rfl (by kernel_rfl)) rfl ⟨.slice A1 q k1, .slice none 0 0, rfl, ⟨?_, RdS.own (World.ownsRow_nil _ 0 56 12)⟩, hq.below _ _ (ha.below _ _ HX.out (Nat.le_add_right _ _)) (Nat.le_succ _), fun k hk => ?_⟩
      · show RdS 5 _ _ (newS q).nodes.length (nodesC (newS q).nodes)
        rw [hl]
        exact RdS.own hrow
      · rcases hk with hk | hk
        · have := (HRW.out.lt k hk).1
          omega
        · cases hk

end Go.Proofs.YtbfjlhddebollaaDoor

/- The reference of layer 9: Copy. -/
namespace Go.Proofs.YtbfjlhddebollaaDoor
open Go.RowKit

set_option maxRecDepth 100000 in
set_option maxHeartbeats 4000000 in
theorem RefCopy_any (vn vj : Value) (s : St) (w : World) (h : RdSt w vn vj s) (hn : s.nodes.length ≤ 1000) (hj : s.jobs.length ≤ 1000) :
    Calls Tryd.prog 28 #[stV vn vj s] w fun e w' => ∃ vn' vj', e = .returned (stV vn' vj' s) ∧ OwnSt w.heap.size 45 56 w' vn' vj' s ∧ Ext w w' := by
  have HR := Lib.hid h
  obtain ⟨An, cn, rfl, hnc, hcm⟩ := h.nodes.slice_
  obtain ⟨Aj, cj, rfl, hjc, hjm⟩ := h.jobs.slice_
  have HON := Lib.hid (nodes_oneCell s.nodes)
  have HOJ := Lib.hid (jobs_oneCell s.jobs)
  have hl1 : 0 + s.nodes.length ≤ maxLen := by unfold maxLen; omega
  have hl2 : (0 + s.nodes.length) * 24 ≤ 140737488355328 := by omega
  have hl3 : 0 + s.jobs.length ≤ maxLen := by unfold maxLen; omega
  have hl4 : (0 + s.jobs.length) * 96 ≤ 140737488355328 := by omega
  have HL1 := Lib.hid hl1
  have HL2 := Lib.hid hl2
  have HL3 := Lib.hid hl3
  have HL4 := Lib.hid hl4
  obtain ⟨W3, hW3, hx3, hb0, hb1, hb2, hs3⟩ := blk_three w 30 30 30 #[.slice An s.nodes.length cn, .slice Aj s.jobs.length cj, .int .i64 s.goal, .int .i64 s.prior, .int .i64 s.mode, .int .i64 s.term] #[.slice none 0 0, .slice none 0 0, .int .i64 0, .int .i64 0, .int .i64 0, .int .i64 0] #[.slice An s.nodes.length cn, .slice Aj s.jobs.length cj, .int .i64 s.goal, .int .i64 s.prior, .int .i64 s.mode, .int .i64 s.term]
  have HX3 := Lib.hid hx3
  have HB0 := Lib.hid hb0
  have HB1 := Lib.hid hb1
  have HB2 := Lib.hid hb2
  have HS3 := Lib.hid hs3
  have HW3 := Lib.hid hW3
  clear h hx3 hb0 hb1 hb2 hs3 hl1 hl2 hl3 hl4 hW3
  unfold stV
  go_enter Tryd.func28, Tryd.ntmps28
  go_upto_region 2 with (fail)
  rw [← HW3.out]
  have s0 : W3.cell? ⟨w.heap.size, 0, none⟩ = some (.slice An s.nodes.length cn) := HB0.out.cell 0
  have hl0 : w.heap.size < W3.heap.size := HB0.out.lt
  have HO0 : Hid ((W3.alloc (.cells #[] 45)).ownsRow w.heap.size 45 5 (.slice (some ⟨W3.heap.size, 0, none⟩) 0 0) 0 []) := Lib.hid ⟨rfl, .inr ⟨W3.heap.size, 0, #[], rfl, HX3.out.size, heap_alloc_new W3 _, Nat.le_refl _, Nat.zero_le _, rfl, rfl⟩⟩
  have HRN : Hid (RdS 5 (W3.alloc (.cells #[] 45)) (.slice An s.nodes.length cn) s.nodes.length (nodesC s.nodes)) := Lib.hid ((HR.out.nodes.ext HX3.out).ext ((Below.refl _ _).alloc (Nat.le_refl _) _))
  have HSZ : Hid (w.heap.size ≤ (W3.alloc (.cells #[] 45)).heap.size) := Lib.hid (by have := HX3.out.size; simp; omega)
  go_upto_region 3 with (refine wpList_appendK rfl (.tmp 5) (.tmp 7) 27 rfl w.heap.size 45 _ 5 24 Tryd.underlying27 Tryd.infoNode rfl (by decide) (.slice (some ⟨W3.heap.size, 0, none⟩) 0 0) 0 [] rfl HO0.out (.slice An s.nodes.length cn) s.nodes.length (nodesC s.nodes) rfl HRN.out HON.out HL1.out HL2.out HSZ.out ?_; intro v3 w3 hg3; (try rw [Nat.zero_add, List.nil_append] at hg3); have p2 := grown_blk hg3.2.1 (HB2.out.alloc _) (fun e => by have h1 : w.heap.size + 2 = W3.heap.size := Option.some.inj e; have := HS3.out; omega); have q0 : w3.cell? ⟨w.heap.size + 2, 0, none⟩ = some (.slice An s.nodes.length cn) := p2.cell 0; have f0 : w3.frozen? ⟨w.heap.size + 2, 0, none⟩ = false := p2.frozen 0; obtain ⟨A3, c3, rfl⟩ := own_slice hg3.1)
  obtain ⟨W5, hW5⟩ : ∃ W, W = w3.setCell ⟨w.heap.size + 2, 0, none⟩ (.slice A3 s.nodes.length c3) := ⟨_, rfl⟩
  have hne : ∀ k, (Value.slice A3 s.nodes.length c3).ownBlock = some k → w.heap.size + 3 ≤ k ∧ k < w3.heap.size := fun k hk => by
    refine ⟨?_, (hg3.1.lt k hk).2⟩
    rcases hg3.2.2 with h | h
    · rw [h] at hk
      have h1 : W3.heap.size = k := Option.some.inj hk
      have := HS3.out
      omega
    · have := h k hk
      have := HS3.out
      simp at *
      omega
  have hsz3 : W3.heap.size + 1 ≤ w3.heap.size := by have := hg3.2.1.size; simpa using this
  have hb0 := (grown_blk hg3.2.1 (HB0.out.alloc _) (fun e => by have h1 : w.heap.size = W3.heap.size := Option.some.inj e; have := HS3.out; omega)).far (p := ⟨w.heap.size + 2, 0, none⟩) (by show w.heap.size ≠ w.heap.size + 2; omega) (.slice A3 s.nodes.length c3)
  have hb1 := (grown_blk hg3.2.1 (HB1.out.alloc _) (fun e => by have h1 : w.heap.size + 1 = W3.heap.size := Option.some.inj e; have := HS3.out; omega)).far (p := ⟨w.heap.size + 2, 0, none⟩) (by show w.heap.size + 1 ≠ w.heap.size + 2; omega) (.slice A3 s.nodes.length c3)
  have hb2 := p2.set_ 0 (.slice A3 s.nodes.length c3)
  have hx5 : Ext w W5 := by
    rw [hW5]
    exact Below.setCell (Below.grown (HX3.out.alloc (HX3.out.size) (.cells #[] 45)) hg3.2.1 (by have := HX3.out.size; simp; omega) (fun k e => by have h1 : W3.heap.size = k := Option.some.inj e; have := HX3.out.size; omega)) (Nat.le_add_right _ _) _
  have hrow := own_at hg3.1 (w' := W5) (fun k hk => by rw [hW5]; exact Below.heap_setCell _ _ _ _ (by have := hne k hk; show k ≠ w.heap.size + 2; omega))
  have hsz5 : W5.heap.size = w3.heap.size := by rw [hW5]; simp
  rw [← hW5] at hb0 hb1 hb2
  have hb2' : Blk W5 (w.heap.size + 2) 30 #[.slice A3 s.nodes.length c3, .slice Aj s.jobs.length cj, .int .i64 s.goal, .int .i64 s.prior, .int .i64 s.mode, .int .i64 s.term] := hb2
  have HX5 := Lib.hid hx5
  have HC0 := Lib.hid hb0
  have HC1 := Lib.hid hb1
  have HC2 := Lib.hid hb2'
  have HROW := Lib.hid hrow
  have HNE : Hid (∀ k, (Value.slice A3 s.nodes.length c3).ownBlock = some k → w.heap.size + 3 ≤ k ∧ k < W5.heap.size) := Lib.hid (by rw [hsz5]; exact hne)
  have HS5 : Hid (w.heap.size + 4 ≤ W5.heap.size) := Lib.hid (by have := HS3.out; omega)
  rw [← hW5]
  clear hW5 hne hsz3 hb0 hb1 hb2 hb2' hx5 hrow hsz5 p2 q0 f0 hg3 HO0 HRN HSZ HB0 HB1 HB2 HX3 HS3 HW3 s0 hl0
  have s1 : W5.cell? ⟨w.heap.size, 1, none⟩ = some (.slice Aj s.jobs.length cj) := HC0.out.cell 1
  have hl0 : w.heap.size < W5.heap.size := HC0.out.lt
  have HO1 : Hid ((W5.alloc (.cells #[] 56)).ownsRow w.heap.size 56 12 (.slice (some ⟨W5.heap.size, 0, none⟩) 0 0) 0 []) := Lib.hid ⟨rfl, .inr ⟨W5.heap.size, 0, #[], rfl, HX5.out.size, heap_alloc_new W5 _, Nat.le_refl _, Nat.zero_le _, rfl, rfl⟩⟩
  have HRJ : Hid (RdS 12 (W5.alloc (.cells #[] 56)) (.slice Aj s.jobs.length cj) s.jobs.length (jobsC s.jobs)) := Lib.hid ((HR.out.jobs.ext HX5.out).ext ((Below.refl _ _).alloc (Nat.le_refl _) _))
  have HSZ : Hid (w.heap.size ≤ (W5.alloc (.cells #[] 56)).heap.size) := Lib.hid (by have := HX5.out.size; simp; omega)
  go_upto_region 4 with (refine wpList_appendK rfl (.tmp 10) (.tmp 12) 28 rfl w.heap.size 56 _ 12 96 Tryd.underlying28 Tryd.infoJob rfl (by decide) (.slice (some ⟨W5.heap.size, 0, none⟩) 0 0) 0 [] rfl HO1.out (.slice Aj s.jobs.length cj) s.jobs.length (jobsC s.jobs) rfl HRJ.out HOJ.out HL3.out HL4.out HSZ.out ?_; intro v4 w4 hg4; (try rw [Nat.zero_add, List.nil_append] at hg4); have p2 := grown_blk hg4.2.1 (HC2.out.alloc _) (fun e => by have h1 : w.heap.size + 2 = W5.heap.size := Option.some.inj e; have := HS5.out; omega); have q1 : w4.cell? ⟨w.heap.size + 2, 1, none⟩ = some (.slice Aj s.jobs.length cj) := p2.cell 1; have f1 : w4.frozen? ⟨w.heap.size + 2, 1, none⟩ = false := p2.frozen 1; obtain ⟨A4, c4, rfl⟩ := own_slice hg4.1)
  obtain ⟨W6, hW6⟩ : ∃ W, W = w4.setCell ⟨w.heap.size + 2, 1, none⟩ (.slice A4 s.jobs.length c4) := ⟨_, rfl⟩
  have hne : ∀ k, (Value.slice A4 s.jobs.length c4).ownBlock = some k → W5.heap.size ≤ k := fun k hk => by
    rcases hg4.2.2 with h | h
    · rw [h] at hk
      have h1 : W5.heap.size = k := Option.some.inj hk
      omega
    · have := h k hk
      simp at this
      omega
  have hb1 := (grown_blk hg4.2.1 (HC1.out.alloc _) (fun e => by have h1 : w.heap.size + 1 = W5.heap.size := Option.some.inj e; have := HS5.out; omega)).far (p := ⟨w.heap.size + 2, 1, none⟩) (by show w.heap.size + 1 ≠ w.heap.size + 2; omega) (.slice A4 s.jobs.length c4)
  have hb2 := p2.set_ 1 (.slice A4 s.jobs.length c4)
  have hx6 : Ext w W6 := by
    rw [hW6]
    exact Below.setCell (Below.grown (HX5.out.alloc (HX5.out.size) (.cells #[] 56)) hg4.2.1 (by have := HX5.out.size; simp; omega) (fun k e => by have h1 : W5.heap.size = k := Option.some.inj e; have := HX5.out.size; omega)) (Nat.le_add_right _ _) _
  have hrn := own_at HROW.out (w' := W6) (fun k hk => by
    have hk' := HNE.out k hk
    rw [hW6, Below.heap_setCell _ _ _ _ (by show k ≠ w.heap.size + 2; omega), hg4.2.1.block k (by simp; omega) (fun e => by have h1 : k = W5.heap.size := Option.some.inj e; omega)]
    exact ((Below.refl W5.heap.size W5).alloc (Nat.le_refl _) _).block k hk'.2)
  have hrj := own_at hg4.1 (w' := W6) (fun k hk => by rw [hW6]; exact Below.heap_setCell _ _ _ _ (by have := hne k hk; have := HS5.out; show k ≠ w.heap.size + 2; omega))
  rw [← hW6] at hb1 hb2
  have hb2' : Blk W6 (w.heap.size + 2) 30 #[.slice A3 s.nodes.length c3, .slice A4 s.jobs.length c4, .int .i64 s.goal, .int .i64 s.prior, .int .i64 s.mode, .int .i64 s.term] := hb2
  have HX6 := Lib.hid hx6
  have HD1 := Lib.hid hb1
  have HD2 := Lib.hid hb2'
  have HRN := Lib.hid hrn
  have HRJ2 := Lib.hid hrj
  have HNE2 := Lib.hid hne
  rw [← hW6]
  clear hW6 hne hb1 hb2 hb2' hx6 hrn hrj p2 q1 f1 hg4 HO1 HRJ HSZ s1 hl0 HC0 HC1 HC2
  have m0 : W6.cell? ⟨w.heap.size + 2, 0, none⟩ = some (.slice A3 s.nodes.length c3) := HD2.out.cell 0
  have m1 : W6.cell? ⟨w.heap.size + 2, 1, none⟩ = some (.slice A4 s.jobs.length c4) := HD2.out.cell 1
  have m2 : W6.cell? ⟨w.heap.size + 2, 2, none⟩ = some (.int .i64 s.goal) := HD2.out.cell 2
  have m3 : W6.cell? ⟨w.heap.size + 2, 3, none⟩ = some (.int .i64 s.prior) := HD2.out.cell 3
  have m4 : W6.cell? ⟨w.heap.size + 2, 4, none⟩ = some (.int .i64 s.mode) := HD2.out.cell 4
  have m5 : W6.cell? ⟨w.heap.size + 2, 5, none⟩ = some (.int .i64 s.term) := HD2.out.cell 5
  have r0 : W6.cell? ⟨w.heap.size + 1, 0, none⟩ = some (.slice none 0 0) := HD1.out.cell 0
  have r1 : W6.cell? ⟨w.heap.size + 1, 1, none⟩ = some (.slice none 0 0) := HD1.out.cell 1
  have r2 : W6.cell? ⟨w.heap.size + 1, 2, none⟩ = some (.int .i64 0) := HD1.out.cell 2
  have r3 : W6.cell? ⟨w.heap.size + 1, 3, none⟩ = some (.int .i64 0) := HD1.out.cell 3
  have r4 : W6.cell? ⟨w.heap.size + 1, 4, none⟩ = some (.int .i64 0) := HD1.out.cell 4
  have r5 : W6.cell? ⟨w.heap.size + 1, 5, none⟩ = some (.int .i64 0) := HD1.out.cell 5
  have g0 : W6.frozen? ⟨w.heap.size + 1, 0, none⟩ = false := HD1.out.frozen 0
  have g1 : W6.frozen? ⟨w.heap.size + 1, 1, none⟩ = false := HD1.out.frozen 1
  have g2 : W6.frozen? ⟨w.heap.size + 1, 2, none⟩ = false := HD1.out.frozen 2
  have g3 : W6.frozen? ⟨w.heap.size + 1, 3, none⟩ = false := HD1.out.frozen 3
  have g4 : W6.frozen? ⟨w.heap.size + 1, 4, none⟩ = false := HD1.out.frozen 4
  have g5 : W6.frozen? ⟨w.heap.size + 1, 5, none⟩ = false := HD1.out.frozen 5
  go_wp2
  have hq := (((((PB.start HD1.out).set 0 (.slice A3 s.nodes.length c3)).set 1 (.slice A4 s.jobs.length c4)).set 2 (.int .i64 s.goal)).set 3 (.int .i64 s.prior)).set 4 (.int .i64 s.mode)
  replace hq := hq.set 5 (.int .i64 s.term)
  simp only [List.setIfInBounds_toArray, List.set_cons_zero, List.set_cons_succ] at hq
  refine bodyPost_ret (results_cell_row rfl _ _ (w.heap.size + 1) 30 _ (0, 0) _ rfl hq.blk rfl rfl (by kernel_rfl)) rfl ⟨_, _, rfl, ⟨own_at HRN.out fun k hk => hq.same k (by have := HNE.out k hk; omega), own_at HRJ2.out fun k hk => hq.same k (by have := HNE2.out k hk; have := HS5.out; omega), fun k hk hk2 => ?_⟩, hq.below _ _ HX6.out (Nat.le_succ _)⟩
  have := HNE.out k hk
  have := HNE2.out k hk2
  omega

end Go.Proofs.YtbfjlhddebollaaDoor

/- The reference of layer 9: a job is let go. -/
namespace Go.Proofs.YtbfjlhddebollaaDoor
open Go.RowKit

theorem sg_gone {F : Fp} {w : World} {g k : Nat} {vn vj : Value} {s : St} {j : Jb} (ph : Int) (h : Sg F w g vn vj s) (hk : s.jobs[k]? = some j) : ∃ bj cap, vj = .slice (some ⟨bj, 0, none⟩) s.jobs.length cap ∧ ∀ w1 w2 w3 w4, w1 = w.setCell ⟨bj, k * 12 + 6, none⟩ (.int .i64 ph) → w2 = w1.setCell ⟨bj, k * 12 + 8, none⟩ (.int .i64 0) → w3 = w2.setCell ⟨bj, k * 12 + 9, none⟩ (.int .i64 0) → w4 = w3.setCell ⟨bj, k * 12 + 10, none⟩ (.int .i64 0) →
    (w.cell? ⟨bj, k * 12 + 6, none⟩ = some (.int .i64 j.phase) ∧ w.frozen? ⟨bj, k * 12 + 6, none⟩ = false) ∧ (w1.cell? ⟨bj, k * 12 + 8, none⟩ = some (.int .i64 j.nodes) ∧ w1.frozen? ⟨bj, k * 12 + 8, none⟩ = false ∧ Chg F w w1) ∧
    (w2.cell? ⟨bj, k * 12 + 9, none⟩ = some (.int .i64 j.since) ∧ w2.frozen? ⟨bj, k * 12 + 9, none⟩ = false ∧ Chg F w w2) ∧ (w3.cell? ⟨bj, k * 12 + 10, none⟩ = some (.int .i64 j.til) ∧ w3.frozen? ⟨bj, k * 12 + 10, none⟩ = false ∧ Chg F w w3) ∧ Sg F w4 g vn vj (setJ s k (gone j ph)) ∧ Chg F w w4 := by
  have hkl := (List.getElem?_eq_some_iff.1 hk).1
  obtain ⟨bj, cap, rfl, -, -, -, -, hat, hfr⟩ := h.jobAt hk
  refine ⟨bj, cap, rfl, ?_⟩
  rintro w1 w2 w3 w4 rfl rfl rfl rfl
  have step : ∀ {W : World} {a : Jb} (b : Jb) (i : Nat) (u : Value), i < 12 → Sg F W g vn (.slice (some ⟨bj, 0, none⟩) s.jobs.length cap) (setJ s k a) → b.cells = a.cells.set i u → Sg F (W.setCell ⟨bj, k * 12 + i, none⟩ u) g vn (.slice (some ⟨bj, 0, none⟩) s.jobs.length cap) (setJ s k b) ∧ Chg F W (W.setCell ⟨bj, k * 12 + i, none⟩ u) := fun {W a} b i u hi hW hb => by
    have l1 : (setJ s k a).jobs.length = s.jobs.length := by simp [setJ]
    have k1 : (setJ s k a).jobs[k]? = some a := by simp only [setJ]; rw [List.getElem?_set_self hkl]
    have h2 := hW.setJ (b := bj) (cap := cap) (n' := b) k1 (by rw [l1]) i hi u hb
    rw [setJ_setJ] at h2
    exact h2
  have at_ : ∀ {W : World} {a : Jb}, Sg F W g vn (.slice (some ⟨bj, 0, none⟩) s.jobs.length cap) (setJ s k a) → JbAt W bj (k * 12) a ∧ ∀ q, W.frozen? ⟨bj, q, none⟩ = false := fun {W a} hW => by
    have l1 : (setJ s k a).jobs.length = s.jobs.length := by simp [setJ]
    have k1 : (setJ s k a).jobs[k]? = some a := by simp only [setJ]; rw [List.getElem?_set_self hkl]
    obtain ⟨b1, p1, e1, -, -, -, -, hat1, hfr1⟩ := hW.jobAt k1
    rw [l1] at e1
    cases e1
    exact ⟨hat1, hfr1⟩
  have hset : setJ s k j = s := by
    have : s.jobs.set k j = s.jobs := by
      obtain ⟨hl, e⟩ := List.getElem?_eq_some_iff.1 hk
      rw [← e]
      exact List.set_getElem_self hl
    unfold setJ
    rw [this]
  have h0 : Sg F w g vn (.slice (some ⟨bj, 0, none⟩) s.jobs.length cap) (setJ s k j) := by rw [hset]; exact h
  obtain ⟨h1, c1⟩ := step { j with phase := ph } 6 (.int .i64 ph) (by omega) h0 rfl
  obtain ⟨h2, c2⟩ := step { j with phase := ph, nodes := 0 } 8 (.int .i64 0) (by omega) h1 rfl
  obtain ⟨h3, c3⟩ := step { j with phase := ph, nodes := 0, since := 0 } 9 (.int .i64 0) (by omega) h2 rfl
  obtain ⟨h4, c4⟩ := step (gone j ph) 10 (.int .i64 0) (by omega) h3 rfl
  have cc2 := c1.trans c2 (fun _ _ h => h)
  have cc3 := cc2.trans c3 (fun _ _ h => h)
  exact ⟨⟨hat.c6, hfr _⟩, ⟨(at_ h1).1.c8, (at_ h1).2 _, c1⟩, ⟨(at_ h2).1.c9, (at_ h2).2 _, cc2⟩, ⟨(at_ h3).1.c10, (at_ h3).2 _, cc3⟩, h4, cc3.trans c4 (fun _ _ h => h)⟩

set_option maxRecDepth 100000 in
set_option maxHeartbeats 4000000 in
theorem RefLetGo_any (F : Fp) (w : World) (g k : Nat) (vn vj : Value) (s : St) (j : Jb) (ph : Int) (h : Sg F w g vn vj s) (hk : s.jobs[k]? = some j) (hown : ∀ i n, s.nodes[i]? = some n → (n.job = (k : Int) + 1 ↔ hasS j.nodes i = true)) (hn : s.nodes.length ≤ 6) (hj24 : s.jobs.length ≤ 24) :
    Calls Tryd.prog 30 #[stV vn vj s, .int .i64 ((k : Int) + 1), .int .i64 ph] w fun e w' => e = .returned (stV vn vj (letGoS s k j ph)) ∧ Sg F w' g vn vj (letGoS s k j ph) ∧ Chg F w w' := by
  have hkl := (List.getElem?_eq_some_iff.1 hk).1
  obtain ⟨A, cap, rfl, -, -⟩ := h.rd.nodes.slice_
  obtain ⟨bj, cj, rfl, hall⟩ := sg_gone ph (h.ext (Ext.refl w)) hk
  clear hall
  obtain ⟨W2, hW2, hx2, hb0, hb1⟩ := two_blocks w 30 30 #[.slice A s.nodes.length cap, .slice (some ⟨bj, 0, none⟩) s.jobs.length cj, .int .i64 s.goal, .int .i64 s.prior, .int .i64 s.mode, .int .i64 s.term] #[.slice none 0 0, .slice none 0 0, .int .i64 0, .int .i64 0, .int .i64 0, .int .i64 0]
  have hs2 : Sg F W2 g (.slice A s.nodes.length cap) (.slice (some ⟨bj, 0, none⟩) s.jobs.length cj) s := h.ext hx2
  obtain ⟨bj', cj', ev, hall⟩ := sg_gone ph hs2 hk
  cases ev
  have hF0 : ¬ F w.heap.size := fun hf => by have := h.isIn _ hf; omega
  have hF1 : ¬ F (w.heap.size + 1) := fun hf => by have := h.isIn _ hf; omega
  have HX2 := Lib.hid hx2
  have HB0 := Lib.hid hb0
  have HB1 := Lib.hid hb1
  have HF0 := Lib.hid hF0
  have HF1 := Lib.hid hF1
  have HOWN := Lib.hid hown
  obtain ⟨w3, hw3⟩ : ∃ W, W = W2.setCell ⟨bj, k * 12 + 6, none⟩ (.int .i64 ph) := ⟨_, rfl⟩
  obtain ⟨w4, hw4⟩ : ∃ W, W = w3.setCell ⟨bj, k * 12 + 8, none⟩ (.int .i64 0) := ⟨_, rfl⟩
  obtain ⟨w5, hw5⟩ : ∃ W, W = w4.setCell ⟨bj, k * 12 + 9, none⟩ (.int .i64 0) := ⟨_, rfl⟩
  obtain ⟨w6, hw6⟩ : ∃ W, W = w5.setCell ⟨bj, k * 12 + 10, none⟩ (.int .i64 0) := ⟨_, rfl⟩
  obtain ⟨⟨p6, f6⟩, ⟨p8, f8, ch3⟩, ⟨p9, f9, ch4⟩, ⟨p10, f10, ch5⟩, hg6, ch6⟩ := hall w3 w4 w5 w6 hw3 hw4 hw5 hw6
  have HP8 := Lib.hid (And.intro p8 f8)
  have HP9 := Lib.hid (And.intro p9 f9)
  have HP10 := Lib.hid (And.intro p10 f10)
  have HC3 := Lib.hid ch3
  have HC4 := Lib.hid ch4
  have HC5 := Lib.hid ch5
  have HC6 := Lib.hid ch6
  have HG6 := Lib.hid hg6
  have HW3 := Lib.hid hw3
  have HW4 := Lib.hid hw4
  have HW5 := Lib.hid hw5
  have HW6 := Lib.hid hw6
  have HBX : Hid (∀ W, Chg F W2 W → Blk W w.heap.size 30 #[.slice A s.nodes.length cap, .slice (some ⟨bj, 0, none⟩) s.jobs.length cj, .int .i64 s.goal, .int .i64 s.prior, .int .i64 s.mode, .int .i64 s.term] ∧ Blk W (w.heap.size + 1) 30 #[.slice none 0 0, .slice none 0 0, .int .i64 0, .int .i64 0, .int .i64 0, .int .i64 0]) := Lib.hid fun W hc => ⟨(hc.block _ hb0.lt hF0).trans hb0, (hc.block _ hb1.lt hF1).trans hb1⟩
  have HW2 := Lib.hid hW2
  have hk24 : s.jobs.length ≤ 24 := hj24
  have x1 : (0 : Int) ≤ (k : Int) ∧ (k : Int) < (s.jobs.length : Int) := by omega
  have hwk : IntKind.i64.wrap ((k : Int) + 1 - 1) = (k : Int) := by rw [Int.add_sub_cancel]; exact IntWalk.i64_in _ (by omega)
  clear hx2 hb0 hb1 hF0 hF1 hown hall hs2 p8 f8 p9 f9 p10 f10 ch3 ch4 ch5 ch6 hg6 hw3 hw4 hw5 hw6 hW2 h hkl
  unfold stV
  go_enter Tryd.func30, Tryd.ntmps30
  go_upto_region 1 with (fail)
  rw [← HW2.out]
  have s1 : W2.cell? ⟨w.heap.size, 1, none⟩ = some (.slice (some ⟨bj, 0, none⟩) s.jobs.length cj) := HB0.out.cell 1
  go_upto_region 2 with (fail)
  rw [← HW3.out]
  clear s1 p6 f6
  obtain ⟨pp, ff⟩ := HP8.out
  have s1 : w3.cell? ⟨w.heap.size, 1, none⟩ = some (.slice (some ⟨bj, 0, none⟩) s.jobs.length cj) := (HBX.out _ HC3.out).1.cell 1
  go_upto_region 3 with (fail)
  rw [← HW4.out]
  clear s1 pp ff
  obtain ⟨pp, ff⟩ := HP9.out
  have s1 : w4.cell? ⟨w.heap.size, 1, none⟩ = some (.slice (some ⟨bj, 0, none⟩) s.jobs.length cj) := (HBX.out _ HC4.out).1.cell 1
  go_upto_region 4 with (fail)
  rw [← HW5.out]
  clear s1 pp ff
  obtain ⟨pp, ff⟩ := HP10.out
  have s1 : w5.cell? ⟨w.heap.size, 1, none⟩ = some (.slice (some ⟨bj, 0, none⟩) s.jobs.length cj) := (HBX.out _ HC5.out).1.cell 1
  go_upto_region 5 with (fail)
  rw [← HW6.out]
  clear s1 pp ff x1 hwk HW2 HW3 HW4 HW5 HW6 HP8 HP9 HP10 HC3 HC4 HC5 HB0 HB1
  go_wp2_with fail
  go_loopg [7] s.nodes.length (fun gg i wr => ∃ (q : Nat), i = .int .i64 q ∧ q ≤ s.nodes.length ∧ gg = s.nodes.length - q ∧ Hid (Sg F wr g (.slice A s.nodes.length cap) (.slice (some ⟨bj, 0, none⟩) s.jobs.length cj) { setJ s k (gone j ph) with nodes := giveK s.nodes j.nodes 0 q } ∧ Chg F W2 wr))
  case atStart => exact ⟨0, rfl, Nat.zero_le _, by omega, Lib.hid ⟨by rw [giveK_zero]; exact HG6.out, HC6.out⟩⟩
  case round =>
    obtain ⟨q, rfl, hq, rfl, HR⟩ := hrel
    have s0 : wr.cell? ⟨w.heap.size, 0, none⟩ = some (.slice A s.nodes.length cap) := (HBX.out _ HR.out.2).1.cell 0
    by_cases hlt : q < s.nodes.length
    · have d1 : decide ((q : Int) < (s.nodes.length : Int)) = true := decide_eq_true (by omega)
      have d1' : decide (q < s.nodes.length) = true := decide_eq_true hlt
      obtain ⟨n, hnk⟩ : ∃ n, s.nodes[q]? = some n := ⟨_, List.getElem?_eq_getElem hlt⟩
      have hl := giveK_len s.nodes j.nodes 0 q
      have hg1 := giveK_get (set := j.nodes) (job := 0) hnk
      obtain ⟨b, cap2, hv, hnc2, hcm2, hb, hbg, hat, hfr⟩ := HR.out.1.nodeAt (i := q) (n := n) hg1
      simp only [hl] at hv
      injection hv with hA _ hcap
      subst hA hcap
      have c4 := hat.c4
      have f4 := hfr (q * 5 + 4)
      have x1 : (0 : Int) ≤ (q : Int) ∧ (q : Int) < (s.nodes.length : Int) := by omega
      have HNK := Lib.hid hnk
      have HLT := Lib.hid hlt
      have ho := HOWN.out q n hnk
      by_cases hjb : n.job = (k : Int) + 1
      · have e1 : (n.job == (k : Int) + 1) = true := by rw [beq_iff_eq]; exact hjb
        have hh := ho.1 hjb
        have HS := HR.out.1.setN (b := b) (cap := cap) (n' := { n with job := 0 }) hg1 (by simp only [hl]) 4 (by omega) (.int .i64 0) rfl
        have HR2 : Hid (Sg F (wr.setCell ⟨b, q * 5 + 4, none⟩ (.int .i64 0)) g (.slice (some ⟨b, 0, none⟩) s.nodes.length cap) (.slice (some ⟨bj, 0, none⟩) s.jobs.length cj) { setJ s k (gone j ph) with nodes := giveK s.nodes j.nodes 0 (q + 1) } ∧ Chg F W2 (wr.setCell ⟨b, q * 5 + 4, none⟩ (.int .i64 0))) := Lib.hid (by
          rw [← giveK_set HNK.out hh]
          exact ⟨HS.1, HR.out.2.trans HS.2 (fun _ _ h => h)⟩)
        clear hat hfr hb hbg hg1 HS hl hnk hlt ho hjb hh HR
        go_wp2_with fail
        go_roundg (s.nodes.length - (q + 1))
        case measure => have := HLT.out; omega
        case rel => exact ⟨q + 1, by go_num, HLT.out, rfl, HR2⟩
      · have e1 : (n.job == (k : Int) + 1) = false := by rw [beq_eq_false_iff_ne]; exact hjb
        have hh : hasS j.nodes q = false := by cases hs : hasS j.nodes q with | false => rfl | true => exact absurd (ho.2 hs) hjb
        have HR2 : Hid (Sg F wr g (.slice (some ⟨b, 0, none⟩) s.nodes.length cap) (.slice (some ⟨bj, 0, none⟩) s.jobs.length cj) { setJ s k (gone j ph) with nodes := giveK s.nodes j.nodes 0 (q + 1) } ∧ Chg F W2 wr) := Lib.hid (by
          rw [giveK_skip hh]
          exact HR.out)
        clear hat hfr hb hbg hg1 hl hnk hlt ho hjb hh HR
        go_wp2_with fail
        go_roundg (s.nodes.length - (q + 1))
        case measure => have := HLT.out; omega
        case rel => exact ⟨q + 1, by go_num, HLT.out, rfl, HR2⟩
    · have d1 : decide ((q : Int) < (s.nodes.length : Int)) = false := decide_eq_false (by omega)
      have d1' : decide (q < s.nodes.length) = false := decide_eq_false hlt
      obtain rfl : q = s.nodes.length := by omega
      have hsg := HR.out.1
      rw [giveK_all] at hsg
      have HSG : Hid (Sg F wr g (.slice A s.nodes.length cap) (.slice (some ⟨bj, 0, none⟩) s.jobs.length cj) (letGoS s k j ph)) := Lib.hid hsg
      have HCR := Lib.hid HR.out.2
      have HBQ := Lib.hid (HBX.out _ HR.out.2)
      clear hsg HR s0 hlt hq
      have m0 : wr.cell? ⟨w.heap.size, 0, none⟩ = some (.slice A s.nodes.length cap) := HBQ.out.1.cell 0
      have m1 : wr.cell? ⟨w.heap.size, 1, none⟩ = some (.slice (some ⟨bj, 0, none⟩) s.jobs.length cj) := HBQ.out.1.cell 1
      have m2 : wr.cell? ⟨w.heap.size, 2, none⟩ = some (.int .i64 s.goal) := HBQ.out.1.cell 2
      have m3 : wr.cell? ⟨w.heap.size, 3, none⟩ = some (.int .i64 s.prior) := HBQ.out.1.cell 3
      have m4 : wr.cell? ⟨w.heap.size, 4, none⟩ = some (.int .i64 s.mode) := HBQ.out.1.cell 4
      have m5 : wr.cell? ⟨w.heap.size, 5, none⟩ = some (.int .i64 s.term) := HBQ.out.1.cell 5
      have r0 : wr.cell? ⟨w.heap.size + 1, 0, none⟩ = some (.slice none 0 0) := HBQ.out.2.cell 0
      have r1 : wr.cell? ⟨w.heap.size + 1, 1, none⟩ = some (.slice none 0 0) := HBQ.out.2.cell 1
      have r2 : wr.cell? ⟨w.heap.size + 1, 2, none⟩ = some (.int .i64 0) := HBQ.out.2.cell 2
      have r3 : wr.cell? ⟨w.heap.size + 1, 3, none⟩ = some (.int .i64 0) := HBQ.out.2.cell 3
      have r4 : wr.cell? ⟨w.heap.size + 1, 4, none⟩ = some (.int .i64 0) := HBQ.out.2.cell 4
      have r5 : wr.cell? ⟨w.heap.size + 1, 5, none⟩ = some (.int .i64 0) := HBQ.out.2.cell 5
      have g0 : wr.frozen? ⟨w.heap.size + 1, 0, none⟩ = false := HBQ.out.2.frozen 0
      have g1 : wr.frozen? ⟨w.heap.size + 1, 1, none⟩ = false := HBQ.out.2.frozen 1
      have g2 : wr.frozen? ⟨w.heap.size + 1, 2, none⟩ = false := HBQ.out.2.frozen 2
      have g3 : wr.frozen? ⟨w.heap.size + 1, 3, none⟩ = false := HBQ.out.2.frozen 3
      have g4 : wr.frozen? ⟨w.heap.size + 1, 4, none⟩ = false := HBQ.out.2.frozen 4
      have g5 : wr.frozen? ⟨w.heap.size + 1, 5, none⟩ = false := HBQ.out.2.frozen 5
      go_wp2
      have hq := (((((PB.start HBQ.out.2).set 0 (.slice A s.nodes.length cap)).set 1 (.slice (some ⟨bj, 0, none⟩) s.jobs.length cj)).set 2 (.int .i64 s.goal)).set 3 (.int .i64 s.prior)).set 4 (.int .i64 s.mode)
      replace hq := hq.set 5 (.int .i64 s.term)
      simp only [List.setIfInBounds_toArray, List.set_cons_zero, List.set_cons_succ] at hq
      obtain ⟨wf, hwf⟩ : ∃ W, W = ((((((wr.setCell ⟨w.heap.size + 1, 0, none⟩ (.slice A s.nodes.length cap)).setCell ⟨w.heap.size + 1, 1, none⟩ (.slice (some ⟨bj, 0, none⟩) s.jobs.length cj)).setCell ⟨w.heap.size + 1, 2, none⟩ (.int .i64 s.goal)).setCell ⟨w.heap.size + 1, 3, none⟩ (.int .i64 s.prior)).setCell ⟨w.heap.size + 1, 4, none⟩ (.int .i64 s.mode)).setCell ⟨w.heap.size + 1, 5, none⟩ (.int .i64 s.term)) := ⟨_, rfl⟩
      rw [← hwf] at hq
      have hc1 : Chg (fun x => x = w.heap.size + 1) wr wf := ⟨by rw [hwf]; rfl, by rw [hwf]; rfl, by rw [hwf]; rfl, by rw [hq.size]; exact Nat.le_refl _, fun x _ hx => hq.same x hx⟩
      have hsf : Sg F wf g (.slice A s.nodes.length cap) (.slice (some ⟨bj, 0, none⟩) s.jobs.length cj) (letGoS s k j ph) := ObjF.chg HSG.out hc1 (fun x hx e => HF1.out (by rw [← e]; exact hx))
      have hcw : Chg F w wf := by
          have h1 : Chg F w wr := (Chg.of_ext (F := F) HX2.out).trans HCR.out (fun _ _ h => h)
          exact ⟨hc1.os.trans h1.os, hc1.tape.trans h1.tape, hc1.output.trans h1.output, Nat.le_trans h1.size hc1.size, fun x hx hn => (hc1.block x (Nat.lt_of_lt_of_le hx h1.size) (by omega)).trans (h1.block x hx hn)⟩
      rw [hwf] at hq hsf hcw
      exact bodyPost_ret (results_cell_row rfl _ _ (w.heap.size + 1) 30 _ (0, 0) _ rfl hq.blk rfl rfl (by kernel_rfl)) rfl ⟨rfl, hsf, hcw⟩

end Go.Proofs.YtbfjlhddebollaaDoor
