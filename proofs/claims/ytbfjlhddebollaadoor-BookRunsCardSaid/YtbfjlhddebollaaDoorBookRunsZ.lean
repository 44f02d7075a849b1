/- For every input BookRuns returns true: the states behind all ops, one behind the other, from the first one on, and what is told of each, are the document's; with the listed package-level variable as the program's text lays it. -/
import Derived.Test.YtbfjlhddebollaaDoorFQ18
import Derived.Test.YtbfjlhddebollaaDoorCards
import Derived.Test.YtbfjlhddebollaaDoorTie
import Derived.SevenTiedAt
import Derived.Deep.DeepCutAuto
import Derived.Deep.CutBlock
import Derived.Deep.LoopGhost
import Derived.BigQuiet
import Derived.Deep.RegionHeld3
namespace Go.Proofs.YtbfjlhddebollaaDoor
open Go.ChangeShapes Go.WideShapes Go.ChangeAt Go.RowKit

theorem held_three {P : Program} {l : List Oper} {Q : Exit → Act → World → Prop} {md : Region.Mode} {S : World → Prop} {i j k : Nat} {oi oj ok : Oper} {fuel : Nat} {listed : Array Bool} {a : Act} {w : World} (hr : Region.ready md l.toArray listed = [i, j, k]) (hi : l[i]? = some oi) (hj : l[j]? = some oj) (hk : l[k]? = some ok)
    (h1 : ∀ K : Act → World → Prop, (∀ a' w', S w' → (S w' → wpAnyH P md l.toArray (NoPanic Q) S fuel (listed.setIfInBounds i true) a' w') → K a' w') →
      if Region.wanted oi (yielded l.toArray a.tmps) = true then Oper.wp P oi a w K (NoPanic Q) else K (a.put oi.dst undef) w)
    (h2 : ∀ K : Act → World → Prop, (∀ a' w', S w' → (S w' → wpAnyH P md l.toArray (NoPanic Q) S fuel (listed.setIfInBounds j true) a' w') → K a' w') →
      if Region.wanted oj (yielded l.toArray a.tmps) = true then Oper.wp P oj a w K (NoPanic Q) else K (a.put oj.dst undef) w)
    (h3 : ∀ K : Act → World → Prop, (∀ a' w', S w' → (S w' → wpAnyH P md l.toArray (NoPanic Q) S fuel (listed.setIfInBounds k true) a' w') → K a' w') →
      if Region.wanted ok (yielded l.toArray a.tmps) = true then Oper.wp P ok a w K (NoPanic Q) else K (a.put ok.dst undef) w) : wpAnyH P md l.toArray (NoPanic Q) S (fuel + 1) listed a w := by
  refine wpAnyH_all hr (by simp) (fun m hm => ?_)
  simp only [List.mem_cons, List.not_mem_nil, or_false] at hm
  rcases hm with rfl | rfl | rfl
  · have e : l.toArray[m]? = some oi := by simpa using hi
    exact wpOp_step e (fun K hK => h1 K (fun a' w' h1 h2 => hK a' w' ⟨h1, h2 h1⟩))
  · have e : l.toArray[m]? = some oj := by simpa using hj
    exact wpOp_step e (fun K hK => h2 K (fun a' w' h1 h2 => hK a' w' ⟨h1, h2 h1⟩))
  · have e : l.toArray[m]? = some ok := by simpa using hk
    exact wpOp_step e (fun K hK => h3 K (fun a' w' h1 h2 => hK a' w' ⟨h1, h2 h1⟩))

/-- Behind 's, t := book.New(c), dunnageref09.New(c)': two variables of one state. -/
structure TwoSt (W : World) (s : St) (p q : Value) (wx : World) : Prop where
  out : ∃ g7 g8 vn vj un uj, p = .pointer (some ⟨g7, 0, none⟩) ∧ q = .pointer (some ⟨g8, 0, none⟩) ∧ W.heap.size ≤ g7 ∧ W.heap.size ≤ g8 ∧ g7 ≠ g8 ∧ Ext W wx ∧ SAt wx g7 vn vj s ∧ SAt wx g8 un uj s ∧ offG g8 vn s.nodes.length ∧ offG g8 vj s.jobs.length ∧ offG g7 un s.nodes.length ∧ offG g7 uj s.jobs.length
theorem Blk.made_ {u v : World} {T : TypeId} {cs : Array Value} (h : v = u.alloc (.cells cs T)) : Blk v u.heap.size T cs := by rw [h]; exact Blk.new _ _ _
theorem Ext.made_ {u v : World} {T : TypeId} {cs : Array Value} (h : v = u.alloc (.cells cs T)) : Ext u v := by rw [h]; exact (Below.refl _ _).alloc (Nat.le_refl _) _
theorem offs_lt {u : World} {vn vj : Value} {s : St} (h : RdSt u vn vj s) : offG u.heap.size vn s.nodes.length ∧ offG u.heap.size vj s.jobs.length := ⟨.of_lt h.nodes (Nat.le_refl _), .of_lt h.jobs (Nat.le_refl _)⟩
theorem offs_ge {u : World} {g m n : Nat} {vn vj : Value} {T : TypeId} {cs : Array Value} (hb : Blk u g T cs) (hk : ∀ k, vn.ownBlock = some k ∨ vj.ownBlock = some k → u.heap.size ≤ k) : offG g vn m ∧ offG g vj n := ⟨fun _ k h e => by have := hk k (.inl h); have := hb.lt; omega, fun _ k h e => by have := hk k (.inr h); have := hb.lt; omega⟩
theorem zcells {w : World} {g : Nat} (h : Blk w g 30 #[.slice none 0 0, .slice none 0 0, .int .i64 0, .int .i64 0, .int .i64 0, .int .i64 0]) : w.cell? ⟨g, 0, none⟩ = some (.slice none 0 0) ∧ w.cell? ⟨g, 1, none⟩ = some (.slice none 0 0) ∧ w.cell? ⟨g, 2, none⟩ = some (.int .i64 0) ∧ w.cell? ⟨g, 3, none⟩ = some (.int .i64 0) ∧ w.cell? ⟨g, 4, none⟩ = some (.int .i64 0) ∧ w.cell? ⟨g, 5, none⟩ = some (.int .i64 0) ∧ w.frozen? ⟨g, 0, none⟩ = false ∧ w.frozen? ⟨g, 1, none⟩ = false ∧ w.frozen? ⟨g, 2, none⟩ = false ∧ w.frozen? ⟨g, 3, none⟩ = false ∧ w.frozen? ⟨g, 4, none⟩ = false ∧ w.frozen? ⟨g, 5, none⟩ = false := ⟨h.cell 0, h.cell 1, h.cell 2, h.cell 3, h.cell 4, h.cell 5, h.frozen 0, h.frozen 1, h.frozen 2, h.frozen 3, h.frozen 4, h.frozen 5⟩
theorem st_put {w : World} {g : Nat} (vn vj : Value) (s : St) (hb : Blk w g 30 #[.slice none 0 0, .slice none 0 0, .int .i64 0, .int .i64 0, .int .i64 0, .int .i64 0]) :
    ∃ V, V = ((((((w.setCell ⟨g, 0, none⟩ vn).setCell ⟨g, 1, none⟩ vj).setCell ⟨g, 2, none⟩ (.int .i64 s.goal)).setCell ⟨g, 3, none⟩ (.int .i64 s.prior)).setCell ⟨g, 4, none⟩ (.int .i64 s.mode)).setCell ⟨g, 5, none⟩ (.int .i64 s.term)) ∧ PB w g 30 V #[vn, vj, .int .i64 s.goal, .int .i64 s.prior, .int .i64 s.mode, .int .i64 s.term] := ⟨_, rfl, st_set vn vj s.goal s.prior s.mode s.term hb⟩
theorem Blk.trans_ {w w' : World} {g : Nat} {T : TypeId} {cs : Array Value} (h : w'.heap[g]? = w.heap[g]?) (hb : Blk w g T cs) : Blk w' g T cs := h.trans hb
theorem TwoSt.made {W V V' V'' : World} {s : St} {g7 g8 : Nat} {vn vj un uj : Value} (hx : Ext W V) (h7 : W.heap.size ≤ g7) (h8 : W.heap.size ≤ g8) (hne : g7 ≠ g8) (r1 : RdSt V vn vj s) (r2 : RdSt V un uj s)
    (o77 : offG g7 vn s.nodes.length ∧ offG g7 vj s.jobs.length) (o78 : offG g8 vn s.nodes.length ∧ offG g8 vj s.jobs.length) (o87 : offG g7 un s.nodes.length ∧ offG g7 uj s.jobs.length) (o88 : offG g8 un s.nodes.length ∧ offG g8 uj s.jobs.length)
    (q1 : PB V g7 30 V' #[vn, vj, .int .i64 s.goal, .int .i64 s.prior, .int .i64 s.mode, .int .i64 s.term]) (q2 : PB V' g8 30 V'' #[un, uj, .int .i64 s.goal, .int .i64 s.prior, .int .i64 s.mode, .int .i64 s.term]) :
    TwoSt W s (.pointer (some ⟨g7, 0, none⟩)) (.pointer (some ⟨g8, 0, none⟩)) V'' := by
  have z1 : V.heap.size ≤ V'.heap.size := by rw [q1.size]; exact Nat.le_refl _
  have z2 : V'.heap.size ≤ V''.heap.size := by rw [q2.size]; exact Nat.le_refl _
  exact ⟨g7, g8, vn, vj, un, uj, rfl, rfl, h7, h8, hne, q2.below _ _ (q1.below _ _ hx h7) h8,
    ⟨(q2.same g7 hne).trans q1.blk, ⟨(r1.nodes.off o77.1 z1 q1.same).off o78.1 z2 q2.same, (r1.jobs.off o77.2 z1 q1.same).off o78.2 z2 q2.same⟩, o77.1, o77.2⟩,
    ⟨q2.blk, ⟨(r2.nodes.off o87.1 z1 q1.same).off o88.1 z2 q2.same, (r2.jobs.off o87.2 z1 q1.same).off o88.2 z2 q2.same⟩, o88.1, o88.2⟩, o78.1, o78.2, o87.1, o87.2⟩

/-- At the loop's head: the fleet's variable, and two of one state. -/
structure KR2 (w : World) (c : Cf) (s : St) (g7 g8 : Nat) (wr : World) : Prop where
  out : ∃ vn vj un uj, Below w.heap.size w wr ∧ Blk wr w.heap.size 23 #[.int .i64 c.nodes, .int .i64 c.queues, .int .i64 c.quota, .int .i64 c.wave, .int .i64 c.lease, .int .i64 c.retry, .int .i64 c.deadline, .int .i64 c.room, .int .i64 c.disk] ∧ SAt wr g7 vn vj s ∧ SAt wr g8 un uj s ∧ offG g7 un s.nodes.length ∧ offG g7 uj s.jobs.length ∧ RightP c s

set_option maxRecDepth 100000 in
set_option maxHeartbeats 8000000 in
theorem BookRuns_calls (c : Cf) (v : Value) (l : List OpN) (queue : Int) (w : World) (hl : RdOps w v l) (hL : Laid w) :
    Calls Tryd.prog 3 #[cfV c, v, .int .i64 queue] w fun e w' => e = .returned (.bool true) ∧ Ext w w' := by
  obtain ⟨A, cp, rfl, hlc, hcm, hAT⟩ := ops_cells hl
  obtain ⟨W1, hW1⟩ : ∃ W, W = w.alloc (.cells #[.int .i64 c.nodes, .int .i64 c.queues, .int .i64 c.quota, .int .i64 c.wave, .int .i64 c.lease, .int .i64 c.retry, .int .i64 c.deadline, .int .i64 c.room, .int .i64 c.disk] 23) := ⟨_, rfl⟩
  have hx1 : Ext w W1 := by rw [hW1]; exact (Below.refl _ _).alloc (Nat.le_refl _) _
  have HBC : Hid (Blk W1 w.heap.size 23 #[.int .i64 c.nodes, .int .i64 c.queues, .int .i64 c.quota, .int .i64 c.wave, .int .i64 c.lease, .int .i64 c.retry, .int .i64 c.deadline, .int .i64 c.room, .int .i64 c.disk]) := Lib.hid (by rw [hW1]; exact Blk.new _ _ _)
  have HL := Lib.hid hL
  have HAT := Lib.hid hAT
  have HX1 := Lib.hid hx1
  have HAL := Lib.hid (alive9_any W1 (hL.ext hx1))
  have HMY := Lib.hid fun W => RefMay_any c W
  unfold cfV at HMY
  unfold cfV
  clear hL hl hx1 hAT
  go_enter Tryd.func3, Tryd.ntmps3
  go_upto_region 1 with (fail)
  rw [← hW1]
  clear hW1
  go_wp2_with fail
  refine HAL.out.mono ?_
  rintro e1 w1 ⟨rfl, hx1⟩
  have HX2 := Lib.hid (HX1.out.trans hx1)
  have HB2 := Lib.hid (HBC.out.ext hx1)
  clear hx1 HX1 HBC HAL
  by_cases h200 : 200 < l.length
  · have d1 : decide ((200 : Int) < (l.length : Int)) = true := decide_eq_true (by omega)
    have d1' : decide (200 < l.length) = true := decide_eq_true h200
    clear h200
    go_wp2
    go_ret
    exact ⟨rfl, HX2.out⟩
  have d1 : decide ((200 : Int) < (l.length : Int)) = false := decide_eq_false (by omega)
  have d1' : decide (200 < l.length) = false := decide_eq_false h200
  clear h200
  have k0 : w1.cell? ⟨w.heap.size, 0, none⟩ = some (.int .i64 c.nodes) := HB2.out.cell 0
  have k1 : w1.cell? ⟨w.heap.size, 1, none⟩ = some (.int .i64 c.queues) := HB2.out.cell 1
  have k2 : w1.cell? ⟨w.heap.size, 2, none⟩ = some (.int .i64 c.quota) := HB2.out.cell 2
  have k3 : w1.cell? ⟨w.heap.size, 3, none⟩ = some (.int .i64 c.wave) := HB2.out.cell 3
  have k4 : w1.cell? ⟨w.heap.size, 4, none⟩ = some (.int .i64 c.lease) := HB2.out.cell 4
  have k5 : w1.cell? ⟨w.heap.size, 5, none⟩ = some (.int .i64 c.retry) := HB2.out.cell 5
  have k6 : w1.cell? ⟨w.heap.size, 6, none⟩ = some (.int .i64 c.deadline) := HB2.out.cell 6
  have k7 : w1.cell? ⟨w.heap.size, 7, none⟩ = some (.int .i64 c.room) := HB2.out.cell 7
  have k8 : w1.cell? ⟨w.heap.size, 8, none⟩ = some (.int .i64 c.disk) := HB2.out.cell 8
  cases hmc : mayC c
  · rw [hmc] at HMY
    go_wp2_with fail
    refine (HMY.out w1).mono ?_
    rintro e2 w2 ⟨rfl, hx2⟩
    have HX3 := Lib.hid (HX2.out.trans hx2)
    clear hx2
    go_wp2
    go_ret
    exact ⟨rfl, HX3.out⟩
  rw [hmc] at HMY
  have HR0 := Lib.hid (RightP.first hmc)
  have HNEW : Hid (newSt c = newS c.nodes.toNat) := Lib.hid (by rw [newSt, if_pos hmc])
  clear hmc
  go_wp2_with fail
  refine (HMY.out w1).mono ?_
  rintro e2 w2 ⟨rfl, hx2⟩
  have HX3 := Lib.hid (HX2.out.trans hx2)
  have HB3 := Lib.hid (HB2.out.ext hx2)
  clear hx2 HX2 HB2 HMY k0 k1 k2 k3 k4 k5 k6 k7 k8 d1 d1'
  generalize newS c.nodes.toNat = s0 at *
  have HSC : Hid (∀ W, Ext w2 W → (fun (W : World) => W.cell? ⟨w.heap.size, 0, none⟩ = some (.int .i64 c.nodes) ∧ W.cell? ⟨w.heap.size, 1, none⟩ = some (.int .i64 c.queues) ∧ W.cell? ⟨w.heap.size, 2, none⟩ = some (.int .i64 c.quota) ∧ W.cell? ⟨w.heap.size, 3, none⟩ = some (.int .i64 c.wave) ∧ W.cell? ⟨w.heap.size, 4, none⟩ = some (.int .i64 c.lease) ∧ W.cell? ⟨w.heap.size, 5, none⟩ = some (.int .i64 c.retry) ∧ W.cell? ⟨w.heap.size, 6, none⟩ = some (.int .i64 c.deadline) ∧ W.cell? ⟨w.heap.size, 7, none⟩ = some (.int .i64 c.room) ∧ W.cell? ⟨w.heap.size, 8, none⟩ = some (.int .i64 c.disk)) W) := Lib.hid fun W hx => ⟨(HB3.out.ext hx).cell 0, (HB3.out.ext hx).cell 1, (HB3.out.ext hx).cell 2, (HB3.out.ext hx).cell 3, (HB3.out.ext hx).cell 4, (HB3.out.ext hx).cell 5, (HB3.out.ext hx).cell 6, (HB3.out.ext hx).cell 7, (HB3.out.ext hx).cell 8⟩
  have HN1 : Hid (∀ W, Calls Tryd.prog 8 #[.agg #[.int .i64 c.nodes, .int .i64 c.queues, .int .i64 c.quota, .int .i64 c.wave, .int .i64 c.lease, .int .i64 c.retry, .int .i64 c.deadline, .int .i64 c.room, .int .i64 c.disk]] W fun e w' => ∃ vn vj, e = .returned (.agg #[vn, vj, .int .i64 s0.goal, .int .i64 s0.prior, .int .i64 s0.mode, .int .i64 s0.term]) ∧ RdSt w' vn vj s0 ∧ Ext W w' ∧ ∀ k, vn.ownBlock = some k ∨ vj.ownBlock = some k → W.heap.size ≤ k) := Lib.hid fun W => by
    have := New_any c W
    rw [HNEW.out] at this
    exact this
  have HN2 : Hid (∀ W, Calls Tryd.prog 9 #[.agg #[.int .i64 c.nodes, .int .i64 c.queues, .int .i64 c.quota, .int .i64 c.wave, .int .i64 c.lease, .int .i64 c.retry, .int .i64 c.deadline, .int .i64 c.room, .int .i64 c.disk]] W fun e w' => ∃ vn vj, e = .returned (.agg #[vn, vj, .int .i64 s0.goal, .int .i64 s0.prior, .int .i64 s0.mode, .int .i64 s0.term]) ∧ RdSt w' vn vj s0 ∧ Ext W w' ∧ ∀ k, vn.ownBlock = some k ∨ vj.ownBlock = some k → W.heap.size ≤ k) := Lib.hid fun W => by
    have := RefNew_any c W
    rw [HNEW.out] at this
    exact this
  go_wp2_with fail
  go_cut [7, 8] (fun p q wx => TwoSt w2 s0 p q wx)
  case first =>
    refine held_begin (by kernel_rfl) ?_
    have hHeld0 : True := True.intro
    obtain ⟨u0, hu⟩ : ∃ u, u = w2.drew := ⟨_, rfl⟩
    have hx0 : Ext w2 u0 := by rw [hu]; exact ext_drew9 (Ext.refl _)
    rw [← hu]
    clear hu
    refine held_more (S' := fun (W : World) => W.cell? ⟨w.heap.size, 0, none⟩ = some (.int .i64 c.nodes) ∧ W.cell? ⟨w.heap.size, 1, none⟩ = some (.int .i64 c.queues) ∧ W.cell? ⟨w.heap.size, 2, none⟩ = some (.int .i64 c.quota) ∧ W.cell? ⟨w.heap.size, 3, none⟩ = some (.int .i64 c.wave) ∧ W.cell? ⟨w.heap.size, 4, none⟩ = some (.int .i64 c.lease) ∧ W.cell? ⟨w.heap.size, 5, none⟩ = some (.int .i64 c.retry) ∧ W.cell? ⟨w.heap.size, 6, none⟩ = some (.int .i64 c.deadline) ∧ W.cell? ⟨w.heap.size, 7, none⟩ = some (.int .i64 c.room) ∧ W.cell? ⟨w.heap.size, 8, none⟩ = some (.int .i64 c.disk)) (fun _ _ => True.intro) ?_
    have hHeld1 : (fun (W : World) => W.cell? ⟨w.heap.size, 0, none⟩ = some (.int .i64 c.nodes) ∧ W.cell? ⟨w.heap.size, 1, none⟩ = some (.int .i64 c.queues) ∧ W.cell? ⟨w.heap.size, 2, none⟩ = some (.int .i64 c.quota) ∧ W.cell? ⟨w.heap.size, 3, none⟩ = some (.int .i64 c.wave) ∧ W.cell? ⟨w.heap.size, 4, none⟩ = some (.int .i64 c.lease) ∧ W.cell? ⟨w.heap.size, 5, none⟩ = some (.int .i64 c.retry) ∧ W.cell? ⟨w.heap.size, 6, none⟩ = some (.int .i64 c.deadline) ∧ W.cell? ⟨w.heap.size, 7, none⟩ = some (.int .i64 c.room) ∧ W.cell? ⟨w.heap.size, 8, none⟩ = some (.int .i64 c.disk)) _ := HSC.out _ hx0
    clear hHeld0
    refine held_take (i := 0) (v := ?_) rfl (by kernel_rfl) (by kernel_rfl) (by kernel_rfl) (by rfl) (by first | assumption | exact True.intro) ?_ ?_
    rotate_left
    · (intro w hSw; (try dsimp only at hSw); go_simp; (try with_reducible rfl))
    try simp only [Act.put, List.setIfInBounds_toArray, List.set_cons_zero, List.set_cons_succ]
    refine held_take (i := 2) (v := ?_) rfl (by kernel_rfl) (by kernel_rfl) (by kernel_rfl) (by rfl) (by first | assumption | exact True.intro) ?_ ?_
    rotate_left
    · (intro w hSw; (try dsimp only at hSw); go_simp; (try with_reducible rfl))
    try simp only [Act.put, List.setIfInBounds_toArray, List.set_cons_zero, List.set_cons_succ]
    refine held_three (i := 1) (j := 4) (k := 5) (by kernel_rfl) rfl rfl rfl (fun K hK => ?_) (fun K hK => ?_) (fun K hK => ?_)
    · go_simp
      go_at_call 8
      (with_reducible refine (HN1.out _).mono ?_)
      rintro eu1 u1 ⟨a1, b1, rfl, r1, y2, k1_⟩
      obtain ⟨A1, c1, rfl, -, -⟩ := r1.nodes.slice_
      obtain ⟨B1, e1, rfl, -, -⟩ := r1.jobs.slice_
      have hx3 : Ext w2 u1 := Ext.trans hx0 y2
      refine hK _ _ ?_ (fun hHeld2 => ?_)
      · exact HSC.out _ hx3
      clear hK K hHeld1
      try simp only [Act.put, List.setIfInBounds_toArray, List.set_cons_zero, List.set_cons_succ]
      refine held_three (i := 3) (j := 4) (k := 5) (by kernel_rfl) rfl rfl rfl (fun K hK => ?_) (fun K hK => ?_) (fun K hK => ?_)
      · go_simp
        go_at_call 9
        (with_reducible refine (HN2.out _).mono ?_)
        rintro eu4 u4 ⟨a2, b2, rfl, r2, y5, k2_⟩
        obtain ⟨A2, c2, rfl, -, -⟩ := r2.nodes.slice_
        obtain ⟨B2, e2, rfl, -, -⟩ := r2.jobs.slice_
        have hx6 : Ext w2 u4 := Ext.trans hx3 y5
        have r7 := r1.ext y5
        refine hK _ _ ?_ (fun hHeld3 => ?_)
        · exact HSC.out _ hx6
        clear hK K hHeld2
        try simp only [Act.put, List.setIfInBounds_toArray, List.set_cons_zero, List.set_cons_succ]
        refine held_two (i := 4) (j := 5) (by kernel_rfl) rfl rfl (fun K hK => ?_) (fun K hK => ?_)
        · go_simp
          obtain ⟨u8, hv⟩ : ∃ v, v = u4.alloc (.cells #[.slice none 0 0, .slice none 0 0, .int .i64 0, .int .i64 0, .int .i64 0, .int .i64 0] 30) := ⟨_, rfl⟩
          have y9 := Ext.made_ hv
          have pz11 := Blk.made_ hv
          have b12 : w2.heap.size ≤ u4.heap.size := hx6.size
          have hx10 : Ext w2 u8 := Ext.trans hx6 y9
          have o13 := offs_lt r7
          have r14 := r7.ext y9
          have o15 := offs_lt r2
          have r16 := r2.ext y9
          refine hK _ _ ?_ (fun hHeld4 => ?_)
          · rw [← hv]; exact HSC.out _ hx10
          clear hK K hHeld3
          try simp only [Act.put, List.setIfInBounds_toArray, List.set_cons_zero, List.set_cons_succ]
          rw [← hv]
          clear hv
          refine held_op (i := 5) (by kernel_rfl) rfl (fun K hK => ?_)
          go_simp
          obtain ⟨u17, hv⟩ : ∃ v, v = u8.alloc (.cells #[.slice none 0 0, .slice none 0 0, .int .i64 0, .int .i64 0, .int .i64 0, .int .i64 0] 30) := ⟨_, rfl⟩
          have y18 := Ext.made_ hv
          have pz20 := Blk.made_ hv
          have b21 : w2.heap.size ≤ u8.heap.size := hx10.size
          have hx19 : Ext w2 u17 := Ext.trans hx10 y18
          have ne22 : u4.heap.size < u8.heap.size := pz11.lt
          have pz23 := pz11.ext y18
          have o24 := offs_lt r14
          have r25 := r14.ext y18
          have o26 := offs_lt r16
          have r27 := r16.ext y18
          refine hK _ _ ?_ (fun hHeld5 => ?_)
          · rw [← hv]; exact HSC.out _ hx19
          clear hK K hHeld4
          try simp only [Act.put, List.setIfInBounds_toArray, List.set_cons_zero, List.set_cons_succ]
          rw [← hv]
          clear hv
          obtain ⟨z0, z1, z2, z3, z4, z5, f0, f1, f2, f3, f4, f5⟩ := zcells pz23
          obtain ⟨V, hv, hq1⟩ := st_put (.slice A1 s0.nodes.length c1) (.slice B1 s0.jobs.length e1) s0 pz23
          refine held_op (i := 6) (by kernel_rfl) rfl (fun K hK => ?_)
          go_simp
          refine hK _ _ ?_ (fun hHeld6 => ?_)
          · rw [← hv]; exact HSC.out _ (hq1.below _ _ hx19 b12)
          clear hK K hHeld5
          try simp only [Act.put, List.setIfInBounds_toArray, List.set_cons_zero, List.set_cons_succ]
          rw [← hv]
          clear hv
          clear z0 f0 z1 f1 z2 f2 z3 f3 z4 f4 z5 f5
          have pw := Blk.trans_ (hq1.same (u8.heap.size) (Ne.symm (Nat.ne_of_lt ne22))) pz20
          obtain ⟨z0, z1, z2, z3, z4, z5, f0, f1, f2, f3, f4, f5⟩ := zcells pw
          have hq2 := st_set (.slice A2 s0.nodes.length c2) (.slice B2 s0.jobs.length e2) s0.goal s0.prior s0.mode s0.term pw
          refine held_op (i := 7) (by kernel_rfl) rfl (fun K hK => ?_)
          go_simp
          refine hK _ _ ?_ (fun hHeld7 => ?_)
          · exact HSC.out _ (hq2.below _ _ (hq1.below _ _ hx19 b12) b21)
          clear hK K hHeld6
          try simp only [Act.put, List.setIfInBounds_toArray, List.set_cons_zero, List.set_cons_succ]
          refine wpAnyH_done (by kernel_rfl) ?_ _
          refine NoPanic.normal ?_
          clear hHeld7
          go_wp2_with fail
          go_meet
          exact TwoSt.made hx19 b12 b21 (Nat.ne_of_lt ne22) r25 r27 o13 o24 o15 o26 hq1 hq2
        · go_simp
          obtain ⟨u28, hv⟩ : ∃ v, v = u4.alloc (.cells #[.slice none 0 0, .slice none 0 0, .int .i64 0, .int .i64 0, .int .i64 0, .int .i64 0] 30) := ⟨_, rfl⟩
          have y29 := Ext.made_ hv
          have pz31 := Blk.made_ hv
          have b32 : w2.heap.size ≤ u4.heap.size := hx6.size
          have hx30 : Ext w2 u28 := Ext.trans hx6 y29
          have o33 := offs_lt r7
          have r34 := r7.ext y29
          have o35 := offs_lt r2
          have r36 := r2.ext y29
          refine hK _ _ ?_ (fun hHeld4 => ?_)
          · rw [← hv]; exact HSC.out _ hx30
          clear hK K hHeld3
          try simp only [Act.put, List.setIfInBounds_toArray, List.set_cons_zero, List.set_cons_succ]
          rw [← hv]
          clear hv
          refine held_op (i := 4) (by kernel_rfl) rfl (fun K hK => ?_)
          go_simp
          obtain ⟨u37, hv⟩ : ∃ v, v = u28.alloc (.cells #[.slice none 0 0, .slice none 0 0, .int .i64 0, .int .i64 0, .int .i64 0, .int .i64 0] 30) := ⟨_, rfl⟩
          have y38 := Ext.made_ hv
          have pz40 := Blk.made_ hv
          have b41 : w2.heap.size ≤ u28.heap.size := hx30.size
          have hx39 : Ext w2 u37 := Ext.trans hx30 y38
          have ne42 : u4.heap.size < u28.heap.size := pz31.lt
          have pz43 := pz31.ext y38
          have o44 := offs_lt r34
          have r45 := r34.ext y38
          have o46 := offs_lt r36
          have r47 := r36.ext y38
          refine hK _ _ ?_ (fun hHeld5 => ?_)
          · rw [← hv]; exact HSC.out _ hx39
          clear hK K hHeld4
          try simp only [Act.put, List.setIfInBounds_toArray, List.set_cons_zero, List.set_cons_succ]
          rw [← hv]
          clear hv
          obtain ⟨z0, z1, z2, z3, z4, z5, f0, f1, f2, f3, f4, f5⟩ := zcells pz40
          obtain ⟨V, hv, hq1⟩ := st_put (.slice A1 s0.nodes.length c1) (.slice B1 s0.jobs.length e1) s0 pz40
          refine held_op (i := 6) (by kernel_rfl) rfl (fun K hK => ?_)
          go_simp
          refine hK _ _ ?_ (fun hHeld6 => ?_)
          · rw [← hv]; exact HSC.out _ (hq1.below _ _ hx39 b41)
          clear hK K hHeld5
          try simp only [Act.put, List.setIfInBounds_toArray, List.set_cons_zero, List.set_cons_succ]
          rw [← hv]
          clear hv
          clear z0 f0 z1 f1 z2 f2 z3 f3 z4 f4 z5 f5
          have pw := Blk.trans_ (hq1.same (u4.heap.size) (Ne.symm (Nat.ne_of_gt ne42))) pz43
          obtain ⟨z0, z1, z2, z3, z4, z5, f0, f1, f2, f3, f4, f5⟩ := zcells pw
          have hq2 := st_set (.slice A2 s0.nodes.length c2) (.slice B2 s0.jobs.length e2) s0.goal s0.prior s0.mode s0.term pw
          refine held_op (i := 7) (by kernel_rfl) rfl (fun K hK => ?_)
          go_simp
          refine hK _ _ ?_ (fun hHeld7 => ?_)
          · exact HSC.out _ (hq2.below _ _ (hq1.below _ _ hx39 b41) b32)
          clear hK K hHeld6
          try simp only [Act.put, List.setIfInBounds_toArray, List.set_cons_zero, List.set_cons_succ]
          refine wpAnyH_done (by kernel_rfl) ?_ _
          refine NoPanic.normal ?_
          clear hHeld7
          go_wp2_with fail
          go_meet
          exact TwoSt.made hx39 b41 b32 (Nat.ne_of_gt ne42) r45 r47 o44 o33 o46 o35 hq1 hq2
      · go_simp
        obtain ⟨u48, hv⟩ : ∃ v, v = u1.alloc (.cells #[.slice none 0 0, .slice none 0 0, .int .i64 0, .int .i64 0, .int .i64 0, .int .i64 0] 30) := ⟨_, rfl⟩
        have y49 := Ext.made_ hv
        have pz51 := Blk.made_ hv
        have b52 : w2.heap.size ≤ u1.heap.size := hx3.size
        have hx50 : Ext w2 u48 := Ext.trans hx3 y49
        have o53 := offs_lt r1
        have r54 := r1.ext y49
        refine hK _ _ ?_ (fun hHeld3 => ?_)
        · rw [← hv]; exact HSC.out _ hx50
        clear hK K hHeld2
        try simp only [Act.put, List.setIfInBounds_toArray, List.set_cons_zero, List.set_cons_succ]
        rw [← hv]
        clear hv
        refine held_two (i := 3) (j := 5) (by kernel_rfl) rfl rfl (fun K hK => ?_) (fun K hK => ?_)
        · go_simp
          go_at_call 9
          (with_reducible refine (HN2.out _).mono ?_)
          rintro eu55 u55 ⟨a2, b2, rfl, r2, y56, k2_⟩
          obtain ⟨A2, c2, rfl, -, -⟩ := r2.nodes.slice_
          obtain ⟨B2, e2, rfl, -, -⟩ := r2.jobs.slice_
          have hx57 : Ext w2 u55 := Ext.trans hx50 y56
          have r58 := r54.ext y56
          have o59 := offs_ge (m := s0.nodes.length) (n := s0.jobs.length) pz51 k2_
          have pz60 := pz51.ext y56
          refine hK _ _ ?_ (fun hHeld4 => ?_)
          · exact HSC.out _ hx57
          clear hK K hHeld3
          try simp only [Act.put, List.setIfInBounds_toArray, List.set_cons_zero, List.set_cons_succ]
          refine held_op (i := 5) (by kernel_rfl) rfl (fun K hK => ?_)
          go_simp
          obtain ⟨u61, hv⟩ : ∃ v, v = u55.alloc (.cells #[.slice none 0 0, .slice none 0 0, .int .i64 0, .int .i64 0, .int .i64 0, .int .i64 0] 30) := ⟨_, rfl⟩
          have y62 := Ext.made_ hv
          have pz64 := Blk.made_ hv
          have b65 : w2.heap.size ≤ u55.heap.size := hx57.size
          have hx63 : Ext w2 u61 := Ext.trans hx57 y62
          have ne66 : u1.heap.size < u55.heap.size := pz60.lt
          have pz67 := pz60.ext y62
          have o68 := offs_lt r58
          have r69 := r58.ext y62
          have o70 := offs_lt r2
          have r71 := r2.ext y62
          refine hK _ _ ?_ (fun hHeld5 => ?_)
          · rw [← hv]; exact HSC.out _ hx63
          clear hK K hHeld4
          try simp only [Act.put, List.setIfInBounds_toArray, List.set_cons_zero, List.set_cons_succ]
          rw [← hv]
          clear hv
          obtain ⟨z0, z1, z2, z3, z4, z5, f0, f1, f2, f3, f4, f5⟩ := zcells pz67
          obtain ⟨V, hv, hq1⟩ := st_put (.slice A1 s0.nodes.length c1) (.slice B1 s0.jobs.length e1) s0 pz67
          refine held_op (i := 6) (by kernel_rfl) rfl (fun K hK => ?_)
          go_simp
          refine hK _ _ ?_ (fun hHeld6 => ?_)
          · rw [← hv]; exact HSC.out _ (hq1.below _ _ hx63 b52)
          clear hK K hHeld5
          try simp only [Act.put, List.setIfInBounds_toArray, List.set_cons_zero, List.set_cons_succ]
          rw [← hv]
          clear hv
          clear z0 f0 z1 f1 z2 f2 z3 f3 z4 f4 z5 f5
          have pw := Blk.trans_ (hq1.same (u55.heap.size) (Ne.symm (Nat.ne_of_lt ne66))) pz64
          obtain ⟨z0, z1, z2, z3, z4, z5, f0, f1, f2, f3, f4, f5⟩ := zcells pw
          have hq2 := st_set (.slice A2 s0.nodes.length c2) (.slice B2 s0.jobs.length e2) s0.goal s0.prior s0.mode s0.term pw
          refine held_op (i := 7) (by kernel_rfl) rfl (fun K hK => ?_)
          go_simp
          refine hK _ _ ?_ (fun hHeld7 => ?_)
          · exact HSC.out _ (hq2.below _ _ (hq1.below _ _ hx63 b52) b65)
          clear hK K hHeld6
          try simp only [Act.put, List.setIfInBounds_toArray, List.set_cons_zero, List.set_cons_succ]
          refine wpAnyH_done (by kernel_rfl) ?_ _
          refine NoPanic.normal ?_
          clear hHeld7
          go_wp2_with fail
          go_meet
          exact TwoSt.made hx63 b52 b65 (Nat.ne_of_lt ne66) r69 r71 o53 o68 o59 o70 hq1 hq2
        · go_simp
          obtain ⟨u72, hv⟩ : ∃ v, v = u48.alloc (.cells #[.slice none 0 0, .slice none 0 0, .int .i64 0, .int .i64 0, .int .i64 0, .int .i64 0] 30) := ⟨_, rfl⟩
          have y73 := Ext.made_ hv
          have pz75 := Blk.made_ hv
          have b76 : w2.heap.size ≤ u48.heap.size := hx50.size
          have hx74 : Ext w2 u72 := Ext.trans hx50 y73
          have ne77 : u1.heap.size < u48.heap.size := pz51.lt
          have pz78 := pz51.ext y73
          have o79 := offs_lt r54
          have r80 := r54.ext y73
          refine hK _ _ ?_ (fun hHeld4 => ?_)
          · rw [← hv]; exact HSC.out _ hx74
          clear hK K hHeld3
          try simp only [Act.put, List.setIfInBounds_toArray, List.set_cons_zero, List.set_cons_succ]
          rw [← hv]
          clear hv
          refine held_op (i := 3) (by kernel_rfl) rfl (fun K hK => ?_)
          go_simp
          go_at_call 9
          (with_reducible refine (HN2.out _).mono ?_)
          rintro eu81 u81 ⟨a2, b2, rfl, r2, y82, k2_⟩
          obtain ⟨A2, c2, rfl, -, -⟩ := r2.nodes.slice_
          obtain ⟨B2, e2, rfl, -, -⟩ := r2.jobs.slice_
          have hx83 : Ext w2 u81 := Ext.trans hx74 y82
          have r84 := r80.ext y82
          have o85 := offs_ge (m := s0.nodes.length) (n := s0.jobs.length) pz78 k2_
          have pz86 := pz78.ext y82
          have o87 := offs_ge (m := s0.nodes.length) (n := s0.jobs.length) pz75 k2_
          have pz88 := pz75.ext y82
          refine hK _ _ ?_ (fun hHeld5 => ?_)
          · exact HSC.out _ hx83
          clear hK K hHeld4
          try simp only [Act.put, List.setIfInBounds_toArray, List.set_cons_zero, List.set_cons_succ]
          obtain ⟨z0, z1, z2, z3, z4, z5, f0, f1, f2, f3, f4, f5⟩ := zcells pz86
          obtain ⟨V, hv, hq1⟩ := st_put (.slice A1 s0.nodes.length c1) (.slice B1 s0.jobs.length e1) s0 pz86
          refine held_op (i := 6) (by kernel_rfl) rfl (fun K hK => ?_)
          go_simp
          refine hK _ _ ?_ (fun hHeld6 => ?_)
          · rw [← hv]; exact HSC.out _ (hq1.below _ _ hx83 b52)
          clear hK K hHeld5
          try simp only [Act.put, List.setIfInBounds_toArray, List.set_cons_zero, List.set_cons_succ]
          rw [← hv]
          clear hv
          clear z0 f0 z1 f1 z2 f2 z3 f3 z4 f4 z5 f5
          have pw := Blk.trans_ (hq1.same (u48.heap.size) (Ne.symm (Nat.ne_of_lt ne77))) pz88
          obtain ⟨z0, z1, z2, z3, z4, z5, f0, f1, f2, f3, f4, f5⟩ := zcells pw
          have hq2 := st_set (.slice A2 s0.nodes.length c2) (.slice B2 s0.jobs.length e2) s0.goal s0.prior s0.mode s0.term pw
          refine held_op (i := 7) (by kernel_rfl) rfl (fun K hK => ?_)
          go_simp
          refine hK _ _ ?_ (fun hHeld7 => ?_)
          · exact HSC.out _ (hq2.below _ _ (hq1.below _ _ hx83 b52) b76)
          clear hK K hHeld6
          try simp only [Act.put, List.setIfInBounds_toArray, List.set_cons_zero, List.set_cons_succ]
          refine wpAnyH_done (by kernel_rfl) ?_ _
          refine NoPanic.normal ?_
          clear hHeld7
          go_wp2_with fail
          go_meet
          exact TwoSt.made hx83 b52 b76 (Nat.ne_of_lt ne77) r84 r2 o53 o79 o85 o87 hq1 hq2
      · go_simp
        obtain ⟨u89, hv⟩ : ∃ v, v = u1.alloc (.cells #[.slice none 0 0, .slice none 0 0, .int .i64 0, .int .i64 0, .int .i64 0, .int .i64 0] 30) := ⟨_, rfl⟩
        have y90 := Ext.made_ hv
        have pz92 := Blk.made_ hv
        have b93 : w2.heap.size ≤ u1.heap.size := hx3.size
        have hx91 : Ext w2 u89 := Ext.trans hx3 y90
        have o94 := offs_lt r1
        have r95 := r1.ext y90
        refine hK _ _ ?_ (fun hHeld3 => ?_)
        · rw [← hv]; exact HSC.out _ hx91
        clear hK K hHeld2
        try simp only [Act.put, List.setIfInBounds_toArray, List.set_cons_zero, List.set_cons_succ]
        rw [← hv]
        clear hv
        refine held_two (i := 3) (j := 4) (by kernel_rfl) rfl rfl (fun K hK => ?_) (fun K hK => ?_)
        · go_simp
          go_at_call 9
          (with_reducible refine (HN2.out _).mono ?_)
          rintro eu96 u96 ⟨a2, b2, rfl, r2, y97, k2_⟩
          obtain ⟨A2, c2, rfl, -, -⟩ := r2.nodes.slice_
          obtain ⟨B2, e2, rfl, -, -⟩ := r2.jobs.slice_
          have hx98 : Ext w2 u96 := Ext.trans hx91 y97
          have r99 := r95.ext y97
          have o100 := offs_ge (m := s0.nodes.length) (n := s0.jobs.length) pz92 k2_
          have pz101 := pz92.ext y97
          refine hK _ _ ?_ (fun hHeld4 => ?_)
          · exact HSC.out _ hx98
          clear hK K hHeld3
          try simp only [Act.put, List.setIfInBounds_toArray, List.set_cons_zero, List.set_cons_succ]
          refine held_op (i := 4) (by kernel_rfl) rfl (fun K hK => ?_)
          go_simp
          obtain ⟨u102, hv⟩ : ∃ v, v = u96.alloc (.cells #[.slice none 0 0, .slice none 0 0, .int .i64 0, .int .i64 0, .int .i64 0, .int .i64 0] 30) := ⟨_, rfl⟩
          have y103 := Ext.made_ hv
          have pz105 := Blk.made_ hv
          have b106 : w2.heap.size ≤ u96.heap.size := hx98.size
          have hx104 : Ext w2 u102 := Ext.trans hx98 y103
          have ne107 : u1.heap.size < u96.heap.size := pz101.lt
          have pz108 := pz101.ext y103
          have o109 := offs_lt r99
          have r110 := r99.ext y103
          have o111 := offs_lt r2
          have r112 := r2.ext y103
          refine hK _ _ ?_ (fun hHeld5 => ?_)
          · rw [← hv]; exact HSC.out _ hx104
          clear hK K hHeld4
          try simp only [Act.put, List.setIfInBounds_toArray, List.set_cons_zero, List.set_cons_succ]
          rw [← hv]
          clear hv
          obtain ⟨z0, z1, z2, z3, z4, z5, f0, f1, f2, f3, f4, f5⟩ := zcells pz105
          obtain ⟨V, hv, hq1⟩ := st_put (.slice A1 s0.nodes.length c1) (.slice B1 s0.jobs.length e1) s0 pz105
          refine held_op (i := 6) (by kernel_rfl) rfl (fun K hK => ?_)
          go_simp
          refine hK _ _ ?_ (fun hHeld6 => ?_)
          · rw [← hv]; exact HSC.out _ (hq1.below _ _ hx104 b106)
          clear hK K hHeld5
          try simp only [Act.put, List.setIfInBounds_toArray, List.set_cons_zero, List.set_cons_succ]
          rw [← hv]
          clear hv
          clear z0 f0 z1 f1 z2 f2 z3 f3 z4 f4 z5 f5
          have pw := Blk.trans_ (hq1.same (u1.heap.size) (Ne.symm (Nat.ne_of_gt ne107))) pz108
          obtain ⟨z0, z1, z2, z3, z4, z5, f0, f1, f2, f3, f4, f5⟩ := zcells pw
          have hq2 := st_set (.slice A2 s0.nodes.length c2) (.slice B2 s0.jobs.length e2) s0.goal s0.prior s0.mode s0.term pw
          refine held_op (i := 7) (by kernel_rfl) rfl (fun K hK => ?_)
          go_simp
          refine hK _ _ ?_ (fun hHeld7 => ?_)
          · exact HSC.out _ (hq2.below _ _ (hq1.below _ _ hx104 b106) b93)
          clear hK K hHeld6
          try simp only [Act.put, List.setIfInBounds_toArray, List.set_cons_zero, List.set_cons_succ]
          refine wpAnyH_done (by kernel_rfl) ?_ _
          refine NoPanic.normal ?_
          clear hHeld7
          go_wp2_with fail
          go_meet
          exact TwoSt.made hx104 b106 b93 (Nat.ne_of_gt ne107) r110 r112 o109 o94 o111 o100 hq1 hq2
        · go_simp
          obtain ⟨u113, hv⟩ : ∃ v, v = u89.alloc (.cells #[.slice none 0 0, .slice none 0 0, .int .i64 0, .int .i64 0, .int .i64 0, .int .i64 0] 30) := ⟨_, rfl⟩
          have y114 := Ext.made_ hv
          have pz116 := Blk.made_ hv
          have b117 : w2.heap.size ≤ u89.heap.size := hx91.size
          have hx115 : Ext w2 u113 := Ext.trans hx91 y114
          have ne118 : u1.heap.size < u89.heap.size := pz92.lt
          have pz119 := pz92.ext y114
          have o120 := offs_lt r95
          have r121 := r95.ext y114
          refine hK _ _ ?_ (fun hHeld4 => ?_)
          · rw [← hv]; exact HSC.out _ hx115
          clear hK K hHeld3
          try simp only [Act.put, List.setIfInBounds_toArray, List.set_cons_zero, List.set_cons_succ]
          rw [← hv]
          clear hv
          refine held_op (i := 3) (by kernel_rfl) rfl (fun K hK => ?_)
          go_simp
          go_at_call 9
          (with_reducible refine (HN2.out _).mono ?_)
          rintro eu122 u122 ⟨a2, b2, rfl, r2, y123, k2_⟩
          obtain ⟨A2, c2, rfl, -, -⟩ := r2.nodes.slice_
          obtain ⟨B2, e2, rfl, -, -⟩ := r2.jobs.slice_
          have hx124 : Ext w2 u122 := Ext.trans hx115 y123
          have r125 := r121.ext y123
          have o126 := offs_ge (m := s0.nodes.length) (n := s0.jobs.length) pz119 k2_
          have pz127 := pz119.ext y123
          have o128 := offs_ge (m := s0.nodes.length) (n := s0.jobs.length) pz116 k2_
          have pz129 := pz116.ext y123
          refine hK _ _ ?_ (fun hHeld5 => ?_)
          · exact HSC.out _ hx124
          clear hK K hHeld4
          try simp only [Act.put, List.setIfInBounds_toArray, List.set_cons_zero, List.set_cons_succ]
          obtain ⟨z0, z1, z2, z3, z4, z5, f0, f1, f2, f3, f4, f5⟩ := zcells pz129
          obtain ⟨V, hv, hq1⟩ := st_put (.slice A1 s0.nodes.length c1) (.slice B1 s0.jobs.length e1) s0 pz129
          refine held_op (i := 6) (by kernel_rfl) rfl (fun K hK => ?_)
          go_simp
          refine hK _ _ ?_ (fun hHeld6 => ?_)
          · rw [← hv]; exact HSC.out _ (hq1.below _ _ hx124 b117)
          clear hK K hHeld5
          try simp only [Act.put, List.setIfInBounds_toArray, List.set_cons_zero, List.set_cons_succ]
          rw [← hv]
          clear hv
          clear z0 f0 z1 f1 z2 f2 z3 f3 z4 f4 z5 f5
          have pw := Blk.trans_ (hq1.same (u1.heap.size) (Ne.symm (Nat.ne_of_gt ne118))) pz127
          obtain ⟨z0, z1, z2, z3, z4, z5, f0, f1, f2, f3, f4, f5⟩ := zcells pw
          have hq2 := st_set (.slice A2 s0.nodes.length c2) (.slice B2 s0.jobs.length e2) s0.goal s0.prior s0.mode s0.term pw
          refine held_op (i := 7) (by kernel_rfl) rfl (fun K hK => ?_)
          go_simp
          refine hK _ _ ?_ (fun hHeld7 => ?_)
          · exact HSC.out _ (hq2.below _ _ (hq1.below _ _ hx124 b117) b93)
          clear hK K hHeld6
          try simp only [Act.put, List.setIfInBounds_toArray, List.set_cons_zero, List.set_cons_succ]
          refine wpAnyH_done (by kernel_rfl) ?_ _
          refine NoPanic.normal ?_
          clear hHeld7
          go_wp2_with fail
          go_meet
          exact TwoSt.made hx124 b117 b93 (Nat.ne_of_gt ne118) r125 r2 o120 o94 o128 o126 hq1 hq2
    · go_simp
      obtain ⟨u130, hv⟩ : ∃ v, v = u0.alloc (.cells #[.slice none 0 0, .slice none 0 0, .int .i64 0, .int .i64 0, .int .i64 0, .int .i64 0] 30) := ⟨_, rfl⟩
      have y131 := Ext.made_ hv
      have pz133 := Blk.made_ hv
      have b134 : w2.heap.size ≤ u0.heap.size := hx0.size
      have hx132 : Ext w2 u130 := Ext.trans hx0 y131
      refine hK _ _ ?_ (fun hHeld2 => ?_)
      · rw [← hv]; exact HSC.out _ hx132
      clear hK K hHeld1
      try simp only [Act.put, List.setIfInBounds_toArray, List.set_cons_zero, List.set_cons_succ]
      rw [← hv]
      clear hv
      refine held_two (i := 1) (j := 5) (by kernel_rfl) rfl rfl (fun K hK => ?_) (fun K hK => ?_)
      · go_simp
        go_at_call 8
        (with_reducible refine (HN1.out _).mono ?_)
        rintro eu135 u135 ⟨a1, b1, rfl, r1, y136, k1_⟩
        obtain ⟨A1, c1, rfl, -, -⟩ := r1.nodes.slice_
        obtain ⟨B1, e1, rfl, -, -⟩ := r1.jobs.slice_
        have hx137 : Ext w2 u135 := Ext.trans hx132 y136
        have o138 := offs_ge (m := s0.nodes.length) (n := s0.jobs.length) pz133 k1_
        have pz139 := pz133.ext y136
        refine hK _ _ ?_ (fun hHeld3 => ?_)
        · exact HSC.out _ hx137
        clear hK K hHeld2
        try simp only [Act.put, List.setIfInBounds_toArray, List.set_cons_zero, List.set_cons_succ]
        refine held_two (i := 3) (j := 5) (by kernel_rfl) rfl rfl (fun K hK => ?_) (fun K hK => ?_)
        · go_simp
          go_at_call 9
          (with_reducible refine (HN2.out _).mono ?_)
          rintro eu140 u140 ⟨a2, b2, rfl, r2, y141, k2_⟩
          obtain ⟨A2, c2, rfl, -, -⟩ := r2.nodes.slice_
          obtain ⟨B2, e2, rfl, -, -⟩ := r2.jobs.slice_
          have hx142 : Ext w2 u140 := Ext.trans hx137 y141
          have r143 := r1.ext y141
          have o144 := offs_ge (m := s0.nodes.length) (n := s0.jobs.length) pz139 k2_
          have pz145 := pz139.ext y141
          refine hK _ _ ?_ (fun hHeld4 => ?_)
          · exact HSC.out _ hx142
          clear hK K hHeld3
          try simp only [Act.put, List.setIfInBounds_toArray, List.set_cons_zero, List.set_cons_succ]
          refine held_op (i := 5) (by kernel_rfl) rfl (fun K hK => ?_)
          go_simp
          obtain ⟨u146, hv⟩ : ∃ v, v = u140.alloc (.cells #[.slice none 0 0, .slice none 0 0, .int .i64 0, .int .i64 0, .int .i64 0, .int .i64 0] 30) := ⟨_, rfl⟩
          have y147 := Ext.made_ hv
          have pz149 := Blk.made_ hv
          have b150 : w2.heap.size ≤ u140.heap.size := hx142.size
          have hx148 : Ext w2 u146 := Ext.trans hx142 y147
          have ne151 : u0.heap.size < u140.heap.size := pz145.lt
          have pz152 := pz145.ext y147
          have o153 := offs_lt r143
          have r154 := r143.ext y147
          have o155 := offs_lt r2
          have r156 := r2.ext y147
          refine hK _ _ ?_ (fun hHeld5 => ?_)
          · rw [← hv]; exact HSC.out _ hx148
          clear hK K hHeld4
          try simp only [Act.put, List.setIfInBounds_toArray, List.set_cons_zero, List.set_cons_succ]
          rw [← hv]
          clear hv
          obtain ⟨z0, z1, z2, z3, z4, z5, f0, f1, f2, f3, f4, f5⟩ := zcells pz152
          obtain ⟨V, hv, hq1⟩ := st_put (.slice A1 s0.nodes.length c1) (.slice B1 s0.jobs.length e1) s0 pz152
          refine held_op (i := 6) (by kernel_rfl) rfl (fun K hK => ?_)
          go_simp
          refine hK _ _ ?_ (fun hHeld6 => ?_)
          · rw [← hv]; exact HSC.out _ (hq1.below _ _ hx148 b134)
          clear hK K hHeld5
          try simp only [Act.put, List.setIfInBounds_toArray, List.set_cons_zero, List.set_cons_succ]
          rw [← hv]
          clear hv
          clear z0 f0 z1 f1 z2 f2 z3 f3 z4 f4 z5 f5
          have pw := Blk.trans_ (hq1.same (u140.heap.size) (Ne.symm (Nat.ne_of_lt ne151))) pz149
          obtain ⟨z0, z1, z2, z3, z4, z5, f0, f1, f2, f3, f4, f5⟩ := zcells pw
          have hq2 := st_set (.slice A2 s0.nodes.length c2) (.slice B2 s0.jobs.length e2) s0.goal s0.prior s0.mode s0.term pw
          refine held_op (i := 7) (by kernel_rfl) rfl (fun K hK => ?_)
          go_simp
          refine hK _ _ ?_ (fun hHeld7 => ?_)
          · exact HSC.out _ (hq2.below _ _ (hq1.below _ _ hx148 b134) b150)
          clear hK K hHeld6
          try simp only [Act.put, List.setIfInBounds_toArray, List.set_cons_zero, List.set_cons_succ]
          refine wpAnyH_done (by kernel_rfl) ?_ _
          refine NoPanic.normal ?_
          clear hHeld7
          go_wp2_with fail
          go_meet
          exact TwoSt.made hx148 b134 b150 (Nat.ne_of_lt ne151) r154 r156 o138 o153 o144 o155 hq1 hq2
        · go_simp
          obtain ⟨u157, hv⟩ : ∃ v, v = u135.alloc (.cells #[.slice none 0 0, .slice none 0 0, .int .i64 0, .int .i64 0, .int .i64 0, .int .i64 0] 30) := ⟨_, rfl⟩
          have y158 := Ext.made_ hv
          have pz160 := Blk.made_ hv
          have b161 : w2.heap.size ≤ u135.heap.size := hx137.size
          have hx159 : Ext w2 u157 := Ext.trans hx137 y158
          have ne162 : u0.heap.size < u135.heap.size := pz139.lt
          have pz163 := pz139.ext y158
          have o164 := offs_lt r1
          have r165 := r1.ext y158
          refine hK _ _ ?_ (fun hHeld4 => ?_)
          · rw [← hv]; exact HSC.out _ hx159
          clear hK K hHeld3
          try simp only [Act.put, List.setIfInBounds_toArray, List.set_cons_zero, List.set_cons_succ]
          rw [← hv]
          clear hv
          refine held_op (i := 3) (by kernel_rfl) rfl (fun K hK => ?_)
          go_simp
          go_at_call 9
          (with_reducible refine (HN2.out _).mono ?_)
          rintro eu166 u166 ⟨a2, b2, rfl, r2, y167, k2_⟩
          obtain ⟨A2, c2, rfl, -, -⟩ := r2.nodes.slice_
          obtain ⟨B2, e2, rfl, -, -⟩ := r2.jobs.slice_
          have hx168 : Ext w2 u166 := Ext.trans hx159 y167
          have r169 := r165.ext y167
          have o170 := offs_ge (m := s0.nodes.length) (n := s0.jobs.length) pz163 k2_
          have pz171 := pz163.ext y167
          have o172 := offs_ge (m := s0.nodes.length) (n := s0.jobs.length) pz160 k2_
          have pz173 := pz160.ext y167
          refine hK _ _ ?_ (fun hHeld5 => ?_)
          · exact HSC.out _ hx168
          clear hK K hHeld4
          try simp only [Act.put, List.setIfInBounds_toArray, List.set_cons_zero, List.set_cons_succ]
          obtain ⟨z0, z1, z2, z3, z4, z5, f0, f1, f2, f3, f4, f5⟩ := zcells pz171
          obtain ⟨V, hv, hq1⟩ := st_put (.slice A1 s0.nodes.length c1) (.slice B1 s0.jobs.length e1) s0 pz171
          refine held_op (i := 6) (by kernel_rfl) rfl (fun K hK => ?_)
          go_simp
          refine hK _ _ ?_ (fun hHeld6 => ?_)
          · rw [← hv]; exact HSC.out _ (hq1.below _ _ hx168 b134)
          clear hK K hHeld5
          try simp only [Act.put, List.setIfInBounds_toArray, List.set_cons_zero, List.set_cons_succ]
          rw [← hv]
          clear hv
          clear z0 f0 z1 f1 z2 f2 z3 f3 z4 f4 z5 f5
          have pw := Blk.trans_ (hq1.same (u135.heap.size) (Ne.symm (Nat.ne_of_lt ne162))) pz173
          obtain ⟨z0, z1, z2, z3, z4, z5, f0, f1, f2, f3, f4, f5⟩ := zcells pw
          have hq2 := st_set (.slice A2 s0.nodes.length c2) (.slice B2 s0.jobs.length e2) s0.goal s0.prior s0.mode s0.term pw
          refine held_op (i := 7) (by kernel_rfl) rfl (fun K hK => ?_)
          go_simp
          refine hK _ _ ?_ (fun hHeld7 => ?_)
          · exact HSC.out _ (hq2.below _ _ (hq1.below _ _ hx168 b134) b161)
          clear hK K hHeld6
          try simp only [Act.put, List.setIfInBounds_toArray, List.set_cons_zero, List.set_cons_succ]
          refine wpAnyH_done (by kernel_rfl) ?_ _
          refine NoPanic.normal ?_
          clear hHeld7
          go_wp2_with fail
          go_meet
          exact TwoSt.made hx168 b134 b161 (Nat.ne_of_lt ne162) r169 r2 o138 o164 o170 o172 hq1 hq2
      · go_simp
        obtain ⟨u174, hv⟩ : ∃ v, v = u130.alloc (.cells #[.slice none 0 0, .slice none 0 0, .int .i64 0, .int .i64 0, .int .i64 0, .int .i64 0] 30) := ⟨_, rfl⟩
        have y175 := Ext.made_ hv
        have pz177 := Blk.made_ hv
        have b178 : w2.heap.size ≤ u130.heap.size := hx132.size
        have hx176 : Ext w2 u174 := Ext.trans hx132 y175
        have ne179 : u0.heap.size < u130.heap.size := pz133.lt
        have pz180 := pz133.ext y175
        refine hK _ _ ?_ (fun hHeld3 => ?_)
        · rw [← hv]; exact HSC.out _ hx176
        clear hK K hHeld2
        try simp only [Act.put, List.setIfInBounds_toArray, List.set_cons_zero, List.set_cons_succ]
        rw [← hv]
        clear hv
        refine held_op (i := 1) (by kernel_rfl) rfl (fun K hK => ?_)
        go_simp
        go_at_call 8
        (with_reducible refine (HN1.out _).mono ?_)
        rintro eu181 u181 ⟨a1, b1, rfl, r1, y182, k1_⟩
        obtain ⟨A1, c1, rfl, -, -⟩ := r1.nodes.slice_
        obtain ⟨B1, e1, rfl, -, -⟩ := r1.jobs.slice_
        have hx183 : Ext w2 u181 := Ext.trans hx176 y182
        have o184 := offs_ge (m := s0.nodes.length) (n := s0.jobs.length) pz180 k1_
        have pz185 := pz180.ext y182
        have o186 := offs_ge (m := s0.nodes.length) (n := s0.jobs.length) pz177 k1_
        have pz187 := pz177.ext y182
        refine hK _ _ ?_ (fun hHeld4 => ?_)
        · exact HSC.out _ hx183
        clear hK K hHeld3
        try simp only [Act.put, List.setIfInBounds_toArray, List.set_cons_zero, List.set_cons_succ]
        refine held_op (i := 3) (by kernel_rfl) rfl (fun K hK => ?_)
        go_simp
        go_at_call 9
        (with_reducible refine (HN2.out _).mono ?_)
        rintro eu188 u188 ⟨a2, b2, rfl, r2, y189, k2_⟩
        obtain ⟨A2, c2, rfl, -, -⟩ := r2.nodes.slice_
        obtain ⟨B2, e2, rfl, -, -⟩ := r2.jobs.slice_
        have hx190 : Ext w2 u188 := Ext.trans hx183 y189
        have r191 := r1.ext y189
        have o192 := offs_ge (m := s0.nodes.length) (n := s0.jobs.length) pz185 k2_
        have pz193 := pz185.ext y189
        have o194 := offs_ge (m := s0.nodes.length) (n := s0.jobs.length) pz187 k2_
        have pz195 := pz187.ext y189
        refine hK _ _ ?_ (fun hHeld5 => ?_)
        · exact HSC.out _ hx190
        clear hK K hHeld4
        try simp only [Act.put, List.setIfInBounds_toArray, List.set_cons_zero, List.set_cons_succ]
        obtain ⟨z0, z1, z2, z3, z4, z5, f0, f1, f2, f3, f4, f5⟩ := zcells pz193
        obtain ⟨V, hv, hq1⟩ := st_put (.slice A1 s0.nodes.length c1) (.slice B1 s0.jobs.length e1) s0 pz193
        refine held_op (i := 6) (by kernel_rfl) rfl (fun K hK => ?_)
        go_simp
        refine hK _ _ ?_ (fun hHeld6 => ?_)
        · rw [← hv]; exact HSC.out _ (hq1.below _ _ hx190 b134)
        clear hK K hHeld5
        try simp only [Act.put, List.setIfInBounds_toArray, List.set_cons_zero, List.set_cons_succ]
        rw [← hv]
        clear hv
        clear z0 f0 z1 f1 z2 f2 z3 f3 z4 f4 z5 f5
        have pw := Blk.trans_ (hq1.same (u130.heap.size) (Ne.symm (Nat.ne_of_lt ne179))) pz195
        obtain ⟨z0, z1, z2, z3, z4, z5, f0, f1, f2, f3, f4, f5⟩ := zcells pw
        have hq2 := st_set (.slice A2 s0.nodes.length c2) (.slice B2 s0.jobs.length e2) s0.goal s0.prior s0.mode s0.term pw
        refine held_op (i := 7) (by kernel_rfl) rfl (fun K hK => ?_)
        go_simp
        refine hK _ _ ?_ (fun hHeld7 => ?_)
        · exact HSC.out _ (hq2.below _ _ (hq1.below _ _ hx190 b134) b178)
        clear hK K hHeld6
        try simp only [Act.put, List.setIfInBounds_toArray, List.set_cons_zero, List.set_cons_succ]
        refine wpAnyH_done (by kernel_rfl) ?_ _
        refine NoPanic.normal ?_
        clear hHeld7
        go_wp2_with fail
        go_meet
        exact TwoSt.made hx190 b134 b178 (Nat.ne_of_lt ne179) r191 r2 o184 o186 o192 o194 hq1 hq2
    · go_simp
      obtain ⟨u196, hv⟩ : ∃ v, v = u0.alloc (.cells #[.slice none 0 0, .slice none 0 0, .int .i64 0, .int .i64 0, .int .i64 0, .int .i64 0] 30) := ⟨_, rfl⟩
      have y197 := Ext.made_ hv
      have pz199 := Blk.made_ hv
      have b200 : w2.heap.size ≤ u0.heap.size := hx0.size
      have hx198 : Ext w2 u196 := Ext.trans hx0 y197
      refine hK _ _ ?_ (fun hHeld2 => ?_)
      · rw [← hv]; exact HSC.out _ hx198
      clear hK K hHeld1
      try simp only [Act.put, List.setIfInBounds_toArray, List.set_cons_zero, List.set_cons_succ]
      rw [← hv]
      clear hv
      refine held_two (i := 1) (j := 4) (by kernel_rfl) rfl rfl (fun K hK => ?_) (fun K hK => ?_)
      · go_simp
        go_at_call 8
        (with_reducible refine (HN1.out _).mono ?_)
        rintro eu201 u201 ⟨a1, b1, rfl, r1, y202, k1_⟩
        obtain ⟨A1, c1, rfl, -, -⟩ := r1.nodes.slice_
        obtain ⟨B1, e1, rfl, -, -⟩ := r1.jobs.slice_
        have hx203 : Ext w2 u201 := Ext.trans hx198 y202
        have o204 := offs_ge (m := s0.nodes.length) (n := s0.jobs.length) pz199 k1_
        have pz205 := pz199.ext y202
        refine hK _ _ ?_ (fun hHeld3 => ?_)
        · exact HSC.out _ hx203
        clear hK K hHeld2
        try simp only [Act.put, List.setIfInBounds_toArray, List.set_cons_zero, List.set_cons_succ]
        refine held_two (i := 3) (j := 4) (by kernel_rfl) rfl rfl (fun K hK => ?_) (fun K hK => ?_)
        · go_simp
          go_at_call 9
          (with_reducible refine (HN2.out _).mono ?_)
          rintro eu206 u206 ⟨a2, b2, rfl, r2, y207, k2_⟩
          obtain ⟨A2, c2, rfl, -, -⟩ := r2.nodes.slice_
          obtain ⟨B2, e2, rfl, -, -⟩ := r2.jobs.slice_
          have hx208 : Ext w2 u206 := Ext.trans hx203 y207
          have r209 := r1.ext y207
          have o210 := offs_ge (m := s0.nodes.length) (n := s0.jobs.length) pz205 k2_
          have pz211 := pz205.ext y207
          refine hK _ _ ?_ (fun hHeld4 => ?_)
          · exact HSC.out _ hx208
          clear hK K hHeld3
          try simp only [Act.put, List.setIfInBounds_toArray, List.set_cons_zero, List.set_cons_succ]
          refine held_op (i := 4) (by kernel_rfl) rfl (fun K hK => ?_)
          go_simp
          obtain ⟨u212, hv⟩ : ∃ v, v = u206.alloc (.cells #[.slice none 0 0, .slice none 0 0, .int .i64 0, .int .i64 0, .int .i64 0, .int .i64 0] 30) := ⟨_, rfl⟩
          have y213 := Ext.made_ hv
          have pz215 := Blk.made_ hv
          have b216 : w2.heap.size ≤ u206.heap.size := hx208.size
          have hx214 : Ext w2 u212 := Ext.trans hx208 y213
          have ne217 : u0.heap.size < u206.heap.size := pz211.lt
          have pz218 := pz211.ext y213
          have o219 := offs_lt r209
          have r220 := r209.ext y213
          have o221 := offs_lt r2
          have r222 := r2.ext y213
          refine hK _ _ ?_ (fun hHeld5 => ?_)
          · rw [← hv]; exact HSC.out _ hx214
          clear hK K hHeld4
          try simp only [Act.put, List.setIfInBounds_toArray, List.set_cons_zero, List.set_cons_succ]
          rw [← hv]
          clear hv
          obtain ⟨z0, z1, z2, z3, z4, z5, f0, f1, f2, f3, f4, f5⟩ := zcells pz215
          obtain ⟨V, hv, hq1⟩ := st_put (.slice A1 s0.nodes.length c1) (.slice B1 s0.jobs.length e1) s0 pz215
          refine held_op (i := 6) (by kernel_rfl) rfl (fun K hK => ?_)
          go_simp
          refine hK _ _ ?_ (fun hHeld6 => ?_)
          · rw [← hv]; exact HSC.out _ (hq1.below _ _ hx214 b216)
          clear hK K hHeld5
          try simp only [Act.put, List.setIfInBounds_toArray, List.set_cons_zero, List.set_cons_succ]
          rw [← hv]
          clear hv
          clear z0 f0 z1 f1 z2 f2 z3 f3 z4 f4 z5 f5
          have pw := Blk.trans_ (hq1.same (u0.heap.size) (Ne.symm (Nat.ne_of_gt ne217))) pz218
          obtain ⟨z0, z1, z2, z3, z4, z5, f0, f1, f2, f3, f4, f5⟩ := zcells pw
          have hq2 := st_set (.slice A2 s0.nodes.length c2) (.slice B2 s0.jobs.length e2) s0.goal s0.prior s0.mode s0.term pw
          refine held_op (i := 7) (by kernel_rfl) rfl (fun K hK => ?_)
          go_simp
          refine hK _ _ ?_ (fun hHeld7 => ?_)
          · exact HSC.out _ (hq2.below _ _ (hq1.below _ _ hx214 b216) b200)
          clear hK K hHeld6
          try simp only [Act.put, List.setIfInBounds_toArray, List.set_cons_zero, List.set_cons_succ]
          refine wpAnyH_done (by kernel_rfl) ?_ _
          refine NoPanic.normal ?_
          clear hHeld7
          go_wp2_with fail
          go_meet
          exact TwoSt.made hx214 b216 b200 (Nat.ne_of_gt ne217) r220 r222 o219 o204 o221 o210 hq1 hq2
        · go_simp
          obtain ⟨u223, hv⟩ : ∃ v, v = u201.alloc (.cells #[.slice none 0 0, .slice none 0 0, .int .i64 0, .int .i64 0, .int .i64 0, .int .i64 0] 30) := ⟨_, rfl⟩
          have y224 := Ext.made_ hv
          have pz226 := Blk.made_ hv
          have b227 : w2.heap.size ≤ u201.heap.size := hx203.size
          have hx225 : Ext w2 u223 := Ext.trans hx203 y224
          have ne228 : u0.heap.size < u201.heap.size := pz205.lt
          have pz229 := pz205.ext y224
          have o230 := offs_lt r1
          have r231 := r1.ext y224
          refine hK _ _ ?_ (fun hHeld4 => ?_)
          · rw [← hv]; exact HSC.out _ hx225
          clear hK K hHeld3
          try simp only [Act.put, List.setIfInBounds_toArray, List.set_cons_zero, List.set_cons_succ]
          rw [← hv]
          clear hv
          refine held_op (i := 3) (by kernel_rfl) rfl (fun K hK => ?_)
          go_simp
          go_at_call 9
          (with_reducible refine (HN2.out _).mono ?_)
          rintro eu232 u232 ⟨a2, b2, rfl, r2, y233, k2_⟩
          obtain ⟨A2, c2, rfl, -, -⟩ := r2.nodes.slice_
          obtain ⟨B2, e2, rfl, -, -⟩ := r2.jobs.slice_
          have hx234 : Ext w2 u232 := Ext.trans hx225 y233
          have r235 := r231.ext y233
          have o236 := offs_ge (m := s0.nodes.length) (n := s0.jobs.length) pz229 k2_
          have pz237 := pz229.ext y233
          have o238 := offs_ge (m := s0.nodes.length) (n := s0.jobs.length) pz226 k2_
          have pz239 := pz226.ext y233
          refine hK _ _ ?_ (fun hHeld5 => ?_)
          · exact HSC.out _ hx234
          clear hK K hHeld4
          try simp only [Act.put, List.setIfInBounds_toArray, List.set_cons_zero, List.set_cons_succ]
          obtain ⟨z0, z1, z2, z3, z4, z5, f0, f1, f2, f3, f4, f5⟩ := zcells pz239
          obtain ⟨V, hv, hq1⟩ := st_put (.slice A1 s0.nodes.length c1) (.slice B1 s0.jobs.length e1) s0 pz239
          refine held_op (i := 6) (by kernel_rfl) rfl (fun K hK => ?_)
          go_simp
          refine hK _ _ ?_ (fun hHeld6 => ?_)
          · rw [← hv]; exact HSC.out _ (hq1.below _ _ hx234 b227)
          clear hK K hHeld5
          try simp only [Act.put, List.setIfInBounds_toArray, List.set_cons_zero, List.set_cons_succ]
          rw [← hv]
          clear hv
          clear z0 f0 z1 f1 z2 f2 z3 f3 z4 f4 z5 f5
          have pw := Blk.trans_ (hq1.same (u0.heap.size) (Ne.symm (Nat.ne_of_gt ne228))) pz237
          obtain ⟨z0, z1, z2, z3, z4, z5, f0, f1, f2, f3, f4, f5⟩ := zcells pw
          have hq2 := st_set (.slice A2 s0.nodes.length c2) (.slice B2 s0.jobs.length e2) s0.goal s0.prior s0.mode s0.term pw
          refine held_op (i := 7) (by kernel_rfl) rfl (fun K hK => ?_)
          go_simp
          refine hK _ _ ?_ (fun hHeld7 => ?_)
          · exact HSC.out _ (hq2.below _ _ (hq1.below _ _ hx234 b227) b200)
          clear hK K hHeld6
          try simp only [Act.put, List.setIfInBounds_toArray, List.set_cons_zero, List.set_cons_succ]
          refine wpAnyH_done (by kernel_rfl) ?_ _
          refine NoPanic.normal ?_
          clear hHeld7
          go_wp2_with fail
          go_meet
          exact TwoSt.made hx234 b227 b200 (Nat.ne_of_gt ne228) r235 r2 o230 o204 o238 o236 hq1 hq2
      · go_simp
        obtain ⟨u240, hv⟩ : ∃ v, v = u196.alloc (.cells #[.slice none 0 0, .slice none 0 0, .int .i64 0, .int .i64 0, .int .i64 0, .int .i64 0] 30) := ⟨_, rfl⟩
        have y241 := Ext.made_ hv
        have pz243 := Blk.made_ hv
        have b244 : w2.heap.size ≤ u196.heap.size := hx198.size
        have hx242 : Ext w2 u240 := Ext.trans hx198 y241
        have ne245 : u0.heap.size < u196.heap.size := pz199.lt
        have pz246 := pz199.ext y241
        refine hK _ _ ?_ (fun hHeld3 => ?_)
        · rw [← hv]; exact HSC.out _ hx242
        clear hK K hHeld2
        try simp only [Act.put, List.setIfInBounds_toArray, List.set_cons_zero, List.set_cons_succ]
        rw [← hv]
        clear hv
        refine held_op (i := 1) (by kernel_rfl) rfl (fun K hK => ?_)
        go_simp
        go_at_call 8
        (with_reducible refine (HN1.out _).mono ?_)
        rintro eu247 u247 ⟨a1, b1, rfl, r1, y248, k1_⟩
        obtain ⟨A1, c1, rfl, -, -⟩ := r1.nodes.slice_
        obtain ⟨B1, e1, rfl, -, -⟩ := r1.jobs.slice_
        have hx249 : Ext w2 u247 := Ext.trans hx242 y248
        have o250 := offs_ge (m := s0.nodes.length) (n := s0.jobs.length) pz246 k1_
        have pz251 := pz246.ext y248
        have o252 := offs_ge (m := s0.nodes.length) (n := s0.jobs.length) pz243 k1_
        have pz253 := pz243.ext y248
        refine hK _ _ ?_ (fun hHeld4 => ?_)
        · exact HSC.out _ hx249
        clear hK K hHeld3
        try simp only [Act.put, List.setIfInBounds_toArray, List.set_cons_zero, List.set_cons_succ]
        refine held_op (i := 3) (by kernel_rfl) rfl (fun K hK => ?_)
        go_simp
        go_at_call 9
        (with_reducible refine (HN2.out _).mono ?_)
        rintro eu254 u254 ⟨a2, b2, rfl, r2, y255, k2_⟩
        obtain ⟨A2, c2, rfl, -, -⟩ := r2.nodes.slice_
        obtain ⟨B2, e2, rfl, -, -⟩ := r2.jobs.slice_
        have hx256 : Ext w2 u254 := Ext.trans hx249 y255
        have r257 := r1.ext y255
        have o258 := offs_ge (m := s0.nodes.length) (n := s0.jobs.length) pz251 k2_
        have pz259 := pz251.ext y255
        have o260 := offs_ge (m := s0.nodes.length) (n := s0.jobs.length) pz253 k2_
        have pz261 := pz253.ext y255
        refine hK _ _ ?_ (fun hHeld5 => ?_)
        · exact HSC.out _ hx256
        clear hK K hHeld4
        try simp only [Act.put, List.setIfInBounds_toArray, List.set_cons_zero, List.set_cons_succ]
        obtain ⟨z0, z1, z2, z3, z4, z5, f0, f1, f2, f3, f4, f5⟩ := zcells pz261
        obtain ⟨V, hv, hq1⟩ := st_put (.slice A1 s0.nodes.length c1) (.slice B1 s0.jobs.length e1) s0 pz261
        refine held_op (i := 6) (by kernel_rfl) rfl (fun K hK => ?_)
        go_simp
        refine hK _ _ ?_ (fun hHeld6 => ?_)
        · rw [← hv]; exact HSC.out _ (hq1.below _ _ hx256 b244)
        clear hK K hHeld5
        try simp only [Act.put, List.setIfInBounds_toArray, List.set_cons_zero, List.set_cons_succ]
        rw [← hv]
        clear hv
        clear z0 f0 z1 f1 z2 f2 z3 f3 z4 f4 z5 f5
        have pw := Blk.trans_ (hq1.same (u0.heap.size) (Ne.symm (Nat.ne_of_gt ne245))) pz259
        obtain ⟨z0, z1, z2, z3, z4, z5, f0, f1, f2, f3, f4, f5⟩ := zcells pw
        have hq2 := st_set (.slice A2 s0.nodes.length c2) (.slice B2 s0.jobs.length e2) s0.goal s0.prior s0.mode s0.term pw
        refine held_op (i := 7) (by kernel_rfl) rfl (fun K hK => ?_)
        go_simp
        refine hK _ _ ?_ (fun hHeld7 => ?_)
        · exact HSC.out _ (hq2.below _ _ (hq1.below _ _ hx256 b244) b200)
        clear hK K hHeld6
        try simp only [Act.put, List.setIfInBounds_toArray, List.set_cons_zero, List.set_cons_succ]
        refine wpAnyH_done (by kernel_rfl) ?_ _
        refine NoPanic.normal ?_
        clear hHeld7
        go_wp2_with fail
        go_meet
        exact TwoSt.made hx256 b244 b200 (Nat.ne_of_gt ne245) r257 r2 o252 o250 o260 o258 hq1 hq2
  case rest =>
    obtain ⟨g7, g8, vn, vj, un, uj, rfl, rfl, h7, h8, hne, hxr, hs, ht, -, -, o7n, o7j⟩ := hcut.out
    have HGG : Hid (w.heap.size < g7 ∧ w.heap.size < g8 ∧ g7 ≠ g8) := Lib.hid (by have := HB3.out.lt; omega)
    have HK0 : Hid (KR2 w c s0 g7 g8 wc) := Lib.hid ⟨⟨vn, vj, un, uj, HX3.out.trans hxr, HB3.out.ext hxr, hs, ht, o7n, o7j, HR0.out⟩⟩
    clear hcut h7 h8 hne hxr hs ht o7n o7j HX3 HB3 HR0 HNEW HSC HN1 HN2
    go_wp2_with fail
    go_loopg [9] l.length (fun gg i wr => ∃ (q : Nat) (s : St), i = .int .i64 q ∧ q ≤ l.length ∧ gg = l.length - q ∧ Hid (KR2 w c s g7 g8 wr))
    case atStart => exact ⟨0, s0, rfl, Nat.zero_le _, by omega, HK0⟩
    case round =>
      clear HK0
      obtain ⟨q, s, rfl, hq, rfl, HK⟩ := hrel
      obtain ⟨wo, rfl⟩ : ∃ wo : World, wo = wr := ⟨_, rfl⟩
      by_cases hlt : q < l.length
      · have d1 : decide ((q : Int) < (l.length : Int)) = true := decide_eq_true (by omega)
        have d1' : decide (q < l.length) = true := decide_eq_true hlt
        obtain ⟨vn, vj, un, uj, hxr, hbc, hsa, hsb, o7n, o7j, hR⟩ := HK.out.out
        obtain ⟨An, cn, rfl, -, -⟩ := hsa.rd.nodes.slice_
        obtain ⟨Aj, cj, rfl, -, -⟩ := hsa.rd.jobs.slice_
        obtain ⟨Dn, fn, rfl, -, -⟩ := hsb.rd.nodes.slice_
        obtain ⟨Dj, fj, rfl, -, -⟩ := hsb.rd.jobs.slice_
        obtain ⟨⟨z, a1, a2, a3, a4, a5, a6⟩, hop⟩ : ∃ o, l[q]? = some o := ⟨_, List.getElem?_eq_getElem hlt⟩
        obtain ⟨b, o, rfl, hb, hat⟩ := HAT.out q _ hop
        obtain ⟨o0, o1, o2, o3, o4, o5, o6⟩ := hat.low hxr hb
        dsimp only at o0 o1 o2 o3 o4 o5 o6
        obtain ⟨⟨t, er⟩, hap⟩ : ∃ r, r = applyS c s (z, a1, a2, a3, a4, a5, a6) := ⟨_, rfl⟩
        have x1 : (0 : Int) ≤ (q : Int) ∧ (q : Int) < (l.length : Int) := by omega
        have HSC : Hid (∀ W, Ext wo W → W.cell? ⟨w.heap.size, 0, none⟩ = some (.int .i64 c.nodes) ∧ W.cell? ⟨w.heap.size, 1, none⟩ = some (.int .i64 c.queues) ∧ W.cell? ⟨w.heap.size, 2, none⟩ = some (.int .i64 c.quota) ∧ W.cell? ⟨w.heap.size, 3, none⟩ = some (.int .i64 c.wave) ∧ W.cell? ⟨w.heap.size, 4, none⟩ = some (.int .i64 c.lease) ∧ W.cell? ⟨w.heap.size, 5, none⟩ = some (.int .i64 c.retry) ∧ W.cell? ⟨w.heap.size, 6, none⟩ = some (.int .i64 c.deadline) ∧ W.cell? ⟨w.heap.size, 7, none⟩ = some (.int .i64 c.room) ∧ W.cell? ⟨w.heap.size, 8, none⟩ = some (.int .i64 c.disk) ∧ W.cell? ⟨g7, 0, none⟩ = some (.slice An s.nodes.length cn) ∧ W.cell? ⟨g7, 1, none⟩ = some (.slice Aj s.jobs.length cj) ∧ W.cell? ⟨g7, 2, none⟩ = some (.int .i64 s.goal) ∧ W.cell? ⟨g7, 3, none⟩ = some (.int .i64 s.prior) ∧ W.cell? ⟨g7, 4, none⟩ = some (.int .i64 s.mode) ∧ W.cell? ⟨g7, 5, none⟩ = some (.int .i64 s.term) ∧ W.cell? ⟨b, o + q * 7, none⟩ = some (.int .i64 z) ∧ W.cell? ⟨b, o + q * 7 + 1, none⟩ = some (.int .i64 a1) ∧ W.cell? ⟨b, o + q * 7 + 2, none⟩ = some (.int .i64 a2) ∧ W.cell? ⟨b, o + q * 7 + 3, none⟩ = some (.int .i64 a3) ∧ W.cell? ⟨b, o + q * 7 + 4, none⟩ = some (.int .i64 a4) ∧ W.cell? ⟨b, o + q * 7 + 5, none⟩ = some (.int .i64 a5) ∧ W.cell? ⟨b, o + q * 7 + 6, none⟩ = some (.int .i64 a6)) := Lib.hid fun W hx => ⟨(hbc.ext hx).cell 0, (hbc.ext hx).cell 1, (hbc.ext hx).cell 2, (hbc.ext hx).cell 3, (hbc.ext hx).cell 4, (hbc.ext hx).cell 5, (hbc.ext hx).cell 6, (hbc.ext hx).cell 7, (hbc.ext hx).cell 8, (hsa.blk.ext hx).cell 0, (hsa.blk.ext hx).cell 1, (hsa.blk.ext hx).cell 2, (hsa.blk.ext hx).cell 3, (hsa.blk.ext hx).cell 4, (hsa.blk.ext hx).cell 5, hx.cellOf o0 (Nat.lt_of_lt_of_le hb hxr.size), hx.cellOf o1 (Nat.lt_of_lt_of_le hb hxr.size), hx.cellOf o2 (Nat.lt_of_lt_of_le hb hxr.size), hx.cellOf o3 (Nat.lt_of_lt_of_le hb hxr.size), hx.cellOf o4 (Nat.lt_of_lt_of_le hb hxr.size), hx.cellOf o5 (Nat.lt_of_lt_of_le hb hxr.size), hx.cellOf o6 (Nat.lt_of_lt_of_le hb hxr.size)⟩
        have HSC2 : Hid (∀ W, Ext wo W → W.cell? ⟨w.heap.size, 0, none⟩ = some (.int .i64 c.nodes) ∧ W.cell? ⟨w.heap.size, 1, none⟩ = some (.int .i64 c.queues) ∧ W.cell? ⟨w.heap.size, 2, none⟩ = some (.int .i64 c.quota) ∧ W.cell? ⟨w.heap.size, 3, none⟩ = some (.int .i64 c.wave) ∧ W.cell? ⟨w.heap.size, 4, none⟩ = some (.int .i64 c.lease) ∧ W.cell? ⟨w.heap.size, 5, none⟩ = some (.int .i64 c.retry) ∧ W.cell? ⟨w.heap.size, 6, none⟩ = some (.int .i64 c.deadline) ∧ W.cell? ⟨w.heap.size, 7, none⟩ = some (.int .i64 c.room) ∧ W.cell? ⟨w.heap.size, 8, none⟩ = some (.int .i64 c.disk) ∧ W.cell? ⟨g8, 0, none⟩ = some (.slice Dn s.nodes.length fn) ∧ W.cell? ⟨g8, 1, none⟩ = some (.slice Dj s.jobs.length fj) ∧ W.cell? ⟨g8, 2, none⟩ = some (.int .i64 s.goal) ∧ W.cell? ⟨g8, 3, none⟩ = some (.int .i64 s.prior) ∧ W.cell? ⟨g8, 4, none⟩ = some (.int .i64 s.mode) ∧ W.cell? ⟨g8, 5, none⟩ = some (.int .i64 s.term) ∧ W.cell? ⟨b, o + q * 7, none⟩ = some (.int .i64 z) ∧ W.cell? ⟨b, o + q * 7 + 1, none⟩ = some (.int .i64 a1) ∧ W.cell? ⟨b, o + q * 7 + 2, none⟩ = some (.int .i64 a2) ∧ W.cell? ⟨b, o + q * 7 + 3, none⟩ = some (.int .i64 a3) ∧ W.cell? ⟨b, o + q * 7 + 4, none⟩ = some (.int .i64 a4) ∧ W.cell? ⟨b, o + q * 7 + 5, none⟩ = some (.int .i64 a5) ∧ W.cell? ⟨b, o + q * 7 + 6, none⟩ = some (.int .i64 a6)) := Lib.hid fun W hx => ⟨(hbc.ext hx).cell 0, (hbc.ext hx).cell 1, (hbc.ext hx).cell 2, (hbc.ext hx).cell 3, (hbc.ext hx).cell 4, (hbc.ext hx).cell 5, (hbc.ext hx).cell 6, (hbc.ext hx).cell 7, (hbc.ext hx).cell 8, (hsb.blk.ext hx).cell 0, (hsb.blk.ext hx).cell 1, (hsb.blk.ext hx).cell 2, (hsb.blk.ext hx).cell 3, (hsb.blk.ext hx).cell 4, (hsb.blk.ext hx).cell 5, hx.cellOf o0 (Nat.lt_of_lt_of_le hb hxr.size), hx.cellOf o1 (Nat.lt_of_lt_of_le hb hxr.size), hx.cellOf o2 (Nat.lt_of_lt_of_le hb hxr.size), hx.cellOf o3 (Nat.lt_of_lt_of_le hb hxr.size), hx.cellOf o4 (Nat.lt_of_lt_of_le hb hxr.size), hx.cellOf o5 (Nat.lt_of_lt_of_le hb hxr.size), hx.cellOf o6 (Nat.lt_of_lt_of_le hb hxr.size)⟩
        have HAP : Hid (∀ W, Ext wo W → Calls Tryd.prog 10 #[.agg #[.int .i64 c.nodes, .int .i64 c.queues, .int .i64 c.quota, .int .i64 c.wave, .int .i64 c.lease, .int .i64 c.retry, .int .i64 c.deadline, .int .i64 c.room, .int .i64 c.disk], .agg #[.slice An s.nodes.length cn, .slice Aj s.jobs.length cj, .int .i64 s.goal, .int .i64 s.prior, .int .i64 s.mode, .int .i64 s.term], .agg #[.int .i64 z, .int .i64 a1, .int .i64 a2, .int .i64 a3, .int .i64 a4, .int .i64 a5, .int .i64 a6]] W fun e w' => ∃ vn' vj' s' er', e = .returned (.tuple #[.agg #[vn', vj', .int .i64 s'.goal, .int .i64 s'.prior, .int .i64 s'.mode, .int .i64 s'.term], .int .i64 er']) ∧ RdSt w' vn' vj' s' ∧ Ext W w' ∧ (s', er') = (t, er) ∧ ∀ k, vn'.ownBlock = some k ∨ vj'.ownBlock = some k → W.heap.size ≤ k) := Lib.hid fun W hx => by
          refine (Apply_any c _ _ s (z, a1, a2, a3, a4, a5, a6) W (hsa.rd.ext hx) ((HL.out.ext hxr).ext hx)).mono ?_
          rintro e w' ⟨vn', vj', s', er', rfl, hr, hy, ha, -, hk⟩
          exact ⟨vn', vj', s', er', rfl, hr, hy, (ha hR).trans hap.symm, hk⟩
        have HAP2 : Hid (∀ W, Ext wo W → Calls Tryd.prog 11 #[.agg #[.int .i64 c.nodes, .int .i64 c.queues, .int .i64 c.quota, .int .i64 c.wave, .int .i64 c.lease, .int .i64 c.retry, .int .i64 c.deadline, .int .i64 c.room, .int .i64 c.disk], .agg #[.slice Dn s.nodes.length fn, .slice Dj s.jobs.length fj, .int .i64 s.goal, .int .i64 s.prior, .int .i64 s.mode, .int .i64 s.term], .agg #[.int .i64 z, .int .i64 a1, .int .i64 a2, .int .i64 a3, .int .i64 a4, .int .i64 a5, .int .i64 a6]] W fun e w' => ∃ vn' vj' s' er', e = .returned (.tuple #[.agg #[vn', vj', .int .i64 s'.goal, .int .i64 s'.prior, .int .i64 s'.mode, .int .i64 s'.term], .int .i64 er']) ∧ RdSt w' vn' vj' s' ∧ Ext W w' ∧ (s', er') = (t, er) ∧ ∀ k, vn'.ownBlock = some k ∨ vj'.ownBlock = some k → W.heap.size ≤ k) := Lib.hid fun W hx => by
          refine (RefApply_own c _ _ s (z, a1, a2, a3, a4, a5, a6) W (hsb.rd.ext hx) hR).mono ?_
          rintro e w' ⟨vn', vj', rfl, hr, hy, hk⟩
          rw [← hap] at hr ⊢
          exact ⟨vn', vj', t, er, rfl, hr, hy, rfl, hk⟩
        have HRT : Hid (RightP c t) := Lib.hid (by have := hR.apply (z, a1, a2, a3, a4, a5, a6); rw [← hap] at this; exact this)
        have HXR := Lib.hid hxr
        have HBR := Lib.hid hbc
        have HSA := Lib.hid hsa
        have HSB := Lib.hid hsb
        have HLT := Lib.hid hlt
        have HON := Lib.hid o7n
        have HOJ := Lib.hid o7j
        clear hop hat hxr hbc hsa hsb hR hap hlt HK o0 o1 o2 o3 o4 o5 o6 hb o7n o7j
        go_wp2_with fail
        go_cut [10, 11] (fun p e wx => ApCut wo (t, er) p e wx)
        case first =>
          refine held_begin (by kernel_rfl) ?_
          have hHeld0 : True := True.intro
          refine held_more (S' := fun (W : World) => W.cell? ⟨w.heap.size, 0, none⟩ = some (.int .i64 c.nodes) ∧ W.cell? ⟨w.heap.size, 1, none⟩ = some (.int .i64 c.queues) ∧ W.cell? ⟨w.heap.size, 2, none⟩ = some (.int .i64 c.quota) ∧ W.cell? ⟨w.heap.size, 3, none⟩ = some (.int .i64 c.wave) ∧ W.cell? ⟨w.heap.size, 4, none⟩ = some (.int .i64 c.lease) ∧ W.cell? ⟨w.heap.size, 5, none⟩ = some (.int .i64 c.retry) ∧ W.cell? ⟨w.heap.size, 6, none⟩ = some (.int .i64 c.deadline) ∧ W.cell? ⟨w.heap.size, 7, none⟩ = some (.int .i64 c.room) ∧ W.cell? ⟨w.heap.size, 8, none⟩ = some (.int .i64 c.disk) ∧ W.cell? ⟨g7, 0, none⟩ = some (.slice An s.nodes.length cn) ∧ W.cell? ⟨g7, 1, none⟩ = some (.slice Aj s.jobs.length cj) ∧ W.cell? ⟨g7, 2, none⟩ = some (.int .i64 s.goal) ∧ W.cell? ⟨g7, 3, none⟩ = some (.int .i64 s.prior) ∧ W.cell? ⟨g7, 4, none⟩ = some (.int .i64 s.mode) ∧ W.cell? ⟨g7, 5, none⟩ = some (.int .i64 s.term) ∧ W.cell? ⟨b, o + q * 7, none⟩ = some (.int .i64 z) ∧ W.cell? ⟨b, o + q * 7 + 1, none⟩ = some (.int .i64 a1) ∧ W.cell? ⟨b, o + q * 7 + 2, none⟩ = some (.int .i64 a2) ∧ W.cell? ⟨b, o + q * 7 + 3, none⟩ = some (.int .i64 a3) ∧ W.cell? ⟨b, o + q * 7 + 4, none⟩ = some (.int .i64 a4) ∧ W.cell? ⟨b, o + q * 7 + 5, none⟩ = some (.int .i64 a5) ∧ W.cell? ⟨b, o + q * 7 + 6, none⟩ = some (.int .i64 a6)) (fun _ _ => True.intro) ?_
          have hHeld1 : (fun (W : World) => W.cell? ⟨w.heap.size, 0, none⟩ = some (.int .i64 c.nodes) ∧ W.cell? ⟨w.heap.size, 1, none⟩ = some (.int .i64 c.queues) ∧ W.cell? ⟨w.heap.size, 2, none⟩ = some (.int .i64 c.quota) ∧ W.cell? ⟨w.heap.size, 3, none⟩ = some (.int .i64 c.wave) ∧ W.cell? ⟨w.heap.size, 4, none⟩ = some (.int .i64 c.lease) ∧ W.cell? ⟨w.heap.size, 5, none⟩ = some (.int .i64 c.retry) ∧ W.cell? ⟨w.heap.size, 6, none⟩ = some (.int .i64 c.deadline) ∧ W.cell? ⟨w.heap.size, 7, none⟩ = some (.int .i64 c.room) ∧ W.cell? ⟨w.heap.size, 8, none⟩ = some (.int .i64 c.disk) ∧ W.cell? ⟨g7, 0, none⟩ = some (.slice An s.nodes.length cn) ∧ W.cell? ⟨g7, 1, none⟩ = some (.slice Aj s.jobs.length cj) ∧ W.cell? ⟨g7, 2, none⟩ = some (.int .i64 s.goal) ∧ W.cell? ⟨g7, 3, none⟩ = some (.int .i64 s.prior) ∧ W.cell? ⟨g7, 4, none⟩ = some (.int .i64 s.mode) ∧ W.cell? ⟨g7, 5, none⟩ = some (.int .i64 s.term) ∧ W.cell? ⟨b, o + q * 7, none⟩ = some (.int .i64 z) ∧ W.cell? ⟨b, o + q * 7 + 1, none⟩ = some (.int .i64 a1) ∧ W.cell? ⟨b, o + q * 7 + 2, none⟩ = some (.int .i64 a2) ∧ W.cell? ⟨b, o + q * 7 + 3, none⟩ = some (.int .i64 a3) ∧ W.cell? ⟨b, o + q * 7 + 4, none⟩ = some (.int .i64 a4) ∧ W.cell? ⟨b, o + q * 7 + 5, none⟩ = some (.int .i64 a5) ∧ W.cell? ⟨b, o + q * 7 + 6, none⟩ = some (.int .i64 a6)) _ := HSC.out _ (by first | exact Ext.refl _ | exact ext_drew9 (Ext.refl _) | exact Below.alloc (Ext.refl _) (Nat.le_refl _) _ | exact Below.alloc (ext_drew9 (Ext.refl _)) (Nat.le_refl _) _ | exact ext_drew9 (Below.alloc (Ext.refl _) (Nat.le_refl _) _))
          clear hHeld0
          refine held_take (i := 0) (v := ?_) rfl (by kernel_rfl) (by kernel_rfl) (by kernel_rfl) (by rfl) (by first | assumption | exact True.intro) ?_ ?_
          rotate_left
          · (intro w hSw; (try dsimp only at hSw); go_simp; (try with_reducible rfl))
          try simp only [Act.put, List.setIfInBounds_toArray, List.set_cons_zero, List.set_cons_succ]
          refine held_take (i := 1) (v := ?_) rfl (by kernel_rfl) (by kernel_rfl) (by kernel_rfl) (by rfl) (by first | assumption | exact True.intro) ?_ ?_
          rotate_left
          · (intro w hSw; (try dsimp only at hSw); go_simp; (try with_reducible rfl))
          try simp only [Act.put, List.setIfInBounds_toArray, List.set_cons_zero, List.set_cons_succ]
          refine held_take (i := 2) (v := ?_) rfl (by kernel_rfl) (by kernel_rfl) (by kernel_rfl) (by rfl) (by first | assumption | exact True.intro) ?_ ?_
          rotate_left
          · (intro w hSw; (try dsimp only at hSw); go_simp; (try with_reducible rfl))
          try simp only [Act.put, List.setIfInBounds_toArray, List.set_cons_zero, List.set_cons_succ]
          refine held_take (i := 3) (v := ?_) rfl (by kernel_rfl) (by kernel_rfl) (by kernel_rfl) (by rfl) (by first | assumption | exact True.intro) ?_ ?_
          rotate_left
          · (intro w hSw; (try dsimp only at hSw); go_simp; (try with_reducible rfl))
          try simp only [Act.put, List.setIfInBounds_toArray, List.set_cons_zero, List.set_cons_succ]
          refine held_take (i := 4) (v := ?_) rfl (by kernel_rfl) (by kernel_rfl) (by kernel_rfl) (by rfl) (by first | assumption | exact True.intro) ?_ ?_
          rotate_left
          · (intro w hSw; (try dsimp only at hSw); go_simp; (try with_reducible rfl))
          try simp only [Act.put, List.setIfInBounds_toArray, List.set_cons_zero, List.set_cons_succ]
          refine held_take (i := 5) (v := ?_) rfl (by kernel_rfl) (by kernel_rfl) (by kernel_rfl) (by rfl) (by first | assumption | exact True.intro) ?_ ?_
          rotate_left
          · (intro w hSw; (try dsimp only at hSw); go_simp; (try with_reducible rfl))
          try simp only [Act.put, List.setIfInBounds_toArray, List.set_cons_zero, List.set_cons_succ]
          refine held_two (i := 6) (j := 10) (by kernel_rfl) rfl rfl (fun K hK => ?_) (fun K hK => ?_)
          · go_simp
            go_at_call 10
            (refine (HAP.out _ (by first | exact Ext.refl _ | exact ext_drew9 (Ext.refl _) | exact Below.alloc (Ext.refl _) (Nat.le_refl _) _ | exact Below.alloc (ext_drew9 (Ext.refl _)) (Nat.le_refl _) _ | exact ext_drew9 (Below.alloc (Ext.refl _) (Nat.le_refl _) _))).mono ?_)
            rintro e3 w3 ⟨vn3, vj3, s3, er3, rfl, hr3, hx3, ha3, hf3⟩
            obtain ⟨A3, c3, rfl, -, -⟩ := hr3.nodes.slice_
            obtain ⟨B3, k3, rfl, -, -⟩ := hr3.jobs.slice_
            have hx13 : Ext wo w3 := (by first | exact hx3 | exact Ext.of_drew hx3 | exact Ext.trans (Below.alloc (Ext.refl _) (Nat.le_refl _) _) hx3 | exact Ext.trans (Below.alloc (ext_drew9 (Ext.refl _)) (Nat.le_refl _) _) hx3 | exact Ext.trans (ext_drew9 (Below.alloc (Ext.refl _) (Nat.le_refl _) _)) hx3)
            refine hK _ _ ?_ (fun hHeld2 => ?_)
            · exact HSC.out _ hx13
            clear hK K hHeld1
            try simp only [Act.put, List.setIfInBounds_toArray, List.set_cons_zero, List.set_cons_succ]
            refine held_take (i := 7) (v := ?_) rfl (by kernel_rfl) (by kernel_rfl) (by kernel_rfl) (by rfl) (by first | assumption | exact True.intro) ?_ ?_
            rotate_left
            · (intro w hSw; (try dsimp only at hSw); go_simp; (try with_reducible rfl))
            try simp only [Act.put, List.setIfInBounds_toArray, List.set_cons_zero, List.set_cons_succ]
            refine held_take (i := 8) (v := ?_) rfl (by kernel_rfl) (by kernel_rfl) (by kernel_rfl) (by rfl) (by first | assumption | exact True.intro) ?_ ?_
            rotate_left
            · (intro w hSw; (try dsimp only at hSw); go_simp; (try with_reducible rfl))
            try simp only [Act.put, List.setIfInBounds_toArray, List.set_cons_zero, List.set_cons_succ]
            refine held_take (i := 9) (v := ?_) rfl (by kernel_rfl) (by kernel_rfl) (by kernel_rfl) (by rfl) (by first | assumption | exact True.intro) ?_ ?_
            rotate_left
            · (intro w hSw; (try dsimp only at hSw); go_simp; (try with_reducible rfl))
            try simp only [Act.put, List.setIfInBounds_toArray, List.set_cons_zero, List.set_cons_succ]
            refine held_op (i := 10) (by kernel_rfl) rfl (fun K hK => ?_)
            go_simp
            refine hK _ _ ?_ (fun hHeld3 => ?_)
            · exact HSC.out _ (Ext.trans hx13 (by first | exact Ext.refl _ | exact ext_drew9 (Ext.refl _) | exact Below.alloc (Ext.refl _) (Nat.le_refl _) _ | exact Below.alloc (ext_drew9 (Ext.refl _)) (Nat.le_refl _) _ | exact ext_drew9 (Below.alloc (Ext.refl _) (Nat.le_refl _) _)))
            clear hK K hHeld2
            try simp only [Act.put, List.setIfInBounds_toArray, List.set_cons_zero, List.set_cons_succ]
            refine held_op (i := 11) (by kernel_rfl) rfl (fun K hK => ?_)
            go_simp
            refine hK _ _ ?_ (fun hHeld4 => ?_)
            · exact HSC.out _ (Ext.trans hx13 (by first | exact Ext.refl _ | exact ext_drew9 (Ext.refl _) | exact Below.alloc (Ext.refl _) (Nat.le_refl _) _ | exact Below.alloc (ext_drew9 (Ext.refl _)) (Nat.le_refl _) _ | exact ext_drew9 (Below.alloc (Ext.refl _) (Nat.le_refl _) _)))
            clear hK K hHeld3
            try simp only [Act.put, List.setIfInBounds_toArray, List.set_cons_zero, List.set_cons_succ]
            refine held_take (i := 12) (v := ?_) rfl (by kernel_rfl) (by kernel_rfl) (by kernel_rfl) (by rfl) (by first | assumption | exact True.intro) ?_ ?_
            rotate_left
            · (intro w hSw; (try dsimp only at hSw); go_simp; (try with_reducible rfl))
            try simp only [Act.put, List.setIfInBounds_toArray, List.set_cons_zero, List.set_cons_succ]
            refine wpAnyH_done (by kernel_rfl) ?_ _
            refine NoPanic.normal ?_
            clear hHeld4
            go_wp2_with fail
            go_meet
            cases ha3
            exact ApCut.made hx13 hr3 (fun k hk => Nat.le_trans (by (try simp); (try omega)) (hf3 k hk))
          · go_simp
            refine hK _ _ ?_ (fun hHeld2 => ?_)
            · exact HSC.out _ (by first | exact Ext.refl _ | exact ext_drew9 (Ext.refl _) | exact Below.alloc (Ext.refl _) (Nat.le_refl _) _ | exact Below.alloc (ext_drew9 (Ext.refl _)) (Nat.le_refl _) _ | exact ext_drew9 (Below.alloc (Ext.refl _) (Nat.le_refl _) _))
            clear hK K hHeld1
            try simp only [Act.put, List.setIfInBounds_toArray, List.set_cons_zero, List.set_cons_succ]
            refine held_op (i := 6) (by kernel_rfl) rfl (fun K hK => ?_)
            go_simp
            go_at_call 10
            (refine (HAP.out _ (by first | exact Ext.refl _ | exact ext_drew9 (Ext.refl _) | exact Below.alloc (Ext.refl _) (Nat.le_refl _) _ | exact Below.alloc (ext_drew9 (Ext.refl _)) (Nat.le_refl _) _ | exact ext_drew9 (Below.alloc (Ext.refl _) (Nat.le_refl _) _))).mono ?_)
            rintro e3 w3 ⟨vn3, vj3, s3, er3, rfl, hr3, hx3, ha3, hf3⟩
            obtain ⟨A3, c3, rfl, -, -⟩ := hr3.nodes.slice_
            obtain ⟨B3, k3, rfl, -, -⟩ := hr3.jobs.slice_
            have hx13 : Ext wo w3 := (by first | exact hx3 | exact Ext.of_drew hx3 | exact Ext.trans (Below.alloc (Ext.refl _) (Nat.le_refl _) _) hx3 | exact Ext.trans (Below.alloc (ext_drew9 (Ext.refl _)) (Nat.le_refl _) _) hx3 | exact Ext.trans (ext_drew9 (Below.alloc (Ext.refl _) (Nat.le_refl _) _)) hx3)
            refine hK _ _ ?_ (fun hHeld3 => ?_)
            · exact HSC.out _ hx13
            clear hK K hHeld2
            try simp only [Act.put, List.setIfInBounds_toArray, List.set_cons_zero, List.set_cons_succ]
            have pb : Blk w3 wo.heap.size 30 #[.slice none 0 0, .slice none 0 0, .int .i64 0, .int .i64 0, .int .i64 0, .int .i64 0] := Blk.ext (by first | exact Blk.new wo _ _ | exact Blk.new wo.drew _ _) hx3
            have pbz0 : w3.cell? ⟨wo.heap.size, 0, none⟩ = some (.slice none 0 0) := pb.cell 0
            have pbf0 : w3.frozen? ⟨wo.heap.size, 0, none⟩ = false := pb.frozen 0
            have pbz1 : w3.cell? ⟨wo.heap.size, 1, none⟩ = some (.slice none 0 0) := pb.cell 1
            have pbf1 : w3.frozen? ⟨wo.heap.size, 1, none⟩ = false := pb.frozen 1
            have pbz2 : w3.cell? ⟨wo.heap.size, 2, none⟩ = some (.int .i64 0) := pb.cell 2
            have pbf2 : w3.frozen? ⟨wo.heap.size, 2, none⟩ = false := pb.frozen 2
            have pbz3 : w3.cell? ⟨wo.heap.size, 3, none⟩ = some (.int .i64 0) := pb.cell 3
            have pbf3 : w3.frozen? ⟨wo.heap.size, 3, none⟩ = false := pb.frozen 3
            have pbz4 : w3.cell? ⟨wo.heap.size, 4, none⟩ = some (.int .i64 0) := pb.cell 4
            have pbf4 : w3.frozen? ⟨wo.heap.size, 4, none⟩ = false := pb.frozen 4
            have pbz5 : w3.cell? ⟨wo.heap.size, 5, none⟩ = some (.int .i64 0) := pb.cell 5
            have pbf5 : w3.frozen? ⟨wo.heap.size, 5, none⟩ = false := pb.frozen 5
            have hq := st_set (.slice A3 s3.nodes.length c3) (.slice B3 s3.jobs.length k3) s3.goal s3.prior s3.mode s3.term pb
            refine held_take (i := 7) (v := ?_) rfl (by kernel_rfl) (by kernel_rfl) (by kernel_rfl) (by rfl) (by first | assumption | exact True.intro) ?_ ?_
            rotate_left
            · (intro w hSw; (try dsimp only at hSw); go_simp; (try with_reducible rfl))
            try simp only [Act.put, List.setIfInBounds_toArray, List.set_cons_zero, List.set_cons_succ]
            refine held_take (i := 8) (v := ?_) rfl (by kernel_rfl) (by kernel_rfl) (by kernel_rfl) (by rfl) (by first | assumption | exact True.intro) ?_ ?_
            rotate_left
            · (intro w hSw; (try dsimp only at hSw); go_simp; (try with_reducible rfl))
            try simp only [Act.put, List.setIfInBounds_toArray, List.set_cons_zero, List.set_cons_succ]
            refine held_take (i := 9) (v := ?_) rfl (by kernel_rfl) (by kernel_rfl) (by kernel_rfl) (by rfl) (by first | assumption | exact True.intro) ?_ ?_
            rotate_left
            · (intro w hSw; (try dsimp only at hSw); go_simp; (try with_reducible rfl))
            try simp only [Act.put, List.setIfInBounds_toArray, List.set_cons_zero, List.set_cons_succ]
            refine held_op (i := 11) (by kernel_rfl) rfl (fun K hK => ?_)
            go_simp
            refine hK _ _ ?_ (fun hHeld4 => ?_)
            · exact HSC.out _ (hq.below _ _ hx13 (Nat.le_refl _))
            clear hK K hHeld3
            try simp only [Act.put, List.setIfInBounds_toArray, List.set_cons_zero, List.set_cons_succ]
            refine held_take (i := 12) (v := ?_) rfl (by kernel_rfl) (by kernel_rfl) (by kernel_rfl) (by rfl) (by first | assumption | exact True.intro) ?_ ?_
            rotate_left
            · (intro w hSw; (try dsimp only at hSw); go_simp; (try with_reducible rfl))
            try simp only [Act.put, List.setIfInBounds_toArray, List.set_cons_zero, List.set_cons_succ]
            refine wpAnyH_done (by kernel_rfl) ?_ _
            refine NoPanic.normal ?_
            clear hHeld4
            go_wp2_with fail
            go_meet
            cases ha3
            exact ApCut.ahead hx13 hr3 hq (fun k hk => by have := hf3 k hk; simp at this; omega)
        case rest =>
          obtain ⟨gx, xn, xj, rfl, rfl, hgx, hxx, hsx, hkx⟩ := hcut.out
          dsimp only at hsx hkx
          obtain ⟨wx, rfl⟩ : ∃ wx : World, wx = wc := ⟨_, rfl⟩
          obtain ⟨Xn, pn, rfl, -, -⟩ := hsx.rd.nodes.slice_
          obtain ⟨Xj, pj, rfl, -, -⟩ := hsx.rd.jobs.slice_
          have HXX := Lib.hid hxx
          have HSX := Lib.hid hsx
          have HGX := Lib.hid hgx
          have HKX := Lib.hid hkx
          have HSD : Hid (∀ W, Ext wx W → W.cell? ⟨w.heap.size, 0, none⟩ = some (.int .i64 c.nodes) ∧ W.cell? ⟨w.heap.size, 1, none⟩ = some (.int .i64 c.queues) ∧ W.cell? ⟨w.heap.size, 2, none⟩ = some (.int .i64 c.quota) ∧ W.cell? ⟨w.heap.size, 3, none⟩ = some (.int .i64 c.wave) ∧ W.cell? ⟨w.heap.size, 4, none⟩ = some (.int .i64 c.lease) ∧ W.cell? ⟨w.heap.size, 5, none⟩ = some (.int .i64 c.retry) ∧ W.cell? ⟨w.heap.size, 6, none⟩ = some (.int .i64 c.deadline) ∧ W.cell? ⟨w.heap.size, 7, none⟩ = some (.int .i64 c.room) ∧ W.cell? ⟨w.heap.size, 8, none⟩ = some (.int .i64 c.disk) ∧ W.cell? ⟨g8, 0, none⟩ = some (.slice Dn s.nodes.length fn) ∧ W.cell? ⟨g8, 1, none⟩ = some (.slice Dj s.jobs.length fj) ∧ W.cell? ⟨g8, 2, none⟩ = some (.int .i64 s.goal) ∧ W.cell? ⟨g8, 3, none⟩ = some (.int .i64 s.prior) ∧ W.cell? ⟨g8, 4, none⟩ = some (.int .i64 s.mode) ∧ W.cell? ⟨g8, 5, none⟩ = some (.int .i64 s.term) ∧ W.cell? ⟨b, o + q * 7, none⟩ = some (.int .i64 z) ∧ W.cell? ⟨b, o + q * 7 + 1, none⟩ = some (.int .i64 a1) ∧ W.cell? ⟨b, o + q * 7 + 2, none⟩ = some (.int .i64 a2) ∧ W.cell? ⟨b, o + q * 7 + 3, none⟩ = some (.int .i64 a3) ∧ W.cell? ⟨b, o + q * 7 + 4, none⟩ = some (.int .i64 a4) ∧ W.cell? ⟨b, o + q * 7 + 5, none⟩ = some (.int .i64 a5) ∧ W.cell? ⟨b, o + q * 7 + 6, none⟩ = some (.int .i64 a6)) := Lib.hid fun W hx => HSC2.out W (hxx.trans hx)
          have HAQ : Hid (∀ W, Ext wx W → Calls Tryd.prog 11 #[.agg #[.int .i64 c.nodes, .int .i64 c.queues, .int .i64 c.quota, .int .i64 c.wave, .int .i64 c.lease, .int .i64 c.retry, .int .i64 c.deadline, .int .i64 c.room, .int .i64 c.disk], .agg #[.slice Dn s.nodes.length fn, .slice Dj s.jobs.length fj, .int .i64 s.goal, .int .i64 s.prior, .int .i64 s.mode, .int .i64 s.term], .agg #[.int .i64 z, .int .i64 a1, .int .i64 a2, .int .i64 a3, .int .i64 a4, .int .i64 a5, .int .i64 a6]] W fun e w' => ∃ vn' vj' s' er', e = .returned (.tuple #[.agg #[vn', vj', .int .i64 s'.goal, .int .i64 s'.prior, .int .i64 s'.mode, .int .i64 s'.term], .int .i64 er']) ∧ RdSt w' vn' vj' s' ∧ Ext W w' ∧ (s', er') = (t, er) ∧ ∀ k, vn'.ownBlock = some k ∨ vj'.ownBlock = some k → W.heap.size ≤ k) := Lib.hid fun W hx => HAP2.out W (hxx.trans hx)
          clear hcut hgx hxx hsx hkx HSC HSC2 HAP HAP2
          go_wp2_with fail
          go_cut [12, 13] (fun p e wy => ApCut wx (t, er) p e wy)
          case first =>
            refine held_begin (by kernel_rfl) ?_
            have hHeld0 : True := True.intro
            refine held_more (S' := fun (W : World) => W.cell? ⟨w.heap.size, 0, none⟩ = some (.int .i64 c.nodes) ∧ W.cell? ⟨w.heap.size, 1, none⟩ = some (.int .i64 c.queues) ∧ W.cell? ⟨w.heap.size, 2, none⟩ = some (.int .i64 c.quota) ∧ W.cell? ⟨w.heap.size, 3, none⟩ = some (.int .i64 c.wave) ∧ W.cell? ⟨w.heap.size, 4, none⟩ = some (.int .i64 c.lease) ∧ W.cell? ⟨w.heap.size, 5, none⟩ = some (.int .i64 c.retry) ∧ W.cell? ⟨w.heap.size, 6, none⟩ = some (.int .i64 c.deadline) ∧ W.cell? ⟨w.heap.size, 7, none⟩ = some (.int .i64 c.room) ∧ W.cell? ⟨w.heap.size, 8, none⟩ = some (.int .i64 c.disk) ∧ W.cell? ⟨g8, 0, none⟩ = some (.slice Dn s.nodes.length fn) ∧ W.cell? ⟨g8, 1, none⟩ = some (.slice Dj s.jobs.length fj) ∧ W.cell? ⟨g8, 2, none⟩ = some (.int .i64 s.goal) ∧ W.cell? ⟨g8, 3, none⟩ = some (.int .i64 s.prior) ∧ W.cell? ⟨g8, 4, none⟩ = some (.int .i64 s.mode) ∧ W.cell? ⟨g8, 5, none⟩ = some (.int .i64 s.term) ∧ W.cell? ⟨b, o + q * 7, none⟩ = some (.int .i64 z) ∧ W.cell? ⟨b, o + q * 7 + 1, none⟩ = some (.int .i64 a1) ∧ W.cell? ⟨b, o + q * 7 + 2, none⟩ = some (.int .i64 a2) ∧ W.cell? ⟨b, o + q * 7 + 3, none⟩ = some (.int .i64 a3) ∧ W.cell? ⟨b, o + q * 7 + 4, none⟩ = some (.int .i64 a4) ∧ W.cell? ⟨b, o + q * 7 + 5, none⟩ = some (.int .i64 a5) ∧ W.cell? ⟨b, o + q * 7 + 6, none⟩ = some (.int .i64 a6)) (fun _ _ => True.intro) ?_
            have hHeld1 : (fun (W : World) => W.cell? ⟨w.heap.size, 0, none⟩ = some (.int .i64 c.nodes) ∧ W.cell? ⟨w.heap.size, 1, none⟩ = some (.int .i64 c.queues) ∧ W.cell? ⟨w.heap.size, 2, none⟩ = some (.int .i64 c.quota) ∧ W.cell? ⟨w.heap.size, 3, none⟩ = some (.int .i64 c.wave) ∧ W.cell? ⟨w.heap.size, 4, none⟩ = some (.int .i64 c.lease) ∧ W.cell? ⟨w.heap.size, 5, none⟩ = some (.int .i64 c.retry) ∧ W.cell? ⟨w.heap.size, 6, none⟩ = some (.int .i64 c.deadline) ∧ W.cell? ⟨w.heap.size, 7, none⟩ = some (.int .i64 c.room) ∧ W.cell? ⟨w.heap.size, 8, none⟩ = some (.int .i64 c.disk) ∧ W.cell? ⟨g8, 0, none⟩ = some (.slice Dn s.nodes.length fn) ∧ W.cell? ⟨g8, 1, none⟩ = some (.slice Dj s.jobs.length fj) ∧ W.cell? ⟨g8, 2, none⟩ = some (.int .i64 s.goal) ∧ W.cell? ⟨g8, 3, none⟩ = some (.int .i64 s.prior) ∧ W.cell? ⟨g8, 4, none⟩ = some (.int .i64 s.mode) ∧ W.cell? ⟨g8, 5, none⟩ = some (.int .i64 s.term) ∧ W.cell? ⟨b, o + q * 7, none⟩ = some (.int .i64 z) ∧ W.cell? ⟨b, o + q * 7 + 1, none⟩ = some (.int .i64 a1) ∧ W.cell? ⟨b, o + q * 7 + 2, none⟩ = some (.int .i64 a2) ∧ W.cell? ⟨b, o + q * 7 + 3, none⟩ = some (.int .i64 a3) ∧ W.cell? ⟨b, o + q * 7 + 4, none⟩ = some (.int .i64 a4) ∧ W.cell? ⟨b, o + q * 7 + 5, none⟩ = some (.int .i64 a5) ∧ W.cell? ⟨b, o + q * 7 + 6, none⟩ = some (.int .i64 a6)) _ := HSD.out _ (by first | exact Ext.refl _ | exact ext_drew9 (Ext.refl _) | exact Below.alloc (Ext.refl _) (Nat.le_refl _) _ | exact Below.alloc (ext_drew9 (Ext.refl _)) (Nat.le_refl _) _ | exact ext_drew9 (Below.alloc (Ext.refl _) (Nat.le_refl _) _))
            clear hHeld0
            refine held_take (i := 0) (v := ?_) rfl (by kernel_rfl) (by kernel_rfl) (by kernel_rfl) (by rfl) (by first | assumption | exact True.intro) ?_ ?_
            rotate_left
            · (intro w hSw; (try dsimp only at hSw); go_simp; (try with_reducible rfl))
            try simp only [Act.put, List.setIfInBounds_toArray, List.set_cons_zero, List.set_cons_succ]
            refine held_take (i := 1) (v := ?_) rfl (by kernel_rfl) (by kernel_rfl) (by kernel_rfl) (by rfl) (by first | assumption | exact True.intro) ?_ ?_
            rotate_left
            · (intro w hSw; (try dsimp only at hSw); go_simp; (try with_reducible rfl))
            try simp only [Act.put, List.setIfInBounds_toArray, List.set_cons_zero, List.set_cons_succ]
            refine held_take (i := 2) (v := ?_) rfl (by kernel_rfl) (by kernel_rfl) (by kernel_rfl) (by rfl) (by first | assumption | exact True.intro) ?_ ?_
            rotate_left
            · (intro w hSw; (try dsimp only at hSw); go_simp; (try with_reducible rfl))
            try simp only [Act.put, List.setIfInBounds_toArray, List.set_cons_zero, List.set_cons_succ]
            refine held_take (i := 3) (v := ?_) rfl (by kernel_rfl) (by kernel_rfl) (by kernel_rfl) (by rfl) (by first | assumption | exact True.intro) ?_ ?_
            rotate_left
            · (intro w hSw; (try dsimp only at hSw); go_simp; (try with_reducible rfl))
            try simp only [Act.put, List.setIfInBounds_toArray, List.set_cons_zero, List.set_cons_succ]
            refine held_take (i := 4) (v := ?_) rfl (by kernel_rfl) (by kernel_rfl) (by kernel_rfl) (by rfl) (by first | assumption | exact True.intro) ?_ ?_
            rotate_left
            · (intro w hSw; (try dsimp only at hSw); go_simp; (try with_reducible rfl))
            try simp only [Act.put, List.setIfInBounds_toArray, List.set_cons_zero, List.set_cons_succ]
            refine held_take (i := 5) (v := ?_) rfl (by kernel_rfl) (by kernel_rfl) (by kernel_rfl) (by rfl) (by first | assumption | exact True.intro) ?_ ?_
            rotate_left
            · (intro w hSw; (try dsimp only at hSw); go_simp; (try with_reducible rfl))
            try simp only [Act.put, List.setIfInBounds_toArray, List.set_cons_zero, List.set_cons_succ]
            refine held_two (i := 6) (j := 10) (by kernel_rfl) rfl rfl (fun K hK => ?_) (fun K hK => ?_)
            · go_simp
              go_at_call 11
              (refine (HAQ.out _ (by first | exact Ext.refl _ | exact ext_drew9 (Ext.refl _) | exact Below.alloc (Ext.refl _) (Nat.le_refl _) _ | exact Below.alloc (ext_drew9 (Ext.refl _)) (Nat.le_refl _) _ | exact ext_drew9 (Below.alloc (Ext.refl _) (Nat.le_refl _) _))).mono ?_)
              rintro e3 w3 ⟨vn3, vj3, s3, er3, rfl, hr3, hx3, ha3, hf3⟩
              obtain ⟨A3, c3, rfl, -, -⟩ := hr3.nodes.slice_
              obtain ⟨B3, k3, rfl, -, -⟩ := hr3.jobs.slice_
              have hx13 : Ext wx w3 := (by first | exact hx3 | exact Ext.of_drew hx3 | exact Ext.trans (Below.alloc (Ext.refl _) (Nat.le_refl _) _) hx3 | exact Ext.trans (Below.alloc (ext_drew9 (Ext.refl _)) (Nat.le_refl _) _) hx3 | exact Ext.trans (ext_drew9 (Below.alloc (Ext.refl _) (Nat.le_refl _) _)) hx3)
              refine hK _ _ ?_ (fun hHeld2 => ?_)
              · exact HSD.out _ hx13
              clear hK K hHeld1
              try simp only [Act.put, List.setIfInBounds_toArray, List.set_cons_zero, List.set_cons_succ]
              refine held_take (i := 7) (v := ?_) rfl (by kernel_rfl) (by kernel_rfl) (by kernel_rfl) (by rfl) (by first | assumption | exact True.intro) ?_ ?_
              rotate_left
              · (intro w hSw; (try dsimp only at hSw); go_simp; (try with_reducible rfl))
              try simp only [Act.put, List.setIfInBounds_toArray, List.set_cons_zero, List.set_cons_succ]
              refine held_take (i := 8) (v := ?_) rfl (by kernel_rfl) (by kernel_rfl) (by kernel_rfl) (by rfl) (by first | assumption | exact True.intro) ?_ ?_
              rotate_left
              · (intro w hSw; (try dsimp only at hSw); go_simp; (try with_reducible rfl))
              try simp only [Act.put, List.setIfInBounds_toArray, List.set_cons_zero, List.set_cons_succ]
              refine held_take (i := 9) (v := ?_) rfl (by kernel_rfl) (by kernel_rfl) (by kernel_rfl) (by rfl) (by first | assumption | exact True.intro) ?_ ?_
              rotate_left
              · (intro w hSw; (try dsimp only at hSw); go_simp; (try with_reducible rfl))
              try simp only [Act.put, List.setIfInBounds_toArray, List.set_cons_zero, List.set_cons_succ]
              refine held_op (i := 10) (by kernel_rfl) rfl (fun K hK => ?_)
              go_simp
              refine hK _ _ ?_ (fun hHeld3 => ?_)
              · exact HSD.out _ (Ext.trans hx13 (by first | exact Ext.refl _ | exact ext_drew9 (Ext.refl _) | exact Below.alloc (Ext.refl _) (Nat.le_refl _) _ | exact Below.alloc (ext_drew9 (Ext.refl _)) (Nat.le_refl _) _ | exact ext_drew9 (Below.alloc (Ext.refl _) (Nat.le_refl _) _)))
              clear hK K hHeld2
              try simp only [Act.put, List.setIfInBounds_toArray, List.set_cons_zero, List.set_cons_succ]
              refine held_op (i := 11) (by kernel_rfl) rfl (fun K hK => ?_)
              go_simp
              refine hK _ _ ?_ (fun hHeld4 => ?_)
              · exact HSD.out _ (Ext.trans hx13 (by first | exact Ext.refl _ | exact ext_drew9 (Ext.refl _) | exact Below.alloc (Ext.refl _) (Nat.le_refl _) _ | exact Below.alloc (ext_drew9 (Ext.refl _)) (Nat.le_refl _) _ | exact ext_drew9 (Below.alloc (Ext.refl _) (Nat.le_refl _) _)))
              clear hK K hHeld3
              try simp only [Act.put, List.setIfInBounds_toArray, List.set_cons_zero, List.set_cons_succ]
              refine held_take (i := 12) (v := ?_) rfl (by kernel_rfl) (by kernel_rfl) (by kernel_rfl) (by rfl) (by first | assumption | exact True.intro) ?_ ?_
              rotate_left
              · (intro w hSw; (try dsimp only at hSw); go_simp; (try with_reducible rfl))
              try simp only [Act.put, List.setIfInBounds_toArray, List.set_cons_zero, List.set_cons_succ]
              refine wpAnyH_done (by kernel_rfl) ?_ _
              refine NoPanic.normal ?_
              clear hHeld4
              go_wp2_with fail
              go_meet
              cases ha3
              exact ApCut.made hx13 hr3 (fun k hk => Nat.le_trans (by (try simp); (try omega)) (hf3 k hk))
            · go_simp
              refine hK _ _ ?_ (fun hHeld2 => ?_)
              · exact HSD.out _ (by first | exact Ext.refl _ | exact ext_drew9 (Ext.refl _) | exact Below.alloc (Ext.refl _) (Nat.le_refl _) _ | exact Below.alloc (ext_drew9 (Ext.refl _)) (Nat.le_refl _) _ | exact ext_drew9 (Below.alloc (Ext.refl _) (Nat.le_refl _) _))
              clear hK K hHeld1
              try simp only [Act.put, List.setIfInBounds_toArray, List.set_cons_zero, List.set_cons_succ]
              refine held_op (i := 6) (by kernel_rfl) rfl (fun K hK => ?_)
              go_simp
              go_at_call 11
              (refine (HAQ.out _ (by first | exact Ext.refl _ | exact ext_drew9 (Ext.refl _) | exact Below.alloc (Ext.refl _) (Nat.le_refl _) _ | exact Below.alloc (ext_drew9 (Ext.refl _)) (Nat.le_refl _) _ | exact ext_drew9 (Below.alloc (Ext.refl _) (Nat.le_refl _) _))).mono ?_)
              rintro e3 w3 ⟨vn3, vj3, s3, er3, rfl, hr3, hx3, ha3, hf3⟩
              obtain ⟨A3, c3, rfl, -, -⟩ := hr3.nodes.slice_
              obtain ⟨B3, k3, rfl, -, -⟩ := hr3.jobs.slice_
              have hx13 : Ext wx w3 := (by first | exact hx3 | exact Ext.of_drew hx3 | exact Ext.trans (Below.alloc (Ext.refl _) (Nat.le_refl _) _) hx3 | exact Ext.trans (Below.alloc (ext_drew9 (Ext.refl _)) (Nat.le_refl _) _) hx3 | exact Ext.trans (ext_drew9 (Below.alloc (Ext.refl _) (Nat.le_refl _) _)) hx3)
              refine hK _ _ ?_ (fun hHeld3 => ?_)
              · exact HSD.out _ hx13
              clear hK K hHeld2
              try simp only [Act.put, List.setIfInBounds_toArray, List.set_cons_zero, List.set_cons_succ]
              have pb : Blk w3 wx.heap.size 30 #[.slice none 0 0, .slice none 0 0, .int .i64 0, .int .i64 0, .int .i64 0, .int .i64 0] := Blk.ext (by first | exact Blk.new wx _ _ | exact Blk.new wx.drew _ _) hx3
              have pbz0 : w3.cell? ⟨wx.heap.size, 0, none⟩ = some (.slice none 0 0) := pb.cell 0
              have pbf0 : w3.frozen? ⟨wx.heap.size, 0, none⟩ = false := pb.frozen 0
              have pbz1 : w3.cell? ⟨wx.heap.size, 1, none⟩ = some (.slice none 0 0) := pb.cell 1
              have pbf1 : w3.frozen? ⟨wx.heap.size, 1, none⟩ = false := pb.frozen 1
              have pbz2 : w3.cell? ⟨wx.heap.size, 2, none⟩ = some (.int .i64 0) := pb.cell 2
              have pbf2 : w3.frozen? ⟨wx.heap.size, 2, none⟩ = false := pb.frozen 2
              have pbz3 : w3.cell? ⟨wx.heap.size, 3, none⟩ = some (.int .i64 0) := pb.cell 3
              have pbf3 : w3.frozen? ⟨wx.heap.size, 3, none⟩ = false := pb.frozen 3
              have pbz4 : w3.cell? ⟨wx.heap.size, 4, none⟩ = some (.int .i64 0) := pb.cell 4
              have pbf4 : w3.frozen? ⟨wx.heap.size, 4, none⟩ = false := pb.frozen 4
              have pbz5 : w3.cell? ⟨wx.heap.size, 5, none⟩ = some (.int .i64 0) := pb.cell 5
              have pbf5 : w3.frozen? ⟨wx.heap.size, 5, none⟩ = false := pb.frozen 5
              have hq := st_set (.slice A3 s3.nodes.length c3) (.slice B3 s3.jobs.length k3) s3.goal s3.prior s3.mode s3.term pb
              refine held_take (i := 7) (v := ?_) rfl (by kernel_rfl) (by kernel_rfl) (by kernel_rfl) (by rfl) (by first | assumption | exact True.intro) ?_ ?_
              rotate_left
              · (intro w hSw; (try dsimp only at hSw); go_simp; (try with_reducible rfl))
              try simp only [Act.put, List.setIfInBounds_toArray, List.set_cons_zero, List.set_cons_succ]
              refine held_take (i := 8) (v := ?_) rfl (by kernel_rfl) (by kernel_rfl) (by kernel_rfl) (by rfl) (by first | assumption | exact True.intro) ?_ ?_
              rotate_left
              · (intro w hSw; (try dsimp only at hSw); go_simp; (try with_reducible rfl))
              try simp only [Act.put, List.setIfInBounds_toArray, List.set_cons_zero, List.set_cons_succ]
              refine held_take (i := 9) (v := ?_) rfl (by kernel_rfl) (by kernel_rfl) (by kernel_rfl) (by rfl) (by first | assumption | exact True.intro) ?_ ?_
              rotate_left
              · (intro w hSw; (try dsimp only at hSw); go_simp; (try with_reducible rfl))
              try simp only [Act.put, List.setIfInBounds_toArray, List.set_cons_zero, List.set_cons_succ]
              refine held_op (i := 11) (by kernel_rfl) rfl (fun K hK => ?_)
              go_simp
              refine hK _ _ ?_ (fun hHeld4 => ?_)
              · exact HSD.out _ (hq.below _ _ hx13 (Nat.le_refl _))
              clear hK K hHeld3
              try simp only [Act.put, List.setIfInBounds_toArray, List.set_cons_zero, List.set_cons_succ]
              refine held_take (i := 12) (v := ?_) rfl (by kernel_rfl) (by kernel_rfl) (by kernel_rfl) (by rfl) (by first | assumption | exact True.intro) ?_ ?_
              rotate_left
              · (intro w hSw; (try dsimp only at hSw); go_simp; (try with_reducible rfl))
              try simp only [Act.put, List.setIfInBounds_toArray, List.set_cons_zero, List.set_cons_succ]
              refine wpAnyH_done (by kernel_rfl) ?_ _
              refine NoPanic.normal ?_
              clear hHeld4
              go_wp2_with fail
              go_meet
              cases ha3
              exact ApCut.ahead hx13 hr3 hq (fun k hk => by have := hf3 k hk; simp at this; omega)
          case rest =>
            obtain ⟨gy, yn, yj, rfl, rfl, hgy, hxy, hsy, hky⟩ := hcut.out
            dsimp only at hsy hky
            obtain ⟨wy, rfl⟩ : ∃ wy : World, wy = wc := ⟨_, rfl⟩
            obtain ⟨Yn, rn, rfl, -, -⟩ := hsy.rd.nodes.slice_
            obtain ⟨Yj, rj, rfl, -, -⟩ := hsy.rd.jobs.slice_
            have hlo : w.heap.size < wo.heap.size := HBR.out.lt
            have hl7 : g7 < wo.heap.size := HSA.out.blk.lt
            have hl8 : g8 < wo.heap.size := HSB.out.blk.lt
            have hlx : wo.heap.size ≤ wx.heap.size := HXX.out.size
            have HFAR : Hid ((gx ≠ g7 ∧ gy ≠ g7) ∧ (∀ k, (Value.slice Xn t.nodes.length pn).ownBlock = some k ∨ (Value.slice Xj t.jobs.length pj).ownBlock = some k → k ≠ g7 ∧ k ≠ g8) ∧ ∀ k, (Value.slice Yn t.nodes.length rn).ownBlock = some k ∨ (Value.slice Yj t.jobs.length rj).ownBlock = some k → k ≠ g7 ∧ k ≠ g8) := Lib.hid ⟨by have := HGX.out; omega, fun k h => by have := HKX.out k h; omega, fun k h => by have := hky k h; omega⟩
            have HXW := Lib.hid ((HXR.out.trans (HXX.out.mono HXR.out.size)).trans (hxy.mono (Nat.le_trans HXR.out.size hlx)))
            have HBY := Lib.hid ((HBR.out.ext HXX.out).ext hxy)
            have HSA2 := Lib.hid ((HSA.out.ext HXX.out).ext hxy)
            have HSB2 := Lib.hid ((HSB.out.ext HXX.out).ext hxy)
            have HSX2 := Lib.hid (HSX.out.ext hxy)
            have HSY := Lib.hid hsy
            clear hcut hgy hxy hsy hky HXR HBR HSA HSB HSX HGX HKX HXX HSD HAQ hlo hl7 hl8 hlx
            have HCC : Hid (∀ W, Ext wy W → W.cell? ⟨gx, 0, none⟩ = some (.slice Xn t.nodes.length pn) ∧ W.cell? ⟨gx, 1, none⟩ = some (.slice Xj t.jobs.length pj) ∧ W.cell? ⟨gx, 2, none⟩ = some (.int .i64 t.goal) ∧ W.cell? ⟨gx, 3, none⟩ = some (.int .i64 t.prior) ∧ W.cell? ⟨gx, 4, none⟩ = some (.int .i64 t.mode) ∧ W.cell? ⟨gx, 5, none⟩ = some (.int .i64 t.term) ∧ W.cell? ⟨gy, 0, none⟩ = some (.slice Yn t.nodes.length rn) ∧ W.cell? ⟨gy, 1, none⟩ = some (.slice Yj t.jobs.length rj) ∧ W.cell? ⟨gy, 2, none⟩ = some (.int .i64 t.goal) ∧ W.cell? ⟨gy, 3, none⟩ = some (.int .i64 t.prior) ∧ W.cell? ⟨gy, 4, none⟩ = some (.int .i64 t.mode) ∧ W.cell? ⟨gy, 5, none⟩ = some (.int .i64 t.term)) := Lib.hid fun W hx => ⟨(HSX2.out.blk.ext hx).cell 0, (HSX2.out.blk.ext hx).cell 1, (HSX2.out.blk.ext hx).cell 2, (HSX2.out.blk.ext hx).cell 3, (HSX2.out.blk.ext hx).cell 4, (HSX2.out.blk.ext hx).cell 5, (HSY.out.blk.ext hx).cell 0, (HSY.out.blk.ext hx).cell 1, (HSY.out.blk.ext hx).cell 2, (HSY.out.blk.ext hx).cell 3, (HSY.out.blk.ext hx).cell 4, (HSY.out.blk.ext hx).cell 5⟩
            obtain ⟨mt, hmt⟩ : ∃ mt, mt = meantS t := ⟨_, rfl⟩
            obtain ⟨dr, hdr⟩ : ∃ dr : Int, dr = (drainsS t queue : Int) := ⟨_, rfl⟩
            have HN6 := Lib.hid HRT.out.len.2
            have HJ24 := Lib.hid HRT.out.nj
            have K1 : Hid (∀ W, Ext wy W → Calls Tryd.prog 12 #[.agg #[.slice Xn t.nodes.length pn, .slice Xj t.jobs.length pj, .int .i64 t.goal, .int .i64 t.prior, .int .i64 t.mode, .int .i64 t.term], .agg #[.slice Yn t.nodes.length rn, .slice Yj t.jobs.length rj, .int .i64 t.goal, .int .i64 t.prior, .int .i64 t.mode, .int .i64 t.term]] W fun e w' => e = .returned (.bool true) ∧ Ext wy w') := Lib.hid fun W h => (Same09_any _ _ _ _ t t W (HSX2.out.rd.ext h) (HSY.out.rd.ext h)).mono (by rintro e w' ⟨x, rfl, hx, hh⟩; rw [hx.2 rfl]; exact ⟨rfl, h.trans hh⟩)
            have K2 : Hid (∀ W, Ext wy W → Calls Tryd.prog 13 #[.agg #[.slice Xn t.nodes.length pn, .slice Xj t.jobs.length pj, .int .i64 t.goal, .int .i64 t.prior, .int .i64 t.mode, .int .i64 t.term]] W fun e w' => e = .returned (.int .i64 mt) ∧ Ext wy w') := Lib.hid fun W h => (Meant_any _ _ t W).mono (by rintro e w' ⟨rfl, hh⟩; exact ⟨by rw [hmt], h.trans hh⟩)
            have K3 : Hid (∀ W, Ext wy W → Calls Tryd.prog 14 #[.agg #[.slice Yn t.nodes.length rn, .slice Yj t.jobs.length rj, .int .i64 t.goal, .int .i64 t.prior, .int .i64 t.mode, .int .i64 t.term]] W fun e w' => e = .returned (.int .i64 mt) ∧ Ext wy w') := Lib.hid fun W h => (RefMeant_any _ _ t W).mono (by rintro e w' ⟨rfl, hh⟩; exact ⟨by rw [hmt], h.trans hh⟩)
            have K4 : Hid (∀ W, Ext wy W → Calls Tryd.prog 15 #[.agg #[.slice Xn t.nodes.length pn, .slice Xj t.jobs.length pj, .int .i64 t.goal, .int .i64 t.prior, .int .i64 t.mode, .int .i64 t.term], .int .i64 queue] W fun e w' => e = .returned (.int .i64 dr) ∧ Ext wy w') := Lib.hid fun W h => (Drains_any _ _ t queue W (HSX2.out.rd.ext h).jobs).mono (by rintro e w' ⟨rfl, hh⟩; exact ⟨by rw [hdr], h.trans hh⟩)
            have K5 : Hid (∀ W, Ext wy W → Calls Tryd.prog 16 #[.agg #[.slice Yn t.nodes.length rn, .slice Yj t.jobs.length rj, .int .i64 t.goal, .int .i64 t.prior, .int .i64 t.mode, .int .i64 t.term], .int .i64 queue] W fun e w' => e = .returned (.int .i64 dr) ∧ Ext wy w') := Lib.hid fun W h => (RefDrains_any _ _ t queue W (HSY.out.rd.ext h).jobs).mono (by rintro e w' ⟨rfl, hh⟩; exact ⟨by rw [hdr], h.trans hh⟩)
            have K6 : Hid (∀ W, Ext wy W → Calls Tryd.prog 17 #[.agg #[.slice Xn t.nodes.length pn, .slice Xj t.jobs.length pj, .int .i64 t.goal, .int .i64 t.prior, .int .i64 t.mode, .int .i64 t.term]] W fun e w' => ∃ vn' vj', e = .returned (.agg #[vn', vj', .int .i64 t.goal, .int .i64 t.prior, .int .i64 t.mode, .int .i64 t.term]) ∧ RdSt w' vn' vj' t ∧ Ext wy w') := Lib.hid fun W h => (Copy_any _ _ t W (HSX2.out.rd.ext h) (by have := HN6.out; omega) (by have := HJ24.out; omega)).mono (by rintro e w' ⟨vn', vj', rfl, ho, hh⟩; exact ⟨vn', vj', rfl, ⟨RdS.own ho.nodes, RdS.own ho.jobs⟩, h.trans hh⟩)
            have K7 : Hid (∀ W vn' vj', RdSt W vn' vj' t → Ext wy W → Calls Tryd.prog 12 #[.agg #[vn', vj', .int .i64 t.goal, .int .i64 t.prior, .int .i64 t.mode, .int .i64 t.term], .agg #[.slice Yn t.nodes.length rn, .slice Yj t.jobs.length rj, .int .i64 t.goal, .int .i64 t.prior, .int .i64 t.mode, .int .i64 t.term]] W fun e w' => e = .returned (.bool true) ∧ Ext wy w') := Lib.hid fun W vn' vj' hr h => (Same09_any vn' vj' _ _ t t W hr (HSY.out.rd.ext h)).mono (by rintro e w' ⟨x, rfl, hx, hh⟩; rw [hx.2 rfl]; exact ⟨rfl, h.trans hh⟩)
            clear hmt hdr
            go_wp2_with fail
            go_cut [86] (fun t wx => t = .bool false ∧ Hid (Ext wy wx))
            case first =>
              go_region_held3 (fun W => W.cell? ⟨gx, 0, none⟩ = some (.slice Xn t.nodes.length pn) ∧ W.cell? ⟨gx, 1, none⟩ = some (.slice Xj t.jobs.length pj) ∧ W.cell? ⟨gx, 2, none⟩ = some (.int .i64 t.goal) ∧ W.cell? ⟨gx, 3, none⟩ = some (.int .i64 t.prior) ∧ W.cell? ⟨gx, 4, none⟩ = some (.int .i64 t.mode) ∧ W.cell? ⟨gx, 5, none⟩ = some (.int .i64 t.term) ∧ W.cell? ⟨gy, 0, none⟩ = some (.slice Yn t.nodes.length rn) ∧ W.cell? ⟨gy, 1, none⟩ = some (.slice Yj t.jobs.length rj) ∧ W.cell? ⟨gy, 2, none⟩ = some (.int .i64 t.goal) ∧ W.cell? ⟨gy, 3, none⟩ = some (.int .i64 t.prior) ∧ W.cell? ⟨gy, 4, none⟩ = some (.int .i64 t.mode) ∧ W.cell? ⟨gy, 5, none⟩ = some (.int .i64 t.term)) (first | exact HCC.out _ y7 | exact HCC.out _ y6 | exact HCC.out _ y5 | exact HCC.out _ y4 | exact HCC.out _ y3 | exact HCC.out _ y2 | exact HCC.out _ y1 | exact HCC.out _ (Ext.refl _) | exact HCC.out _ (ext_drew9 (Ext.refl _)) | go_keep) (first | (go_at_call 12; (first | (with_reducible refine (K1.out _ (Ext.refl wy)).mono ?_) | (with_reducible refine (K1.out _ (ext_drew9 (Ext.refl wy))).mono ?_)); rintro e1 v1 ⟨rfl, y1⟩) | (go_at_call 13; (first | (with_reducible refine (K2.out _ y1).mono ?_) | (with_reducible refine (K2.out _ (ext_drew9 y1)).mono ?_)); rintro e2 v2 ⟨rfl, y2⟩) | (go_at_call 14; (first | (with_reducible refine (K3.out _ y2).mono ?_) | (with_reducible refine (K3.out _ (ext_drew9 y2)).mono ?_)); rintro e3 v3 ⟨rfl, y3⟩) | (go_at_call 15; (first | (with_reducible refine (K4.out _ y3).mono ?_) | (with_reducible refine (K4.out _ (ext_drew9 y3)).mono ?_)); rintro e4 v4 ⟨rfl, y4⟩) | (go_at_call 16; (first | (with_reducible refine (K5.out _ y4).mono ?_) | (with_reducible refine (K5.out _ (ext_drew9 y4)).mono ?_)); rintro e5 v5 ⟨rfl, y5⟩) | (go_at_call 17; (first | (with_reducible refine (K6.out _ y5).mono ?_) | (with_reducible refine (K6.out _ (ext_drew9 y5)).mono ?_)); rintro e6 v6 ⟨a6_, b6_, rfl, r6, y6⟩; obtain ⟨A6, k6, rfl, -, -⟩ := r6.nodes.slice_; obtain ⟨B6, l6, rfl, -, -⟩ := r6.jobs.slice_) | (go_at_call 12; (first | (with_reducible refine (K7.out _ _ _ r6 y6).mono ?_) | (with_reducible refine (K7.out _ _ _ r6 (ext_drew9 y6)).mono ?_)); rintro e7 v7 ⟨rfl, y7⟩))
              all_goals
                go_wp2_with fail
                go_meet
                exact ⟨by simp, Lib.hid y7⟩
            case rest =>
            obtain ⟨rfl, HE⟩ := hcut
            clear K1 K2 K3 K4 K5 K6 K7
            go_wp2_with fail
            go_loopg [14] t.nodes.length (fun gg i wr => ∃ (k : Nat), i = .int .i64 k ∧ k ≤ t.nodes.length ∧ gg = t.nodes.length - k ∧ Hid (Ext wy wr))
            case atStart => exact ⟨0, rfl, Nat.zero_le _, by omega, HE⟩
            case round =>
              clear HE
              obtain ⟨k, rfl, hk, rfl, HE⟩ := hrel
              have hcc := HCC.out _ HE.out
              have yc0 := hcc.2.2.2.2.2.2.1
              by_cases hkl : k < t.nodes.length
              · have e1 : decide ((k : Int) < (t.nodes.length : Int)) = true := decide_eq_true (by omega)
                have e1' : decide (k < t.nodes.length) = true := decide_eq_true hkl
                obtain ⟨n, hnk⟩ : ∃ n, t.nodes[k]? = some n := ⟨_, List.getElem?_eq_getElem hkl⟩
                obtain ⟨_, _, ex, -, -, hxa⟩ := has_cells HSX2.out.rd.nodes
                cases ex
                obtain ⟨bx, px, rfl, hbx, hatx⟩ := hxa k n hnk
                obtain ⟨_, _, ey, -, -, hya⟩ := has_cells HSY.out.rd.nodes
                cases ey
                obtain ⟨by_, py, rfl, hby, haty⟩ := hya k n hnk
                have x2 : (0 : Int) ≤ (k : Int) ∧ (k : Int) < (t.nodes.length : Int) := by omega
                have HCD : Hid (∀ W, Ext wr W → W.cell? ⟨gx, 0, none⟩ = some (.slice (some ⟨bx, px, none⟩) t.nodes.length pn) ∧ W.cell? ⟨gy, 0, none⟩ = some (.slice (some ⟨by_, py, none⟩) t.nodes.length rn) ∧ W.cell? ⟨bx, px + k * 5, none⟩ = some (.bool n.up) ∧ W.cell? ⟨bx, px + k * 5 + 1, none⟩ = some (.bool n.cordon) ∧ W.cell? ⟨bx, px + k * 5 + 2, none⟩ = some (.bool n.moving) ∧ W.cell? ⟨bx, px + k * 5 + 3, none⟩ = some (.int .i64 n.version) ∧ W.cell? ⟨bx, px + k * 5 + 4, none⟩ = some (.int .i64 n.job) ∧ W.cell? ⟨by_, py + k * 5, none⟩ = some (.bool n.up) ∧ W.cell? ⟨by_, py + k * 5 + 1, none⟩ = some (.bool n.cordon) ∧ W.cell? ⟨by_, py + k * 5 + 2, none⟩ = some (.bool n.moving) ∧ W.cell? ⟨by_, py + k * 5 + 3, none⟩ = some (.int .i64 n.version) ∧ W.cell? ⟨by_, py + k * 5 + 4, none⟩ = some (.int .i64 n.job)) := Lib.hid fun W hx => ⟨(HSX2.out.blk.ext (HE.out.trans hx)).cell 0, (HSY.out.blk.ext (HE.out.trans hx)).cell 0, (hatx.ext (HE.out.trans hx) hbx).c0, (hatx.ext (HE.out.trans hx) hbx).c1, (hatx.ext (HE.out.trans hx) hbx).c2, (hatx.ext (HE.out.trans hx) hbx).c3, (hatx.ext (HE.out.trans hx) hbx).c4, (haty.ext (HE.out.trans hx) hby).c0, (haty.ext (HE.out.trans hx) hby).c1, (haty.ext (HE.out.trans hx) hby).c2, (haty.ext (HE.out.trans hx) hby).c3, (haty.ext (HE.out.trans hx) hby).c4⟩
                obtain ⟨fr, hfr⟩ : ∃ fr, fr = freeN n := ⟨_, rfl⟩
                have K8 : Hid (∀ W, Ext wr W → Calls Tryd.prog 18 #[.agg #[.bool n.up, .bool n.cordon, .bool n.moving, .int .i64 n.version, .int .i64 n.job]] W fun e w' => e = .returned (.bool fr) ∧ Ext wr w') := Lib.hid fun W h => (Free_any n W).mono (by rintro e w' ⟨rfl, hh⟩; exact ⟨by rw [hfr], h.trans hh⟩)
                have K9 : Hid (∀ W, Ext wr W → Calls Tryd.prog 19 #[.agg #[.bool n.up, .bool n.cordon, .bool n.moving, .int .i64 n.version, .int .i64 n.job]] W fun e w' => e = .returned (.bool fr) ∧ Ext wr w') := Lib.hid fun W h => (RefFree_any n W).mono (by rintro e w' ⟨rfl, hh⟩; exact ⟨by rw [hfr], h.trans hh⟩)
                have HKL := Lib.hid hkl
                clear hfr hnk hatx haty hbx hby hxa hya hcc
                go_wp2_with fail
                go_cut [106] (fun t wx => t = .bool false ∧ Hid (Ext wr wx))
                case first =>
                  go_region_held3 (fun W => W.cell? ⟨gx, 0, none⟩ = some (.slice (some ⟨bx, px, none⟩) t.nodes.length pn) ∧ W.cell? ⟨gy, 0, none⟩ = some (.slice (some ⟨by_, py, none⟩) t.nodes.length rn) ∧ W.cell? ⟨bx, px + k * 5, none⟩ = some (.bool n.up) ∧ W.cell? ⟨bx, px + k * 5 + 1, none⟩ = some (.bool n.cordon) ∧ W.cell? ⟨bx, px + k * 5 + 2, none⟩ = some (.bool n.moving) ∧ W.cell? ⟨bx, px + k * 5 + 3, none⟩ = some (.int .i64 n.version) ∧ W.cell? ⟨bx, px + k * 5 + 4, none⟩ = some (.int .i64 n.job) ∧ W.cell? ⟨by_, py + k * 5, none⟩ = some (.bool n.up) ∧ W.cell? ⟨by_, py + k * 5 + 1, none⟩ = some (.bool n.cordon) ∧ W.cell? ⟨by_, py + k * 5 + 2, none⟩ = some (.bool n.moving) ∧ W.cell? ⟨by_, py + k * 5 + 3, none⟩ = some (.int .i64 n.version) ∧ W.cell? ⟨by_, py + k * 5 + 4, none⟩ = some (.int .i64 n.job)) (first | exact HCD.out _ y2 | exact HCD.out _ y1 | exact HCD.out _ (Ext.refl _) | exact HCD.out _ (ext_drew9 (Ext.refl _)) | go_keep) (first | (go_at_call 18; (first | (with_reducible refine (K8.out _ (Ext.refl wr)).mono ?_) | (with_reducible refine (K8.out _ (ext_drew9 (Ext.refl wr))).mono ?_)); rintro e1 v1 ⟨rfl, y1⟩) | (go_at_call 19; (first | (with_reducible refine (K9.out _ y1).mono ?_) | (with_reducible refine (K9.out _ (ext_drew9 y1)).mono ?_)); rintro e2 v2 ⟨rfl, y2⟩))
                  all_goals
                    go_wp2_with fail
                    go_meet
                    exact ⟨by simp, Lib.hid y2⟩
                case rest =>
                obtain ⟨rfl, HE2⟩ := hcut
                have HE3 := Lib.hid (HE.out.trans HE2.out)
                clear HE2 HCD K8 K9 yc0 x2 hk hkl
                go_wp2
                go_roundg (t.nodes.length - (k + 1))
                case measure => have := HKL.out; omega
                case rel => exact ⟨k + 1, by first | go_num | (rw [IntWalk.wrap64_in _ (by have := HKL.out; have := HN6.out; omega)]; first | rfl | simp), HKL.out, rfl, HE3⟩
              · have e1 : decide ((k : Int) < (t.nodes.length : Int)) = false := decide_eq_false (by omega)
                have e1' : decide (k < t.nodes.length) = false := decide_eq_false hkl
                clear hkl hk
                obtain ⟨wf, hwf, hsf, hsame, hsize, hbel⟩ := (HSA2.out.ext HE.out).put (HSX2.out.ext HE.out) (fun _ k h => (HFAR.out.2.1 k (.inl h)).1) (fun _ k h => (HFAR.out.2.1 k (.inr h)).1)
                have HTF := Lib.hid ((HSB2.out.ext HE.out).keep (Ne.symm HGG.out.2.2) HON.out HOJ.out hsize hsame)
                have HYF := Lib.hid ((HSY.out.ext HE.out).keep HFAR.out.1.2 (fun _ k h => (HFAR.out.2.2 k (.inl h)).1) (fun _ k h => (HFAR.out.2.2 k (.inr h)).1) hsize hsame)
                have HSF := Lib.hid hsf
                have HBF : Hid (Blk wf w.heap.size 23 #[.int .i64 c.nodes, .int .i64 c.queues, .int .i64 c.quota, .int .i64 c.wave, .int .i64 c.lease, .int .i64 c.retry, .int .i64 c.deadline, .int .i64 c.room, .int .i64 c.disk]) := Lib.hid ((hsame _ (by have := HGG.out; omega)).trans (HBY.out.ext HE.out))
                have HXF : Hid (Below w.heap.size w wf) := Lib.hid (hbel _ _ (HXW.out.trans (HE.out.mono HXW.out.size)) (by have := HGG.out; omega))
                have u0_ := (HSX2.out.blk.ext HE.out).cell 0
                have s0_ := (HSA2.out.blk.ext HE.out).cell 0
                have f0_ := (HSA2.out.blk.ext HE.out).frozen 0
                have u1_ := (HSX2.out.blk.ext HE.out).cell 1
                have s1_ := (HSA2.out.blk.ext HE.out).cell 1
                have f1_ := (HSA2.out.blk.ext HE.out).frozen 1
                have u2_ := (HSX2.out.blk.ext HE.out).cell 2
                have s2_ := (HSA2.out.blk.ext HE.out).cell 2
                have f2_ := (HSA2.out.blk.ext HE.out).frozen 2
                have u3_ := (HSX2.out.blk.ext HE.out).cell 3
                have s3_ := (HSA2.out.blk.ext HE.out).cell 3
                have f3_ := (HSA2.out.blk.ext HE.out).frozen 3
                have u4_ := (HSX2.out.blk.ext HE.out).cell 4
                have s4_ := (HSA2.out.blk.ext HE.out).cell 4
                have f4_ := (HSA2.out.blk.ext HE.out).frozen 4
                have u5_ := (HSX2.out.blk.ext HE.out).cell 5
                have s5_ := (HSA2.out.blk.ext HE.out).cell 5
                have f5_ := (HSA2.out.blk.ext HE.out).frozen 5
                simp only [List.getElem?_toArray, List.getElem?_cons_succ, List.getElem?_cons_zero] at u0_ s0_ u1_ s1_ u2_ s2_ u3_ s3_ u4_ s4_ u5_ s5_
                clear hsf hsame hsize hbel hcc HE
                go_upto_region 19 with (fail)
                rw [← hwf]
                clear hwf u0_ s0_ f0_ u1_ s1_ f1_ u2_ s2_ f2_ u3_ s3_ f3_ u4_ s4_ f4_ u5_ s5_ f5_
                obtain ⟨wg, hwg, hsg, hsame, hsize, hbel⟩ := HTF.out.put HYF.out (fun _ k h => (HFAR.out.2.2 k (.inl h)).2) (fun _ k h => (HFAR.out.2.2 k (.inr h)).2)
                have hs2 := HSF.out.keep HGG.out.2.2 (fun _ k h => (HFAR.out.2.1 k (.inl h)).2) (fun _ k h => (HFAR.out.2.1 k (.inr h)).2) hsize hsame
                have HKR : Hid (KR2 w c t g7 g8 wg) := Lib.hid ⟨⟨_, _, _, _, hbel _ _ HXF.out (by have := HGG.out; omega), (hsame _ (by have := HGG.out; omega)).trans HBF.out, hs2, hsg, fun _ k h => (HFAR.out.2.2 k (.inl h)).1, fun _ k h => (HFAR.out.2.2 k (.inr h)).1, HRT.out⟩⟩
                have u0_ := HYF.out.blk.cell 0
                have s0_ := HTF.out.blk.cell 0
                have f0_ := HTF.out.blk.frozen 0
                have u1_ := HYF.out.blk.cell 1
                have s1_ := HTF.out.blk.cell 1
                have f1_ := HTF.out.blk.frozen 1
                have u2_ := HYF.out.blk.cell 2
                have s2_ := HTF.out.blk.cell 2
                have f2_ := HTF.out.blk.frozen 2
                have u3_ := HYF.out.blk.cell 3
                have s3_ := HTF.out.blk.cell 3
                have f3_ := HTF.out.blk.frozen 3
                have u4_ := HYF.out.blk.cell 4
                have s4_ := HTF.out.blk.cell 4
                have f4_ := HTF.out.blk.frozen 4
                have u5_ := HYF.out.blk.cell 5
                have s5_ := HTF.out.blk.cell 5
                have f5_ := HTF.out.blk.frozen 5
                simp only [List.getElem?_toArray, List.getElem?_cons_succ, List.getElem?_cons_zero] at u0_ s0_ u1_ s1_ u2_ s2_ u3_ s3_ u4_ s4_ u5_ s5_
                clear hsg hs2 hsame hsize hbel
                go_wp2_with fail
                rw [← hwg]
                go_roundg (l.length - (q + 1))
                case measure => have := HLT.out; omega
                case rel => exact ⟨q + 1, t, by go_num, HLT.out, rfl, HKR⟩
      · have d1 : decide ((q : Int) < (l.length : Int)) = false := decide_eq_false (by omega)
        have d1' : decide (q < l.length) = false := decide_eq_false hlt
        have HXE : Hid (Ext w wo) := Lib.hid (by obtain ⟨_, _, _, _, h, _⟩ := HK.out.out; exact h)
        clear HK hlt
        go_wp2
        go_ret
        exact ⟨rfl, HXE.out⟩

set_option maxRecDepth 100000 in
theorem BookRuns_lifted (os : Os) (started : os.Started) (H : Type) (enc : TypeId × Value → H) :
    ReturnsInHanded {} Tryd.checked os 3 .any (fun w args => (Rows.bookRunsSpec.pre enc Tryd.prog Tryd.f3 [] false w args ∧ laidMetH Tryd.prog Rows.bookRunsRow.laid w) ∧ sizedMet enc Tryd.prog Tryd.f3 (OpenSpec.ofChange Rows.bookRunsSpec) false w args) (Rows.bookRunsSpec.post enc Tryd.prog Tryd.f3 false true false false) := by
  refine law_liftL (C := Tryd.checked) (tb := 4) Rows.bookRunsRow.laid Tryd.ownKnob started (by kernel_rfl) Tryd.func3 Tryd.laidOut (by kernel_rfl) rfl Tryd.underlying4 rfl rfl ?_
    (ChangeSpec.witness_shaped (enc := enc) (C := Tryd.checked) (os := os) (X := fun w _ => laidMetH Tryd.prog Rows.bookRunsRow.laid w) false (World.laidAll Tryd.prog os Rows.bookRunsRow.laid) #[.agg #[.int .i64 0, .int .i64 0, .int .i64 0, .int .i64 0, .int .i64 0, .int .i64 0, .int .i64 0, .int .i64 0, .int .i64 0], .slice none 0 0, .int .i64 0] 8 (World.laidAll_os _ _ _)
      (World.shaped_of_ZipB (by kernel_rfl) (by kernel_rfl)) (by kernel_rfl) (by kernel_rfl) (by kernel_rfl)
      (by rw [MakeChecks.laidMetH_plain _ _ _ (by kernel_rfl)]; exact laidMet_laidAll _ (by kernel_rfl) (by kernel_rfl))) ?_
  · intro ds hd
    rw [Tryd.params3] at hd
    match ds, hd with
    | [d0, d1, d2], _ => rfl
  · intro W base args ds p hval hA hsz hL0 hsh
    have hL : laidMetH Tryd.prog Rows.bookRunsRow.laid W := hL0
    rw [MakeChecks.laidMetH_plain _ _ _ (by kernel_rfl)] at hL
    have hLd : Laid W := laid_of _ hL (by repeat (first | exact List.Mem.head _ | apply List.Mem.tail))
    rw [Tryd.params3] at hA hval hsz
    obtain ⟨v0, vs0, d0, ds0, p0, q0, hargs, rfl, rfl, h0, r0_⟩ := trodAll_cons hA
    obtain ⟨v1, vs1, d1, ds1, p1, q1, rfl, rfl, rfl, h1, r1_⟩ := trodAll_cons r0_
    obtain ⟨v2, vs2, d2, ds2, p2, q2, rfl, rfl, rfl, h2, r2_⟩ := trodAll_cons r1_
    obtain ⟨rfl, rfl, rfl⟩ := trodAll_nil r2_
    obtain rfl : args = #[v0, v1, v2] := by cases args; simp_all
    obtain ⟨a0, rfl⟩ := dec_conf (hval 0 23 v0 rfl rfl) h0
    obtain ⟨a1, r1⟩ := dec_ops (hval 1 24 v1 rfl rfl) h1
    obtain ⟨a2, rfl, lo2, hi2⟩ := dec_int Tryd.underlying3 (hval 2 3 v2 rfl rfl) h2
    exact BookRuns_calls a0 _ a1 a2 W r1 hLd

theorem BookRuns_row : Rows.BookRunsSaid :=
  OpenClaim.holds_of_wide 3 Tryd.f3 rfl rfl rfl rfl rfl rfl rfl ⟨rfl, rfl, rfl, rfl, rfl⟩ rfl rfl rfl rfl rfl (by kernel_rfl) Tryd.func3 (by kernel_rfl)
    (of_decide_eq_true (by kernel_rfl)) (by unfold Func.isWrapper; first | (rw [if_pos (by decide +kernel)]; kernel_rfl) | (rw [if_neg (by decide +kernel)]; exact ⟨rfl, rfl⟩))
    (fun os started H enc _ => BookRuns_lifted os started H enc)

/-- THE TIED CARD. -/
theorem BookRuns_holds : Rows.BookRunsCardSaid :=
  Claim7.holds_tied_plain_at .later [] Rows.bookRunsCard.laidKinds true Rows.bookRunsCard.stood.harness Rows.bookRunsCard.stood.looks
    BookRuns_row (fun _ h => by cases h) (by kernel_rfl) (fun _ h => by cases h) bookRuns_row_tie rfl ⟨rfl, rfl⟩ (by kernel_rfl) rfl
    (fun f fn hf hfn => by
      obtain rfl : f = 3 := Option.some.inj ((show Tryd.prog.funcNamed "dunnage/dunnagelaw09.BookRuns" = some 3 by kernel_rfl).symm.trans hf) |>.symm
      obtain rfl : fn = Tryd.f3 := (Option.some.inj (Tryd.func3.symm.trans hfn)).symm
      exact ⟨by kernel_rfl, fun j t ht => by
        rw [Tryd.params3] at ht
        have hm : t ∈ [23, 24, 3] := by simpa using Array.mem_of_getElem? ht
        have hall : ([23, 24, 3].all fun u => !Tryd.prog.wantsStandIn u) = true := by kernel_rfl
        exact (show Tryd.prog.wantsStandIn t = false by simpa using List.all_eq_true.1 hall t hm)⟩)
    (by kernel_rfl)

end Go.Proofs.YtbfjlhddebollaaDoor
