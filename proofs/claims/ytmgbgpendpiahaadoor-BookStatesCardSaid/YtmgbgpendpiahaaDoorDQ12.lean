/- Texts that the proof of D rests on, one behind the other. -/
import Derived.Test.YtmgbgpendpiahaaDoorDQ11

/- Layer 9's statements: words that they share; is a state more than is looked at. -/
namespace Go.Proofs.YtmgbgpendpiahaaDoor
open Go.RowKit

theorem two_blocks (w : World) (t1 t2 : TypeId) (c1 c2 : Array Value) : ∃ W, W = (w.alloc (.cells c1 t1)).alloc (.cells c2 t2) ∧ Ext w W ∧ Blk W w.heap.size t1 c1 ∧ Blk W (w.heap.size + 1) t2 c2 := by
  refine ⟨_, rfl, ext2 w t1 t2 c1 c2, (Blk.new w t1 c1).alloc _, ?_⟩
  have := Blk.new (w.alloc (.cells c1 t1)) t2 c2
  have e : (w.alloc (.cells c1 t1)).heap.size = w.heap.size + 1 := by simp
  rw [e] at this
  exact this
theorem three_blocks (w : World) (t1 t2 t3 : TypeId) (c1 c2 c3 : Array Value) : ∃ W, W = ((w.alloc (.cells c1 t1)).alloc (.cells c2 t2)).alloc (.cells c3 t3) ∧ Ext w W ∧ Blk W w.heap.size t1 c1 ∧ Blk W (w.heap.size + 1) t2 c2 ∧ Blk W (w.heap.size + 2) t3 c3 := by
  refine ⟨_, rfl, ext3 w t1 t2 t3 c1 c2 c3, ((Blk.new w t1 c1).alloc _).alloc _, ?_, ?_⟩
  · have := (Blk.new (w.alloc (.cells c1 t1)) t2 c2).alloc (.cells c3 t3)
    have e : (w.alloc (.cells c1 t1)).heap.size = w.heap.size + 1 := by simp
    rw [e] at this
    exact this
  · have := Blk.new ((w.alloc (.cells c1 t1)).alloc (.cells c2 t2)) t3 c3
    have e : ((w.alloc (.cells c1 t1)).alloc (.cells c2 t2)).heap.size = w.heap.size + 2 := by simp
    rw [e] at this
    exact this

/-! ### A variable that holds a state -/
/-- What the slice value reads lies in another block than g. -/
def offG (g : Nat) (v : Value) (n : Nat) : Prop := 0 < n → ∀ k, v.ownBlock = some k → k ≠ g
theorem RdS.lt {K n : Nat} {w : World} {v : Value} {xs : List Value} (h : RdS K w v n xs) (hn : 0 < n) {k : Nat} (hk : v.ownBlock = some k) : k < w.heap.size := by
  obtain ⟨_, A, c, e, _, _, h3⟩ := h
  obtain ⟨b, o, hA, hlt, _⟩ := h3 hn
  rw [e, hA] at hk
  have : b = k := Option.some.inj hk
  omega
theorem offG.of_lt {K n g : Nat} {w : World} {v : Value} {xs : List Value} (h : RdS K w v n xs) (hg : w.heap.size ≤ g) : offG g v n := fun hn k hk e => by
  have := h.lt hn hk
  omega
/-- In a world in which all blocks but g are as they were. -/
theorem RdS.off {K n g : Nat} {w w' : World} {v : Value} {xs : List Value} (h : RdS K w v n xs) (ho : offG g v n) (hs : w.heap.size ≤ w'.heap.size) (hk : ∀ k, k ≠ g → w'.heap[k]? = w.heap[k]?) : RdS K w' v n xs := by
  obtain ⟨h0, A, c, e, h1, h2, h3⟩ := h
  refine ⟨h0, A, c, e, h1, h2, fun hn => ?_⟩
  obtain ⟨b, o, hA, hlt, hc⟩ := h3 hn
  refine ⟨b, o, hA, Nat.lt_of_lt_of_le hlt hs, fun j u hu => ?_⟩
  have := hk b (ho hn b (by rw [e, hA]; rfl))
  exact (World.cell?_of_block (a := ⟨b, o + j, none⟩) this).trans (hc j u hu)

structure SAt (w : World) (g : Nat) (vn vj : Value) (s : St) : Prop where
  blk : Blk w g 27 #[vn, vj, .int .i64 s.goal, .int .i64 s.prior, .int .i64 s.mode, .int .i64 s.term]
  rd : RdSt w vn vj s
  offn : offG g vn s.nodes.length
  offj : offG g vj s.jobs.length
theorem SAt.ext {w w' : World} {g : Nat} {vn vj : Value} {s : St} (h : SAt w g vn vj s) (hx : Ext w w') : SAt w' g vn vj s := ⟨h.blk.ext hx, h.rd.ext hx, h.offn, h.offj⟩
theorem SAt.first {w w' : World} {g : Nat} {vn vj : Value} {s : St} (h : RdSt w vn vj s) (hx : Ext w w') (hb : Blk w' g 27 #[vn, vj, .int .i64 s.goal, .int .i64 s.prior, .int .i64 s.mode, .int .i64 s.term]) (hg : w.heap.size ≤ g) : SAt w' g vn vj s :=
  ⟨hb, h.ext hx, .of_lt h.nodes hg, .of_lt h.jobs hg⟩
/-- A state is stored. -/
theorem SAt.putR {w : World} {g : Nat} {vn vj un uj : Value} {s t : St} (h : SAt w g vn vj s) (h2 : RdSt w un uj t) (hon : offG g un t.nodes.length) (hoj : offG g uj t.jobs.length) : ∃ w', w' = (((((w.setCell ⟨g, 0, none⟩ un).setCell ⟨g, 1, none⟩ uj).setCell ⟨g, 2, none⟩ (.int .i64 t.goal)).setCell ⟨g, 3, none⟩ (.int .i64 t.prior)).setCell ⟨g, 4, none⟩ (.int .i64 t.mode)).setCell ⟨g, 5, none⟩ (.int .i64 t.term) ∧
    SAt w' g un uj t ∧ (∀ k, k ≠ g → w'.heap[k]? = w.heap[k]?) ∧ w'.heap.size = w.heap.size ∧ ∀ (B : Nat) (a : World), Below B a w → B ≤ g → Below B a w' := by
  have hq := PB.start h.blk
  replace hq := hq.set 0 un
  replace hq := hq.set 1 uj
  replace hq := hq.set 2 (.int .i64 t.goal)
  replace hq := hq.set 3 (.int .i64 t.prior)
  replace hq := hq.set 4 (.int .i64 t.mode)
  replace hq := hq.set 5 (.int .i64 t.term)
  simp only [List.setIfInBounds_toArray, List.set_cons_zero, List.set_cons_succ] at hq
  exact ⟨_, rfl, ⟨hq.blk, ⟨h2.nodes.off hon (by rw [hq.size]; exact Nat.le_refl _) hq.same, h2.jobs.off hoj (by rw [hq.size]; exact Nat.le_refl _) hq.same⟩, hon, hoj⟩, hq.same, hq.size, hq.below⟩
/-- The state of another variable is stored. -/
theorem SAt.put {w : World} {g g2 : Nat} {vn vj un uj : Value} {s t : St} (h : SAt w g vn vj s) (h2 : SAt w g2 un uj t) (hon : offG g un t.nodes.length) (hoj : offG g uj t.jobs.length) : ∃ w', w' = (((((w.setCell ⟨g, 0, none⟩ un).setCell ⟨g, 1, none⟩ uj).setCell ⟨g, 2, none⟩ (.int .i64 t.goal)).setCell ⟨g, 3, none⟩ (.int .i64 t.prior)).setCell ⟨g, 4, none⟩ (.int .i64 t.mode)).setCell ⟨g, 5, none⟩ (.int .i64 t.term) ∧
    SAt w' g un uj t ∧ (∀ k, k ≠ g → w'.heap[k]? = w.heap[k]?) ∧ w'.heap.size = w.heap.size ∧ ∀ (B : Nat) (a : World), Below B a w → B ≤ g → Below B a w' := h.putR h2.rd hon hoj
/-- Another variable is written. -/
theorem SAt.keep {w w' : World} {g g' : Nat} {vn vj : Value} {s : St} (h : SAt w g' vn vj s) (hne : g' ≠ g) (h1 : offG g vn s.nodes.length) (h2 : offG g vj s.jobs.length) (hs : w'.heap.size = w.heap.size) (hk : ∀ k, k ≠ g → w'.heap[k]? = w.heap[k]?) : SAt w' g' vn vj s :=
  ⟨(hk _ hne).trans h.blk, ⟨h.rd.nodes.off h1 (by rw [hs]; exact Nat.le_refl _) hk, h.rd.jobs.off h2 (by rw [hs]; exact Nat.le_refl _) hk⟩, h.offn, h.offj⟩
/-- The variable's slices lie ahead of what is made later. -/
theorem SAt.later {w : World} {g g' : Nat} {vn vj : Value} {s : St} (h : SAt w g' vn vj s) (hg : w.heap.size ≤ g) : offG g vn s.nodes.length ∧ offG g vj s.jobs.length ∧ g' ≠ g := by
  have := h.blk.lt
  exact ⟨.of_lt h.rd.nodes hg, .of_lt h.rd.jobs hg, by omega⟩

/-! ### Behind 't, e = book.Apply(c, s, o)' -/
structure ApCut (W : World) (r : Res9) (p e : Value) (wx : World) : Prop where
  out : ∃ g vn vj, p = .pointer (some ⟨g, 0, none⟩) ∧ e = .int .i64 r.2 ∧ W.heap.size ≤ g ∧ Ext W wx ∧ SAt wx g vn vj r.1 ∧ ∀ k, vn.ownBlock = some k ∨ vj.ownBlock = some k → W.heap.size ≤ k
theorem ApCut.made {W w3 : World} {r : Res9} {vn vj : Value} (hx : Ext W w3) (hr : RdSt w3 vn vj r.1) (hk : ∀ k, vn.ownBlock = some k ∨ vj.ownBlock = some k → W.heap.size ≤ k) :
    ApCut W r (.pointer (some ⟨w3.heap.size, 0, none⟩)) (.int .i64 r.2) (w3.alloc (.cells #[vn, vj, .int .i64 r.1.goal, .int .i64 r.1.prior, .int .i64 r.1.mode, .int .i64 r.1.term] 27)) := by
  have hy : Ext w3 (w3.alloc (.cells #[vn, vj, .int .i64 r.1.goal, .int .i64 r.1.prior, .int .i64 r.1.mode, .int .i64 r.1.term] 27)) := (Below.refl _ _).alloc (Nat.le_refl _) _
  exact ⟨_, _, _, rfl, rfl, hx.size, hx.trans hy, SAt.first hr hy (Blk.new _ _ _) (Nat.le_refl _), hk⟩
theorem ApCut.ahead {W w3 w' : World} {r : Res9} {vn vj : Value} (hx : Ext W w3) (hr : RdSt w3 vn vj r.1) (hq : PB w3 W.heap.size 27 w' #[vn, vj, .int .i64 r.1.goal, .int .i64 r.1.prior, .int .i64 r.1.mode, .int .i64 r.1.term])
    (hk : ∀ k, vn.ownBlock = some k ∨ vj.ownBlock = some k → W.heap.size + 1 ≤ k) : ApCut W r (.pointer (some ⟨W.heap.size, 0, none⟩)) (.int .i64 r.2) w' := by
  have h1 : offG W.heap.size vn r.1.nodes.length := fun _ k h e => by have := hk k (.inl h); omega
  have h2 : offG W.heap.size vj r.1.jobs.length := fun _ k h e => by have := hk k (.inr h); omega
  exact ⟨_, _, _, rfl, rfl, Nat.le_refl _, hq.below _ _ hx (Nat.le_refl _), ⟨hq.blk, ⟨hr.nodes.off h1 (by rw [hq.size]; exact Nat.le_refl _) hq.same, hr.jobs.off h2 (by rw [hq.size]; exact Nat.le_refl _) hq.same⟩, h1, h2⟩, fun k h => by have := hk k h; omega⟩

/-- At the head of a loop over ops: the variables of the fleet and of the state. -/
structure KR9 (w : World) (c : Cf) (s : St) (wr : World) : Prop where
  out : ∃ vn vj, Below w.heap.size w wr ∧ Blk wr w.heap.size 23 #[.int .i64 c.nodes, .int .i64 c.queues, .int .i64 c.quota, .int .i64 c.wave, .int .i64 c.lease, .int .i64 c.retry, .int .i64 c.deadline, .int .i64 c.room, .int .i64 c.disk] ∧ SAt wr (w.heap.size + 1) vn vj s ∧ RightP c s

/-! ### A list of ops -/
structure OpAt (w : World) (b q : Nat) (o : OpN) : Prop where
  c0 : w.cell? ⟨b, q, none⟩ = some (.int .i64 o.1)
  c1 : w.cell? ⟨b, q + 1, none⟩ = some (.int .i64 o.2.1)
  c2 : w.cell? ⟨b, q + 2, none⟩ = some (.int .i64 o.2.2.1)
  c3 : w.cell? ⟨b, q + 3, none⟩ = some (.int .i64 o.2.2.2.1)
  c4 : w.cell? ⟨b, q + 4, none⟩ = some (.int .i64 o.2.2.2.2.1)
  c5 : w.cell? ⟨b, q + 5, none⟩ = some (.int .i64 o.2.2.2.2.2.1)
  c6 : w.cell? ⟨b, q + 6, none⟩ = some (.int .i64 o.2.2.2.2.2.2)
theorem OpAt.ext {w w' : World} {b q : Nat} {n : OpN} (h : OpAt w b q n) (hx : Ext w w') (hb : b < w.heap.size) : OpAt w' b q n := ⟨hx.cellOf h.c0 hb, hx.cellOf h.c1 hb, hx.cellOf h.c2 hb, hx.cellOf h.c3 hb, hx.cellOf h.c4 hb, hx.cellOf h.c5 hb, hx.cellOf h.c6 hb⟩
theorem OpAt.low {w w' : World} {b q B : Nat} {n : OpN} (h : OpAt w b q n) (hx : Below B w w') (hb : b < B) : OpAt w' b q n := ⟨(hx.cell (p := ⟨b, q, none⟩) hb).trans h.c0, (hx.cell (p := ⟨b, q + 1, none⟩) hb).trans h.c1, (hx.cell (p := ⟨b, q + 2, none⟩) hb).trans h.c2, (hx.cell (p := ⟨b, q + 3, none⟩) hb).trans h.c3, (hx.cell (p := ⟨b, q + 4, none⟩) hb).trans h.c4, (hx.cell (p := ⟨b, q + 5, none⟩) hb).trans h.c5, (hx.cell (p := ⟨b, q + 6, none⟩) hb).trans h.c6⟩
theorem ops_cells {w : World} {v : Value} {l : List OpN} (h : RdOps w v l) : ∃ A c, v = .slice A l.length c ∧ l.length ≤ c ∧ c ≤ 9223372036854775807 ∧ ∀ i n, l[i]? = some n → ∃ b o, A = some ⟨b, o, none⟩ ∧ b < w.heap.size ∧ OpAt w b (o + i * 7) n := by
  obtain ⟨A, c, rfl, h1, h2⟩ := h.slice_
  refine ⟨A, c, rfl, h1, h2, fun i n hi => ?_⟩
  have hl := (List.getElem?_eq_some_iff.1 hi).1
  obtain ⟨b, o, hA, hb, hc⟩ := h.get (by omega)
  have key : ∀ j u, (opC n)[j]? = some u → w.cell? ⟨b, o + i * 7 + j, none⟩ = some u := fun j u hu => by
    have hj : j < 7 := (List.getElem?_eq_some_iff.1 hu).1
    rw [Nat.add_assoc]
    exact hc _ _ ((flat_get opC_len hi j hj).trans hu)
  exact ⟨b, o, hA, hb, ⟨key 0 _ rfl, key 1 _ rfl, key 2 _ rfl, key 3 _ rfl, key 4 _ rfl, key 5 _ rfl, key 6 _ rfl⟩⟩

/-! ### Is a state more than is looked at? -/
def greatS (s : St) : Bool := decide (50 < s.nodes.length) || decide (100 < s.jobs.length)
theorem great_no {s : St} (h : greatS s = false) : s.nodes.length ≤ 50 ∧ s.jobs.length ≤ 100 := by
  unfold greatS at h
  simp only [Bool.or_eq_false_iff, decide_eq_false_iff_not] at h
  omega
theorem RightP.not_great {c : Cf} {s : St} (h : RightP c s) : greatS s = false := by
  have h1 := h.len
  have h2 := h.nj
  unfold greatS
  simp only [Bool.or_eq_false_iff, decide_eq_false_iff_not]
  omega

set_option maxRecDepth 100000 in
theorem great_any (vn vj : Value) (s : St) (w : World) (h : RdSt w vn vj s) :
    Calls Tryd.prog 12 #[stV vn vj s] w fun e w' => e = .returned (.bool (greatS s)) ∧ Ext w w' := by
  obtain ⟨An, cn, rfl, hnc, hcm⟩ := h.nodes.slice_
  obtain ⟨Aj, cj, rfl, hjc, hjm⟩ := h.jobs.slice_
  have HX : Hid (∀ cs, Ext w (w.alloc (.cells cs 27))) := Lib.hid fun _ => (Below.refl _ _).alloc (Nat.le_refl _) _
  unfold stV
  clear h
  by_cases h1 : 50 < s.nodes.length
  · have d1 : decide ((50 : Int) < (s.nodes.length : Int)) = true := decide_eq_true (by omega)
    have d1' : decide (50 < s.nodes.length) = true := decide_eq_true h1
    have HG : Hid (greatS s = true) := Lib.hid (by unfold greatS; rw [d1']; rfl)
    clear h1
    go_enter Tryd.func12, Tryd.ntmps12
    go_wp2
    go_ret
    exact ⟨congrArg (fun b => Ending.returned (.bool b)) HG.out.symm, HX.out _⟩
  · have d1 : decide ((50 : Int) < (s.nodes.length : Int)) = false := decide_eq_false (by omega)
    have d1' : decide (50 < s.nodes.length) = false := decide_eq_false h1
    clear h1
    by_cases h2 : 100 < s.jobs.length
    · have d2 : decide ((100 : Int) < (s.jobs.length : Int)) = true := decide_eq_true (by omega)
      have d2' : decide (100 < s.jobs.length) = true := decide_eq_true h2
      have HG : Hid (greatS s = true) := Lib.hid (by unfold greatS; rw [d1', d2']; rfl)
      clear h2
      go_enter Tryd.func12, Tryd.ntmps12
      go_wp2
      go_ret
      exact ⟨congrArg (fun b => Ending.returned (.bool b)) HG.out.symm, HX.out _⟩
    · have d2 : decide ((100 : Int) < (s.jobs.length : Int)) = false := decide_eq_false (by omega)
      have d2' : decide (100 < s.jobs.length) = false := decide_eq_false h2
      have HG : Hid (greatS s = false) := Lib.hid (by unfold greatS; rw [d1', d2']; rfl)
      clear h2
      go_enter Tryd.func12, Tryd.ntmps12
      go_wp2
      go_ret
      exact ⟨congrArg (fun b => Ending.returned (.bool b)) HG.out.symm, HX.out _⟩

end Go.Proofs.YtmgbgpendpiahaaDoor
