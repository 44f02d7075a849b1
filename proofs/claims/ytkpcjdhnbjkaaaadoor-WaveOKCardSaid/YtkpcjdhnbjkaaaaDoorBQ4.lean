/- Texts that the proof of B rests on, one behind the other. -/
import Derived.Test.YtkpcjdhnbjkaaaaDoorBQ3
import Derived.WalkKit
import Derived.Deep.RegionHeld3
import Derived.Laws.PanicsMore

/- A statement whose order is open, walked step by step: what is said of the world may grow on the way (the tactics of the kit say one thing all along). No program is named here. -/
namespace Go.Proofs.YtkpcjdhnbjkaaaaDoor
open Go.RowKit

section
variable {P : Program} {l : List Oper} {Q : Exit → Act → World → Prop} {md : Region.Mode} {S S' : World → Prop}

theorem held_begin {id : Nat} {a : Act} {w : World} (hm : P.follows .mixedOrders = true)
    (h : wpAnyH P .any l.toArray (NoPanic Q) (fun _ => True) l.toArray.size (Array.replicate l.toArray.size false) a w.drew) : (Code.region id l.toArray true).wp P Q a w :=
  wp_region_noPanic (wp_region_any hm (wpAny_of_held _ _ _ _ h))

/-- One operation, that yields its value in every world of which S holds, is taken first. -/
theorem held_take {i : Nat} {oi : Oper} {v : Value} {fuel : Nat} {listed : Array Bool} {a : Act} {w : World} (hi : l[i]? = some oi) (hs : Region.noSelect l.toArray = true) (hf : Region.free md l.toArray listed i = true)
    (hr : (Region.ready md l.toArray listed).contains i = true) (hw : Region.wanted oi (yielded l.toArray a.tmps) = true) (hS : S w) (hy : ∀ w, S w → (execOp a.eval oi).run P w = .ok (.value v) w)
    (h : wpAnyH P md l.toArray (NoPanic Q) S fuel (listed.setIfInBounds i true) (a.put oi.dst v) w) : wpAnyH P md l.toArray (NoPanic Q) S (fuel + 1) listed a w :=
  wpAnyH_take (oi := oi) (v := v) (by simpa using hi) hs hf hr (fun _ _ _ h => h) (.inl ⟨hw, hy⟩) hS h

/-- One operation that is not wanted (its guard says so) is passed by. -/
theorem held_skip {i : Nat} {oi : Oper} {fuel : Nat} {listed : Array Bool} {a : Act} {w : World} (hi : l[i]? = some oi) (hs : Region.noSelect l.toArray = true) (hf : Region.free md l.toArray listed i = true)
    (hr : (Region.ready md l.toArray listed).contains i = true) (hw : Region.wanted oi (yielded l.toArray a.tmps) = false) (hS : S w)
    (h : wpAnyH P md l.toArray (NoPanic Q) S fuel (listed.setIfInBounds i true) (a.put oi.dst undef) w) : wpAnyH P md l.toArray (NoPanic Q) S (fuel + 1) listed a w :=
  wpAnyH_take (oi := oi) (v := undef) (by simpa using hi) hs hf hr (fun _ _ _ h => h) (.inr ⟨hw, rfl⟩) hS h

/-- One operation is carried out, where no other may come up. -/
theorem held_op {i : Nat} {o : Oper} {fuel : Nat} {listed : Array Bool} {a : Act} {w : World} (hr : Region.ready md l.toArray listed = [i]) (hi : l[i]? = some o)
    (h : ∀ K : Act → World → Prop, (∀ a' w', S w' → (S w' → wpAnyH P md l.toArray (NoPanic Q) S fuel (listed.setIfInBounds i true) a' w') → K a' w') →
      if Region.wanted o (yielded l.toArray a.tmps) = true then Oper.wp P o a w K (NoPanic Q) else K (a.put o.dst undef) w) : wpAnyH P md l.toArray (NoPanic Q) S (fuel + 1) listed a w := by
  refine wpAnyH_all hr (by simp) (fun j hj => ?_)
  rw [List.mem_singleton] at hj
  subst hj
  have e : l.toArray[j]? = some o := by simpa using hi
  exact wpOp_step e (fun K hK => h K (fun a' w' h1 h2 => hK a' w' ⟨h1, h2 h1⟩))

/-- More is said of the world from here on. -/
theorem held_more (hSS : ∀ w, S' w → S w) : ∀ {fuel : Nat} {listed : Array Bool} {a : Act} {w : World}, wpAnyH P md l.toArray Q S' fuel listed a w → wpAnyH P md l.toArray Q S fuel listed a w
  | 0, _, _, _, h => h
  | _ + 1, _, _, _, h => ⟨h.1, fun i hi => wpOp_mono (fun _ _ h' => ⟨hSS _ h'.1, held_more hSS h'.2⟩) (h.2 i hi)⟩
end

end Go.Proofs.YtkpcjdhnbjkaaaaDoor

/- A statement whose order is open, where two operations may come up: both ways are walked. No program is named here. -/
namespace Go.Proofs.YtkpcjdhnbjkaaaaDoor
open Go.RowKit

section
variable {P : Program} {l : List Oper} {Q : Exit → Act → World → Prop} {md : Region.Mode} {S : World → Prop}
theorem held_two {i j : Nat} {oi oj : Oper} {fuel : Nat} {listed : Array Bool} {a : Act} {w : World} (hr : Region.ready md l.toArray listed = [i, j]) (hi : l[i]? = some oi) (hj : l[j]? = some oj)
    (h1 : ∀ K : Act → World → Prop, (∀ a' w', S w' → (S w' → wpAnyH P md l.toArray (NoPanic Q) S fuel (listed.setIfInBounds i true) a' w') → K a' w') →
      if Region.wanted oi (yielded l.toArray a.tmps) = true then Oper.wp P oi a w K (NoPanic Q) else K (a.put oi.dst undef) w)
    (h2 : ∀ K : Act → World → Prop, (∀ a' w', S w' → (S w' → wpAnyH P md l.toArray (NoPanic Q) S fuel (listed.setIfInBounds j true) a' w') → K a' w') →
      if Region.wanted oj (yielded l.toArray a.tmps) = true then Oper.wp P oj a w K (NoPanic Q) else K (a.put oj.dst undef) w) : wpAnyH P md l.toArray (NoPanic Q) S (fuel + 1) listed a w := by
  refine wpAnyH_all hr (by simp) (fun k hk => ?_)
  simp only [List.mem_cons, List.not_mem_nil, or_false] at hk
  rcases hk with rfl | rfl
  · have e : l.toArray[k]? = some oi := by simpa using hi
    exact wpOp_step e (fun K hK => h1 K (fun a' w' q1 q2 => hK a' w' ⟨q1, q2 q1⟩))
  · have e : l.toArray[k]? = some oj := by simpa using hj
    exact wpOp_step e (fun K hK => h2 K (fun a' w' q1 q2 => hK a' w' ⟨q1, q2 q1⟩))
end

end Go.Proofs.YtkpcjdhnbjkaaaaDoor

/- An element of an array that is a value. -/
namespace Go.Proofs.YtkpcjdhnbjkaaaaDoor
open Go.RowKit

theorem run_index_arr {P : Program} {w : World} (t e : TypeId) (n : Nat) (cs : Array Value) (k : IntKind) (i : Nat) (v : Value) (h : P.underlying t = some (.array n e)) (hs : (sizeOf e).run P w = .ok 1 w) (ha : (isAgg e).run P w = .ok false w) (hi : i < n) (hv : cs[i]? = some v) :
    (Instr.index t (.agg cs) (.int k i)).run P w = .ok v w := by
  have hn : (0 ≤ (i : Int) ∧ (i : Int) < (n : Int)) := by omega
  simp [Instr.index, run_underlying h, asIntOf, go_sem, hi, hs, ha, hv]

end Go.Proofs.YtkpcjdhnbjkaaaaDoor

/- Rows of elements of several cells: an append of what reads so. No program is named here. -/
namespace Go.Proofs.YtkpcjdhnbjkaaaaDoor
open Go.RowKit

/-- What an append to an own row leaves. -/
def GrewK (base : Nat) (e : TypeId) (K : Nat) (v : Value) (w : World) (n : Nat) (xs : List Value) (v' : Value) (w' : World) : Prop :=
  w'.ownsRow base e K v' n xs ∧ w.grownBy w' v.ownBlock ∧ (v'.ownBlock = v.ownBlock ∨ ∀ k, v'.ownBlock = some k → w.heap.size ≤ k)

theorem GrewK.ext {base K n : Nat} {e : TypeId} {w w' : World} {xs : List Value} {v' : Value} (h : GrewK base e K (.slice none 0 0) w n xs v' w') : Ext w w' := (Below.refl _ _).grown h.2.1 (Nat.le_refl _) (fun k hk => by cases hk)

theorem run_appendK {P : Program} (w : World) (base : Nat) (t ty e : TypeId) (i0 : TypeInfo) (z : Value) (K bytes : Nat) (ht : P.underlying t = some (.slice e)) (hi : P.info? e = some i0) (hz0 : i0.zero = some z) (hz1 : i0.size = K) (hz2 : i0.bytes = bytes) (hzs : z.cells.size = K) (hK0 : 0 < K)
    (v : Value) (n : Nat) (xs : List Value) (hown : w.ownsRow base e K v n xs) (u : Value) (m : Nat) (ys : List Value) (hr : RdS K w u m ys) (h1 : ∀ y ∈ ys, y.oneCell' = true)
    (h63 : n + m ≤ maxLen) (hbytes : (n + m) * bytes ≤ 140737488355328) (hbase : base ≤ w.heap.size) :
    ∃ v' w', (Builtin.append_ #[t, t] ty #[v, u]).run P w = .ok v' w' ∧ GrewK base e K v w (n + m) (xs ++ ys) v' w' := by
  obtain ⟨hl, A, c, rfl, hlc, hcm, hcell⟩ := hr
  rcases A with _ | ad
  · have h0 : m = 0 := by
      rcases Nat.eq_zero_or_pos m with h | h
      · exact h
      · obtain ⟨b, o, h, _⟩ := hcell h
        cases h
    subst h0
    have hy : ys = [] := List.eq_nil_of_length_eq_zero (by simpa using hl)
    subst hy
    refine ⟨v, w, ?_, by simpa using hown, World.grownBy.refl _ _, .inl rfl⟩
    rcases hown.2 with ⟨rfl, rfl⟩ | ⟨g, cap, cur, rfl, _, _, hnc, _⟩
    · simp [Builtin.append_, run_underlying ht, sizeOf, typeInfo, hi, Builtin.lenOf, Builtin.firstCells]
    · simp [Builtin.append_, run_underlying ht, sizeOf, typeInfo, hi, Builtin.lenOf, Builtin.firstCells, hnc, storeCells]
  · have hnews : ∀ j u, ys[j]? = some u → w.cell? (ad.add j) = some u := by
      intro j u hu
      have hp : 0 < m := by
        rcases Nat.eq_zero_or_pos m with h | h
        · rw [h, Nat.zero_mul] at hl
          rw [List.eq_nil_of_length_eq_zero hl] at hu
          simp at hu
        · exact h
      obtain ⟨b, o, h, _, hc⟩ := hcell hp
      cases h
      rw [Addr.add_lit]
      exact hc j u hu
    obtain ⟨v', w', hrun, h2, h3, _, h5⟩ := run_append_own_at (P := P) w base t ty e i0 z K bytes ht hi hz0 hz1 hz2 hzs hK0 v n xs hown ad m c ys hl hnews h1 h63 hbytes hbase
    refine ⟨v', w', hrun, h2, h3, ?_⟩
    rcases h5 with h5 | h5
    · exact .inl h5
    · refine .inr fun k hk => ?_
      rw [h5] at hk
      cases hk
      exact Nat.le_refl _

theorem wpList_appendK {P : Program} {w : World} {ops : Array Oper} {rest : List Oper} {o : Oper} {a : Act} {Q : Exit → Act → World → Prop} (hgd : o.guard = none) (s x : Operand) (t : TypeId)
    (ho : o.op = .call { callee := .builtin .append, args := #[s, x], argTypes := #[t, t] })
    (base : Nat) (e : TypeId) (z : Value) (K bytes : Nat) (ht : P.underlying t = some (.slice e)) (hinfo : (P.info? e).map (fun i => (i.zero, i.size, i.bytes)) = some (some z, K, bytes)) (hzs : z.cells.size = K) (hK0 : 0 < K)
    (v : Value) (n : Nat) (xs : List Value) (hs : a.eval s = v) (hown : w.ownsRow base e K v n xs) (u : Value) (m : Nat) (ys : List Value) (hx : a.eval x = u) (hr : RdS K w u m ys) (h1 : ∀ y ∈ ys, y.oneCell' = true)
    (h63 : n + m ≤ maxLen) (hbytes : (n + m) * bytes ≤ 140737488355328) (hbase : base ≤ w.heap.size)
    (h : ∀ v' w', GrewK base e K v w (n + m) (xs ++ ys) v' w' → wpList P ops Q rest (a.put o.dst v') w') : wpList P ops Q (o :: rest) a w := by
  refine wpList_plain hgd fun K' hK' => ?_
  obtain ⟨i0, hi, hz0, hz1, hz2⟩ := info_parts hinfo
  obtain ⟨v', w', hrun, h2⟩ := run_appendK (P := P) w base t o.type e i0 z K bytes ht hi hz0 hz1 hz2 hzs hK0 v n xs hown u m ys hr h1 h63 hbytes hbase
  unfold Oper.wp execOp
  simp only [ho, resolve, invoke, builtin, Sem.run_bind, Sem.run_pure, Result.andThen_ok, List.map_toArray, List.map_cons, List.map_nil, hs, hx, hrun]
  exact hK' _ _ (h v' w' h2)

/-- The same inside a statement whose order is open. -/
theorem stepAppendK {P : Program} {w : World} {ops : Array Oper} {o : Oper} {a : Act} {K' : Act → World → Prop} {Q : Exit → Act → World → Prop} {E : Prop} (s x : Operand) (t : TypeId)
    (ho : o.op = .call { callee := .builtin .append, args := #[s, x], argTypes := #[t, t] }) (hw : Region.wanted o (yielded ops a.tmps) = true)
    (base : Nat) (e : TypeId) (z : Value) (K bytes : Nat) (ht : P.underlying t = some (.slice e)) (hinfo : (P.info? e).map (fun i => (i.zero, i.size, i.bytes)) = some (some z, K, bytes)) (hzs : z.cells.size = K) (hK0 : 0 < K)
    (v : Value) (n : Nat) (xs : List Value) (hs : a.eval s = v) (hown : w.ownsRow base e K v n xs) (u : Value) (m : Nat) (ys : List Value) (hx : a.eval x = u) (hr : RdS K w u m ys) (h1 : ∀ y ∈ ys, y.oneCell' = true)
    (h63 : n + m ≤ maxLen) (hbytes : (n + m) * bytes ≤ 140737488355328) (hbase : base ≤ w.heap.size)
    (h : ∀ v' w', GrewK base e K v w (n + m) (xs ++ ys) v' w' → K' (a.put o.dst v') w') : if Region.wanted o (yielded ops a.tmps) = true then Oper.wp P o a w K' Q else E := by
  rw [if_pos hw]
  obtain ⟨i0, hi, hz0, hz1, hz2⟩ := info_parts hinfo
  obtain ⟨v', w', hrun, h2⟩ := run_appendK (P := P) w base t o.type e i0 z K bytes ht hi hz0 hz1 hz2 hzs hK0 v n xs hown u m ys hr h1 h63 hbytes hbase
  unfold Oper.wp execOp
  simp only [ho, resolve, invoke, builtin, Sem.run_bind, Sem.run_pure, Result.andThen_ok, List.map_toArray, List.map_cons, List.map_nil, hs, hx, hrun]
  exact h v' w' h2

theorem nodes_oneCell (l : List Nd) : ∀ u ∈ nodesC l, u.oneCell' = true := by
  intro u hu
  obtain ⟨n, _, hn⟩ := List.mem_flatMap.1 hu
  simp only [Nd.cells, List.mem_cons, List.not_mem_nil, or_false] at hn
  rcases hn with rfl | rfl | rfl | rfl | rfl <;> rfl
theorem jobs_oneCell (l : List Jb) : ∀ u ∈ jobsC l, u.oneCell' = true := by
  intro u hu
  obtain ⟨n, _, hn⟩ := List.mem_flatMap.1 hu
  simp only [Jb.cells, List.mem_cons, List.not_mem_nil, or_false] at hn
  rcases hn with rfl | rfl | rfl | rfl | rfl | rfl | rfl | rfl | rfl | rfl | rfl | rfl <;> rfl

/-- One element just made, as a slice. -/
theorem RdS.lit (K : Nat) (w : World) (cs : Array Value) (e : TypeId) (g : Nat) (hg : g = w.heap.size) (hc : cs.size = K) : RdS K (w.alloc (.cells cs e)) (.slice (some ⟨g, 0, none⟩) 1 1) 1 cs.toList := by
  subst hg
  refine ⟨by rw [Array.length_toList, hc, Nat.one_mul], some ⟨w.heap.size, 0, none⟩, 1, rfl, Nat.le_refl _, by unfold maxLen; omega, fun _ => ⟨w.heap.size, 0, rfl, by simp, fun j u hu => ?_⟩⟩
  rw [Nat.zero_add, cell_of_row _ _ _ cs e (0, 0) (heap_alloc_new w _)]
  simpa using hu

end Go.Proofs.YtkpcjdhnbjkaaaaDoor

/- A block is written, cell by cell. No program is named here. -/
namespace Go.Proofs.YtkpcjdhnbjkaaaaDoor
open Go.RowKit

/-- A block is written, cell by cell. -/
structure PB (w0 : World) (g : Nat) (T : TypeId) (w : World) (cs : Array Value) : Prop where
  blk : Blk w g T cs
  same : ∀ k, k ≠ g → w.heap[k]? = w0.heap[k]?
  size : w.heap.size = w0.heap.size
  below : ∀ (B : Nat) (a : World), Below B a w0 → B ≤ g → Below B a w
theorem PB.start {w : World} {g : Nat} {T : TypeId} {cs : Array Value} (h : Blk w g T cs) : PB w g T w cs := ⟨h, fun _ _ => rfl, rfl, fun _ _ h _ => h⟩
theorem PB.set {w0 w : World} {g : Nat} {T : TypeId} {cs : Array Value} (h : PB w0 g T w cs) (i : Nat) (u : Value) : PB w0 g T (w.setCell ⟨g, i, none⟩ u) (cs.setIfInBounds i u) :=
  ⟨h.blk.set_ i u, fun k hk => (Below.heap_setCell _ _ _ _ hk).trans (h.same k hk), by simp [h.size], fun B a hb hg => Below.setCell (p := ⟨g, i, none⟩) (h.below B a hb hg) hg u⟩
theorem grown_blk {w w' : World} {row : Option Nat} {g : Nat} {T : TypeId} {cs : Array Value} (h : w.grownBy w' row) (hb : Blk w g T cs) (hne : some g ≠ row) : Blk w' g T cs := (h.block g hb.lt hne).trans hb
theorem results_cell_tmp_row {P : Program} {fn : Func} {p u : Tmp} {ty : TypeId} (h : fn.results = #[.cell p ty, .tmp u]) (tmps : Array Value) (w : World) (g : Nat) (t : TypeId) (cs : Array Value) (fr : Nat × Nat) (d : TypeDesc)
    (hp : tmps.getD p undef = .pointer (some ⟨g, 0, none⟩)) (hg : w.heap[g]? = some (.cells cs t fr))
    (hu : P.underlying ty = some d) (hd : (match d with | .struct _ | .array _ _ => true | _ => false) = true) (hi : (P.info? ty).map (·.size) = some cs.size) :
    (results fn tmps).run P w = .ok (.tuple #[.agg cs, tmps.getD u undef]) w := by
  have hp' : tmps[p]?.getD undef = .pointer (some ⟨g, 0, none⟩) := by simpa using hp
  rw [results_cell_tmp h]
  simp [hp', asAddr, run_loadVar_row w g t ty cs fr d hg hu hd hi]

end Go.Proofs.YtkpcjdhnbjkaaaaDoor
