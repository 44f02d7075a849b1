/- Texts that the proof of K rests on, one behind the other. -/
import Derived.Test.YtkkmldoohokdfaaKQ3
import Derived.WalkKit
import Derived.Deep.RegionHeld3
import Derived.Maps.AppendAt
import Derived.ArgAppend
import Derived.Laws.OwnMore
import Derived.Deep.Slices
import Derived.Deep.Fields
import Derived.ChangeSame

/- A statement whose order is open, walked step by step: what is said of the world may grow on the way (the tactics of the kit say one thing all along). No program is named here. -/
namespace Go.Proofs.Ytkkmldoohokdfaa
open Go.RowKit

section
variable {P : Program} {l : List Oper} {Q : Exit → Act → World → Prop} {md : Region.Mode} {S S' : World → Prop}

theorem held_begin {id : Nat} {a : Act} {w : World} (hm : P.follows .mixedOrders = true)
    (h : wpAnyH P .any l.toArray (NoPanic Q) (fun _ => True) l.toArray.size (Array.replicate l.toArray.size false) a w.drew) : (Code.region id l.toArray true).wp P Q a w :=
  wp_region_noPanic (wp_region_any hm (wpAny_of_held _ _ _ _ h))

/-- One operation, that yields its value in every world of which S holds, is taken first. -/
theorem held_take {i : Nat} {oi : Oper} {v : Value} {fuel : Nat} {listed : Array Bool} {a : Act} {w : World} (hi : l[i]? = some oi) (hs : Region.noSelect l.toArray = true) (hf : Region.free md l.toArray listed i = true)
    (hr : (Region.ready md l.toArray listed).contains i = true) (hw : Region.wanted oi (yielded l.toArray a.tmps) = true) (hS : S w) (hy : ∀ w, S w → (execOp a.eval oi).run P w = .ok (.value v) w)
    (h : wpAnyH P md l.toArray (NoPanic Q) S fuel (listed.setIfInBounds i true) (a.put oi.dst v) w) : wpAnyH P md l.toArray (NoPanic Q) S (fuel + 1) listed a w :=
  wpAnyH_take (oi := oi) (v := v) (by simpa using hi) hs hf hr (fun _ _ _ h => h) (.inl ⟨hw, hy⟩) hS h

/-- One operation that is not wanted (its guard says so) is passed by. -/
theorem held_skip {i : Nat} {oi : Oper} {fuel : Nat} {listed : Array Bool} {a : Act} {w : World} (hi : l[i]? = some oi) (hs : Region.noSelect l.toArray = true) (hf : Region.free md l.toArray listed i = true)
    (hr : (Region.ready md l.toArray listed).contains i = true) (hw : Region.wanted oi (yielded l.toArray a.tmps) = false) (hS : S w)
    (h : wpAnyH P md l.toArray (NoPanic Q) S fuel (listed.setIfInBounds i true) (a.put oi.dst undef) w) : wpAnyH P md l.toArray (NoPanic Q) S (fuel + 1) listed a w :=
  wpAnyH_take (oi := oi) (v := undef) (by simpa using hi) hs hf hr (fun _ _ _ h => h) (.inr ⟨hw, rfl⟩) hS h

/-- One operation is carried out, where no other may come up. -/
theorem held_op {i : Nat} {o : Oper} {fuel : Nat} {listed : Array Bool} {a : Act} {w : World} (hr : Region.ready md l.toArray listed = [i]) (hi : l[i]? = some o)
    (h : ∀ K : Act → World → Prop, (∀ a' w', S w' → (S w' → wpAnyH P md l.toArray (NoPanic Q) S fuel (listed.setIfInBounds i true) a' w') → K a' w') →
      if Region.wanted o (yielded l.toArray a.tmps) = true then Oper.wp P o a w K (NoPanic Q) else K (a.put o.dst undef) w) : wpAnyH P md l.toArray (NoPanic Q) S (fuel + 1) listed a w := by
  refine wpAnyH_all hr (by simp) (fun j hj => ?_)
  rw [List.mem_singleton] at hj
  subst hj
  have e : l.toArray[j]? = some o := by simpa using hi
  exact wpOp_step e (fun K hK => h K (fun a' w' h1 h2 => hK a' w' ⟨h1, h2 h1⟩))

/-- More is said of the world from here on. -/
theorem held_more (hSS : ∀ w, S' w → S w) : ∀ {fuel : Nat} {listed : Array Bool} {a : Act} {w : World}, wpAnyH P md l.toArray Q S' fuel listed a w → wpAnyH P md l.toArray Q S fuel listed a w
  | 0, _, _, _, h => h
  | _ + 1, _, _, _, h => ⟨h.1, fun i hi => wpOp_mono (fun _ _ h' => ⟨hSS _ h'.1, held_more hSS h'.2⟩) (h.2 i hi)⟩
end

end Go.Proofs.Ytkkmldoohokdfaa

/- Rows of elements of several cells: what reads so, and an append of it; as in RowK, without a program. -/
namespace Go.Proofs.Ytkkmldoohokdfaa
open Go.RowKit

def RdS (K : Nat) (w : World) (v : Value) (n : Nat) (xs : List Value) : Prop :=
  xs.length = n * K ∧ ∃ A c, v = .slice A n c ∧ n ≤ c ∧ c ≤ maxLen ∧ (0 < n → ∃ b o, A = some ⟨b, o, none⟩ ∧ b < w.heap.size ∧ ∀ j u, xs[j]? = some u → w.cell? ⟨b, o + j, none⟩ = some u)

section
variable {K : Nat} {w w' : World} {v : Value} {n : Nat} {xs : List Value}
theorem RdS.ext (h : RdS K w v n xs) (hx : Ext w w') : RdS K w' v n xs := by
  obtain ⟨h0, A, c, e, h1, h2, h3⟩ := h
  refine ⟨h0, A, c, e, h1, h2, fun hn => ?_⟩
  obtain ⟨b, o, hA, hlt, hc⟩ := h3 hn
  exact ⟨b, o, hA, Nat.lt_of_lt_of_le hlt hx.size, fun j u hu => (hx.cell (p := ⟨b, o + j, none⟩) hlt).trans (hc j u hu)⟩
theorem RdS.slice_ (h : RdS K w v n xs) : ∃ A c, v = .slice A n c ∧ n ≤ c ∧ c ≤ 9223372036854775807 := by
  obtain ⟨_, A, c, e, h1, h2, _⟩ := h
  exact ⟨A, c, e, h1, by unfold maxLen at h2; omega⟩
theorem RdS.get {A : Option Addr} {c : Nat} (h : RdS K w (.slice A n c) n xs) (hn : 0 < n) : ∃ b o, A = some ⟨b, o, none⟩ ∧ b < w.heap.size ∧ ∀ j u, xs[j]? = some u → w.cell? ⟨b, o + j, none⟩ = some u := by
  obtain ⟨_, A', c', e, _, _, h3⟩ := h
  cases e
  exact h3 hn
theorem RdS.own {base : Nat} {e : TypeId} (h : w.ownsRow base e K v n xs) : RdS K w v n xs := by
  refine ⟨h.1, ?_⟩
  rcases h.2 with ⟨rfl, h0⟩ | ⟨g, cap, cur, rfl, hg, hh, hn, hcap, hs, ht⟩
  · exact ⟨none, 0, by rw [h0], by omega, Nat.zero_le _, fun hn => absurd hn (by omega)⟩
  · refine ⟨some ⟨g, 0, none⟩, cap, rfl, hn, hcap, fun _ => ⟨g, 0, rfl, (Array.getElem?_eq_some_iff.1 hh).1, fun j u hu => ?_⟩⟩
    have := h.cells (g := g) rfl j u hu
    rwa [Addr.add_lit] at this
end

/-- What an append to an own row leaves. -/
def GrewK (base : Nat) (e : TypeId) (K : Nat) (v : Value) (w : World) (n : Nat) (xs : List Value) (v' : Value) (w' : World) : Prop :=
  w'.ownsRow base e K v' n xs ∧ w.grownBy w' v.ownBlock ∧ (v'.ownBlock = v.ownBlock ∨ ∀ k, v'.ownBlock = some k → w.heap.size ≤ k)

theorem GrewK.ext {base K n : Nat} {e : TypeId} {w w' : World} {xs : List Value} {v' : Value} (h : GrewK base e K (.slice none 0 0) w n xs v' w') : Ext w w' := (Below.refl _ _).grown h.2.1 (Nat.le_refl _) (fun k hk => by cases hk)

theorem run_appendK {P : Program} (w : World) (base : Nat) (t ty e : TypeId) (i0 : TypeInfo) (z : Value) (K bytes : Nat) (ht : P.underlying t = some (.slice e)) (hi : P.info? e = some i0) (hz0 : i0.zero = some z) (hz1 : i0.size = K) (hz2 : i0.bytes = bytes) (hzs : z.cells.size = K) (hK0 : 0 < K)
    (v : Value) (n : Nat) (xs : List Value) (hown : w.ownsRow base e K v n xs) (u : Value) (m : Nat) (ys : List Value) (hr : RdS K w u m ys) (h1 : ∀ y ∈ ys, y.oneCell' = true)
    (h63 : n + m ≤ maxLen) (hbytes : (n + m) * bytes ≤ 140737488355328) (hbase : base ≤ w.heap.size) :
    ∃ v' w', (Builtin.append_ #[t, t] ty #[v, u]).run P w = .ok v' w' ∧ GrewK base e K v w (n + m) (xs ++ ys) v' w' := by
  obtain ⟨hl, A, c, rfl, hlc, hcm, hcell⟩ := hr
  rcases A with _ | ad
  · have h0 : m = 0 := by
      rcases Nat.eq_zero_or_pos m with h | h
      · exact h
      · obtain ⟨b, o, h, _⟩ := hcell h
        cases h
    subst h0
    have hy : ys = [] := List.eq_nil_of_length_eq_zero (by simpa using hl)
    subst hy
    refine ⟨v, w, ?_, by simpa using hown, World.grownBy.refl _ _, .inl rfl⟩
    rcases hown.2 with ⟨rfl, rfl⟩ | ⟨g, cap, cur, rfl, _, _, hnc, _⟩
    · simp [Builtin.append_, run_underlying ht, sizeOf, typeInfo, hi, Builtin.lenOf, Builtin.firstCells]
    · simp [Builtin.append_, run_underlying ht, sizeOf, typeInfo, hi, Builtin.lenOf, Builtin.firstCells, hnc, storeCells]
  · have hnews : ∀ j u, ys[j]? = some u → w.cell? (ad.add j) = some u := by
      intro j u hu
      have hp : 0 < m := by
        rcases Nat.eq_zero_or_pos m with h | h
        · rw [h, Nat.zero_mul] at hl
          rw [List.eq_nil_of_length_eq_zero hl] at hu
          simp at hu
        · exact h
      obtain ⟨b, o, h, _, hc⟩ := hcell hp
      cases h
      rw [Addr.add_lit]
      exact hc j u hu
    obtain ⟨v', w', hrun, h2, h3, _, h5⟩ := run_append_own_at (P := P) w base t ty e i0 z K bytes ht hi hz0 hz1 hz2 hzs hK0 v n xs hown ad m c ys hl hnews h1 h63 hbytes hbase
    refine ⟨v', w', hrun, h2, h3, ?_⟩
    rcases h5 with h5 | h5
    · exact .inl h5
    · refine .inr fun k hk => ?_
      rw [h5] at hk
      cases hk
      exact Nat.le_refl _

theorem wpList_appendK {P : Program} {w : World} {ops : Array Oper} {rest : List Oper} {o : Oper} {a : Act} {Q : Exit → Act → World → Prop} (hgd : o.guard = none) (s x : Operand) (t : TypeId)
    (ho : o.op = .call { callee := .builtin .append, args := #[s, x], argTypes := #[t, t] })
    (base : Nat) (e : TypeId) (z : Value) (K bytes : Nat) (ht : P.underlying t = some (.slice e)) (hinfo : (P.info? e).map (fun i => (i.zero, i.size, i.bytes)) = some (some z, K, bytes)) (hzs : z.cells.size = K) (hK0 : 0 < K)
    (v : Value) (n : Nat) (xs : List Value) (hs : a.eval s = v) (hown : w.ownsRow base e K v n xs) (u : Value) (m : Nat) (ys : List Value) (hx : a.eval x = u) (hr : RdS K w u m ys) (h1 : ∀ y ∈ ys, y.oneCell' = true)
    (h63 : n + m ≤ maxLen) (hbytes : (n + m) * bytes ≤ 140737488355328) (hbase : base ≤ w.heap.size)
    (h : ∀ v' w', GrewK base e K v w (n + m) (xs ++ ys) v' w' → wpList P ops Q rest (a.put o.dst v') w') : wpList P ops Q (o :: rest) a w := by
  refine wpList_plain hgd fun K' hK' => ?_
  obtain ⟨i0, hi, hz0, hz1, hz2⟩ := info_parts hinfo
  obtain ⟨v', w', hrun, h2⟩ := run_appendK (P := P) w base t o.type e i0 z K bytes ht hi hz0 hz1 hz2 hzs hK0 v n xs hown u m ys hr h1 h63 hbytes hbase
  unfold Oper.wp execOp
  simp only [ho, resolve, invoke, builtin, Sem.run_bind, Sem.run_pure, Result.andThen_ok, List.map_toArray, List.map_cons, List.map_nil, hs, hx, hrun]
  exact hK' _ _ (h v' w' h2)

/-- The same inside a statement whose order is open. -/
theorem stepAppendK {P : Program} {w : World} {ops : Array Oper} {o : Oper} {a : Act} {K' : Act → World → Prop} {Q : Exit → Act → World → Prop} {E : Prop} (s x : Operand) (t : TypeId)
    (ho : o.op = .call { callee := .builtin .append, args := #[s, x], argTypes := #[t, t] }) (hw : Region.wanted o (yielded ops a.tmps) = true)
    (base : Nat) (e : TypeId) (z : Value) (K bytes : Nat) (ht : P.underlying t = some (.slice e)) (hinfo : (P.info? e).map (fun i => (i.zero, i.size, i.bytes)) = some (some z, K, bytes)) (hzs : z.cells.size = K) (hK0 : 0 < K)
    (v : Value) (n : Nat) (xs : List Value) (hs : a.eval s = v) (hown : w.ownsRow base e K v n xs) (u : Value) (m : Nat) (ys : List Value) (hx : a.eval x = u) (hr : RdS K w u m ys) (h1 : ∀ y ∈ ys, y.oneCell' = true)
    (h63 : n + m ≤ maxLen) (hbytes : (n + m) * bytes ≤ 140737488355328) (hbase : base ≤ w.heap.size)
    (h : ∀ v' w', GrewK base e K v w (n + m) (xs ++ ys) v' w' → K' (a.put o.dst v') w') : if Region.wanted o (yielded ops a.tmps) = true then Oper.wp P o a w K' Q else E := by
  rw [if_pos hw]
  obtain ⟨i0, hi, hz0, hz1, hz2⟩ := info_parts hinfo
  obtain ⟨v', w', hrun, h2⟩ := run_appendK (P := P) w base t o.type e i0 z K bytes ht hi hz0 hz1 hz2 hzs hK0 v n xs hown u m ys hr h1 h63 hbytes hbase
  unfold Oper.wp execOp
  simp only [ho, resolve, invoke, builtin, Sem.run_bind, Sem.run_pure, Result.andThen_ok, List.map_toArray, List.map_cons, List.map_nil, hs, hx, hrun]
  exact h v' w' h2


/-- One element just made, as a slice. -/
theorem RdS.lit (K : Nat) (w : World) (cs : Array Value) (e : TypeId) (g : Nat) (hg : g = w.heap.size) (hc : cs.size = K) : RdS K (w.alloc (.cells cs e)) (.slice (some ⟨g, 0, none⟩) 1 1) 1 cs.toList := by
  subst hg
  refine ⟨by rw [Array.length_toList, hc, Nat.one_mul], some ⟨w.heap.size, 0, none⟩, 1, rfl, Nat.le_refl _, by unfold maxLen; omega, fun _ => ⟨w.heap.size, 0, rfl, by simp, fun j u hu => ?_⟩⟩
  rw [Nat.zero_add, cell_of_row _ _ _ cs e (0, 0) (heap_alloc_new w _)]
  simpa using hu

end Go.Proofs.Ytkkmldoohokdfaa

/- The reference's store: a list of points, in a block of its own. -/
namespace Go.Proofs.Ytkkmldoohokdfaa
open Go.RowKit

/-- A point, and the slice that holds its bytes. -/
structure PtL where
  p : PtP
  v : Value
def PtL.cells (x : PtL) : List Value := [I x.p.job, I x.p.ep, .bool x.p.cnt, x.v]
def PtL.at (w : World) (b o : Nat) (x : PtL) : Prop :=
  w.cell? ⟨b, o, none⟩ = some (I x.p.job) ∧ w.cell? ⟨b, o + 1, none⟩ = some (I x.p.ep) ∧ w.cell? ⟨b, o + 2, none⟩ = some (.bool x.p.cnt) ∧ w.cell? ⟨b, o + 3, none⟩ = some x.v
/-- A list of points reads so, apart of the blocks that are written. -/
structure PtsRd (N : Fp) (w : World) (v : Value) (lp : List PtL) : Prop where
  row : ∃ A c, v = .slice A lp.length c ∧ lp.length ≤ c ∧ c ≤ maxLen ∧ (0 < lp.length → ∃ b o, A = some ⟨b, o, none⟩ ∧ b < w.heap.size ∧ ¬ N b ∧ ∀ j x, lp[j]? = some x → PtL.at w b (o + j * 4) x)
  dat : ∀ x ∈ lp, RdF (fun k => ¬ N k) w x.v (x.p.da.map B)
/-- The reference's store at h; N: the blocks that are written. -/
structure RsAt (N : Fp) (w : World) (h : Nat) (R : RsP) : Prop where
  out : ∃ lp v, lp.map PtL.p = R.L ∧ Blk w h 46 #[I R.room, I R.term, v, I R.writes] ∧ PtsRd N w v lp
  isIn : N.isIn w
  here : N h

section
variable {N G : Fp} {w w' : World} {v : Value} {lp : List PtL} {h : Nat} {R : RsP}
theorem PtL.at.chg {b o : Nat} {x : PtL} (hx : PtL.at w b o x) (hc : Chg G w w') (hb : b < w.heap.size) (hg : ¬ G b) : PtL.at w' b o x := by
  have h1 := hc.block b hb hg
  obtain ⟨c0, c1, c2, c3⟩ := hx
  exact ⟨(World.cell?_of_block (a := ⟨b, o, none⟩) h1).trans c0, (World.cell?_of_block (a := ⟨b, o + 1, none⟩) h1).trans c1, (World.cell?_of_block (a := ⟨b, o + 2, none⟩) h1).trans c2, (World.cell?_of_block (a := ⟨b, o + 3, none⟩) h1).trans c3⟩
theorem PtsRd.chg (hp : PtsRd N w v lp) (hc : Chg G w w') (hg : ∀ k, G k → N k) : PtsRd N w' v lp := by
  refine ⟨?_, fun x hx => (hp.dat x hx).chg hc (fun k hk hG => hk (hg k hG))⟩
  obtain ⟨A, c, e, h1, h2, h3⟩ := hp.row
  refine ⟨A, c, e, h1, h2, fun hn => ?_⟩
  obtain ⟨b, o, hA, hb, hN, hat⟩ := h3 hn
  exact ⟨b, o, hA, Nat.lt_of_lt_of_le hb hc.size, hN, fun j x hj => (hat j x hj).chg hc hb (fun hG => hN (hg b hG))⟩
theorem PtsRd.nil (N : Fp) (w : World) : PtsRd N w (.slice none 0 0) [] := ⟨⟨none, 0, rfl, Nat.le_refl _, Nat.zero_le _, fun hn => absurd hn (by decide)⟩, fun x hx => by cases hx⟩
theorem PtsRd.get {A : Option Addr} {n c : Nat} (hp : PtsRd N w (.slice A n c) lp) (hn : 0 < lp.length) : ∃ b o, A = some ⟨b, o, none⟩ ∧ b < w.heap.size ∧ ¬ N b ∧ ∀ j x, lp[j]? = some x → PtL.at w b (o + j * 4) x := by
  obtain ⟨A', c', e, _, _, h3⟩ := hp.row
  cases e
  exact h3 hn
theorem RsAt.chg (hr : RsAt N w h R) (hc : Chg G w w') (hg : ∀ k, G k → N k) (hng : ¬ G h) : RsAt N w' h R := by
  obtain ⟨lp, v, h1, h2, h3⟩ := hr.out
  exact ⟨⟨lp, v, h1, (hc.block h h2.lt hng).trans h2, h3.chg hc hg⟩, hr.isIn.chg hc, hr.here⟩
theorem RsAt.ext (hr : RsAt N w h R) (hx : Ext w w') : RsAt N w' h R := hr.chg (G := fun _ => False) (Chg.of_ext hx) (fun _ h => h.elim) (fun h => h)
theorem flatP_at : ∀ (lp : List PtL) (j i : Nat) (x : PtL), lp[j]? = some x → i < 4 → (lp.flatMap PtL.cells)[j * 4 + i]? = x.cells[i]?
  | [], _, _, _, h, _ => by simp at h
  | y :: lp, 0, i, x, h, hi => by
    obtain rfl : y = x := by simpa using h
    rw [List.flatMap_cons, Nat.zero_mul, Nat.zero_add, List.getElem?_append_left (by show i < 4; exact hi)]
  | y :: lp, j + 1, i, x, h, hi => by
    rw [List.flatMap_cons, List.getElem?_append_right (by show 4 ≤ (j + 1) * 4 + i; omega), show (j + 1) * 4 + i - y.cells.length = j * 4 + i by show (j + 1) * 4 + i - 4 = _; omega]
    exact flatP_at lp j i x (by simpa using h) hi
theorem flatP_len : ∀ lp : List PtL, (lp.flatMap PtL.cells).length = lp.length * 4
  | [] => rfl
  | x :: lp => by rw [List.flatMap_cons, List.length_append, flatP_len lp, List.length_cons]; show 4 + lp.length * 4 = _; omega
/-- A row of the call's own, new since the written blocks were there. -/
theorem PtsRd.own {base : Nat} {e : TypeId} (ho : w.ownsRow base e 4 v lp.length (lp.flatMap PtL.cells)) (hN : ∀ k, base ≤ k → ¬ N k) (hd : ∀ x ∈ lp, RdF (fun k => ¬ N k) w x.v (x.p.da.map B)) : PtsRd N w v lp := by
  refine ⟨?_, hd⟩
  rcases ho.2 with ⟨rfl, h0⟩ | ⟨g, cap, cur, rfl, hg, hh, hn, hcap, hs, ht⟩
  · exact ⟨none, 0, by rw [h0], by omega, Nat.zero_le _, fun hn => absurd hn (by omega)⟩
  · refine ⟨some ⟨g, 0, none⟩, cap, rfl, hn, hcap, fun _ => ⟨g, 0, rfl, (Array.getElem?_eq_some_iff.1 hh).1, hN g hg, fun j x hj => ?_⟩⟩
    have hc : ∀ i, i < 4 → w.cell? ⟨g, 0 + j * 4 + i, none⟩ = x.cells[i]? := fun i hi => by
      have h1 := flatP_at lp j i x hj hi
      cases hx : x.cells[i]? with
      | none => have : i < x.cells.length := hi; rw [List.getElem?_eq_none_iff] at hx; omega
      | some u =>
        rw [hx] at h1
        have h2 := ho.cells (g := g) rfl (j * 4 + i) u h1
        rw [Addr.add_lit] at h2
        rw [Nat.add_assoc]; exact h2
    exact ⟨hc 0 (by omega), hc 1 (by omega), hc 2 (by omega), hc 3 (by omega)⟩
end

end Go.Proofs.Ytkkmldoohokdfaa

/- Rows of structs that are appended to, and of which one is taken out by 'append(s[:i:i], s[i+1:]...)': a row of one's own, or the full head of one. No program is named here. -/
namespace Go.Proofs.Ytkkmldoohokdfaa
open Go.RowKit

/-- The full head of a row. -/
def headRow (w : World) (e : TypeId) (sz : Nat) (v : Value) (n : Nat) (xs : List Value) : Prop :=
  xs.length = n * sz ∧ ∃ b cur, v = .slice (some ⟨b, 0, none⟩) n n ∧ w.heap[b]? = some (.cells cur e (0, 0)) ∧ n ≤ maxLen ∧ n * sz ≤ cur.size ∧ cur.toList.take (n * sz) = xs
/-- The slice v of n structs is an own row, or a head; it lies in F. -/
structure WayF (F : Fp) (w : World) (e : TypeId) (sz : Nat) (v : Value) (n : Nat) (xs : List Value) : Prop where
  row : w.ownsRow 0 e sz v n xs ∨ headRow w e sz v n xs
  inF : ∀ k, v.ownBlock = some k → F k

section
variable {F G : Fp} {w w' : World} {e : TypeId} {sz n : Nat} {v : Value} {xs : List Value}
theorem WayF.len (h : WayF F w e sz v n xs) : xs.length = n * sz := by rcases h.row with h | h; exact h.1; exact h.1
theorem WayF.slice_ (h : WayF F w e sz v n xs) : ∃ A c, v = .slice A n c ∧ n ≤ c ∧ c ≤ maxLen ∧ (A = none → n = 0 ∧ c = 0) := by
  rcases h.row with ⟨_, ⟨rfl, rfl⟩ | ⟨g, cap, cur, rfl, _, _, h1, h2, _⟩⟩ | ⟨_, b, cur, rfl, _, h1, _⟩
  · exact ⟨none, 0, rfl, Nat.le_refl _, Nat.zero_le _, fun _ => ⟨rfl, rfl⟩⟩
  · exact ⟨_, cap, rfl, h1, h2, fun h => by cases h⟩
  · exact ⟨_, n, rfl, Nat.le_refl _, h1, fun h => by cases h⟩
theorem WayF.at_ {A : Option Addr} {m c : Nat} (h : WayF F w e sz (.slice A m c) n xs) (hA : A ≠ none) : m = n ∧ ∃ b cur, A = some ⟨b, 0, none⟩ ∧ w.heap[b]? = some (.cells cur e (0, 0)) ∧ n * sz ≤ cur.size ∧ cur.toList.take (n * sz) = xs := by
  rcases h.row with ⟨_, ⟨h1, h2⟩ | ⟨g, cap, cur, h1, _, h2, h3, _, h5, h6⟩⟩ | ⟨_, b, cur, h1, h2, _, h4, h5⟩
  · injection h1 with h1; exact absurd h1 hA
  · injection h1 with h1 h7 h8
    exact ⟨h7, g, cur, h1, h2, by rw [h5]; exact Nat.mul_le_mul_right _ h3, h6⟩
  · injection h1 with h1 h7 h8
    exact ⟨h7, b, cur, h1, h2, h4, h5⟩
theorem WayF.nil (F : Fp) (w : World) (e : TypeId) (sz : Nat) : WayF F w e sz (.slice none 0 0) 0 [] := ⟨.inl (World.ownsRow_nil w 0 e sz), fun k hk => by cases hk⟩
theorem WayF.mono (h : WayF F w e sz v n xs) (hf : ∀ k, F k → G k) : WayF G w e sz v n xs := ⟨h.row, fun k hk => hf k (h.inF k hk)⟩
theorem WayF.lt (h : WayF F w e sz v n xs) : ∀ k, v.ownBlock = some k → k < w.heap.size := by
  rcases h.row with h | ⟨_, b, cur, rfl, h2, _⟩
  · exact fun k hk => (h.lt k hk).2
  · intro k hk
    simp only [Value.ownBlock, Option.some.injEq] at hk
    subst hk
    exact (Array.getElem?_eq_some_iff.1 h2).1
theorem WayF.chg (h : WayF F w e sz v n xs) (hc : Chg G w w') (ha : ∀ k, v.ownBlock = some k → ¬ G k) : WayF F w' e sz v n xs := by
  refine ⟨?_, h.inF⟩
  rcases h.row with ⟨h0, h1 | ⟨g, cap, cur, rfl, h2, h3, r⟩⟩ | ⟨h0, b, cur, rfl, h3, r⟩
  · exact .inl ⟨h0, .inl h1⟩
  · exact .inl ⟨h0, .inr ⟨g, cap, cur, rfl, h2, by rw [hc.block g (Array.getElem?_eq_some_iff.1 h3).1 (ha g rfl)]; exact h3, r⟩⟩
  · exact .inr ⟨h0, b, cur, rfl, by rw [hc.block b (Array.getElem?_eq_some_iff.1 h3).1 (ha b rfl)]; exact h3, r⟩
theorem WayF.cells {b o m c : Nat} (h : WayF F w e sz (.slice (some ⟨b, o, none⟩) m c) n xs) : o = 0 ∧ (∀ j u, xs[j]? = some u → w.cell? ⟨b, j, none⟩ = some u) ∧ (∀ j, w.frozen? ⟨b, j, none⟩ = false) := by
  obtain ⟨-, b', cur, h1, h2, h3, h4⟩ := h.at_ (by simp)
  cases h1
  refine ⟨rfl, fun j u hu => ?_, fun j => ?_⟩
  · rw [cell_of_row w b j cur e (0, 0) h2]
    rw [← h4] at hu
    rw [List.getElem?_take] at hu
    split at hu
    · simpa using hu
    · cases hu
  · exact frozen_of_row w b j cur e h2
/-- A cell of it is written. -/
theorem WayF.set {b m c : Nat} (h : WayF F w e sz (.slice (some ⟨b, 0, none⟩) m c) n xs) (j : Nat) (u : Value) : WayF F (w.setCell ⟨b, j, none⟩ u) e sz (.slice (some ⟨b, 0, none⟩) m c) n (xs.set j u) := by
  have key : ∀ cur, w.heap[b]? = some (.cells cur e (0, 0)) → (w.setCell ⟨b, j, none⟩ u).heap[b]? = some (.cells (cur.setIfInBounds j u) e (0, 0)) := fun cur hcur => Blk.set_ (show Blk w b e cur from hcur) j u
  have tk : ∀ (cur : Array Value), cur.toList.take (n * sz) = xs → (cur.setIfInBounds j u).toList.take (n * sz) = xs.set j u := fun cur h => by rw [Array.toList_setIfInBounds, List.take_set, h]
  refine ⟨?_, h.inF⟩
  rcases h.row with ⟨h0, ⟨h1, _⟩ | ⟨g, cap, cur, h1, h2, h3, h4, h5, h6, h7⟩⟩ | ⟨h0, b', cur, h1, h3, h4, h5, h6⟩
  · cases h1
  · cases h1
    exact .inl ⟨by rw [List.length_set]; exact h0, .inr ⟨b, _, _, rfl, h2, key cur h3, h4, h5, by simpa using h6, tk cur h7⟩⟩
  · cases h1
    exact .inr ⟨by rw [List.length_set]; exact h0, b, _, rfl, key cur h3, h4, by simpa using h5, tk cur h6⟩

/-- What an append leaves. -/
structure WayG (v : Value) (w : World) (e : TypeId) (sz n : Nat) (xs : List Value) (v' : Value) (w' : World) : Prop where
  own : w'.ownsRow 0 e sz v' n xs
  grown : w.grownBy w' v.ownBlock
  here : v'.ownBlock = v.ownBlock ∨ ∀ k, v'.ownBlock = some k → w.heap.size ≤ k
theorem WayG.way (h : WayF F w e sz v n xs) {m : Nat} {ys : List Value} {v' : Value} (hg : WayG v w e sz m ys v' w') : WayF (F.since w w') w' e sz v' m ys ∧ Chg (fun k => v.ownBlock = some k) w w' := by
  refine ⟨⟨.inl hg.own, fun k hk => ?_⟩, Chg.of_grown hg.grown (fun k hk => hk)⟩
  rcases hg.here with h2 | h2
  · rw [h2] at hk
    exact .inl (h.inF k hk)
  · exact .inr ⟨h2 k hk, (hg.own.lt k hk).2⟩

theorem run_pushW {P : Program} (w : World) (t ty e : TypeId) (i : TypeInfo) (z : Value) (size bytes : Nat) (ht : P.underlying t = some (.slice e)) (hi : P.info? e = some i) (hz : i.zero = some z)
    (hsize : i.size = size) (hby : i.bytes = bytes) (hzs : z.cells.size = size) (hsz : 0 < size) (v : Value) (n : Nat) (xs : List Value) (hown : WayF F w e size v n xs) (cs : Array Value) (hcs : cs.size = size) (h1 : ∀ u ∈ cs.toList, u.oneCell' = true)
    (h63 : n + 1 ≤ maxLen) (hbytes : (n + 1) * bytes ≤ 140737488355328) :
    ∃ v' w', (Builtin.append_ #[t, t] ty #[v, .slice (some ⟨w.heap.size, 0, none⟩) 1 1]).run P (w.alloc (.cells cs e)) = .ok v' w' ∧ WayG v w e size (n + 1) (xs ++ cs.toList) v' w' := by
  have hnews : ∀ j u, cs.toList[j]? = some u → (w.alloc (.cells cs e)).cell? ((⟨w.heap.size, 0, none⟩ : Addr).add j) = some u := fun j u hu => by
    rw [Addr.add_lit, Nat.zero_add, cell_of_row _ _ _ cs e (0, 0) (heap_alloc_new w _)]
    simpa using hu
  rcases hown.row with h | ⟨h0, b, cur, rfl, h2, h3, h4, h5⟩
  · obtain ⟨v', w', hrun, h2, h3, _, h5⟩ := run_append_own_at (P := P) (w.alloc (.cells cs e)) 0 t ty e i z size bytes ht hi hz hsize hby hzs hsz v n xs (h.alloc _) ⟨w.heap.size, 0, none⟩ 1 1 cs.toList (by simp [hcs]) hnews h1 h63 hbytes (Nat.zero_le _)
    refine ⟨v', w', hrun, h2, (World.grownBy_alloc w _ _).trans h3, ?_⟩
    rcases h5 with h | h
    · exact .inl h
    · refine .inr fun k hk => ?_
      rw [h] at hk
      cases hk
      simp
  · have hb : b < w.heap.size := (Array.getElem?_eq_some_iff.1 h2).1
    obtain ⟨v', w', hrun, r1, r2⟩ := run_append_arg_grows (P := P) (w.alloc (.cells cs e)) t ty e i z size bytes ht hi hz hsize hby hzs hsz ⟨b, 0, none⟩ n n xs h0
      (fun j u hu => by
        rw [Addr.add_lit, Nat.zero_add, cell_of_row _ b j cur e (0, 0) ((heap_alloc_old w _ hb).trans h2)]
        rw [← h5, List.getElem?_take] at hu
        split at hu
        · simpa using hu
        · cases hu) ⟨w.heap.size, 0, none⟩ 1 1 cs.toList (by simp [hcs]) hnews (by omega) h63 hbytes
    refine ⟨v', w', hrun, ⟨r1.1, ?_⟩, (World.grownBy_alloc w _ _).trans ⟨r2.os, r2.tape, r2.output, r2.size, fun k hk _ => r2.block k hk (by simp)⟩, .inr fun k hk => ?_⟩
    · rcases r1.2 with h | ⟨g, cap, c2, q1, q2, q3⟩
      · exact .inl h
      · exact .inr ⟨g, cap, c2, q1, Nat.zero_le _, q3⟩
    · have := (r1.lt k hk).1
      simp at this
      omega

theorem wpList_pushW {P : Program} {w : World} {ops : Array Oper} {rest : List Oper} {o : Oper} {a : Act} {Q : Exit → Act → World → Prop} {gx : Nat} (hgd : o.guard = none) (s x : Operand) (t : TypeId)
    (hop : o.op = .call { callee := .builtin .append, args := #[s, x], argTypes := #[t, t] })
    (e : TypeId) (z : Value) (size bytes : Nat) (ht : P.underlying t = some (.slice e)) (hinfo : (P.info? e).map (fun i => (i.zero, i.size, i.bytes)) = some (some z, size, bytes)) (hzs : z.cells.size = size) (hsz : 0 < size)
    (v : Value) (n : Nat) (xs : List Value) (hown : WayF F w e size v n xs) (hs : a.eval s = v) (cs : Array Value) (hcs : cs.size = size) (h1 : ∀ u ∈ cs.toList, u.oneCell' = true)
    (hx : a.eval x = .slice (some ⟨gx, 0, none⟩) 1 1) (hgx : gx = w.heap.size) (h63 : n + 1 ≤ maxLen) (hbytes : (n + 1) * bytes ≤ 140737488355328)
    (h : ∀ v' w', WayG v w e size (n + 1) (xs ++ cs.toList) v' w' → wpList P ops Q rest (a.put o.dst v') w') : wpList P ops Q (o :: rest) a (w.alloc (.cells cs e)) := by
  subst hgx
  refine wpList_plain hgd fun K hK => ?_
  obtain ⟨i0, hi, hz0, hz1, hz2⟩ := info_parts hinfo
  obtain ⟨v', w', hrun, h2⟩ := run_pushW (P := P) w t o.type e i0 z size bytes ht hi hz0 hz1 hz2 hzs hsz v n xs hown cs hcs h1 h63 hbytes
  unfold Oper.wp execOp
  simp only [hop, resolve, invoke, builtin, Sem.run_bind, Sem.run_pure, Result.andThen_ok, List.map_toArray, List.map_cons, List.map_nil, hs, hx, hrun]
  exact hK _ _ (h v' w' h2)

/-- 'append(s[:i:i], s[i+1:]...)'. -/
theorem run_dropW {P : Program} (w : World) (t ty e : TypeId) (i : TypeInfo) (z : Value) (size bytes : Nat) (ht : P.underlying t = some (.slice e)) (hi : P.info? e = some i) (hz : i.zero = some z)
    (hsize : i.size = size) (hby : i.bytes = bytes) (hzs : z.cells.size = size) (hsz : 0 < size) (b n cap : Nat) (xs : List Value) (hown : WayF F w e size (.slice (some ⟨b, 0, none⟩) n cap) n xs) (k : Nat) (hk : k < n) (ao : Option Addr) (c2 : Nat)
    (hao : n - (k + 1) = 0 ∨ ao = some ⟨b, (k + 1) * size, none⟩) (hno : ao = none → c2 = 0) (h63 : n ≤ maxLen) (hbytes : n * bytes ≤ 140737488355328) :
    ∃ v' w', (Builtin.append_ #[t, t] ty #[.slice (some ⟨b, 0, none⟩) k k, .slice ao (n - (k + 1)) c2]).run P w = .ok v' w' ∧ WayF (F.since w w') w' e size v' (n - 1) (xs.take (k * size) ++ xs.drop ((k + 1) * size)) ∧ w.grownBy w' none ∧
      (v'.ownBlock = some b ∨ ∀ q, v'.ownBlock = some q → w.heap.size ≤ q) := by
  obtain ⟨-, b', cur, hb', hcur, hsz2, htk⟩ := hown.at_ (by simp)
  cases hb'
  have hl := hown.len
  have hkn : (k + 1) * size ≤ n * size := Nat.mul_le_mul_right _ hk
  have hk1 : (k + 1) * size = k * size + size := Nat.succ_mul _ _
  have hn1 : n * size = (k + 1) * size + (n - (k + 1)) * size := by rw [← Nat.add_mul]; congr 1; omega
  by_cases hm : n - (k + 1) = 0
  · have hnk : n = k + 1 := by omega
    refine ⟨.slice (some ⟨b, 0, none⟩) k k, w, ?_, ⟨.inr ⟨?_, b, cur, by rw [hnk]; rfl, hcur, ?_, ?_, ?_⟩, fun q hq => .inl (hown.inF q hq)⟩, ⟨rfl, rfl, rfl, Nat.le_refl _, fun _ _ _ => rfl⟩, .inl rfl⟩
    · rw [hm]
      cases ao with
      | none =>
        obtain rfl := hno rfl
        simp [Builtin.append_, run_underlying ht, sizeOf, typeInfo, hi, Builtin.lenOf, Builtin.firstCells, storeCells]
      | some ad => 
        have := run_append_room_cells (P := P) w t ty e i ht hi b 0 k k ad 0 c2 [] (by simp) (fun j u hu => by simp at hu) (fun u hu => by cases hu) (by omega) (fun j hj => by simp at hj) (fun j hj => by simp at hj)
        simpa [World.setCells] using this
    · rw [List.length_append, List.length_take, List.length_drop, hl, hnk]
      simp only [Nat.add_sub_cancel]
      omega
    · omega
    · rw [hnk]; simp only [Nat.add_sub_cancel]; omega
    · rw [hnk] at htk hl ⊢
      rw [List.drop_of_length_le (by omega), List.append_nil, ← htk, List.take_take, Nat.min_eq_left (by omega)]
      rfl
  · obtain rfl : ao = some ⟨b, (k + 1) * size, none⟩ := by rcases hao with h | h; exact absurd h hm; exact h
    have hc := (hown.cells).2.1
    obtain ⟨v', w', hrun, r1, r2⟩ := run_append_arg_grows (P := P) w t ty e i z size bytes ht hi hz hsize hby hzs hsz ⟨b, 0, none⟩ k k (xs.take (k * size)) (by rw [List.length_take, hl]; omega)
      (fun j u hu => by
        rw [Addr.add_lit, Nat.zero_add]
        rw [List.getElem?_take] at hu
        split at hu
        · exact hc j u hu
        · cases hu) ⟨b, (k + 1) * size, none⟩ (n - (k + 1)) c2 (xs.drop ((k + 1) * size)) (by rw [List.length_drop, hl]; omega)
      (fun j u hu => by
        rw [Addr.add_lit]
        rw [List.getElem?_drop] at hu
        exact hc _ u hu) (by omega) (by omega) (by rw [show k + (n - (k + 1)) = n - 1 by omega]; exact Nat.le_trans (Nat.mul_le_mul_right _ (Nat.sub_le _ _)) hbytes)
    rw [show k + (n - (k + 1)) = n - 1 by omega] at r1
    have hnew : ∀ q, v'.ownBlock = some q → w.heap.size ≤ q := fun q hq => (r1.lt q hq).1
    refine ⟨v', w', hrun, ⟨.inl ⟨r1.1, ?_⟩, fun q hq => .inr ⟨hnew q hq, (r1.lt q hq).2⟩⟩, r2, .inr hnew⟩
    rcases r1.2 with h | ⟨g, cap, c2, q1, q2, q3⟩
    · exact .inl h
    · exact .inr ⟨g, cap, c2, q1, Nat.zero_le _, q3⟩

theorem wpList_dropW {P : Program} {w : World} {ops : Array Oper} {rest : List Oper} {o : Oper} {a : Act} {Q : Exit → Act → World → Prop} (hgd : o.guard = none) (s x : Operand) (t : TypeId)
    (hop : o.op = .call { callee := .builtin .append, args := #[s, x], argTypes := #[t, t] })
    (e : TypeId) (z : Value) (size bytes : Nat) (ht : P.underlying t = some (.slice e)) (hinfo : (P.info? e).map (fun i => (i.zero, i.size, i.bytes)) = some (some z, size, bytes)) (hzs : z.cells.size = size) (hsz : 0 < size)
    (b n cap : Nat) (xs : List Value) (hown : WayF F w e size (.slice (some ⟨b, 0, none⟩) n cap) n xs) (k : Nat) (hk : k < n) (hs : a.eval s = .slice (some ⟨b, 0, none⟩) k k) (ao : Option Addr) (c2 : Nat) (hx : a.eval x = .slice ao (n - (k + 1)) c2)
    (hao : n - (k + 1) = 0 ∨ ao = some ⟨b, (k + 1) * size, none⟩) (hno : ao = none → c2 = 0) (h63 : n ≤ maxLen) (hbytes : n * bytes ≤ 140737488355328)
    (h : ∀ v' w', WayF (F.since w w') w' e size v' (n - 1) (xs.take (k * size) ++ xs.drop ((k + 1) * size)) → w.grownBy w' none → (v'.ownBlock = some b ∨ ∀ q, v'.ownBlock = some q → w.heap.size ≤ q) → wpList P ops Q rest (a.put o.dst v') w') : wpList P ops Q (o :: rest) a w := by
  refine wpList_plain hgd fun K hK => ?_
  obtain ⟨i0, hi, hz0, hz1, hz2⟩ := info_parts hinfo
  obtain ⟨v', w', hrun, h2, h3, h4⟩ := run_dropW (P := P) w t o.type e i0 z size bytes ht hi hz0 hz1 hz2 hzs hsz b n cap xs hown k hk ao c2 hao hno h63 hbytes
  unfold Oper.wp execOp
  simp only [hop, resolve, invoke, builtin, Sem.run_bind, Sem.run_pure, Result.andThen_ok, List.map_toArray, List.map_cons, List.map_nil, hs, hx, hrun]
  exact hK _ _ (h v' w' h2 h3 h4)
/-- As one step of a region that draws. -/
theorem step_pushW {P : Program} {w : World} {ops : Array Oper} {o : Oper} {a : Act} {K : Act → World → Prop} {Q : Exit → Act → World → Prop} {E : Prop} {gx : Nat} (s x : Operand) (t : TypeId)
    (hop : o.op = .call { callee := .builtin .append, args := #[s, x], argTypes := #[t, t] }) (hw : Region.wanted o (yielded ops a.tmps) = true)
    (e : TypeId) (z : Value) (size bytes : Nat) (ht : P.underlying t = some (.slice e)) (hinfo : (P.info? e).map (fun i => (i.zero, i.size, i.bytes)) = some (some z, size, bytes)) (hzs : z.cells.size = size) (hsz : 0 < size)
    (v : Value) (n : Nat) (xs : List Value) (hown : WayF F w e size v n xs) (hs : a.eval s = v) (cs : Array Value) (hcs : cs.size = size) (h1 : ∀ u ∈ cs.toList, u.oneCell' = true)
    (hx : a.eval x = .slice (some ⟨gx, 0, none⟩) 1 1) (hgx : gx = w.heap.size) (h63 : n + 1 ≤ maxLen) (hbytes : (n + 1) * bytes ≤ 140737488355328)
    (h : ∀ v' w', WayG v w e size (n + 1) (xs ++ cs.toList) v' w' → K (a.put o.dst v') w') :
    if Region.wanted o (yielded ops a.tmps) = true then Oper.wp P o a (w.alloc (.cells cs e)) K Q else E := by
  subst hgx
  rw [if_pos hw]
  obtain ⟨i0, hi, hz0, hz1, hz2⟩ := info_parts hinfo
  obtain ⟨v', w', hrun, h2⟩ := run_pushW (P := P) w t o.type e i0 z size bytes ht hi hz0 hz1 hz2 hzs hsz v n xs hown cs hcs h1 h63 hbytes
  unfold Oper.wp execOp
  simp only [hop, resolve, invoke, builtin, Sem.run_bind, Sem.run_pure, Result.andThen_ok, List.map_toArray, List.map_cons, List.map_nil, hs, hx, hrun]
  exact h v' w' h2
theorem step_dropW {P : Program} {w : World} {ops : Array Oper} {o : Oper} {a : Act} {K : Act → World → Prop} {Q : Exit → Act → World → Prop} {E : Prop} (s x : Operand) (t : TypeId)
    (hop : o.op = .call { callee := .builtin .append, args := #[s, x], argTypes := #[t, t] }) (hw : Region.wanted o (yielded ops a.tmps) = true)
    (e : TypeId) (z : Value) (size bytes : Nat) (ht : P.underlying t = some (.slice e)) (hinfo : (P.info? e).map (fun i => (i.zero, i.size, i.bytes)) = some (some z, size, bytes)) (hzs : z.cells.size = size) (hsz : 0 < size)
    (b n cap : Nat) (xs : List Value) (hown : WayF F w e size (.slice (some ⟨b, 0, none⟩) n cap) n xs) (k : Nat) (hk : k < n) (hs : a.eval s = .slice (some ⟨b, 0, none⟩) k k) (ao : Option Addr) (m c2 : Nat) (hx : a.eval x = .slice ao m c2) (hm : m = n - (k + 1))
    (hao : n - (k + 1) = 0 ∨ ao = some ⟨b, (k + 1) * size, none⟩) (hno : ao = none → c2 = 0) (h63 : n ≤ maxLen) (hbytes : n * bytes ≤ 140737488355328)
    (h : ∀ v' w', WayF (F.since w w') w' e size v' (n - 1) (xs.take (k * size) ++ xs.drop ((k + 1) * size)) → w.grownBy w' none → (v'.ownBlock = some b ∨ ∀ q, v'.ownBlock = some q → w.heap.size ≤ q) → K (a.put o.dst v') w') :
    if Region.wanted o (yielded ops a.tmps) = true then Oper.wp P o a w K Q else E := by
  subst hm
  rw [if_pos hw]
  obtain ⟨i0, hi, hz0, hz1, hz2⟩ := info_parts hinfo
  obtain ⟨v', w', hrun, h2, h3, h4⟩ := run_dropW (P := P) w t o.type e i0 z size bytes ht hi hz0 hz1 hz2 hzs hsz b n cap xs hown k hk ao c2 hao hno h63 hbytes
  unfold Oper.wp execOp
  simp only [hop, resolve, invoke, builtin, Sem.run_bind, Sem.run_pure, Result.andThen_ok, List.map_toArray, List.map_cons, List.map_nil, hs, hx, hrun]
  exact h v' w' h2 h3 h4
end

end Go.Proofs.Ytkkmldoohokdfaa

/- A statement whose order is open, where two operations may come up: both ways are walked. No program is named here. -/
namespace Go.Proofs.Ytkkmldoohokdfaa
open Go.RowKit

section
variable {P : Program} {l : List Oper} {Q : Exit → Act → World → Prop} {md : Region.Mode} {S : World → Prop}
theorem held_two {i j : Nat} {oi oj : Oper} {fuel : Nat} {listed : Array Bool} {a : Act} {w : World} (hr : Region.ready md l.toArray listed = [i, j]) (hi : l[i]? = some oi) (hj : l[j]? = some oj)
    (h1 : ∀ K : Act → World → Prop, (∀ a' w', S w' → (S w' → wpAnyH P md l.toArray (NoPanic Q) S fuel (listed.setIfInBounds i true) a' w') → K a' w') →
      if Region.wanted oi (yielded l.toArray a.tmps) = true then Oper.wp P oi a w K (NoPanic Q) else K (a.put oi.dst undef) w)
    (h2 : ∀ K : Act → World → Prop, (∀ a' w', S w' → (S w' → wpAnyH P md l.toArray (NoPanic Q) S fuel (listed.setIfInBounds j true) a' w') → K a' w') →
      if Region.wanted oj (yielded l.toArray a.tmps) = true then Oper.wp P oj a w K (NoPanic Q) else K (a.put oj.dst undef) w) : wpAnyH P md l.toArray (NoPanic Q) S (fuel + 1) listed a w := by
  refine wpAnyH_all hr (by simp) (fun k hk => ?_)
  simp only [List.mem_cons, List.not_mem_nil, or_false] at hk
  rcases hk with rfl | rfl
  · have e : l.toArray[k]? = some oi := by simpa using hi
    exact wpOp_step e (fun K hK => h1 K (fun a' w' q1 q2 => hK a' w' ⟨q1, q2 q1⟩))
  · have e : l.toArray[k]? = some oj := by simpa using hj
    exact wpOp_step e (fun K hK => h2 K (fun a' w' q1 q2 => hK a' w' ⟨q1, q2 q1⟩))
end

end Go.Proofs.Ytkkmldoohokdfaa

/- Package store: a store, as the document speaks of it, in a block of its own. -/
namespace Go.Proofs.Ytkkmldoohokdfaa
open Go.RowKit

/-- A pair, and the slices that hold its bytes. -/
structure LpP where
  p : PrP
  vc : Value
  vs : Value
def LpP.cells (x : LpP) : List Value := [I x.p.c.ep, x.vc, I x.p.s.ep, x.vs]
/-- The bytes lie apart of the blocks that are written. -/
def LpP.rd (N : Fp) (w : World) (x : LpP) : Prop := RdF (fun k => ¬ N k) w x.vc (x.p.c.da.map B) ∧ RdF (fun k => ¬ N k) w x.vs (x.p.s.da.map B)
def zLp : LpP := ⟨zPr, .slice none 0 0, .slice none 0 0⟩
def soC (room term : Int) (lp : List LpP) (n : Int) : List Value := I room :: I term :: (lp.flatMap LpP.cells ++ [I n])
/-- The store in block g; N: the blocks that are written. -/
structure SoAt (N : Fp) (w : World) (g : Nat) (S : StoP) : Prop where
  out : ∃ lp, lp.map LpP.p = S.jobs ∧ Blk w g 83 (soC S.room S.term lp S.writes).toArray ∧ ∀ x ∈ lp, x.rd N w
  isIn : N.isIn w
  here : N g

theorem zLp_rd (N : Fp) (w : World) : zLp.rd N w :=
  ⟨⟨none, 0, rfl, Nat.le_refl _, Nat.zero_le _, fun h => absurd h (by decide)⟩, ⟨none, 0, rfl, Nat.le_refl _, Nat.zero_le _, fun h => absurd h (by decide)⟩⟩
theorem RdF.nilF (F : Fp) (w : World) : RdF F w (.slice none 0 0) [] := ⟨none, 0, rfl, Nat.le_refl _, Nat.zero_le _, fun h => absurd h (by decide)⟩
theorem LpP.rd.chg {N G : Fp} {w w' : World} {x : LpP} (h : x.rd N w) (hc : Chg G w w') (hg : ∀ k, G k → N k) : x.rd N w' :=
  ⟨h.1.chg hc (fun k hk hG => hk (hg k hG)), h.2.chg hc (fun k hk hG => hk (hg k hG))⟩
theorem flat_at4 : ∀ (lp : List LpP) (r : List Value) (k i : Nat), i < 4 → k < lp.length → (lp.flatMap LpP.cells ++ r)[4 * k + i]? = ((lp.getD k zLp).cells)[i]?
  | [], _, _, _, _, h => absurd h (by simp)
  | x :: lp, r, 0, i, hi, _ => by
    rw [List.flatMap_cons, List.append_assoc, Nat.mul_zero, Nat.zero_add, List.getElem?_append_left (by show i < 4; exact hi)]
    rfl
  | x :: lp, r, k + 1, i, hi, h => by
    rw [List.flatMap_cons, List.append_assoc, List.getElem?_append_right (by show 4 ≤ 4 * (k + 1) + i; omega), show 4 * (k + 1) + i - x.cells.length = 4 * k + i by show 4 * (k + 1) + i - 4 = _; omega]
    exact flat_at4 lp r k i hi (by simpa using h)
theorem flat4_len : ∀ lp : List LpP, (lp.flatMap LpP.cells).length = 4 * lp.length
  | [] => rfl
  | x :: lp => by rw [List.flatMap_cons, List.length_append, flat4_len lp, List.length_cons]; show 4 + 4 * lp.length = _; omega
theorem soC_at (room term : Int) (lp : List LpP) (n : Int) (k i : Nat) (hi : i < 4) (hk : k < lp.length) : (soC room term lp n)[2 + 4 * k + i]? = ((lp.getD k zLp).cells)[i]? := by
  rw [show 2 + 4 * k + i = (4 * k + i) + 1 + 1 by omega]
  show (lp.flatMap LpP.cells ++ [I n])[4 * k + i]? = _
  exact flat_at4 lp _ k i hi hk
theorem soC_last (room term : Int) (lp : List LpP) (n : Int) (hl : lp.length = 24) : (soC room term lp n)[98]? = some (I n) := by
  show (lp.flatMap LpP.cells ++ [I n])[96]? = _
  rw [List.getElem?_append_right (by rw [flat4_len]; omega), flat4_len, hl]
  rfl
theorem soC_len (room term : Int) (lp : List LpP) (n : Int) (hl : lp.length = 24) : (soC room term lp n).length = 99 := by
  show (lp.flatMap LpP.cells ++ [I n]).length + 1 + 1 = 99
  rw [List.length_append, flat4_len, hl]
  rfl
theorem flat_set4 : ∀ (lp : List LpP) (r : List Value) (k : Nat) (x : LpP), k < lp.length →
    ((((lp.flatMap LpP.cells ++ r).set (4 * k) (I x.p.c.ep)).set (4 * k + 1) x.vc).set (4 * k + 2) (I x.p.s.ep)).set (4 * k + 3) x.vs = (lp.set k x).flatMap LpP.cells ++ r
  | [], _, _, _, h => absurd h (by simp)
  | y :: lp, r, 0, x, _ => by
    rw [List.flatMap_cons, List.append_assoc]
    rfl
  | y :: lp, r, k + 1, x, h => by
    have ih := flat_set4 lp r k x (by simpa using h)
    rw [List.flatMap_cons, List.append_assoc, List.set_cons_succ, List.flatMap_cons, List.append_assoc, ← ih]
    rw [show 4 * (k + 1) = 4 * k + 1 + 1 + 1 + 1 by omega, show 4 * k + 1 + 1 + 1 + 1 + 1 = (4 * k + 1) + 1 + 1 + 1 + 1 by omega, show 4 * k + 1 + 1 + 1 + 1 + 2 = (4 * k + 2) + 1 + 1 + 1 + 1 by omega, show 4 * k + 1 + 1 + 1 + 1 + 3 = (4 * k + 3) + 1 + 1 + 1 + 1 by omega]
    rfl
theorem soC_set4 (room term : Int) (lp : List LpP) (n : Int) (k : Nat) (x : LpP) (hk : k < lp.length) :
    ((((soC room term lp n).set (2 + 4 * k) (I x.p.c.ep)).set (2 + 4 * k + 1) x.vc).set (2 + 4 * k + 2) (I x.p.s.ep)).set (2 + 4 * k + 3) x.vs = soC room term (lp.set k x) n := by
  rw [show 2 + 4 * k = 4 * k + 1 + 1 by omega, show 4 * k + 1 + 1 + 1 = (4 * k + 1) + 1 + 1 by omega, show 4 * k + 1 + 1 + 2 = (4 * k + 2) + 1 + 1 by omega, show 4 * k + 1 + 1 + 3 = (4 * k + 3) + 1 + 1 by omega]
  have h := flat_set4 lp [I n] k x hk
  show I room :: I term :: (((((lp.flatMap LpP.cells ++ [I n]).set (4 * k) (I x.p.c.ep)).set (4 * k + 1) x.vc).set (4 * k + 2) (I x.p.s.ep)).set (4 * k + 3) x.vs) = _
  rw [h]
  rfl
theorem soC_set2 (room term : Int) (lp : List LpP) (n : Int) (k : Nat) (e : Int) (d : List UInt8) (v : Value) (hk : k < lp.length) :
    ((soC room term lp n).set (2 + 4 * k + 2) (I e)).set (2 + 4 * k + 3) v = soC room term (lp.set k ⟨⟨(lp.getD k zLp).p.c, ⟨e, d⟩⟩, (lp.getD k zLp).vc, v⟩) n := by
  rw [← soC_set4 room term lp n k _ hk]
  have h0 := soC_at room term lp n k 0 (by omega) hk
  have h1 := soC_at room term lp n k 1 (by omega) hk
  have e0 : (soC room term lp n).set (2 + 4 * k) (I (lp.getD k zLp).p.c.ep) = soC room term lp n := by
    apply List.ext_getElem?
    intro i
    rw [List.getElem?_set]
    split
    next e => subst e; split; exact h0.symm; next hh => rw [List.getElem?_eq_none (by omega)]
    · rfl
  have e1 : (soC room term lp n).set (2 + 4 * k + 1) (lp.getD k zLp).vc = soC room term lp n := by
    apply List.ext_getElem?
    intro i
    rw [List.getElem?_set]
    split
    next e => subst e; split; exact h1.symm; next hh => rw [List.getElem?_eq_none (by omega)]
    · rfl
  rw [e0, e1]
theorem soC_setN (room term : Int) (lp : List LpP) (n m : Int) (hl : lp.length = 24) : (soC room term lp n).set 98 (I m) = soC room term lp m := by
  show I room :: I term :: ((lp.flatMap LpP.cells ++ [I n]).set 96 (I m)) = _
  rw [List.set_append_right _ _ (by rw [flat4_len]; omega), flat4_len, hl]
  rfl

section
variable {N G : Fp} {w w' : World} {g : Nat} {S : StoP}
theorem SoAt.chg (h : SoAt N w g S) (hc : Chg G w w') (hg : ∀ k, G k → N k) (hng : ¬ G g) : SoAt N w' g S := by
  obtain ⟨lp, h1, h2, h3⟩ := h.out
  exact ⟨⟨lp, h1, (hc.block g h2.lt hng).trans h2, fun x hx => (h3 x hx).chg hc hg⟩, h.isIn.chg hc, h.here⟩
theorem SoAt.ext (h : SoAt N w g S) (hx : Ext w w') : SoAt N w' g S := h.chg (G := fun _ => False) (Chg.of_ext hx) (fun _ h => h.elim) (fun h => h)
theorem SoAt.lt (h : SoAt N w g S) : g < w.heap.size := h.isIn g h.here
/-- The cells of a job's pair. -/
structure PairAt (N : Fp) (w : World) (b o : Nat) (p : PrP) : Prop where
  out : ∃ vc vs, (w.cell? ⟨b, o, none⟩ = some (I p.c.ep) ∧ w.cell? ⟨b, o + 1, none⟩ = some vc ∧ w.cell? ⟨b, o + 2, none⟩ = some (I p.s.ep) ∧ w.cell? ⟨b, o + 3, none⟩ = some vs) ∧ LpP.rd N w ⟨p, vc, vs⟩
  fr : ∀ i, w.frozen? ⟨b, i, none⟩ = false
  lt : b < w.heap.size
theorem PairAt.ext {b o : Nat} {p : PrP} (h : PairAt N w b o p) (hx : Ext w w') : PairAt N w' b o p := by
  obtain ⟨vc, vs, ⟨c0, c1, c2, c3⟩, hr⟩ := h.out
  exact ⟨⟨vc, vs, ⟨(hx.cell (p := ⟨b, o, none⟩) h.lt).trans c0, (hx.cell (p := ⟨b, o + 1, none⟩) h.lt).trans c1, (hx.cell (p := ⟨b, o + 2, none⟩) h.lt).trans c2, (hx.cell (p := ⟨b, o + 3, none⟩) h.lt).trans c3⟩, hr.chg (G := fun _ => False) (Chg.of_ext hx) (fun _ h => h.elim)⟩,
    fun i => (hx.frozen (p := ⟨b, i, none⟩) h.lt).trans (h.fr i), Nat.lt_of_lt_of_le h.lt hx.size⟩
theorem getD_map (lp : List LpP) (k : Nat) : (lp.map LpP.p).getD k zPr = (lp.getD k zLp).p := by
  rw [List.getD_eq_getElem?_getD, List.getD_eq_getElem?_getD, List.getElem?_map]
  cases lp[k]? <;> rfl
theorem SoAt.pair (h : SoAt N w g S) (hS : OkS S) {job : Int} (hj : isJ job = true) : PairAt N w g (2 + 4 * (job - 1).toNat) (ofJ S job) := by
  obtain ⟨lp, h1, h2, h3⟩ := h.out
  have hk : (job - 1).toNat < lp.length := by have := hS.idx hj; rw [← h1, List.length_map] at this; exact this
  have hp : (lp.getD (job - 1).toNat zLp).p = ofJ S job := by
    unfold ofJ
    rw [if_pos hj, ← h1, getD_map]
  have hm : lp.getD (job - 1).toNat zLp ∈ lp := by rw [List.getD_eq_getElem?_getD, List.getElem?_eq_getElem hk]; exact List.getElem_mem hk
  have hc : ∀ i, i < 4 → w.cell? ⟨g, 2 + 4 * (job - 1).toNat + i, none⟩ = ((lp.getD (job - 1).toNat zLp).cells)[i]? := fun i hi => by
    rw [h2.cell, List.getElem?_toArray, soC_at _ _ _ _ _ _ hi hk]
  refine ⟨⟨(lp.getD (job - 1).toNat zLp).vc, (lp.getD (job - 1).toNat zLp).vs, ⟨?_, ?_, ?_, ?_⟩, ?_⟩, fun i => h2.frozen i, h2.lt⟩
  · rw [← hp]; exact hc 0 (by omega)
  · exact hc 1 (by omega)
  · rw [← hp]; exact hc 2 (by omega)
  · exact hc 3 (by omega)
  · rw [← hp]; exact h3 _ hm
end

end Go.Proofs.Ytkkmldoohokdfaa

/- Words for a slice of structs that came in: numbers, and bytes. No program is named here. -/
namespace Go.Proofs.Ytkkmldoohokdfaa
open Go.ChangeShapes Go.WideShapes Go.ChangeAt Go.RowKit Go.Deep

section
variable {H : Type} {enc : TypeId × Value → H} {P : Program} {w : World} {base : Nat} {held : Bool}
/-- The fields of a struct that lies in memory, each of one cell. -/
theorem struct_parts {e : TypeId} {fs : Array Field} {m : Nat} {cs : List Value} {x : DataW H × List MemPlace} (he : P.underlying e = some (.struct fs)) (hone : oneCellFields P fs = true) (hC : P.cellsOf e = fs.size)
    (h : DataW.trod enc P w base (fun _ => true) held m e cs = some x) : cs.length = fs.size ∧ ∀ (j : Nat) (f : Field), fs[j]? = some f → ∃ v n y, cs[j]? = some v ∧ DataW.trod enc P w base (fun _ => true) held n f.type [v] = some y := by
  obtain ⟨ys, n, _, _, hlen, hyl, hf⟩ := DataW.trod_struct he h
  refine ⟨hlen.trans hC, fun j f hj => ?_⟩
  obtain ⟨ho, hk⟩ := hone_of hone j f hj
  have hjf : j < fs.size := (Array.getElem?_eq_some_iff.1 hj).1
  have hjc : j < cs.length := by rw [hlen, hC]; exact hjf
  have hfj := hf j f hj
  rw [ho, hk, List.drop_eq_getElem_cons hjc] at hfj
  have hjy : j < ys.length := by rw [hyl]; exact hjf
  exact ⟨cs[j], n, ys[j], List.getElem?_eq_getElem hjc, by rw [List.getElem?_eq_getElem hjy] at hfj; exact hfj⟩

/-- A slice of structs of k one-cell fields: where it lies, and that each element's fields read. -/
theorem structs_at {t e : TypeId} {fs : Array Field} {r : Reach} {b0 : Nat} {v : Value} {d : DataW H} {ps : List MemPlace} (ht : P.underlying t = some (.slice e)) (he : P.underlying e = some (.struct fs)) (hone : oneCellFields P fs = true)
    (hC : P.cellsOf e = fs.size) (h0 : 0 < fs.size) (hval : Value.okWide P w r b0 t v) (hd : DataW.Trod enc P w base (fun _ => true) held t v d ps) :
    ∃ A n c, v = .slice A n c ∧ n ≤ c ∧ c ≤ maxLen ∧ (0 < n → ∃ b o, A = some ⟨b, o, none⟩ ∧ b < w.heap.size ∧
      ∀ i, i < n → ∀ (j : Nat) (f : Field), fs[j]? = some f → ∃ u k y, w.cell? ⟨b, o + (i * fs.size + j), none⟩ = some u ∧ DataW.trod enc P w base (fun _ => true) held k f.type [u] = some y) := by
  obtain ⟨a0, len, cap, rfl⟩ := okWide_slice ht hval
  obtain ⟨fuel, hf⟩ := hd
  rcases open_slice ht hf with ⟨hcs, _⟩ | ⟨a, len', cap', m, n, D, Pl, hcs, _, hl, hm, hmm, _, hx⟩
  · simp [Value.cells] at hcs
    obtain ⟨rfl, rfl, rfl⟩ := hcs
    exact ⟨none, 0, 0, rfl, Nat.le_refl _, Nat.zero_le _, fun h => absurd h (by omega)⟩
  · simp [Value.cells] at hcs
    obtain ⟨rfl, rfl, rfl⟩ := hcs
    simp only [if_true] at hmm
    subst hmm
    have hcell : ∀ i, i < m → ∀ (j : Nat) (f : Field), fs[j]? = some f → ∃ u k y, w.cell? (a.add (i * fs.size + j)) = some u ∧ DataW.trod enc P w base (fun _ => true) held k f.type [u] = some y := by
      intro i hi j f hj
      obtain ⟨cs', hc, htr⟩ := hx i hi
      obtain ⟨hlen, hparts⟩ := struct_parts he hone hC htr
      obtain ⟨u, k, y, hu, hy⟩ := hparts j f hj
      obtain ⟨_, hcl, hat⟩ := World.cells?_some hc
      have hjf : j < fs.size := (Array.getElem?_eq_some_iff.1 hj).1
      have h1 := hat j (by rw [hC]; exact hjf)
      rw [hC, add_of_add, hu] at h1
      exact ⟨u, k, y, h1, hy⟩
    refine ⟨some a, len, m, rfl, hl, hm, fun hn0 => ?_⟩
    obtain ⟨u, _, _, hu, _⟩ := hcell 0 (by omega) 0 fs[0] (Array.getElem?_eq_getElem h0)
    obtain ⟨b, o, spot⟩ := a
    have hspot : spot = none := by simpa [Addr.add] using World.cell?_spot hu
    subst hspot
    refine ⟨b, o, rfl, ?_, fun i hi j f hj => ?_⟩
    · have := World.block_lt_of_cell? w _ hu
      simpa [block_of_add] using this
    · obtain ⟨u, k, y, h1, h2⟩ := hcell i (by omega) j f hj
      rw [Addr.add_lit] at h1
      exact ⟨u, k, y, h1, h2⟩

/-- An act: two numbers and bytes. -/
def RdActs (w : World) (v : Value) (l : List (Int × Int × List UInt8)) : Prop :=
  ∃ A c, v = .slice A l.length c ∧ l.length ≤ c ∧ c ≤ maxLen ∧ (0 < l.length → ∃ b o, A = some ⟨b, o, none⟩ ∧ b < w.heap.size ∧
    ∀ j x, l[j]? = some x → w.cell? ⟨b, o + j * 3, none⟩ = some (I x.1) ∧ w.cell? ⟨b, o + (j * 3 + 1), none⟩ = some (I x.2.1) ∧ (-9223372036854775808 ≤ x.1 ∧ x.1 ≤ 9223372036854775807) ∧ (-9223372036854775808 ≤ x.2.1 ∧ x.2.1 ≤ 9223372036854775807) ∧
      ∃ u, w.cell? ⟨b, o + (j * 3 + 2), none⟩ = some u ∧ Rd w u (x.2.2.map B))

theorem RdActs.slice_ {w : World} {v : Value} {l : List (Int × Int × List UInt8)} (h : RdActs w v l) : ∃ A c, v = .slice A l.length c ∧ l.length ≤ c ∧ c ≤ 9223372036854775807 := by
  obtain ⟨A, c, e, h1, h2, _⟩ := h
  exact ⟨A, c, e, h1, by unfold maxLen at h2; omega⟩
theorem RdActs.get {w : World} {A : Option Addr} {n c : Nat} {l : List (Int × Int × List UInt8)} (h : RdActs w (.slice A n c) l) (hn : 0 < l.length) : ∃ b o, A = some ⟨b, o, none⟩ ∧ b < w.heap.size ∧
    ∀ j x, l[j]? = some x → w.cell? ⟨b, o + j * 3, none⟩ = some (I x.1) ∧ w.cell? ⟨b, o + (j * 3 + 1), none⟩ = some (I x.2.1) ∧ (-9223372036854775808 ≤ x.1 ∧ x.1 ≤ 9223372036854775807) ∧ (-9223372036854775808 ≤ x.2.1 ∧ x.2.1 ≤ 9223372036854775807) ∧
      ∃ u, w.cell? ⟨b, o + (j * 3 + 2), none⟩ = some u ∧ Rd w u (x.2.2.map B) := by
  obtain ⟨A', c', e, _, _, h3⟩ := h
  cases e
  exact h3 hn

theorem RdActs.ext {w w' : World} {v : Value} {l : List (Int × Int × List UInt8)} (h : RdActs w v l) (hx : Ext w w') : RdActs w' v l := by
  obtain ⟨A, c, e, h1, h2, h3⟩ := h
  refine ⟨A, c, e, h1, h2, fun hn => ?_⟩
  obtain ⟨b, o, a, hb, hc⟩ := h3 hn
  refine ⟨b, o, a, Nat.lt_of_lt_of_le hb hx.size, fun j x hj => ?_⟩
  obtain ⟨e1, e2, b1, b2, u, e3, hu⟩ := hc j x hj
  exact ⟨hx.cellOf e1 hb, hx.cellOf e2 hb, b1, b2, u, hx.cellOf e3 hb, hu.ext hx⟩

theorem dec_acts {t e tb : TypeId} {fs : Array Field} {f0 f1 f2 : Field} {ti tj : TypeId} {r : Reach} {b0 : Nat} {v : Value} {d : DataW H} {ps : List MemPlace} (ht : P.underlying t = some (.slice e)) (he : P.underlying e = some (.struct fs)) (hone : oneCellFields P fs = true)
    (hC : P.cellsOf e = 3) (hfs : fs = #[f0, f1, f2]) (h0 : f0.type = ti) (h1 : f1.type = tj) (h2 : f2.type = tb) (hi : P.underlying ti = some (.int .i64)) (hj : P.underlying tj = some (.int .i64)) {q : TypeId} (hb : P.underlying tb = some (.slice q)) (hq : P.underlying q = some (.int .u8)) (cq : P.cellsOf q = 1)
    (hval : Value.okWide P w r b0 t v) (hd : DataW.Trod enc P w base (fun _ => true) held t v d ps) : ∃ l, RdActs w v l := by
  subst hfs h0 h1 h2
  obtain ⟨A, n, c, rfl, hnc, hcm, hx⟩ := structs_at ht he hone (by rw [hC]; rfl) (by simp) hval hd
  have each : ∀ i, ∃ x : Int × Int × List UInt8, 0 < n → i < n → ∀ b o, A = some ⟨b, o, none⟩ → w.cell? ⟨b, o + i * 3, none⟩ = some (I x.1) ∧ w.cell? ⟨b, o + (i * 3 + 1), none⟩ = some (I x.2.1) ∧ (-9223372036854775808 ≤ x.1 ∧ x.1 ≤ 9223372036854775807) ∧ (-9223372036854775808 ≤ x.2.1 ∧ x.2.1 ≤ 9223372036854775807) ∧
      ∃ u, w.cell? ⟨b, o + (i * 3 + 2), none⟩ = some u ∧ Rd w u (x.2.2.map B) := by
    intro i
    by_cases hn : 0 < n ∧ i < n
    · obtain ⟨b, o, rfl, _, hcell⟩ := hx hn.1
      obtain ⟨u0, k0, y0, c0, t0⟩ := hcell i hn.2 0 f0 rfl
      obtain ⟨u1, k1, y1, c1, t1⟩ := hcell i hn.2 1 f1 rfl
      obtain ⟨u2, k2, y2, c2, t2⟩ := hcell i hn.2 2 f2 rfl
      obtain ⟨z0, hz0, _, w0⟩ := DataW.trod_int hi t0
      obtain ⟨z1, hz1, _, w1⟩ := DataW.trod_int hj t1
      obtain ⟨l2, hl2⟩ := rd_of_trod hb hq cq t2
      simp only [List.cons.injEq, and_true] at hz0 hz1
      subst hz0 hz1
      have m1 : IntKind.i64.min = -9223372036854775808 := rfl
      have m2 : IntKind.i64.max = 9223372036854775807 := rfl
      simp only [Lit.wf, Bool.and_eq_true, decide_eq_true_eq] at w0 w1
      refine ⟨(z0, z1, l2), fun _ _ b' o' e => ?_⟩
      cases e
      exact ⟨c0, c1, ⟨by simp only; omega, by simp only; omega⟩, ⟨by simp only; omega, by simp only; omega⟩, u2, c2, hl2⟩
    · exact ⟨(0, 0, []), fun h1 h2 => absurd ⟨h1, h2⟩ hn⟩
  obtain ⟨L, hL⟩ : ∃ L : Nat → Int × Int × List UInt8, ∀ i, 0 < n → i < n → ∀ b o, A = some ⟨b, o, none⟩ → w.cell? ⟨b, o + i * 3, none⟩ = some (I (L i).1) ∧ w.cell? ⟨b, o + (i * 3 + 1), none⟩ = some (I (L i).2.1) ∧ (-9223372036854775808 ≤ (L i).1 ∧ (L i).1 ≤ 9223372036854775807) ∧ (-9223372036854775808 ≤ (L i).2.1 ∧ (L i).2.1 ≤ 9223372036854775807) ∧
      ∃ u, w.cell? ⟨b, o + (i * 3 + 2), none⟩ = some u ∧ Rd w u ((L i).2.2.map B) := ⟨fun i => (each i).choose, fun i => (each i).choose_spec⟩
  refine ⟨(List.range n).map L, A, c, by simp, by simpa using hnc, hcm, fun hn => ?_⟩
  have hn' : 0 < n := by simpa using hn
  obtain ⟨b, o, hA, hb1, _⟩ := hx hn'
  refine ⟨b, o, hA, hb1, fun j x hj => ?_⟩
  rw [List.getElem?_map] at hj
  obtain ⟨i, hi1, rfl⟩ := Option.map_eq_some_iff.1 hj
  obtain ⟨hi2, hi3⟩ := List.getElem?_eq_some_iff.1 hi1
  simp at hi2 hi3
  subst hi3
  exact hL j hn' hi2 b o hA
end

end Go.Proofs.Ytkkmldoohokdfaa
