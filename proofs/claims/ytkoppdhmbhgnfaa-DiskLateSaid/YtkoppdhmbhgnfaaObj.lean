/- Words for an object: a block of cells, some of which hold rows of its own. No program is named here. -/
import Derived.Test.YtkoppdhmbhgnfaaSep
namespace Go.Proofs.Ytkoppdhmbhgnfaa
open Go.RowKit

/-- A row: its elements' type and cells, its value, how many elements, the cells. -/
structure RowS where
  e : TypeId
  size : Nat
  v : Value
  n : Nat
  xs : List Value

def RowS.ok (r : RowS) (F : Fp) (w : World) : Prop := w.ownsRow 0 r.e r.size r.v r.n r.xs ∧ ∀ k, r.v.ownBlock = some k → F k

/-- Two rows share no block. -/
def RowS.apart (r s : RowS) : Prop := ∀ k, r.v.ownBlock = some k → s.v.ownBlock ≠ some k

/-- The object: block g with the cells cs; its rows; all within F. -/
structure ObjF (F : Fp) (w : World) (g : Nat) (T : TypeId) (cs : Array Value) (rows : List RowS) : Prop where
  blk : Blk w g T cs
  here : F g
  isIn : F.isIn w
  ok : ∀ r ∈ rows, r.ok F w
  off : ∀ r ∈ rows, r.v.ownBlock ≠ some g
  apart : rows.Pairwise RowS.apart

theorem RowS.apart.symm {r s : RowS} (h : r.apart s) : s.apart r := fun k hs hr => h k hr hs

section
variable {F G : Fp} {w w' : World} {g : Nat} {T : TypeId} {cs : Array Value} {rows : List RowS}

theorem RowS.ok.lt {r : RowS} (h : r.ok F w) : ∀ k, r.v.ownBlock = some k → k < w.heap.size := fun k hk => (h.1.lt k hk).2
theorem RowS.ok.chg {r : RowS} (h : r.ok F w) (hc : Chg G w w') (ha : ∀ k, r.v.ownBlock = some k → ¬ G k) : r.ok F w' := by
  refine ⟨⟨h.1.1, ?_⟩, h.2⟩
  rcases h.1.2 with hv | ⟨b, cap, cur, hv, hg, hh, x⟩
  · exact .inl hv
  · exact .inr ⟨b, cap, cur, hv, hg, by rw [hc.block b (Array.getElem?_eq_some_iff.1 hh).1 (ha b (by rw [hv]; rfl))]; exact hh, x⟩
theorem RowS.ok.mono {r : RowS} (h : r.ok F w) (hf : ∀ k, F k → G k) : r.ok G w := ⟨h.1, fun k hk => hf k (h.2 k hk)⟩

/-- What turned lies apart: the object stands. -/
theorem ObjF.chg (h : ObjF F w g T cs rows) (hc : Chg G w w') (ha : F.apart G) : ObjF F w' g T cs rows :=
  ⟨(hc.block g h.blk.lt (ha g h.here)).trans h.blk, h.here, h.isIn.chg hc, fun r hr => (h.ok r hr).chg hc (fun k hk => ha k ((h.ok r hr).2 k hk)), h.off, h.apart⟩
theorem ObjF.ext (h : ObjF F w g T cs rows) (hx : Ext w w') : ObjF F w' g T cs rows := h.chg (G := fun _ => False) (Chg.of_ext hx) (fun _ _ h => h)
theorem ObjF.mono (h : ObjF F w g T cs rows) (hf : ∀ k, F k → G k) (hi : G.isIn w) : ObjF G w g T cs rows :=
  ⟨h.blk, hf g h.here, hi, fun r hr => (h.ok r hr).mono hf, h.off, h.apart⟩
theorem ObjF.drew (h : ObjF F w g T cs rows) : ObjF F w.drew g T cs rows := ⟨h.blk, h.here, h.isIn, h.ok, h.off, h.apart⟩
/-- A field that holds no row is written. -/
theorem ObjF.setCell (h : ObjF F w g T cs rows) (j : Nat) (u : Value) : ObjF F (w.setCell ⟨g, j, none⟩ u) g T (cs.setIfInBounds j u) rows ∧ Chg F w (w.setCell ⟨g, j, none⟩ u) := by
  have hc : Chg (fun k => k = g) w (w.setCell ⟨g, j, none⟩ u) := (Chg.refl _ w).setCell (fun _ => rfl)
  refine ⟨⟨h.blk.set_ j u, h.here, h.isIn.chg hc, fun r hr => (h.ok r hr).chg hc (fun k hk e => h.off r hr (by rw [hk, e])), h.off, h.apart⟩, hc.mono fun k _ e => by rw [e]; exact h.here⟩

theorem pairwise_set {α : Type} {R : α → α → Prop} (hs : ∀ a b, R a b → R b a) {l : List α} (h : l.Pairwise R) (i : Nat) (x : α) (hx : ∀ j (hj : j < l.length), j ≠ i → R x l[j]) : (l.set i x).Pairwise R := by
  rw [List.pairwise_iff_getElem] at h ⊢
  intro a b ha hb hab
  rw [List.length_set] at ha hb
  rw [List.getElem_set, List.getElem_set]
  by_cases h1 : i = a
  · rw [if_pos h1, if_neg (by omega)]
    exact hx b hb (by omega)
  · rw [if_neg h1]
    by_cases h2 : i = b
    · rw [if_pos h2]
      exact hs _ _ (hx a ha (by omega))
    · rw [if_neg h2]
      exact h a b ha hb hab

theorem mem_set_cases {α : Type} {l : List α} {i : Nat} {x y : α} (h : y ∈ l.set i x) : y = x ∨ ∃ j, ∃ hj : j < l.length, j ≠ i ∧ y = l[j] := by
  obtain ⟨j, hj, e⟩ := List.getElem_of_mem h
  rw [List.length_set] at hj
  rw [List.getElem_set] at e
  by_cases hji : i = j
  · rw [if_pos hji] at e
    exact .inl e.symm
  · rw [if_neg hji] at e
    exact .inr ⟨j, hj, fun e => hji e.symm, e.symm⟩

/-- One row has another content, in its own block or in one made since; all else stands. -/
theorem ObjF.turn (h : ObjF F w g T cs rows) (i : Nat) (hi : i < rows.length) (r' : RowS) (hr : w'.ownsRow 0 r'.e r'.size r'.v r'.n r'.xs) (hc : Chg (fun k => (rows[i]).v.ownBlock = some k) w w')
    (hb : ∀ k, r'.v.ownBlock = some k → (rows[i]).v.ownBlock = some k ∨ w.heap.size ≤ k) : ObjF (F.since w w') w' g T cs (rows.set i r') ∧ Chg F w w' := by
  have hri := List.getElem_mem hi
  have hcF : Chg F w w' := hc.mono fun k _ hk => (h.ok _ hri).2 k hk
  have hp := h.apart
  rw [List.pairwise_iff_getElem] at hp
  have hne : ∀ j (hj : j < rows.length), j ≠ i → (rows[i]).apart rows[j] := by
    intro j hj hji
    rcases Nat.lt_or_ge j i with h1 | h1
    · exact (hp j i hj hi h1).symm
    · exact hp i j hi hj (by omega)
  have hlt : ∀ k, r'.v.ownBlock = some k → k < w'.heap.size := fun k hk => (hr.lt k hk).2
  refine ⟨⟨?_, .inl h.here, h.isIn.since hc.size, fun r hm => ?_, fun r hm => ?_, ?_⟩, hcF⟩
  · exact (hc.block g h.blk.lt (h.off _ hri)).trans h.blk
  · rcases mem_set_cases hm with rfl | ⟨j, hj, hji, rfl⟩
    · refine ⟨hr, fun k hk => ?_⟩
      rcases hb k hk with h1 | h1
      · exact .inl ((h.ok _ hri).2 k h1)
      · exact .inr ⟨h1, hlt k hk⟩
    · have hjm := List.getElem_mem hj
      exact ((h.ok _ hjm).chg hc (fun k hk => (hne j hj hji).symm k hk)).mono (fun k hk => .inl hk)
  · rcases mem_set_cases hm with rfl | ⟨j, hj, hji, rfl⟩
    · intro e
      rcases hb g e with h1 | h1
      · exact h.off _ hri h1
      · have := h.blk.lt
        omega
    · exact h.off _ (List.getElem_mem hj)
  · refine pairwise_set (fun a b hab => hab.symm) h.apart i r' (fun j hj hji k hk => ?_)
    rcases hb k hk with h1 | h1
    · exact hne j hj hji k h1
    · intro e
      have := (h.ok _ (List.getElem_mem hj)).lt k e
      omega

/-- A row has grown, or was written, by what the append laws leave. -/
theorem ObjF.grew (h : ObjF F w g T cs rows) (i : Nat) (hi : i < rows.length) {e : TypeId} {v v' : Value} {ys : List Value} (hv : (rows[i]).v = v) (hg : Grew 0 e v w ys v' w') :
    ObjF (F.since w w') w' g T cs (rows.set i ⟨e, 1, v', ys.length, ys⟩) ∧ Chg F w w' := by
  subst hv
  exact h.turn i hi ⟨e, 1, v', ys.length, ys⟩ hg.1 (Chg.of_grown hg.2.1 fun k hk => hk) (fun k hk => by
    rcases hg.2.2 with h2 | h2
    · exact .inl (by rw [← h2]; exact hk)
    · exact .inr (h2 k hk))
/-- Its field too. -/
theorem ObjF.push (h : ObjF F w g T cs rows) (i j : Nat) (hi : i < rows.length) {e : TypeId} {v v' : Value} {ys : List Value} (hv : (rows[i]).v = v) (hg : Grew 0 e v w ys v' w') :
    ObjF (F.since w w') (w'.setCell ⟨g, j, none⟩ v') g T (cs.setIfInBounds j v') (rows.set i ⟨e, 1, v', ys.length, ys⟩) ∧ Chg F w (w'.setCell ⟨g, j, none⟩ v') := by
  obtain ⟨h1, h2⟩ := h.grew i hi hv hg
  obtain ⟨h3, h4⟩ := h1.setCell j v'
  exact ⟨h3, h2.trans h4 (fun x hx hF => by
    rcases hF with hF | hF
    · exact hF
    · omega)⟩
/-- A row is given up: nil. -/
theorem ObjF.drop (h : ObjF F w g T cs rows) (i j : Nat) (hi : i < rows.length) (e : TypeId) (size : Nat) :
    ObjF F (w.setCell ⟨g, j, none⟩ (.slice none 0 0)) g T (cs.setIfInBounds j (.slice none 0 0)) (rows.set i ⟨e, size, .slice none 0 0, 0, []⟩) ∧ Chg F w (w.setCell ⟨g, j, none⟩ (.slice none 0 0)) := by
  obtain ⟨h3, h4⟩ := h.setCell j (.slice none 0 0)
  refine ⟨⟨h3.blk, h3.here, h3.isIn, fun r hm => ?_, fun r hm => ?_, ?_⟩, h4⟩
  · rcases mem_set_cases hm with rfl | ⟨j, hj, _, rfl⟩
    · exact ⟨World.ownsRow_nil _ 0 e size, fun k hk => by cases hk⟩
    · exact h3.ok _ (List.getElem_mem hj)
  · rcases mem_set_cases hm with rfl | ⟨j, hj, _, rfl⟩
    · intro e; cases e
    · exact h3.off _ (List.getElem_mem hj)
  · exact pairwise_set (fun a b hab => hab.symm) h3.apart i _ (fun j hj hji k hk => by cases hk)
/-- A new object, over rows that were made since w0. -/
theorem ObjF.new {w0 : World} (hx : w0.heap.size ≤ w.heap.size) (cs : Array Value) (T : TypeId) (hok : ∀ r ∈ rows, r.ok (fun k => w0.heap.size ≤ k ∧ k < w.heap.size) w) (hap : rows.Pairwise RowS.apart) :
    ObjF (fun k => w0.heap.size ≤ k ∧ k < w.heap.size + 1) (w.alloc (.cells cs T)) w.heap.size T cs rows := by
  have hc : Chg (fun _ => False) w (w.alloc (.cells cs T)) := Chg.of_ext ((Below.refl _ _).alloc (Nat.le_refl _) _)
  refine ⟨Blk.new w T cs, ⟨hx, by omega⟩, fun k hk => by simp; omega, fun r hr => ?_, fun r hr e => ?_, hap⟩
  · exact ((hok r hr).chg hc (fun _ _ h => h)).mono (fun k hk => ⟨hk.1, by omega⟩)
  · have := (hok r hr).lt _ e
    omega
/-- The same object, in a later count of its blocks. -/
theorem ObjF.later {w0 : World} (h : ObjF ((F.since w0 w).since w w') w' g T cs rows) (hi : F.isIn w0) (h1 : w0.heap.size ≤ w.heap.size) (h2 : w.heap.size ≤ w'.heap.size) : ObjF (F.since w0 w') w' g T cs rows :=
  h.mono (Fp.since_since h1 h2) (hi.since (Nat.le_trans h1 h2))
/-- The same, counted from the beginning of a call. -/
theorem ObjF.pushS {w0 : World} (h : ObjF (F.since w0 w) w g T cs rows) (h0 : F.isIn w0) (hc : Chg F w0 w) (i j : Nat) (hi : i < rows.length) {e : TypeId} {v v' : Value} {ys : List Value} (hv : (rows[i]).v = v) (hg : Grew 0 e v w ys v' w') :
    ObjF (F.since w0 (w'.setCell ⟨g, j, none⟩ v')) (w'.setCell ⟨g, j, none⟩ v') g T (cs.setIfInBounds j v') (rows.set i ⟨e, 1, v', ys.length, ys⟩) ∧ Chg F w0 (w'.setCell ⟨g, j, none⟩ v') := by
  obtain ⟨h1, h2⟩ := h.push i j hi hv hg
  have hs : (w'.setCell ⟨g, j, none⟩ v').heap.size = w'.heap.size := by simp
  refine ⟨h1.mono (fun k hk => ?_) (h0.since (Nat.le_trans hc.size h2.size)), hc.step h2⟩
  rcases Fp.since_since hc.size hg.size k hk with hk | hk
  · exact .inl hk
  · exact .inr ⟨hk.1, by rw [hs]; exact hk.2⟩
end

end Go.Proofs.Ytkoppdhmbhgnfaa
