/- Words for objects that are written: which blocks a thing lies in, and which a call may have turned. No program is named here. -/
import Derived.Test.YtkoppdhmbhgnfaaMem2
namespace Go.Proofs.Ytkoppdhmbhgnfaa
open Go.RowKit

/-- A set of blocks. -/
abbrev Fp : Type := Nat → Prop
/-- Two sets that share no block. -/
def Fp.apart (F G : Fp) : Prop := ∀ k, F k → ¬ G k
/-- All blocks of the set are there. -/
def Fp.isIn (F : Fp) (w : World) : Prop := ∀ k, F k → k < w.heap.size
/-- The set, and the blocks that were made since. -/
def Fp.since (F : Fp) (w w' : World) : Fp := fun k => F k ∨ (w.heap.size ≤ k ∧ k < w'.heap.size)

/-- 'Chg F w w'': of the blocks that w has, those of F alone may have turned. -/
structure Chg (F : Fp) (w w' : World) : Prop where
  os : w'.os = w.os
  tape : w'.tape = w.tape
  output : w'.output = w.output
  size : w.heap.size ≤ w'.heap.size
  block : ∀ k, k < w.heap.size → ¬ F k → w'.heap[k]? = w.heap[k]?

section
variable {F G H : Fp} {w w' w'' : World}
theorem Fp.apart.symm (h : F.apart G) : G.apart F := fun k hg hf => h k hf hg
theorem Fp.apart.mono {F' G' : Fp} (h : F.apart G) (hf : ∀ k, F' k → F k) (hg : ∀ k, G' k → G k) : F'.apart G' := fun k h1 h2 => h k (hf k h1) (hg k h2)
theorem Fp.isIn.chg (h : F.isIn w) (hc : Chg G w w') : F.isIn w' := fun k hk => Nat.lt_of_lt_of_le (h k hk) hc.size
theorem Fp.isIn.ext (h : F.isIn w) (hc : Ext w w') : F.isIn w' := fun k hk => Nat.lt_of_lt_of_le (h k hk) hc.size
theorem Fp.isIn.since (h : F.isIn w) (hs : w.heap.size ≤ w'.heap.size) : (F.since w w').isIn w' := fun k hk => by
  rcases hk with hk | hk
  · exact Nat.lt_of_lt_of_le (h k hk) hs
  · exact hk.2
/-- What was there, and apart, stays apart of what was made since. -/
theorem Fp.apart.since (h : F.apart G) (hg : G.isIn w) : (F.since w w').apart G := fun k hk hgk => by
  rcases hk with hk | hk
  · exact h k hk hgk
  · have := hg k hgk
    omega

theorem Chg.refl (F : Fp) (w : World) : Chg F w w := ⟨rfl, rfl, rfl, Nat.le_refl _, fun _ _ _ => rfl⟩
theorem Chg.mono (h : Chg F w w') (hf : ∀ k, k < w.heap.size → F k → G k) : Chg G w w' := ⟨h.os, h.tape, h.output, h.size, fun k hk hg => h.block k hk (fun hF => hg (hf k hk hF))⟩
theorem Chg.trans (h : Chg F w w') (k : Chg G w' w'') (hg : ∀ x, x < w.heap.size → G x → F x) : Chg F w w'' :=
  ⟨k.os.trans h.os, k.tape.trans h.tape, k.output.trans h.output, Nat.le_trans h.size k.size, fun x hx hF => (k.block x (Nat.lt_of_lt_of_le hx h.size) (fun hG => hF (hg x hx hG))).trans (h.block x hx hF)⟩
theorem Chg.of_ext (h : Ext w w') : Chg F w w' := ⟨h.os, h.tape, h.output, h.size, fun k hk _ => h.block k hk⟩
/-- Only what is newer than w0 was turned: all that w0 has stands. -/
theorem Chg.ext {w0 : World} (h : Chg F w w') (hx : Ext w0 w) (hf : ∀ k, F k → w0.heap.size ≤ k) : Ext w0 w' :=
  ⟨h.os.trans hx.os, h.tape.trans hx.tape, h.output.trans hx.output, Nat.le_trans hx.size h.size, fun k hk => (h.block k (Nat.lt_of_lt_of_le hk hx.size) (fun hF => by have := hf k hF; omega)).trans (hx.block k hk)⟩
theorem Chg.of_grown {row : Option Nat} (h : w.grownBy w' row) (hr : ∀ k, row = some k → F k) : Chg F w w' :=
  ⟨h.os, h.tape, h.output, h.size, fun k hk hF => h.block k hk (fun e => hF (hr k e.symm))⟩
theorem Chg.drewN (h : Chg F w w') (n : Nat) : Chg F w (w'.drewN n) := ⟨h.os, h.tape, h.output, h.size, h.block⟩
theorem Chg.drew (h : Chg F w w') : Chg F w w'.drew := ⟨h.os, h.tape, h.output, h.size, h.block⟩
theorem Chg.alloc (h : Chg F w w') (o : Obj) : Chg F w (w'.alloc o) :=
  h.trans (G := fun _ => False) (Chg.of_ext ((Below.refl _ _).alloc (Nat.le_refl _) _)) (fun _ _ h => h.elim)
theorem Chg.setCell (h : Chg F w w') {p : Addr} {v : Value} (hp : p.block < w.heap.size → F p.block) : Chg F w (w'.setCell p v) := by
  refine ⟨h.os, h.tape, h.output, by simpa using h.size, fun k hk hF => ?_⟩
  have hne : k ≠ p.block := fun e => hF (by rw [e]; exact hp (by rw [← e]; exact hk))
  exact (Below.heap_setCell w' p v k hne).trans (h.block k hk hF)

theorem Fp.since_since {a b c : World} (h1 : a.heap.size ≤ b.heap.size) (h2 : b.heap.size ≤ c.heap.size) : ∀ k, ((F.since a b).since b c) k → F.since a c k := fun k hk => by
  rcases hk with (hk | hk) | hk
  · exact .inl hk
  · exact .inr ⟨hk.1, Nat.lt_of_lt_of_le hk.2 h2⟩
  · exact .inr ⟨Nat.le_trans h1 hk.1, hk.2⟩
theorem Chg.step (h : Chg F w w') (k : Chg (F.since w w') w' w'') : Chg F w w'' := h.trans k (fun x hx hF => by
  rcases hF with hF | hF
  · exact hF
  · omega)
theorem Fp.since_grow {a b c : World} (h2 : b.heap.size ≤ c.heap.size) : ∀ k, (F.since a b) k → F.since a c k := fun k hk => by
  rcases hk with hk | hk
  · exact .inl hk
  · exact .inr ⟨hk.1, Nat.lt_of_lt_of_le hk.2 h2⟩

/-- A slice that reads as xs and lies in the set. -/
def RdF (F : Fp) (w : World) (v : Value) (xs : List Value) : Prop :=
  ∃ A c, v = .slice A xs.length c ∧ xs.length ≤ c ∧ c ≤ maxLen ∧ (0 < xs.length → ∃ b o, A = some ⟨b, o, none⟩ ∧ b < w.heap.size ∧ F b ∧ ∀ j u, xs[j]? = some u → w.cell? ⟨b, o + j, none⟩ = some u)

theorem RdF.rd {v : Value} {xs : List Value} (h : RdF F w v xs) : Rd w v xs := by
  obtain ⟨A, c, e, h1, h2, h3⟩ := h
  refine ⟨A, c, e, h1, h2, fun hn => ?_⟩
  obtain ⟨b, o, a, hb, _, hc⟩ := h3 hn
  exact ⟨b, o, a, hb, hc⟩
/-- What lies apart of what may have turned reads as ever. -/
theorem RdF.chg {v : Value} {xs : List Value} (h : RdF F w v xs) (hc : Chg G w w') (ha : F.apart G) : RdF F w' v xs := by
  obtain ⟨A, c, e, h1, h2, h3⟩ := h
  refine ⟨A, c, e, h1, h2, fun hn => ?_⟩
  obtain ⟨b, o, a, hb, hF, hcell⟩ := h3 hn
  refine ⟨b, o, a, Nat.lt_of_lt_of_le hb hc.size, hF, fun j u hu => ?_⟩
  have h4 := hcell j u hu
  simp only [World.cell?] at h4 ⊢
  rw [hc.block b hb (ha b hF)]
  exact h4
theorem RdF.get {A : Option Addr} {N c : Nat} {xs : List Value} (h : RdF F w (.slice A N c) xs) (hn : 0 < xs.length) :
    ∃ b o, A = some ⟨b, o, none⟩ ∧ b < w.heap.size ∧ F b ∧ ∀ j u, xs[j]? = some u → w.cell? ⟨b, o + j, none⟩ = some u := by
  obtain ⟨A', c', e, _, _, h3⟩ := h
  cases e
  exact h3 hn
/-- What came in lies below the call. -/
theorem Rd.old {v : Value} {xs : List Value} (h : Rd w v xs) : RdF (fun k => k < w.heap.size) w v xs := by
  obtain ⟨A, c, e, h1, h2, h3⟩ := h
  refine ⟨A, c, e, h1, h2, fun hn => ?_⟩
  obtain ⟨b, o, a, hb, hc⟩ := h3 hn
  exact ⟨b, o, a, hb, hb, hc⟩
theorem RdF.mono {v : Value} {xs : List Value} (h : RdF F w v xs) (hf : ∀ k, F k → G k) : RdF G w v xs := by
  obtain ⟨A, c, e, h1, h2, h3⟩ := h
  refine ⟨A, c, e, h1, h2, fun hn => ?_⟩
  obtain ⟨b, o, a, hb, hF, hc⟩ := h3 hn
  exact ⟨b, o, a, hb, hf b hF, hc⟩

/-! ### Rows of an object's own: which block they lie in -/
/-- The slice v is an own row of the cells xs; it lies in the set. -/
def RowF (F : Fp) (w : World) (e : TypeId) (v : Value) (xs : List Value) : Prop := w.ownsRow 0 e 1 v xs.length xs ∧ ∀ k, v.ownBlock = some k → F k

theorem RowF.rd {e : TypeId} {v : Value} {xs : List Value} (h : RowF F w e v xs) : Rd w v xs := Rd.own h.1
theorem RowF.rdF {e : TypeId} {v : Value} {xs : List Value} (h : RowF F w e v xs) : RdF F w v xs := by
  rcases h.1.2 with ⟨hv, h0⟩ | ⟨g, cap, cur, hv, hg, hh, hn, hcap, hs, ht⟩
  · rw [hv]
    exact ⟨none, 0, by rw [h0], by omega, Nat.zero_le _, fun hn => absurd hn (by omega)⟩
  · have hF := h.2 g (by rw [hv]; rfl)
    have hr := Rd.own h.1
    obtain ⟨A, c, e1, h1, h2, h3⟩ := hr
    refine ⟨A, c, e1, h1, h2, fun hn => ?_⟩
    obtain ⟨b, o, a, hb, hc⟩ := h3 hn
    refine ⟨b, o, a, hb, ?_, hc⟩
    rw [hv] at e1
    injection e1 with eA
    rw [a] at eA
    cases eA
    exact hF
theorem RowF.mono {e : TypeId} {v : Value} {xs : List Value} (h : RowF F w e v xs) (hf : ∀ k, F k → G k) : RowF G w e v xs := ⟨h.1, fun k hk => hf k (h.2 k hk)⟩
theorem RowF.chg {e : TypeId} {v : Value} {xs : List Value} (h : RowF F w e v xs) (hc : Chg G w w') (ha : F.apart G) : RowF F w' e v xs := by
  refine ⟨⟨h.1.1, ?_⟩, h.2⟩
  rcases h.1.2 with hv | ⟨g, cap, cur, hv, hg, hh, r⟩
  · exact .inl hv
  · have hF := h.2 g (by rw [hv]; rfl)
    exact .inr ⟨g, cap, cur, hv, hg, by rw [hc.block g (Array.getElem?_eq_some_iff.1 hh).1 (ha g hF)]; exact hh, r⟩
theorem RowF.nil (F : Fp) (w : World) (e : TypeId) : RowF F w e (.slice none 0 0) [] := ⟨World.ownsRow_nil w 0 e 1, fun k hk => by cases hk⟩
/-- What a call made by itself is its own row, in the blocks made since. -/
theorem RowF.made {e : TypeId} {v : Value} {xs : List Value} (h : Grew w.heap.size e (.slice none 0 0) w xs v w') : RowF (fun k => w.heap.size ≤ k ∧ k < w'.heap.size) w' e v xs := by
  refine ⟨⟨h.1.1, ?_⟩, fun k hk => h.1.lt k hk⟩
  rcases h.1.2 with hv | ⟨g, cap, cur, hv, hg, r⟩
  · exact .inl hv
  · exact .inr ⟨g, cap, cur, hv, Nat.zero_le _, r⟩
theorem RowF.lt {e : TypeId} {v : Value} {xs : List Value} (h : RowF F w e v xs) : ∀ k, v.ownBlock = some k → k < w.heap.size := fun k hk => (h.1.lt k hk).2
/-- The row has grown by an append, or was written. -/
theorem RowF.grew {e : TypeId} {v v' : Value} {xs ys : List Value} (h : RowF F w e v xs) (hg : Grew 0 e v w ys v' w') : RowF (F.since w w') w' e v' ys ∧ Chg (fun k => v.ownBlock = some k) w w' := by
  refine ⟨⟨hg.1, fun k hk => ?_⟩, Chg.of_grown hg.2.1 (fun k hk => hk)⟩
  rcases hg.2.2 with h2 | h2
  · rw [h2] at hk
    exact .inl (h.2 k hk)
  · exact .inr ⟨h2 k hk, (hg.1.lt k hk).2⟩
end

end Go.Proofs.Ytkoppdhmbhgnfaa
