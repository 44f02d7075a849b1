/- Words for a slice of slices that the call itself appends to. No program is named here. -/
import Derived.Test.YticgpldpbbfklaaMem3
namespace Go.Proofs.Yticgpldpbbfklaa
open Go.RowKit

/-- The slice value v reads in w as xs, and lies in another block than the row. -/
def RdN (w : World) (row : Option Nat) (v : Value) (xs : List Value) : Prop :=
  ∃ A c, v = .slice A xs.length c ∧ xs.length ≤ c ∧ c ≤ maxLen ∧ (0 < xs.length → ∃ b o, A = some ⟨b, o, none⟩ ∧ b < w.heap.size ∧ some b ≠ row ∧ ∀ j u, xs[j]? = some u → w.cell? ⟨b, o + j, none⟩ = some u)

theorem RdN.rd {w : World} {row : Option Nat} {v : Value} {xs : List Value} (h : RdN w row v xs) : Rd w v xs := by
  obtain ⟨A, c, e, h1, h2, h3⟩ := h
  refine ⟨A, c, e, h1, h2, fun hn => ?_⟩
  obtain ⟨b, o, a, hb, _, hc⟩ := h3 hn
  exact ⟨b, o, a, hb, hc⟩
theorem RdN.ext {w w' : World} {row : Option Nat} {v : Value} {xs : List Value} (h : RdN w row v xs) (hx : Ext w w') : RdN w' row v xs := by
  obtain ⟨A, c, e, h1, h2, h3⟩ := h
  refine ⟨A, c, e, h1, h2, fun hn => ?_⟩
  obtain ⟨b, o, a, hb, hr, hc⟩ := h3 hn
  exact ⟨b, o, a, Nat.lt_of_lt_of_le hb hx.size, hr, fun j u hu => (hx.cell (p := ⟨b, o + j, none⟩) hb).trans (hc j u hu)⟩
/-- The row grows: what lies elsewhere stays. -/
theorem RdN.grow {w w' : World} {base : Nat} {e : TypeId} {v0 v1 v : Value} {xs ys : List Value} (h : RdN w v0.ownBlock v xs) (hg : Grew base e v0 w ys v1 w') : RdN w' v1.ownBlock v xs := by
  obtain ⟨A, c, e, h1, h2, h3⟩ := h
  refine ⟨A, c, e, h1, h2, fun hn => ?_⟩
  obtain ⟨b, o, a, hb, hr, hc⟩ := h3 hn
  have hblk := hg.2.1.block b hb hr
  refine ⟨b, o, a, Nat.lt_of_lt_of_le hb hg.size, ?_, fun j u hu => ?_⟩
  · rcases hg.2.2 with h | h
    · rw [h]; exact hr
    · intro he
      have := h b he.symm
      omega
  · have := hc j u hu
    simp only [World.cell?] at this ⊢
    rw [hblk]
    exact this
/-- What was just made lies elsewhere. -/
theorem RdN.fresh {w w' : World} {e : TypeId} {v : Value} {xs : List Value} {row : Option Nat} (h : Grew w.heap.size e (.slice none 0 0) w xs v w') (hr : ∀ k, row = some k → k < w.heap.size) : RdN w' row v xs := by
  have h1 := h.1
  rcases h1.2 with ⟨hv, h0⟩ | ⟨g, cap, cur, hv, hg, hh, hn, hcap, hs, ht⟩
  · rw [hv]
    exact ⟨none, 0, by rw [h0], by omega, Nat.zero_le _, fun hn => absurd hn (by omega)⟩
  · subst hv
    refine ⟨some ⟨g, 0, none⟩, cap, rfl, hn, hcap, fun _ => ⟨g, 0, rfl, (Array.getElem?_eq_some_iff.1 hh).1, fun he => ?_, fun j u hu => ?_⟩⟩
    · have := hr g he.symm
      omega
    · have := h1.cells (g := g) rfl j u hu
      rwa [Addr.add_lit] at this

/-- The call's own row of slices, made since w0: they read as the lists ls. -/
def OwnL (w0 : World) (e : TypeId) (v : Value) (w : World) (ls : List (List UInt8)) : Prop :=
  ∃ vs : List Value, Grew w0.heap.size e (.slice none 0 0) w0 vs v w ∧ vs.length = ls.length ∧ ∀ (i : Nat) u l, vs[i]? = some u → ls[i]? = some l → RdN w v.ownBlock u (l.map B)

theorem OwnL.nil (w : World) (e : TypeId) : OwnL w e (.slice none 0 0) w [] := ⟨[], Grew.nil w, rfl, fun i u l hu _ => by simp at hu⟩
theorem OwnL.rdl {w0 w : World} {e : TypeId} {v : Value} {ls : List (List UInt8)} (h : OwnL w0 e v w ls) : RdL w v ls := by
  obtain ⟨vs, h1, h2, h3⟩ := h
  exact ⟨vs, Rd.own h1.own, h2, fun i u l hu hl => (h3 i u l hu hl).rd⟩
theorem OwnL.ext {w0 w : World} {e : TypeId} {v : Value} {ls : List (List UInt8)} (h : OwnL w0 e v w ls) : Ext w0 w := by
  obtain ⟨vs, h1, _⟩ := h
  exact h1.ext
theorem OwnL.step {w0 w w' : World} {e : TypeId} {v : Value} {ls : List (List UInt8)} (h : OwnL w0 e v w ls) (hx : Ext w w') : OwnL w0 e v w' ls := by
  obtain ⟨vs, h1, h2, h3⟩ := h
  exact ⟨vs, h1.step hx, h2, fun i u l hu hl => (h3 i u l hu hl).ext hx⟩
theorem OwnL.block {w0 w : World} {e : TypeId} {v : Value} {ls : List (List UInt8)} (h : OwnL w0 e v w ls) : ∀ k, v.ownBlock = some k → k < w.heap.size := by
  obtain ⟨vs, h1, _⟩ := h
  exact fun k hk => (h1.1.lt k hk).2
/-- One list more. -/
theorem OwnL.snoc {w0 w w' : World} {e : TypeId} {v v' u : Value} {ls : List (List UInt8)} {l : List UInt8} (h : OwnL w0 e v w ls) (hu : RdN w v.ownBlock u (l.map B)) {vs : List Value} (hvs : Grew w0.heap.size e (.slice none 0 0) w0 vs v w)
    (hg : Grew w0.heap.size e v w (vs ++ [u]) v' w') : OwnL w0 e v' w' (ls ++ [l]) := by
  obtain ⟨vs', h1, h2, h3⟩ := h
  have hsame : vs' = vs := by
    have a := h1.own
    have b := hvs.own
    have e1 : vs'.length = vs.length := by
      obtain ⟨A, c, e, _⟩ := Rd.own a
      obtain ⟨A', c', e', _⟩ := Rd.own b
      rw [e] at e'
      injection e'
    have hra := Rd.own a
    have hrb := Rd.own b
    obtain ⟨A, c, ev, _, _, hc⟩ := hra
    obtain ⟨A', c', ev', _, _, hc'⟩ := hrb
    rw [ev] at ev'
    injection ev' with eA _ _
    subst eA
    apply List.ext_getElem e1
    intro i hi hi'
    obtain ⟨b1, o1, hA, _, hcell⟩ := hc (by omega)
    obtain ⟨b2, o2, hA', _, hcell'⟩ := hc' (by omega)
    rw [hA] at hA'
    cases hA'
    have x1 := hcell i _ (List.getElem?_eq_getElem hi)
    have x2 := hcell' i _ (List.getElem?_eq_getElem hi')
    rw [x1] at x2
    exact Option.some.inj x2
  subst hsame
  refine ⟨vs' ++ [u], h1.trans hg, by rw [List.length_append, List.length_append, h2]; rfl, fun i x y hx hy => ?_⟩
  by_cases hi : i < vs'.length
  · rw [List.getElem?_append_left hi] at hx
    rw [List.getElem?_append_left (by omega)] at hy
    exact (h3 i x y hx hy).grow hg
  · have hi2 : i = vs'.length := by
      have := (List.getElem?_eq_some_iff.1 hx).1
      rw [List.length_append, List.length_singleton] at this
      omega
    subst hi2
    rw [List.getElem?_append_right (Nat.le_refl _), Nat.sub_self] at hx
    rw [h2, List.getElem?_append_right (Nat.le_refl _), Nat.sub_self] at hy
    simp only [List.getElem?_cons_zero, Option.some.injEq] at hx hy
    subst hx hy
    exact hu.grow hg
theorem OwnL.vs {w0 w : World} {e : TypeId} {v : Value} {ls : List (List UInt8)} (h : OwnL w0 e v w ls) : ∃ vs : List Value, Grew w0.heap.size e (.slice none 0 0) w0 vs v w ∧ vs.length = ls.length := by
  obtain ⟨vs, h1, h2, _⟩ := h
  exact ⟨vs, h1, h2⟩

end Go.Proofs.Yticgpldpbbfklaa
