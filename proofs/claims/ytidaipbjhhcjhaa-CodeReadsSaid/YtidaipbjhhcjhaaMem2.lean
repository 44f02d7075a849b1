/- More words for memory: a cell of an owned row is written. No program is named here. -/
import Derived.Test.YtidaipbjhhcjhaaMem
namespace Go.Proofs.Ytidaipbjhhcjhaa
open Go.RowKit

section
variable {base : Nat} {e : TypeId} {v : Value} {w w' : World} {xs : List Value}
theorem Grew.form {v' : Value} (h : Grew base e v w xs v' w') (hn : 0 < xs.length) : ∃ g cap, v' = .slice (some ⟨g, 0, none⟩) xs.length cap ∧ xs.length ≤ cap ∧ base ≤ g ∧ g < w'.heap.size := by
  rcases h.1.2 with ⟨_, h0⟩ | ⟨g, cap, cur, hv, hg, hh, hnc, _⟩
  · omega
  · exact ⟨g, cap, hv, hnc, hg, (Array.getElem?_eq_some_iff.1 hh).1⟩
theorem Grew.cellAt {g n cap : Nat} (h : Grew base e v w xs (.slice (some ⟨g, 0, none⟩) n cap) w') (j : Nat) (hj : j < xs.length) : w'.cell? ⟨g, j, none⟩ = xs[j]? := by
  have h1 := h.1
  have hl : n = xs.length := by
    rcases h1.2 with ⟨h', _⟩ | ⟨g', cap', cur, h', _⟩
    · cases h'
    · cases h'
      rfl
  subst hl
  exact h1.cellAt j (by omega)
theorem Grew.frozenAt {g n cap : Nat} (h : Grew base e v w xs (.slice (some ⟨g, 0, none⟩) n cap) w') (j : Nat) : w'.frozen? ⟨g, j, none⟩ = false := by
  have h1 := h.1
  have hl : n = xs.length := by
    rcases h1.2 with ⟨h', _⟩ | ⟨g', cap', cur, h', _⟩
    · cases h'
    · cases h'
      rfl
  subst hl
  exact h1.frozenAt j
theorem Grew.set {g n cap : Nat} (h : Grew base e v w xs (.slice (some ⟨g, 0, none⟩) n cap) w') (j : Nat) (u : Value) : Grew base e v w (xs.set j u) (.slice (some ⟨g, 0, none⟩) n cap) (w'.setCell ⟨g, j, none⟩ u) := by
  obtain ⟨h1, h2, h3⟩ := h
  have hl : n = xs.length := by
    rcases h1.2 with ⟨h', _⟩ | ⟨g', cap', cur, h', _⟩
    · cases h'
    · cases h'
      rfl
  subst hl
  have hs := h1.stored j u
  refine ⟨by rw [List.length_set]; exact hs.1, ⟨h2.os, h2.tape, h2.output, by simpa using h2.size, fun k hk hne => ?_⟩, h3⟩
  refine (hs.2.block k (Nat.lt_of_lt_of_le hk h2.size) ?_).trans (h2.block k hk hne)
  intro e
  rcases h3 with h3 | h3
  · exact hne (by rw [← h3, e]; rfl)
  · have := h3 g rfl
    cases e
    omega
end

end Go.Proofs.Ytidaipbjhhcjhaa
