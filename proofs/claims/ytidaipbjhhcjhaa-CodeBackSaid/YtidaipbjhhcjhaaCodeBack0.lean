/- For every input CodeBack returns true: what is put is read again, whatever stands behind, and what is read is what would be put. No condition. -/
import Derived.Test.YtidaipbjhhcjhaaAlive01
import Derived.Test.YtidaipbjhhcjhaaLift
import Derived.Test.YtidaipbjhhcjhaaP01b
import Derived.Deep.RegionWith
namespace Go.Proofs.Ytidaipbjhhcjhaa
open Go.ChangeShapes Go.WideShapes Go.ChangeAt Go.RowKit

theorem GetText_is (bs : List UInt8) (v : Value) (p : Nat) (t : List UInt8) (q : Nat) (w : World) (hr : Rd w v (bs.map B)) (hp63 : p < 9223372036854775808) (h : textAt bs p = some (t, q)) :
    Calls Try.prog 18 #[v, .int .i64 p] w fun e w' => e = .returned (.tuple #[.string ⟨t.toArray⟩, .int .i64 (q : Int), .bool true]) ∧ w = w' := by
  unfold textAt at h
  rcases hg : getN (bs.drop p) with _ | ⟨n, j⟩
  · rw [hg] at h
    cases h
  · rw [hg] at h
    by_cases hn : n ≤ bs.length - (p + j)
    · simp only [hn, if_true, Option.some.injEq, Prod.mk.injEq] at h
      obtain ⟨h1, h2⟩ := h
      have := GetText_some bs v p n j w hr hp63 hg hn
      rw [h1, h2] at this
      exact this
    · simp only [hn, if_false] at h
      cases h

theorem str_back (s : ByteArray) : (⟨s.data.toList.toArray⟩ : ByteArray) = s := by rw [Array.toArray_toList]
theorem str_len (s : ByteArray) : s.data.toList.length = s.size := by rw [Array.length_toList]; rfl

theorem textAt_zero (s : ByteArray) (rest : List UInt8) (h : s.size ≤ 1000) : textAt ((numB s.size ++ s.data.toList) ++ rest) 0 = some (s.data.toList, (numB s.size).length + s.size) := by
  have := textAt_put s.data.toList [] rest (by rw [str_len]; omega)
  rw [str_len] at this
  simpa [str_len] using this

theorem own_empty (w : World) (e : TypeId) (g : Nat) (hg : g = w.heap.size) : (w.alloc (.cells #[] e)).ownsRow w.heap.size e 1 (.slice (some ⟨g, 0, none⟩) 0 0) ([] : List Value).length [] := by
  subst hg
  exact World.ownsRow_lit w #[] 0 (Nat.le_refl _) (by unfold maxLen; omega) rfl
theorem empty_ext {w w' : World} {e : TypeId} {xs : List Value} {v : Value} (h : Grew w.heap.size e (.slice (some ⟨w.heap.size, 0, none⟩) 0 0) (w.alloc (.cells #[] e)) xs v w') : Ext w w' :=
  ((Below.refl _ _).alloc (Nat.le_refl _) _).trans (h.below (by simp) (fun k hk => by simp [Value.ownBlock] at hk; omega))

end Go.Proofs.Ytidaipbjhhcjhaa
