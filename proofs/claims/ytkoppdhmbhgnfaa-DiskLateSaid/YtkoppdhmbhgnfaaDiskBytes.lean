/- Layer 4: what is read of a disk, with how long it is. -/
import Derived.Test.YtkoppdhmbhgnfaaDiskCol
import Derived.Test.YtkoppdhmbhgnfaaRefBytes
namespace Go.Proofs.Ytkoppdhmbhgnfaa
open Go.RowKit

theorem Dk.bytesN {F : Fp} {w : World} {g : Nat} {s : DkS} (hd : Dk F w g s) {N : Nat} (hN : s.1.length = N) (hw : s.2.1.length ≤ 1000000000) :
    Calls Try.prog 13 #[.pointer (some ⟨g, 0, none⟩)] w fun e w' => ∃ A c, e = .returned (.slice A N c) ∧ Rd w' (.slice A N c) ((rdD s).map B) ∧ N ≤ c ∧ c ≤ maxLen ∧ Grew w.heap.size 5 (.slice none 0 0) w ((rdD s).map B) (.slice A N c) w' := by
  refine (DkBytes _ g s w hd hw).mono ?_
  rintro e w' ⟨v', rfl, hg⟩
  have hr := Rd.own hg.own
  obtain ⟨A, c, rfl, h1, h2⟩ := hr.sliceN (n := N) (by rw [List.length_map, rdD_len, hN])
  exact ⟨A, c, rfl, hr, h1, h2, hg⟩

theorem Bytes_same (l : List UInt8) (u v : Value) (w : World) (hu : Rd w u (l.map B)) (hv : Rd w v (l.map B)) : Calls Try.prog 19 #[u, v] w fun e w' => e = .returned (.bool true) ∧ ∃ m, w' = w.drewN m := by
  have := Bytes_any l l u v w hu hv
  rw [decide_eq_true rfl] at this
  exact this

end Go.Proofs.Ytkoppdhmbhgnfaa
