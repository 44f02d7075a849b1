/- Go's bytes.Equal: the same bytes? -/
import Derived.Test.YticgpldpbbfklaaTstr
import Derived.Deep.QuietTactic
import Derived.BigQuiet
import Derived.WalkSpells
namespace Go.Proofs.Yticgpldpbbfklaa
open Go.RowKit

theorem Equal_any (xs ys : List UInt8) (u v : Value) (w : World) (hu : Rd w u (xs.map B)) (hv : Rd w v (ys.map B)) :
    Calls Try.prog 37 #[u, v] w fun e w' => e = .returned (.bool (decide (xs = ys))) ∧ w = w' := by
  go_enter Try.func37, Try.ntmps37
  go_wp2_with (first | (refine conv_u8 rfl _ rfl _ xs rfl hu ?_) | (refine conv_u8 rfl _ rfl _ ys rfl hv ?_))
  go_ret
  exact ⟨by rw [show (xs == ys) = decide (xs = ys) by rw [Bool.eq_iff_iff]; simp]; rfl, rfl⟩

end Go.Proofs.Yticgpldpbbfklaa
