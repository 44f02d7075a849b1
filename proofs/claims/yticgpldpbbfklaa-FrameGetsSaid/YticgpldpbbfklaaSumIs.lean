/- Layer 2, package sum: whether bytes end with their sum. -/
import Derived.Test.YticgpldpbbfklaaSumB
import Derived.Test.YticgpldpbbfklaaEqual
import Derived.Test.YticgpldpbbfklaaLift
import Derived.Deep.RegionWith
namespace Go.Proofs.Yticgpldpbbfklaa
open Go.RowKit

set_option maxHeartbeats 400000 in
theorem Is_any (l : List UInt8) (v : Value) (w : World) (hr : Rd w v (l.map B)) :
    Calls Try.prog 35 #[v] w fun e w' => e = .returned (.bool (isB l)) ∧ Ext w w' := by
  have hr0 := hr
  obtain ⟨A, c, rfl, hlc, hcm, _⟩ := hr0
  simp only [List.length_map] at *
  unfold maxLen at hcm
  by_cases h4 : l.length < 4
  · go_enter Try.func35, Try.ntmps35
    go_wp2
    go_ret
    exact ⟨by rw [show isB l = false by rw [isB, decide_eq_false (by omega)]; rfl]; rfl, Ext.refl _⟩
  · obtain ⟨n, hn⟩ : ∃ n, l.length = n + 4 := ⟨l.length - 4, by omega⟩
    have hp := hr.prefix_ n (by simp; omega)
    have hq := hr.cut n 4 (by simp; omega)
    rw [← List.map_take] at hp
    rw [← List.map_drop, ← List.map_take, List.take_of_length_le (by simp; omega)] at hq
    have he : isB l = decide (l.drop n = putB ((crcOf (l.take n)).toNat : Int)) := by
      rw [isB, decide_eq_true (show 4 ≤ l.length by omega), Bool.true_and, show l.length - 4 = n by omega]
    have HE := Lib.hid he
    clear he
    have hs1 : ((crcOf (l.take n)).toNat : Int) ≤ 9223372036854775807 := by have := (crcOf (l.take n)).isLt; omega
    have hs0 : -9223372036854775808 ≤ ((crcOf (l.take n)).toNat : Int) := by omega
    rw [hn] at hlc ⊢
    rw [if_neg (by omega)] at hq
    clear hr hn h4
    go_enter Try.func35, Try.ntmps35
    go_wp2_with fail
    go_region_with (first | (go_at_call 21; refine (Of_any (l.take n) _ _ (hp.ext (Below.drewN' (Ext.refl _) _))).mono ?_; rintro e w1 ⟨rfl, rfl⟩) | (go_at_call 20; refine (Put_any _ _ hs0 hs1).mono ?_; rintro e w2 ⟨v2, rfl, hr2, hx2⟩; have hx3 := (Below.drewN' (Ext.refl w) 1).trans hx2; have hq3 := hq.ext hx3) | (go_at_call 37; refine (Equal_any _ _ _ _ _ hq3 hr2).mono ?_; rintro e w3 ⟨rfl, rfl⟩))
    all_goals go_wp2
    all_goals go_ret
    all_goals exact ⟨by rw [HE.out]; rfl, hx3⟩

end Go.Proofs.Yticgpldpbbfklaa
