/- For every input SumSteps returns true: a sum goes on byte by byte, and nothing behind it leaves it. No condition. -/
import Derived.Test.YtdhfnacifahoaaaAlive02
import Derived.Test.YtdhfnacifahoaaaAll02
import Derived.Test.YtdhfnacifahoaaaP02d
import Derived.Test.YtdhfnacifahoaaaLift
import Derived.StillTailTactics
namespace Go.Proofs.Ytdhfnacifahoaaa
open Go.ChangeShapes Go.WideShapes Go.ChangeAt Go.RowKit

set_option maxHeartbeats 2000000 in
theorem SumSteps_main (la lb lc : List UInt8) (u v x : Value) (w : World) (hu : Rd w u (la.map B)) (hv : Rd w v (lb.map B)) (hx : Rd w x (lc.map B)) (hla : la.length ≤ 300) (hlb : lb.length ≤ 300) (hlc : lc.length ≤ 300) :
    Calls Try.prog 6 #[u, v, x] w fun e w' => e = .returned (.bool true) ∧ Ext w w' := by
  obtain ⟨A, c, rfl, hc, hcm⟩ := hu.sliceN (List.length_map _)
  obtain ⟨A', c', rfl, hc', hcm'⟩ := hv.sliceN (List.length_map _)
  obtain ⟨A2, c2, rfl, hc2, hcm2⟩ := hx.sliceN (List.length_map _)
  unfold maxLen at hcm hcm' hcm2
  have hda : decide (300 < la.length) = false := by simp; omega
  have hdb : decide (300 < lb.length) = false := by simp; omega
  have hdc : decide (300 < lc.length) = false := by simp; omega
  go_enter Try.func6, Try.ntmps6
  go_wp2_with fail
  refine (alive_any _).mono ?_
  rintro e w1 ⟨rfl, hx1⟩
  have ha1 := hu.ext hx1
  have hb1 := hv.ext hx1
  have hc1 := hx.ext hx1
  go_wp2_with fail
  refine (Of_any la _ _ ha1).mono ?_
  rintro e w5 ⟨rfl, rfl⟩
  go_wp2_with fail
  refine (More_yes [] _ (crcOf la) _ (Rd.nil _)).mono ?_
  rintro e w5 ⟨rfl, rfl⟩
  rw [crcMore_nil]
  go_wp2_with fail
  refine (More_yes lb _ (crcOf la) _ hb1).mono ?_
  rintro e w5 ⟨rfl, rfl⟩
  go_wp2_with fail
  refine (More_yes lc _ _ _ hc1).mono ?_
  rintro e w5 ⟨rfl, rfl⟩
  go_wp2
  go_loop [7, 9] (fun s i => ∃ k : Nat, k ≤ lb.length ∧ i = .int .i64 k ∧ s = .int .i64 ((crcMore (crcOf la) (lb.take k)).toNat : Int)) (fun _ i => lb.length - (intOf i).toNat)
  case atStart => exact ⟨0, Nat.zero_le _, rfl, by rw [List.take_zero, crcMore_nil]⟩
  case round =>
    obtain ⟨k, hk, rfl, rfl⟩ := hrel
    by_cases hlt : k < lb.length
    · have hcut := hb1.cut k 1 (by rw [List.length_map]; omega)
      rw [if_neg (by omega), ← List.map_drop, ← List.map_take] at hcut
      have hs : crcMore (crcMore (crcOf la) (lb.take k)) ((lb.drop k).take 1) = crcMore (crcOf la) (lb.take (k + 1)) := by rw [crcMore_more, List.take_add]
      have HS := Lib.hid hs
      clear hs
      go_wp2_with (go_at_call 11; refine (More_yes _ _ (crcMore (crcOf la) (lb.take k)) _ hcut).mono ?_; rintro e w6 ⟨rfl, rfl⟩)
      go_round
      case rel => exact ⟨k + 1, by omega, by go_num, by rw [HS.out]⟩
      case measure => simp [intOf]; omega
    · obtain rfl : k = lb.length := by omega
      rw [List.take_length]
      go_wp2_with fail
      refine (More_yes lc _ _ _ hc1).mono ?_
      rintro e w7 ⟨rfl, rfl⟩
      go_wp2
      go_ret
      exact ⟨by simp, hx1⟩

theorem SumSteps_calls (la lb lc : List UInt8) (u v x : Value) (w : World) (hu : Rd w u (la.map B)) (hv : Rd w v (lb.map B)) (hx : Rd w x (lc.map B)) :
    Calls Try.prog 6 #[u, v, x] w fun e w' => e = .returned (.bool true) ∧ Ext w w' := by
  by_cases hs : la.length ≤ 300 ∧ lb.length ≤ 300 ∧ lc.length ≤ 300
  · exact SumSteps_main la lb lc u v x w hu hv hx hs.1 hs.2.1 hs.2.2
  · have hs3 : 300 < la.length ∨ (la.length ≤ 300 ∧ 300 < lb.length) ∨ (la.length ≤ 300 ∧ lb.length ≤ 300 ∧ 300 < lc.length) := by omega
    clear hs
    obtain ⟨A0, k0, rfl, e0, m0⟩ := hu.sliceN (List.length_map _)
    obtain ⟨A1, k1, rfl, e1, m1⟩ := hv.sliceN (List.length_map _)
    obtain ⟨A2, k2, rfl, e2, m2⟩ := hx.sliceN (List.length_map _)
    unfold maxLen at m0 m1 m2
    rcases hs3 with h | ⟨h, h2⟩ | ⟨h, h2, h3⟩
    case' inl => have d1 : decide (300 < la.length) = true := by simp; omega
    case' inr.inl => have d1 : decide (300 < la.length) = false := by simp; omega
    case' inr.inl => have d2 : decide (300 < lb.length) = true := by simp; omega
    case' inr.inr => have d1 : decide (300 < la.length) = false := by simp; omega
    case' inr.inr => have d2 : decide (300 < lb.length) = false := by simp; omega
    case' inr.inr => have d3 : decide (300 < lc.length) = true := by simp; omega
    all_goals
      go_enter Try.func6, Try.ntmps6
      go_wp2_with fail
      refine (alive_any _).mono ?_
      rintro e w1 ⟨rfl, hx1⟩
      go_wp2
      go_ret
      exact ⟨rfl, hx1⟩

set_option maxRecDepth 100000 in
theorem SumSteps_lifted (os : Os) (started : os.Started) (H : Type) (enc : TypeId × Value → H) :
    ReturnsInHanded {} Try.checked os 6 .any (Rows.sumStepsSpec.pre6 enc Try.prog Try.f6 Rows.sumStepsRow.domain false) (Rows.sumStepsSpec.post enc Try.prog Try.f6 false true false false) := by
  refine law_lift (C := Try.checked) (tb := 4) Try.ownKnob started (by kernel_rfl) Try.func6 Try.laidOut (by kernel_rfl) rfl Try.underlying4 rfl rfl ?_
    (ChangeSpec.witness6 (enc := enc) (C := Try.checked) false ⟨#[], #[.slice none 0 0, .slice none 0 0, .slice none 0 0], []⟩ 8 (by kernel_rfl) (by kernel_rfl) (by kernel_rfl) (by kernel_rfl)) ?_
  · intro ds hd
    rw [Try.params6] at hd
    match ds, hd with
    | [d0, d1, d2], _ => rfl
  · intro W base args ds p hval hA hsz
    rw [Try.params6] at hA hval hsz
    obtain ⟨v0, vs0, d0, ds0, p0, q0, hargs, rfl, rfl, h0, r0_⟩ := trodAll_cons hA
    obtain ⟨v1, vs1, d1, ds1, p1, q1, rfl, rfl, rfl, h1, r1_⟩ := trodAll_cons r0_
    obtain ⟨v2, vs2, d2, ds2, p2, q2, rfl, rfl, rfl, h2, r2_⟩ := trodAll_cons r1_
    obtain ⟨rfl, rfl, rfl⟩ := trodAll_nil r2_
    obtain rfl : args = #[v0, v1, v2] := by cases args; simp_all
    obtain ⟨a0, r0, s0⟩ := dec_bytes Try.underlying22 Try.underlying5 (by kernel_rfl) (by kernel_rfl) (hval 0 22 v0 rfl rfl) h0 hsz (j := 0) rfl rfl
    obtain ⟨a1, r1, s1⟩ := dec_bytes Try.underlying22 Try.underlying5 (by kernel_rfl) (by kernel_rfl) (hval 1 22 v1 rfl rfl) h1 hsz (j := 1) rfl rfl
    obtain ⟨a2, r2, s2⟩ := dec_bytes Try.underlying22 Try.underlying5 (by kernel_rfl) (by kernel_rfl) (hval 2 22 v2 rfl rfl) h2 hsz (j := 2) rfl rfl
    exact SumSteps_calls a0 a1 a2 _ _ _ W r0 r1 r2

theorem SumSteps_holds : Rows.SumStepsSaid :=
  OpenClaim.holds_of_wide 6 Try.f6 rfl rfl rfl rfl rfl rfl rfl ⟨rfl, rfl, rfl, rfl, rfl⟩ rfl rfl rfl rfl rfl (by kernel_rfl) Try.func6 (by kernel_rfl)
    (of_decide_eq_true (by kernel_rfl)) (by unfold Func.isWrapper; first | (rw [if_pos (by decide +kernel)]; kernel_rfl) | (rw [if_neg (by decide +kernel)]; exact ⟨rfl, rfl⟩))
    (fun os started H enc _ => SumSteps_lifted os started H enc)

end Go.Proofs.Ytdhfnacifahoaaa
