/- For every input FramePuts returns true: every payload's frame is the reference's. No condition. -/
import Derived.Test.YticgpldpbbfklaaAlive03
import Derived.Test.YticgpldpbbfklaaRefSame
import Derived.Test.YticgpldpbbfklaaLift
namespace Go.Proofs.Yticgpldpbbfklaa
open Go.ChangeShapes Go.WideShapes Go.ChangeAt Go.RowKit

set_option maxHeartbeats 1000000 in
theorem FramePuts_calls (p : List UInt8) (v : Value) (w : World) (hr : Rd w v (p.map B)) :
    Calls Try.prog 3 #[v] w fun e w' => e = .returned (.bool true) ∧ Ext w w' := by
  obtain ⟨A, c, rfl, hlc, hcm⟩ := hr.sliceN (List.length_map _)
  unfold maxLen at hcm
  have hc : (p.length ≤ 300) ∨ (4000 ≤ p.length ∧ p.length ≤ 4100) ∨ (300 < p.length ∧ p.length < 4000) ∨ 4100 < p.length := by omega
  rcases hc with h | ⟨h, h2⟩ | ⟨h, h2⟩ | h
  · have d1 : decide (300 < p.length) = false := by simp; omega
    have d2 : decide (4100 < p.length) = false := by simp; omega
    go_enter Try.func3, Try.ntmps3
    go_wp2_with fail
    refine (alive_any _).mono ?_
    rintro e w1 ⟨rfl, hx1⟩
    have hr1 := hr.ext hx1
    go_wp2_with fail
    refine (FramePut_rd p _ _ hr1).mono ?_
    rintro e w2 ⟨v2, rfl, hr2, hx2⟩
    go_wp2_with fail
    refine (RefFrame_any p _ _ (hr1.ext hx2)).mono ?_
    rintro e w3 ⟨v3, rfl, hg3⟩
    go_wp2_with fail
    refine (Bytes_any _ _ _ _ _ (hr2.ext hg3.ext) (Rd.own hg3.own)).mono ?_
    rintro e w4 ⟨rfl, n4, rfl⟩
    simp only [decide_true]
    go_wp2
    go_ret
    exact ⟨rfl, Below.drewN' (Ext.trans (Ext.trans hx1 hx2) hg3.ext) _⟩
  · have d1 : decide (300 < p.length) = true := by simp; omega
    have d2 : decide (p.length < 4000) = false := by simp; omega
    have d3 : decide (4100 < p.length) = false := by simp; omega
    go_enter Try.func3, Try.ntmps3
    go_wp2_with fail
    refine (alive_any _).mono ?_
    rintro e w1 ⟨rfl, hx1⟩
    have hr1 := hr.ext hx1
    go_wp2_with fail
    refine (FramePut_rd p _ _ hr1).mono ?_
    rintro e w2 ⟨v2, rfl, hr2, hx2⟩
    go_wp2_with fail
    refine (RefFrame_any p _ _ (hr1.ext hx2)).mono ?_
    rintro e w3 ⟨v3, rfl, hg3⟩
    go_wp2_with fail
    refine (Bytes_any _ _ _ _ _ (hr2.ext hg3.ext) (Rd.own hg3.own)).mono ?_
    rintro e w4 ⟨rfl, n4, rfl⟩
    simp only [decide_true]
    go_wp2
    go_ret
    exact ⟨rfl, Below.drewN' (Ext.trans (Ext.trans hx1 hx2) hg3.ext) _⟩
  · have d1 : decide (300 < p.length) = true := by simp; omega
    have d2 : decide (p.length < 4000) = true := by simp; omega
    go_enter Try.func3, Try.ntmps3
    go_wp2_with fail
    refine (alive_any _).mono ?_
    rintro e w1 ⟨rfl, hx1⟩
    go_wp2
    go_ret
    exact ⟨rfl, hx1⟩
  · have d1 : decide (300 < p.length) = true := by simp; omega
    have d2 : decide (p.length < 4000) = false := by simp; omega
    have d3 : decide (4100 < p.length) = true := by simp; omega
    go_enter Try.func3, Try.ntmps3
    go_wp2_with fail
    refine (alive_any _).mono ?_
    rintro e w1 ⟨rfl, hx1⟩
    go_wp2
    go_ret
    exact ⟨rfl, hx1⟩

set_option maxRecDepth 100000 in
theorem FramePuts_lifted (os : Os) (started : os.Started) (H : Type) (enc : TypeId × Value → H) :
    ReturnsInHanded {} Try.checked os 3 .any (Rows.framePutsSpec.pre6 enc Try.prog Try.f3 Rows.framePutsRow.domain false) (Rows.framePutsSpec.post enc Try.prog Try.f3 false true false false) := by
  refine law_lift (C := Try.checked) (tb := 4) Try.ownKnob started (by kernel_rfl) Try.func3 Try.laidOut (by kernel_rfl) rfl Try.underlying4 rfl rfl ?_
    (ChangeSpec.witness6 (enc := enc) (C := Try.checked) false ⟨#[], #[.slice none 0 0], []⟩ 8 (by kernel_rfl) (by kernel_rfl) (by kernel_rfl) (by kernel_rfl)) ?_
  · intro ds hd
    rw [Try.params3] at hd
    match ds, hd with
    | [d0], _ => rfl
  · intro W base args ds p hval hA hsz
    rw [Try.params3] at hA hval hsz
    obtain ⟨v0, vs0, d0, ds0, p0, q0, hargs, rfl, rfl, h0, r0_⟩ := trodAll_cons hA
    obtain ⟨rfl, rfl, rfl⟩ := trodAll_nil r0_
    obtain rfl : args = #[v0] := by cases args; simp_all
    obtain ⟨a0, r0, s0⟩ := dec_bytes Try.underlying22 Try.underlying5 (by kernel_rfl) (by kernel_rfl) (hval 0 22 v0 rfl rfl) h0 hsz (j := 0) rfl rfl
    exact FramePuts_calls a0 _ W r0

theorem FramePuts_holds : Rows.FramePutsSaid :=
  OpenClaim.holds_of_wide 3 Try.f3 rfl rfl rfl rfl rfl rfl rfl ⟨rfl, rfl, rfl, rfl, rfl⟩ rfl rfl rfl rfl rfl (by kernel_rfl) Try.func3 (by kernel_rfl)
    (of_decide_eq_true (by kernel_rfl)) (by unfold Func.isWrapper; first | (rw [if_pos (by decide +kernel)]; kernel_rfl) | (rw [if_neg (by decide +kernel)]; exact ⟨rfl, rfl⟩))
    (fun os started H enc _ => FramePuts_lifted os started H enc)

end Go.Proofs.Yticgpldpbbfklaa
