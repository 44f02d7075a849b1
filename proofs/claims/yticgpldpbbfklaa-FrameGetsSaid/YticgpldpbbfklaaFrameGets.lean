/- For every input FrameGets returns true: what stands at every place of all bytes, and all payloads from there on, are the reference's. No condition. -/
import Derived.Test.YticgpldpbbfklaaAlive03
import Derived.Test.YticgpldpbbfklaaRefSame
import Derived.Test.YticgpldpbbfklaaLift
namespace Go.Proofs.Yticgpldpbbfklaa
open Go.ChangeShapes Go.WideShapes Go.ChangeAt Go.RowKit

set_option maxHeartbeats 1000000 in
theorem FrameGets_calls (b : List UInt8) (i : Int) (v : Value) (w : World) (hr : Rd w v (b.map B)) :
    Calls Try.prog 4 #[v, .int .i64 i] w fun e w' => e = .returned (.bool true) ∧ Ext w w' := by
  obtain ⟨A, c, rfl, hlc, hcm⟩ := hr.sliceN (List.length_map _)
  unfold maxLen at hcm
  by_cases h : b.length ≤ 500
  · have d1 : decide (500 < b.length) = false := by simp; omega
    go_enter Try.func4, Try.ntmps4
    go_wp2_with fail
    refine (alive_any _).mono ?_
    rintro e w1 ⟨rfl, hx1⟩
    have hr1 := hr.ext hx1
    go_wp2_with fail
    refine (FrameGet_rd b _ i _ hr1).mono ?_
    rintro e w2 ⟨v2, rfl, hr2, hx2⟩
    obtain ⟨A2, c2, rfl, _, _⟩ := hr2.sliceN (List.length_map _)
    have hb2 := hr1.ext hx2
    go_wp2_with fail
    refine (RefFrameGet_any b _ i _ hb2).mono ?_
    rintro e w3 ⟨v3, rfl, hg3⟩
    have hr3 := Rd.own hg3.own
    have hx3 := hg3.ext
    obtain ⟨A3, c3, rfl, _, _⟩ := hr3.sliceN (List.length_map _)
    have hb3 := hb2.ext hx3
    have hr2 := hr2.ext hx3
    clear hg3 hb2
    go_wp2_with fail
    refine (FrameAll_rd b _ i _ hb3 (by omega)).mono ?_
    rintro e w4 ⟨v4, rfl, hr4, hx4⟩
    obtain ⟨A4, c4, rfl, _, _⟩ := hr4.sliceN rfl
    have hb4 := hb3.ext hx4
    have hr2 := hr2.ext hx4
    have hr3 := hr3.ext hx4
    clear hb3
    go_wp2_with fail
    refine (RefFrameAll_any b _ i _ hb4 (by omega)).mono ?_
    rintro e w5 ⟨v5, rfl, hown5⟩
    have hr5 := hown5.rdl
    have hx5 := hown5.ext
    obtain ⟨A5, c5, rfl, _, _⟩ := hr5.sliceN rfl
    have hr2 := hr2.ext hx5
    have hr3 := hr3.ext hx5
    have hr4 := hr4.ext hx5
    have hx := Ext.trans (Ext.trans (Ext.trans (Ext.trans hx1 hx2) hx3) hx4) hx5
    clear hown5 hb4 hx1 hx2 hx3 hx4 hx5 hr1
    go_wp2_with fail
    refine (Bytes_any _ _ _ _ _ hr2 hr3).mono ?_
    rintro e w6 ⟨rfl, n6, rfl⟩
    simp only [decide_true]
    have hr4 := hr4.ext (Below.drewN' (Ext.refl _) n6)
    have hr5 := hr5.ext (Below.drewN' (Ext.refl _) n6)
    have hx6 := Below.drewN' hx n6
    clear hr2 hr3 hx
    generalize w5.drewN n6 = w7 at *
    go_wp2_with fail
    refine (RefSame_any _ _ _ _ _ hr4 hr5).mono ?_
    rintro e w8 ⟨rfl, n8, rfl⟩
    simp only [decide_true]
    go_wp2
    go_ret
    exact ⟨rfl, Below.drewN' hx6 _⟩
  · have d1 : decide (500 < b.length) = true := by simp; omega
    go_enter Try.func4, Try.ntmps4
    go_wp2_with fail
    refine (alive_any _).mono ?_
    rintro e w1 ⟨rfl, hx1⟩
    go_wp2
    go_ret
    exact ⟨rfl, hx1⟩

set_option maxRecDepth 100000 in
theorem FrameGets_lifted (os : Os) (started : os.Started) (H : Type) (enc : TypeId × Value → H) :
    ReturnsInHanded {} Try.checked os 4 .any (Rows.frameGetsSpec.pre6 enc Try.prog Try.f4 Rows.frameGetsRow.domain false) (Rows.frameGetsSpec.post enc Try.prog Try.f4 false true false false) := by
  refine law_lift (C := Try.checked) (tb := 4) Try.ownKnob started (by kernel_rfl) Try.func4 Try.laidOut (by kernel_rfl) rfl Try.underlying4 rfl rfl ?_
    (ChangeSpec.witness6 (enc := enc) (C := Try.checked) false ⟨#[], #[.slice none 0 0, .int .i64 0], []⟩ 8 (by kernel_rfl) (by kernel_rfl) (by kernel_rfl) (by kernel_rfl)) ?_
  · intro ds hd
    rw [Try.params4] at hd
    match ds, hd with
    | [d0, d1], _ => rfl
  · intro W base args ds p hval hA hsz
    rw [Try.params4] at hA hval hsz
    obtain ⟨v0, vs0, d0, ds0, p0, q0, hargs, rfl, rfl, h0, r0_⟩ := trodAll_cons hA
    obtain ⟨v1, vs1, d1, ds1, p1, q1, rfl, rfl, rfl, h1, r1_⟩ := trodAll_cons r0_
    obtain ⟨rfl, rfl, rfl⟩ := trodAll_nil r1_
    obtain rfl : args = #[v0, v1] := by cases args; simp_all
    obtain ⟨a0, r0, s0⟩ := dec_bytes Try.underlying22 Try.underlying5 (by kernel_rfl) (by kernel_rfl) (hval 0 22 v0 rfl rfl) h0 hsz (j := 0) rfl rfl
    obtain ⟨a1, rfl, lo1, hi1⟩ := dec_int Try.underlying3 (hval 1 3 v1 rfl rfl) h1
    exact FrameGets_calls a0 a1 _ W r0

theorem FrameGets_holds : Rows.FrameGetsSaid :=
  OpenClaim.holds_of_wide 4 Try.f4 rfl rfl rfl rfl rfl rfl rfl ⟨rfl, rfl, rfl, rfl, rfl⟩ rfl rfl rfl rfl rfl (by kernel_rfl) Try.func4 (by kernel_rfl)
    (of_decide_eq_true (by kernel_rfl)) (by unfold Func.isWrapper; first | (rw [if_pos (by decide +kernel)]; kernel_rfl) | (rw [if_neg (by decide +kernel)]; exact ⟨rfl, rfl⟩))
    (fun os started H enc _ => FrameGets_lifted os started H enc)

end Go.Proofs.Yticgpldpbbfklaa
