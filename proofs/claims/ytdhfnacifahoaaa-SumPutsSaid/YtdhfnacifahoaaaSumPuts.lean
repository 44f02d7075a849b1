/- For every input SumPuts returns true: every number's four bytes, and whether bytes end with their sum, are the reference's. No condition. -/
import Derived.Test.YtdhfnacifahoaaaAlive02
import Derived.Test.YtdhfnacifahoaaaAll02
import Derived.Test.YtdhfnacifahoaaaLift
namespace Go.Proofs.Ytdhfnacifahoaaa
open Go.ChangeShapes Go.WideShapes Go.ChangeAt Go.RowKit

set_option maxHeartbeats 1000000 in
theorem SumPuts_calls (n : Int) (l : List UInt8) (v : Value) (w : World) (hr : Rd w v (l.map B)) (h0 : -9223372036854775808 ≤ n) (h1 : n ≤ 9223372036854775807) :
    Calls Try.prog 4 #[.int .i64 n, v] w fun e w' => e = .returned (.bool true) ∧ Ext w w' := by
  obtain ⟨A, c, rfl, hlc, hcm⟩ := hr.sliceN (List.length_map _)
  unfold maxLen at hcm
  by_cases h3 : l.length ≤ 300
  · have hd : decide (300 < l.length) = false := by simp; omega
    go_enter Try.func4, Try.ntmps4
    go_wp2_with fail
    refine (alive_any _).mono ?_
    rintro e w1 ⟨rfl, hx1⟩
    have hr1 := hr.ext hx1
    go_wp2_with (first | (at_builtin; refine app_u8 rfl _ _ rfl w1.heap.size _ [] rfl (World.ownsRow_nil _ _ _ _) _ l rfl hr1 (by simp; omega) (Nat.le_refl _) ?_; intro v2 w2 hg2; rw [List.nil_append] at hg2; obtain ⟨A2, c2, rfl⟩ := hg2.slice_ (n := l.length) (List.length_map _); have hx2 := Ext.trans hx1 hg2.ext; have hr2 := hr1.ext hg2.ext) | (go_at_call 13; fail))
    refine (Put_any _ _ h0 h1).mono ?_
    rintro e w3 ⟨v3, rfl, hr3, hx3⟩
    have hg3 := hg2.step hx3
    obtain ⟨A3, c3, rfl, _, _⟩ := hr3.sliceN (n := 4) rfl
    clear hg2
    go_wp2_with (at_builtin; refine app_u8 rfl _ _ rfl w1.heap.size _ _ rfl hg3.1 _ (putB n) rfl hr3 (by rw [List.length_map, putB_len]; omega) hg3.size ?_; intro v4 w4 hg4; have hg5 := hg3.trans hg4; rw [← List.map_append] at hg5; obtain ⟨A5, c5, rfl⟩ := hg5.slice_ (n := l.length + 4) (by rw [List.length_map, List.length_append, putB_len]))
    have hx5 := Ext.trans hx1 hg5.ext
    have hr5 := Rd.own hg5.own
    have hl5 := hr1.ext hg5.ext
    clear hg3 hg4 hg5 hr2 hx2 hr3
    refine (Put_any _ _ h0 h1).mono ?_
    rintro e w6 ⟨v6, rfl, hr6, hx6⟩
    go_wp2_with fail
    refine (RefPut_any _ _ h0 h1).mono ?_
    rintro e w7 ⟨v7, rfl, hr7, hx7⟩
    have hr6 := hr6.ext hx7
    have hx7 := Ext.trans hx6 hx7
    have hr5 := hr5.ext hx7
    have hl5 := hl5.ext hx7
    have hx5 := Ext.trans hx5 hx7
    clear hx6 hx7
    go_wp2_with fail
    refine (Bytes_any _ _ _ _ _ hr6 hr7).mono ?_
    rintro e w8 ⟨rfl, n8, rfl⟩
    simp only [decide_true]
    have hr5 := hr5.ext (Below.drewN' (Ext.refl _) n8)
    have hl5 := hl5.ext (Below.drewN' (Ext.refl _) n8)
    have hx5 := Below.drewN' hx5 n8
    clear hr6 hr7
    generalize w7.drewN n8 = w8 at *
    go_wp2_with fail
    refine (Is_any l _ _ hl5).mono ?_
    rintro e w9 ⟨rfl, hx9⟩
    have hr5 := hr5.ext hx9
    have hl5 := hl5.ext hx9
    have hx5 := Ext.trans hx5 hx9
    clear hx9
    go_wp2_with fail
    refine (RefIs_any l _ _ hl5).mono ?_
    rintro e w10 ⟨rfl, hx10⟩
    have hr5 := hr5.ext hx10
    have hx5 := Ext.trans hx5 hx10
    clear hx10 hl5
    go_wp2_with fail
    refine (Is_any (l ++ putB n) _ _ hr5).mono ?_
    rintro e w11 ⟨rfl, hx11⟩
    have hr5 := hr5.ext hx11
    have hx5 := Ext.trans hx5 hx11
    clear hx11
    go_wp2_with fail
    refine (RefIs_any (l ++ putB n) _ _ hr5).mono ?_
    rintro e w12 ⟨rfl, hx12⟩
    have hx5 := Ext.trans hx5 hx12
    go_wp2
    go_ret
    exact ⟨rfl, hx5⟩
  · have hd : decide (300 < l.length) = true := by simp; omega
    go_enter Try.func4, Try.ntmps4
    go_wp2_with fail
    refine (alive_any _).mono ?_
    rintro e w1 ⟨rfl, hx1⟩
    go_wp2
    go_ret
    exact ⟨rfl, hx1⟩

set_option maxRecDepth 100000 in
theorem SumPuts_lifted (os : Os) (started : os.Started) (H : Type) (enc : TypeId × Value → H) :
    ReturnsInHanded {} Try.checked os 4 .any (Rows.sumPutsSpec.pre6 enc Try.prog Try.f4 Rows.sumPutsRow.domain false) (Rows.sumPutsSpec.post enc Try.prog Try.f4 false true false false) := by
  refine law_lift (C := Try.checked) (tb := 4) Try.ownKnob started (by kernel_rfl) Try.func4 Try.laidOut (by kernel_rfl) rfl Try.underlying4 rfl rfl ?_
    (ChangeSpec.witness6 (enc := enc) (C := Try.checked) false ⟨#[], #[.int .i64 0, .slice none 0 0], []⟩ 8 (by kernel_rfl) (by kernel_rfl) (by kernel_rfl) (by kernel_rfl)) ?_
  · intro ds hd
    rw [Try.params4] at hd
    match ds, hd with
    | [d0, d1], _ => rfl
  · intro W base args ds p hval hA hsz
    rw [Try.params4] at hA hval hsz
    obtain ⟨v0, vs0, d0, ds0, p0, q0, hargs, rfl, rfl, h0, r0_⟩ := trodAll_cons hA
    obtain ⟨v1, vs1, d1, ds1, p1, q1, rfl, rfl, rfl, h1, r1_⟩ := trodAll_cons r0_
    obtain ⟨rfl, rfl, rfl⟩ := trodAll_nil r1_
    obtain rfl : args = #[v0, v1] := by cases args; simp_all
    obtain ⟨a0, rfl, lo0, hi0⟩ := dec_int Try.underlying3 (hval 0 3 v0 rfl rfl) h0
    obtain ⟨a1, r1, s1⟩ := dec_bytes Try.underlying22 Try.underlying5 (by kernel_rfl) (by kernel_rfl) (hval 1 22 v1 rfl rfl) h1 hsz (j := 1) rfl rfl
    exact SumPuts_calls a0 a1 _ W r1 lo0 hi0

theorem SumPuts_holds : Rows.SumPutsSaid :=
  OpenClaim.holds_of_wide 4 Try.f4 rfl rfl rfl rfl rfl rfl rfl ⟨rfl, rfl, rfl, rfl, rfl⟩ rfl rfl rfl rfl rfl (by kernel_rfl) Try.func4 (by kernel_rfl)
    (of_decide_eq_true (by kernel_rfl)) (by unfold Func.isWrapper; first | (rw [if_pos (by decide +kernel)]; kernel_rfl) | (rw [if_neg (by decide +kernel)]; exact ⟨rfl, rfl⟩))
    (fun os started H enc _ => SumPuts_lifted os started H enc)

end Go.Proofs.Ytdhfnacifahoaaa
