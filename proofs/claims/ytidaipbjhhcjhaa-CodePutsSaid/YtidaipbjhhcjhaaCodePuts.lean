/- For every input CodePuts returns true: the bytes of every number, text and list are the reference's. No condition. -/
import Derived.Test.YtidaipbjhhcjhaaAll01
import Derived.Test.YtidaipbjhhcjhaaAlive01
namespace Go.Proofs.Ytidaipbjhhcjhaa
open Go.ChangeShapes Go.WideShapes Go.ChangeAt Go.RowKit

set_option maxRecDepth 100000 in
set_option maxHeartbeats 4000000 in
theorem CodePuts_main (n : Int) (s : ByteArray) (l : List Int) (u : Value) (w : World) (hu : Rd w u (l.map I)) (hs : s.size ≤ 5000) (hl : l.length ≤ 500) :
    Calls Try.prog 3 #[.int .i64 n, .string s, u] w fun e w' => e = .returned (.bool true) ∧ Ext w w' := by
  obtain ⟨A, c, rfl, _⟩ := hu.slice_
  simp only [List.length_map] at *
  go_enter Try.func3, Try.ntmps3
  go_wp2_with fail
  refine (alive_any _).mono ?_
  rintro e w1 ⟨rfl, hx1⟩
  go_wp2_with fail
  refine (Num_rd n _).mono ?_
  rintro e w2 ⟨v2, rfl, hr2, hx2⟩
  go_wp2_with fail
  refine (RefNum_rd n _).mono ?_
  rintro e w3 ⟨v3, rfl, hr3, hx3⟩
  go_wp2_with fail
  refine (Bytes_any _ _ _ _ _ (hr2.ext hx3) hr3).mono ?_
  rintro e w4 ⟨rfl, n4, rfl⟩
  simp only [decide_true]
  have hx4 : Ext w (w3.drewN n4) := Below.drewN' ((hx1.trans hx2).trans hx3) _
  have hu4 := hu.ext hx4
  generalize w3.drewN n4 = w4 at *
  clear hr2 hr3 hx1 hx2 hx3
  go_wp2_with fail
  refine (Text_rd s _ (by omega)).mono ?_
  rintro e w5 ⟨v5, rfl, hr5, hx5⟩
  go_wp2_with fail
  refine (RefText_rd s _ (by omega)).mono ?_
  rintro e w6 ⟨v6, rfl, hr6, hx6⟩
  go_wp2_with fail
  refine (Bytes_any _ _ _ _ _ (hr5.ext hx6) hr6).mono ?_
  rintro e w7 ⟨rfl, n7, rfl⟩
  simp only [decide_true]
  have hx7 : Ext w (w6.drewN n7) := Below.drewN' ((hx4.trans hx5).trans hx6) _
  have hu7 := hu.ext hx7
  generalize w6.drewN n7 = w7 at *
  clear hr5 hr6 hx4 hx5 hx6 hu4
  go_wp2_with fail
  refine (List_rd l _ _ hu7 (by omega)).mono ?_
  rintro e w8 ⟨v8, rfl, hr8, hx8⟩
  go_wp2_with fail
  refine (RefList_rd l _ _ (hu7.ext hx8) (by omega)).mono ?_
  rintro e w9 ⟨v9, rfl, hr9, hx9⟩
  go_wp2_with fail
  refine (Bytes_any _ _ _ _ _ (hr8.ext hx9) hr9).mono ?_
  rintro e w10 ⟨rfl, n10, rfl⟩
  simp only [decide_true]
  go_wp2
  go_ret
  exact ⟨rfl, Below.drewN' ((hx7.trans hx8).trans hx9) _⟩

theorem CodePuts_calls (n : Int) (s : ByteArray) (l : List Int) (u : Value) (w : World) (hu : Rd w u (l.map I)) :
    Calls Try.prog 3 #[.int .i64 n, .string s, u] w fun e w' => e = .returned (.bool true) ∧ Ext w w' := by
  by_cases hs : s.size ≤ 5000
  · by_cases hl : l.length ≤ 500
    · exact CodePuts_main n s l u w hu hs hl
    · obtain ⟨A, c, rfl, _⟩ := hu.slice_
      simp only [List.length_map] at *
      go_enter Try.func3, Try.ntmps3
      go_wp2_with fail
      refine (alive_any _).mono ?_
      rintro e w1 ⟨rfl, hx1⟩
      go_wp2
      go_ret
      exact ⟨rfl, hx1⟩
  · obtain ⟨A, c, rfl, _⟩ := hu.slice_
    simp only [List.length_map] at *
    go_enter Try.func3, Try.ntmps3
    go_wp2_with fail
    refine (alive_any _).mono ?_
    rintro e w1 ⟨rfl, hx1⟩
    go_wp2
    go_ret
    exact ⟨rfl, hx1⟩

set_option maxRecDepth 100000 in
theorem CodePuts_lifted (os : Os) (started : os.Started) (H : Type) (enc : TypeId × Value → H) :
    ReturnsInHanded {} Try.checked os 3 .any (Rows.codePutsSpec.pre6 enc Try.prog Try.f3 Rows.codePutsRow.domain false) (Rows.codePutsSpec.post enc Try.prog Try.f3 false true false false) := by
  refine law_lift (C := Try.checked) (tb := 4) Try.ownKnob started (by kernel_rfl) Try.func3 Try.laidOut (by kernel_rfl) rfl Try.underlying4 rfl rfl ?_
    (ChangeSpec.witness6 (enc := enc) (C := Try.checked) false ⟨#[], #[.int .i64 0, .string ⟨#[]⟩, .slice none 0 0], []⟩ 8 (by kernel_rfl) (by kernel_rfl) (by kernel_rfl) (by kernel_rfl)) ?_
  · intro ds hd
    rw [Try.params3] at hd
    match ds, hd with
    | [d0, d1, d2], _ => rfl
  · intro W base args ds p hval hA hsz
    rw [Try.params3] at hA hval hsz
    obtain ⟨v0, vs0, d0, ds0, p0, q0, hargs, rfl, rfl, h0, r0_⟩ := trodAll_cons hA
    obtain ⟨v1, vs1, d1, ds1, p1, q1, rfl, rfl, rfl, h1, r1_⟩ := trodAll_cons r0_
    obtain ⟨v2, vs2, d2, ds2, p2, q2, rfl, rfl, rfl, h2, r2_⟩ := trodAll_cons r1_
    obtain ⟨rfl, rfl, rfl⟩ := trodAll_nil r2_
    obtain rfl : args = #[v0, v1, v2] := by cases args; simp_all
    obtain ⟨a0, rfl, lo0, hi0⟩ := dec_int Try.underlying3 (hval 0 3 v0 rfl rfl) h0
    obtain ⟨a1, rfl, s1⟩ := dec_str Try.underlying9 (hval 1 9 v1 rfl rfl) h1 hsz (j := 1) rfl rfl
    obtain ⟨a2, r2, s2, w2⟩ := dec_ints (by_ := 8) Try.underlying22 Try.underlying3 (by kernel_rfl) (by kernel_rfl) (hval 2 22 v2 rfl rfl) h2 hsz (j := 2) rfl rfl
    exact CodePuts_calls a0 a1 a2 _ W r2

theorem CodePuts_holds : Rows.CodePutsSaid :=
  OpenClaim.holds_of_wide 3 Try.f3 rfl rfl rfl rfl rfl rfl rfl ⟨rfl, rfl, rfl, rfl, rfl⟩ rfl rfl rfl rfl rfl (by kernel_rfl) Try.func3 (by kernel_rfl)
    (of_decide_eq_true (by kernel_rfl)) (by unfold Func.isWrapper; first | (rw [if_pos (by decide +kernel)]; kernel_rfl) | (rw [if_neg (by decide +kernel)]; exact ⟨rfl, rfl⟩))
    (fun os started H enc _ => CodePuts_lifted os started H enc)

end Go.Proofs.Ytidaipbjhhcjhaa
