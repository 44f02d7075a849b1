/- For every input CodeMost returns true: a list is read of as many numbers as it has, and not of fewer. No condition. -/
import Derived.Test.YtidaipbjhhcjhaaAlive01
import Derived.Test.YtidaipbjhhcjhaaLift
import Derived.Test.YtidaipbjhhcjhaaP01b
namespace Go.Proofs.Ytidaipbjhhcjhaa
open Go.ChangeShapes Go.WideShapes Go.ChangeAt Go.RowKit

set_option maxHeartbeats 2000000 in
theorem CodeMost_main (l : List Int) (more : List UInt8) (u v : Value) (most : Int) (w : World) (hu : Rd w u (l.map I)) (hl : l.length * 8 ≤ 140737488351232) (hv : Rd w v (more.map B)) (hall : l.all isNumB = true) (hl2 : l.length ≤ 200) (hm2 : more.length ≤ 300) :
    Calls Try.prog 7 #[u, .int .i64 most, v] w fun e w' => e = .returned (.bool true) ∧ Ext w w' := by
  have h1 := hu.slice_
  obtain ⟨A, c, rfl, _⟩ := h1
  have h2 := hv.slice_
  obtain ⟨A', c', rfl, _⟩ := h2
  simp only [List.length_map] at *
  have hlp := listB_pos l
  have hll := listB_le l hall (by omega)
  have HA := Lib.hid hall
  clear hall
  go_enter Try.func7, Try.ntmps7
  go_wp2_with fail
  refine (alive_any _).mono ?_
  rintro e w1 ⟨rfl, hx1⟩
  have hu1 := hu.ext hx1
  have hv1 := hv.ext hx1
  go_wp2_with fail
  refine (List_any l _ _ hu1 (by omega)).mono ?_
  rintro e w2 (⟨v2, rfl, _, hg2⟩ | ⟨_, h4, _⟩)
  · obtain ⟨A2, c2, rfl⟩ := hg2.slice_ (List.length_map _)
    have hx2 := hx1.trans hg2.ext
    have hv2 := hv1.ext hg2.ext
    have hlb : (((listB l).length : Int) == 0) = false := by rw [beq_eq_false_iff_ne]; omega
    have hpre : listAt (listB l ++ more) 0 most = if (l.length : Int) ≤ most then some (l.map Int.toNat, (listB l).length) else none := by
      by_cases hm : (l.length : Int) ≤ most
      · rw [if_pos hm]
        have := listAt_put l [] more most HA.out (by omega) hm
        simpa using this
      · rw [if_neg hm]
        have := listAt_less l [] more most (by omega) hm
        simpa using this
    have HP := Lib.hid hpre
    clear hpre
    by_cases hmost : most < (l.length : Int)
    · go_wp2_with (at_builtin; refine app_u8 rfl _ _ rfl w1.heap.size _ _ rfl hg2.1 _ more rfl hv2 (by simp; omega) hg2.size ?_; intro v3 w3 hg3)
      have hr3 := Rd.own hg3.own
      rw [← List.map_append] at hr3
      obtain ⟨A3, c3, rfl⟩ := hg3.slice_ (n := (listB l).length + more.length) (by simp)
      have hx3 := hx1.trans ((hg2.trans hg3).ext)
      have hgl := GetList_any (listB l ++ more) _ 0 most _ hr3 (by omega) (by simp; omega)
      rw [HP.out, if_neg (by omega)] at hgl
      refine hgl.mono ?_
      clear hgl
      rintro e w4 ⟨rfl, hx4⟩
      go_wp2
      go_ret
      exact ⟨rfl, hx3.trans hx4⟩
    · go_wp2_with (at_builtin; refine app_u8 rfl _ _ rfl w1.heap.size _ _ rfl hg2.1 _ more rfl hv2 (by simp; omega) hg2.size ?_; intro v3 w3 hg3)
      have hr3 := Rd.own hg3.own
      rw [← List.map_append] at hr3
      obtain ⟨A3, c3, rfl⟩ := hg3.slice_ (n := (listB l).length + more.length) (by simp)
      have hx3 := hx1.trans ((hg2.trans hg3).ext)
      have hgl := GetList_any (listB l ++ more) _ 0 most _ hr3 (by omega) (by simp; omega)
      rw [HP.out, if_pos (by omega)] at hgl
      refine hgl.mono ?_
      clear hgl
      rintro e w4 ⟨v4, rfl, hown4, hx4⟩
      obtain ⟨A4, c4, rfl⟩ := own_slice (n := l.length) (by simpa using hown4)
      go_wp2
      go_ret
      exact ⟨by simp, hx3.trans hx4⟩
  · rw [HA.out] at h4
    cases h4

theorem CodeMost_calls (l : List Int) (more : List UInt8) (u v : Value) (most : Int) (w : World) (hu : Rd w u (l.map I)) (hl : l.length * 8 ≤ 140737488351232) (hv : Rd w v (more.map B)) :
    Calls Try.prog 7 #[u, .int .i64 most, v] w fun e w' => e = .returned (.bool true) ∧ Ext w w' := by
  by_cases hl2 : l.length ≤ 200
  · by_cases hm2 : more.length ≤ 300
    · by_cases hall : l.all isNumB = true
      · exact CodeMost_main l more u v most w hu hl hv hall hl2 hm2
      · obtain ⟨A, c, rfl, _⟩ := hu.slice_
        obtain ⟨A', c', rfl, _⟩ := hv.slice_
        simp only [List.length_map] at *
        have HA := Lib.hid hall
        clear hall
        go_enter Try.func7, Try.ntmps7
        go_wp2_with fail
        refine (alive_any _).mono ?_
        rintro e w1 ⟨rfl, hx1⟩
        have hu1 := hu.ext hx1
        go_wp2_with fail
        refine (List_any l _ _ hu1 (by omega)).mono ?_
        rintro e w2 (⟨v2, rfl, h4, hg2⟩ | ⟨rfl, _, hx2⟩)
        · exact absurd h4 HA.out
        · go_wp2
          go_ret
          exact ⟨by simp, hx1.trans hx2⟩
    · obtain ⟨A, c, rfl, _⟩ := hu.slice_
      obtain ⟨A', c', rfl, _⟩ := hv.slice_
      simp only [List.length_map] at *
      go_enter Try.func7, Try.ntmps7
      go_wp2_with fail
      refine (alive_any _).mono ?_
      rintro e w1 ⟨rfl, hx1⟩
      have hu1 := hu.ext hx1
      go_wp2_with fail
      refine (List_any l _ _ hu1 (by omega)).mono ?_
      rintro e w2 (⟨v2, rfl, h4, hg2⟩ | ⟨rfl, _, hx2⟩)
      · go_wp2
        go_ret
        exact ⟨by simp, hx1.trans hg2.ext⟩
      · go_wp2
        go_ret
        exact ⟨by simp, hx1.trans hx2⟩
  · obtain ⟨A, c, rfl, _⟩ := hu.slice_
    obtain ⟨A', c', rfl, _⟩ := hv.slice_
    simp only [List.length_map] at *
    go_enter Try.func7, Try.ntmps7
    go_wp2_with fail
    refine (alive_any _).mono ?_
    rintro e w1 ⟨rfl, hx1⟩
    have hu1 := hu.ext hx1
    go_wp2_with fail
    refine (List_any l _ _ hu1 (by omega)).mono ?_
    rintro e w2 (⟨v2, rfl, h4, hg2⟩ | ⟨rfl, _, hx2⟩)
    · go_wp2
      go_ret
      exact ⟨by simp, hx1.trans hg2.ext⟩
    · go_wp2
      go_ret
      exact ⟨by simp, hx1.trans hx2⟩

set_option maxRecDepth 100000 in
theorem CodeMost_lifted (os : Os) (started : os.Started) (H : Type) (enc : TypeId × Value → H) :
    ReturnsInHanded {} Try.checked os 7 .any (Rows.codeMostSpec.pre6 enc Try.prog Try.f7 Rows.codeMostRow.domain false) (Rows.codeMostSpec.post enc Try.prog Try.f7 false true false false) := by
  refine law_lift (C := Try.checked) (tb := 4) Try.ownKnob started (by kernel_rfl) Try.func7 Try.laidOut (by kernel_rfl) rfl Try.underlying4 rfl rfl ?_
    (ChangeSpec.witness6 (enc := enc) (C := Try.checked) false ⟨#[], #[.slice none 0 0, .int .i64 0, .slice none 0 0], []⟩ 8 (by kernel_rfl) (by kernel_rfl) (by kernel_rfl) (by kernel_rfl)) ?_
  · intro ds hd
    rw [Try.params7] at hd
    match ds, hd with
    | [d0, d1, d2], _ => rfl
  · intro W base args ds p hval hA hsz
    rw [Try.params7] at hA hval hsz
    obtain ⟨v0, vs0, d0, ds0, p0, q0, hargs, rfl, rfl, h0, r0_⟩ := trodAll_cons hA
    obtain ⟨v1, vs1, d1, ds1, p1, q1, rfl, rfl, rfl, h1, r1_⟩ := trodAll_cons r0_
    obtain ⟨v2, vs2, d2, ds2, p2, q2, rfl, rfl, rfl, h2, r2_⟩ := trodAll_cons r1_
    obtain ⟨rfl, rfl, rfl⟩ := trodAll_nil r2_
    obtain rfl : args = #[v0, v1, v2] := by cases args; simp_all
    obtain ⟨a0, r0, s0, w0⟩ := dec_ints (by_ := 8) Try.underlying22 Try.underlying3 (by kernel_rfl) (by kernel_rfl) (hval 0 22 v0 rfl rfl) h0 hsz (j := 0) rfl rfl
    obtain ⟨a1, rfl, lo1, hi1⟩ := dec_int Try.underlying3 (hval 1 3 v1 rfl rfl) h1
    obtain ⟨a2, r2, s2⟩ := dec_bytes Try.underlying25 Try.underlying5 (by kernel_rfl) (by kernel_rfl) (hval 2 25 v2 rfl rfl) h2 hsz (j := 2) rfl rfl
    exact CodeMost_calls a0 a2 _ _ a1 W r0 s0 r2

theorem CodeMost_holds : Rows.CodeMostSaid :=
  OpenClaim.holds_of_wide 7 Try.f7 rfl rfl rfl rfl rfl rfl rfl ⟨rfl, rfl, rfl, rfl, rfl⟩ rfl rfl rfl rfl rfl (by kernel_rfl) Try.func7 (by kernel_rfl)
    (of_decide_eq_true (by kernel_rfl)) (by unfold Func.isWrapper; first | (rw [if_pos (by decide +kernel)]; kernel_rfl) | (rw [if_neg (by decide +kernel)]; exact ⟨rfl, rfl⟩))
    (fun os started H enc _ => CodeMost_lifted os started H enc)

end Go.Proofs.Ytidaipbjhhcjhaa
