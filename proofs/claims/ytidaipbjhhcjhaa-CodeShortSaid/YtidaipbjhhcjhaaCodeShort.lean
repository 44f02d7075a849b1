/- For every input CodeShort returns true: a greater number has no fewer bytes, and one has eight at most. No condition. -/
import Derived.Test.YtidaipbjhhcjhaaAlive01
import Derived.Test.YtidaipbjhhcjhaaLift
namespace Go.Proofs.Ytidaipbjhhcjhaa
open Go.ChangeShapes Go.WideShapes Go.ChangeAt Go.RowKit

theorem numB_mono : ∀ (k m n : Nat), n < 128 ^ (k + 1) → m ≤ n → (numB m).length ≤ (numB n).length := by
  intro k
  induction k with
  | zero =>
    intro m n h hm
    rw [numB_lo (show m < 128 by omega), numB_lo (show n < 128 by omega)]
    simp
  | succ k ih =>
    intro m n h hm
    by_cases hn : n < 128
    · rw [numB_lo (show m < 128 by omega), numB_lo hn]
      simp
    · rw [numB_hi hn]
      by_cases hm2 : m < 128
      · rw [numB_lo hm2]
        simp
      · rw [numB_hi hm2, List.length_cons, List.length_cons]
        have := ih (m / 128) (n / 128) (by rw [Nat.div_lt_iff_lt_mul (by omega)]; rw [Nat.pow_succ] at h; exact h) (by omega)
        omega

theorem CodeShort_yes (m n : Nat) (w : World) (hm2 : m < 9007199254740992) (hn2 : n < 9007199254740992) : Calls Try.prog 6 #[.int .i64 m, .int .i64 n] w fun e w' => e = .returned (.bool true) ∧ Ext w w' := by
  have lm := numB_len8 hm2
  have pm := numB_pos m
  have ln := numB_len8 hn2
  have pn := numB_pos n
  have hmono := numB_mono 7 m n (by omega)
  by_cases hle : m ≤ n
  all_goals
    go_enter Try.func6, Try.ntmps6
    go_wp2_with fail
    refine (alive_any _).mono ?_
    rintro e w1 ⟨rfl, hx1⟩
    go_wp2_with fail
    refine (Num_yes m _ hm2).mono ?_
    rintro e w2 ⟨v2, rfl, hg2⟩
    obtain ⟨A2, c2, rfl⟩ := hg2.slice_ (List.length_map _)
    have hx2 := hx1.trans hg2.ext
    clear hg2 hx1
    generalize (numB m).length = a at *
    go_wp2_with fail
    refine (Num_yes n _ hn2).mono ?_
    rintro e w3 ⟨v3, rfl, hg3⟩
    obtain ⟨A3, c3, rfl⟩ := hg3.slice_ (List.length_map _)
    have hx3 := hx2.trans hg3.ext
    clear hg3 hx2
    generalize (numB n).length = b at *
    try (have hab := hmono hle; clear hmono)
    have h0 : ((a : Int) == 0) = false := by rw [beq_eq_false_iff_ne]; omega
    have h1 : ((b : Int) == 0) = false := by rw [beq_eq_false_iff_ne]; omega
    go_wp2
    go_ret
    exact ⟨by simp <;> omega, hx3⟩

theorem CodeShort_calls (m n : Int) (w : World) : Calls Try.prog 6 #[.int .i64 m, .int .i64 n] w fun e w' => e = .returned (.bool true) ∧ Ext w w' := by
  by_cases hm : 0 ≤ m ∧ m < 9007199254740992
  · obtain ⟨m, rfl, hm2⟩ := isNum_some hm
    have lm := numB_len8 hm2
    clear hm
    by_cases hn : 0 ≤ n ∧ n < 9007199254740992
    · obtain ⟨n, rfl, hn2⟩ := isNum_some hn
      exact CodeShort_yes m n w hm2 hn2
    · have H := Lib.hid hn
      clear hn
      go_enter Try.func6, Try.ntmps6
      go_wp2_with fail
      refine (alive_any _).mono ?_
      rintro e w1 ⟨rfl, hx1⟩
      go_wp2_with fail
      refine (Num_yes m _ hm2).mono ?_
      rintro e w2 ⟨v2, rfl, hg2⟩
      obtain ⟨A2, c2, rfl⟩ := hg2.slice_ (List.length_map _)
      have hx2 := hx1.trans hg2.ext
      clear hg2 hx1
      have pm := numB_pos m
      generalize (numB m).length = a at *
      have h0 : ((a : Int) == 0) = false := by rw [beq_eq_false_iff_ne]; omega
      go_wp2_with fail
      refine (Num_no n _ H.out).mono ?_
      rintro e w3 ⟨rfl, rfl⟩
      go_wp2
      go_ret
      exact ⟨by simp <;> omega, hx2⟩
  · have H := Lib.hid hm
    clear hm
    by_cases hn : 0 ≤ n ∧ n < 9007199254740992
    · obtain ⟨n, rfl, hn2⟩ := isNum_some hn
      clear hn
      have ln := numB_len8 hn2
      go_enter Try.func6, Try.ntmps6
      go_wp2_with fail
      refine (alive_any _).mono ?_
      rintro e w1 ⟨rfl, hx1⟩
      go_wp2_with fail
      refine (Num_no m _ H.out).mono ?_
      rintro e w2 ⟨rfl, rfl⟩
      go_wp2_with fail
      refine (Num_yes n _ hn2).mono ?_
      rintro e w2 ⟨v2, rfl, hg2⟩
      obtain ⟨A2, c2, rfl⟩ := hg2.slice_ (List.length_map _)
      have hx2 := hx1.trans hg2.ext
      clear hg2 hx1
      generalize (numB n).length = a at *
      go_wp2
      go_ret
      exact ⟨by simp <;> omega, hx2⟩
    · have H2 := Lib.hid hn
      clear hn
      go_enter Try.func6, Try.ntmps6
      go_wp2_with fail
      refine (alive_any _).mono ?_
      rintro e w1 ⟨rfl, hx1⟩
      go_wp2_with fail
      refine (Num_no m _ H.out).mono ?_
      rintro e w2 ⟨rfl, rfl⟩
      go_wp2_with fail
      refine (Num_no n _ H2.out).mono ?_
      rintro e w2 ⟨rfl, rfl⟩
      go_wp2
      go_ret
      exact ⟨rfl, hx1⟩

set_option maxRecDepth 100000 in
theorem CodeShort_lifted (os : Os) (started : os.Started) (H : Type) (enc : TypeId × Value → H) :
    ReturnsInHanded {} Try.checked os 6 .any (Rows.codeShortSpec.pre6 enc Try.prog Try.f6 Rows.codeShortRow.domain false) (Rows.codeShortSpec.post enc Try.prog Try.f6 false true false false) := by
  refine law_lift (C := Try.checked) (tb := 4) Try.ownKnob started (by kernel_rfl) Try.func6 Try.laidOut (by kernel_rfl) rfl Try.underlying4 rfl rfl ?_
    (ChangeSpec.witness6 (enc := enc) (C := Try.checked) false ⟨#[], #[.int .i64 0, .int .i64 0], []⟩ 8 (by kernel_rfl) (by kernel_rfl) (by kernel_rfl) (by kernel_rfl)) ?_
  · intro ds hd
    rw [Try.params6] at hd
    match ds, hd with
    | [d0, d1], _ => rfl
  · intro W base args ds p hval hA hsz
    rw [Try.params6] at hA hval hsz
    obtain ⟨v0, vs0, d0, ds0, p0, q0, hargs, rfl, rfl, h0, r0⟩ := trodAll_cons hA
    obtain ⟨v1, vs1, d1, ds1, p1, q1, rfl, rfl, rfl, h1, r1⟩ := trodAll_cons r0
    obtain ⟨rfl, rfl, rfl⟩ := trodAll_nil r1
    obtain rfl : args = #[v0, v1] := by cases args; simp_all
    obtain ⟨a0, rfl, _⟩ := dec_int Try.underlying3 (hval 0 3 v0 rfl rfl) h0
    obtain ⟨a1, rfl, _⟩ := dec_int Try.underlying3 (hval 1 3 v1 rfl rfl) h1
    exact CodeShort_calls a0 a1 W

theorem CodeShort_holds : Rows.CodeShortSaid :=
  OpenClaim.holds_of_wide 6 Try.f6 rfl rfl rfl rfl rfl rfl rfl ⟨rfl, rfl, rfl, rfl, rfl⟩ rfl rfl rfl rfl rfl (by kernel_rfl) Try.func6 (by kernel_rfl)
    (of_decide_eq_true (by kernel_rfl)) (by unfold Func.isWrapper; first | (rw [if_pos (by decide +kernel)]; kernel_rfl) | (rw [if_neg (by decide +kernel)]; exact ⟨rfl, rfl⟩))
    (fun os started H enc _ => CodeShort_lifted os started H enc)

end Go.Proofs.Ytidaipbjhhcjhaa
