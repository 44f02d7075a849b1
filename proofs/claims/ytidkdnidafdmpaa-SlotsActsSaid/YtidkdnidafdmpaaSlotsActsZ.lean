/- For every input SlotsActs returns true: whatever is saved and torn, the picture, the errors, and the bytes of the disk, are the document's. No condition. -/
import Derived.Test.YtidkdnidafdmpaaSlotsActsQ9
namespace Go.Proofs.Ytidkdnidafdmpaa
open Go.ChangeShapes Go.WideShapes Go.ChangeAt Go.RowKit

theorem SlotsActs_calls (N i z : Int) (l : List Act3) (v : Value) (w : World) (hr : RdActs3 w v l)
    (i0 : -9223372036854775808 ≤ i) (i1 : i ≤ 9223372036854775807) (z0 : -9223372036854775808 ≤ z) (z1 : z ≤ 9223372036854775807) :
    Calls Try.prog 3 #[.int .i64 N, .int .i64 i, .int .i64 z, v] w fun e w' => e = .returned (.bool true) ∧ Ext w w' := by
  by_cases h0 : N < 1
  · exact SlotsActs_out N i z l v w hr (.inl h0)
  · by_cases h1 : 400 < N
    · exact SlotsActs_out N i z l v w hr (.inr (.inl ⟨by omega, h1⟩))
    · cases hf : fewS l with
      | false => exact SlotsActs_out N i z l v w hr (.inr (.inr ⟨by omega, by omega, hf⟩))
      | true =>
        obtain ⟨n, rfl⟩ : ∃ n : Nat, N = n := ⟨N.toNat, by omega⟩
        by_cases hz : 0 ≤ i ∧ 1 ≤ z ∧ i + 2 * z ≤ n
        · obtain ⟨f, rfl⟩ : ∃ f : Nat, i = f := ⟨i.toNat, by omega⟩
          obtain ⟨y, rfl⟩ : ∃ y : Nat, z = y := ⟨z.toNat, by omega⟩
          exact SlotsActs_main n f y l v w hr hf (by omega) (by omega) (by omega) (by omega)
        · exact SlotsActs_no n i z l v w hr hf (by omega) (by omega) hz i0 i1 z0 z1

set_option maxRecDepth 100000 in
theorem SlotsActs_lifted (os : Os) (started : os.Started) (H : Type) (enc : TypeId × Value → H) :
    ReturnsInHanded {} Try.checked os 3 .any (Rows.slotsActsSpec.pre6 enc Try.prog Try.f3 Rows.slotsActsRow.domain false) (Rows.slotsActsSpec.post enc Try.prog Try.f3 false true false false) := by
  refine law_lift (C := Try.checked) (tb := 4) Try.ownKnob started (by kernel_rfl) Try.func3 Try.laidOut (by kernel_rfl) rfl Try.underlying4 rfl rfl ?_
    (ChangeSpec.witness6 (enc := enc) (C := Try.checked) false ⟨#[], #[.int .i64 0, .int .i64 0, .int .i64 0, .slice none 0 0], []⟩ 8 (by kernel_rfl) (by kernel_rfl) (by kernel_rfl) (by kernel_rfl)) ?_
  · intro ds hd
    rw [Try.params3] at hd
    match ds, hd with
    | [d0, d1, d2, d3], _ => rfl
  · intro W base args ds p hval hA hsz
    rw [Try.params3] at hA hval hsz
    obtain ⟨v0, vs0, d0, ds0, p0, q0, hargs, rfl, rfl, h0, r0_⟩ := trodAll_cons hA
    obtain ⟨v1, vs1, d1, ds1, p1, q1, rfl, rfl, rfl, h1, r1_⟩ := trodAll_cons r0_
    obtain ⟨v2, vs2, d2, ds2, p2, q2, rfl, rfl, rfl, h2, r2_⟩ := trodAll_cons r1_
    obtain ⟨v3, vs3, d3, ds3, p3, q3, rfl, rfl, rfl, h3, r3_⟩ := trodAll_cons r2_
    obtain ⟨rfl, rfl, rfl⟩ := trodAll_nil r3_
    obtain rfl : args = #[v0, v1, v2, v3] := by cases args; simp_all
    obtain ⟨a0, rfl, lo0, hi0⟩ := dec_int Try.underlying3 (hval 0 3 v0 rfl rfl) h0
    obtain ⟨a1, rfl, lo1, hi1⟩ := dec_int Try.underlying3 (hval 1 3 v1 rfl rfl) h1
    obtain ⟨a2, rfl, lo2, hi2⟩ := dec_int Try.underlying3 (hval 2 3 v2 rfl rfl) h2
    obtain ⟨a3, r3⟩ := dec_acts3 Try.underlying22 Try.underlying41 (by kernel_rfl) (by kernel_rfl) rfl rfl rfl rfl rfl Try.underlying3 Try.underlying3 Try.underlying3 Try.underlying36 Try.underlying5 (by kernel_rfl) (hval 3 22 v3 rfl rfl) h3
    exact SlotsActs_calls a0 a1 a2 a3 _ W r3 lo1 hi1 lo2 hi2

theorem SlotsActs_holds : Rows.SlotsActsSaid :=
  OpenClaim.holds_of_wide 3 Try.f3 rfl rfl rfl rfl rfl rfl rfl ⟨rfl, rfl, rfl, rfl, rfl⟩ rfl rfl rfl rfl rfl (by kernel_rfl) Try.func3 (by kernel_rfl)
    (of_decide_eq_true (by kernel_rfl)) (by unfold Func.isWrapper; first | (rw [if_pos (by decide +kernel)]; kernel_rfl) | (rw [if_neg (by decide +kernel)]; exact ⟨rfl, rfl⟩))
    (fun os started H enc _ => SlotsActs_lifted os started H enc)

end Go.Proofs.Ytidkdnidafdmpaa
