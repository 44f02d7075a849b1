/- For every input CodeReads returns true: what stands at every place of all bytes, or that nothing does, is the reference's. No condition. -/
import Derived.Test.YtidaipbjhhcjhaaAll01
import Derived.Test.YtidaipbjhhcjhaaAlive01
namespace Go.Proofs.Ytidaipbjhhcjhaa
open Go.ChangeShapes Go.WideShapes Go.ChangeAt Go.RowKit

set_option maxRecDepth 100000 in
set_option maxHeartbeats 8000000 in
theorem CodeReads_main (bs : List UInt8) (p most : Int) (u : Value) (w : World) (hu : Rd w u (bs.map B)) (hp : p ≤ 9223372036854775807) (hl : bs.length ≤ 1000) :
    Calls Try.prog 4 #[u, .int .i64 p, .int .i64 most] w fun e w' => e = .returned (.bool true) ∧ Ext w w' := by
  obtain ⟨A, c, rfl, _⟩ := hu.slice_
  simp only [List.length_map] at *
  have HP := Lib.hid hp
  clear hp
  go_enter Try.func4, Try.ntmps4
  go_wp2_with fail
  refine (alive_any _).mono ?_
  rintro e w1 ⟨rfl, hx1⟩
  go_wp2_with fail
  refine (GetNum_g bs _ p _ (hu.ext hx1) HP.out).mono ?_
  rintro e w2 ⟨rfl, hx2⟩
  have hx2 := hx1.trans hx2
  go_wp2_with fail
  refine (RefGetNum_g bs _ p _ (hu.ext hx2) HP.out).mono ?_
  rintro e w3 ⟨rfl, hx3⟩
  have hx3 := hx2.trans hx3
  clear hx1 hx2
  generalize (gnum bs p).1 = n1
  generalize (gnum bs p).2.1 = q1
  generalize (gnum bs p).2.2 = k1
  go_wp2_with fail
  refine (GetText_g bs _ p _ (hu.ext hx3) HP.out).mono ?_
  rintro e w4 ⟨rfl, hx4⟩
  have hx4 := hx3.trans hx4
  go_wp2_with fail
  refine (RefGetText_g bs _ p _ (hu.ext hx4) HP.out).mono ?_
  rintro e w5 ⟨rfl, hx5⟩
  have hx5 := hx4.trans hx5
  clear hx3 hx4
  generalize (gtext bs p).1 = t2
  generalize (gtext bs p).2.1 = q2
  generalize (gtext bs p).2.2 = k2
  go_wp2_with fail
  refine (GetList_g bs _ p most _ (hu.ext hx5) HP.out (by omega)).mono ?_
  rintro e w6 ⟨v6, rfl, hr6, hx6⟩
  go_wp2_with fail
  refine (RefGetList_g bs _ p most _ ((hu.ext hx5).ext hx6) HP.out (by omega)).mono ?_
  rintro e w7 ⟨v7, rfl, hr7, hx7⟩
  go_wp2_with fail
  refine (Ints_any _ _ _ _ _ (hr6.ext hx7) hr7).mono ?_
  rintro e w8 ⟨rfl, n8, rfl⟩
  simp only [decide_true]
  generalize (glist bs p most).2.1 = q3
  generalize (glist bs p most).2.2 = k3
  go_wp2
  go_ret
  exact ⟨by simp, Below.drewN' ((hx5.trans hx6).trans hx7) _⟩

theorem CodeReads_calls (bs : List UInt8) (p most : Int) (u : Value) (w : World) (hu : Rd w u (bs.map B)) (hp : p ≤ 9223372036854775807) :
    Calls Try.prog 4 #[u, .int .i64 p, .int .i64 most] w fun e w' => e = .returned (.bool true) ∧ Ext w w' := by
  by_cases hl : bs.length ≤ 1000
  · exact CodeReads_main bs p most u w hu hp hl
  · obtain ⟨A, c, rfl, _⟩ := hu.slice_
    simp only [List.length_map] at *
    clear hp
    go_enter Try.func4, Try.ntmps4
    go_wp2_with fail
    refine (alive_any _).mono ?_
    rintro e w1 ⟨rfl, hx1⟩
    go_wp2
    go_ret
    exact ⟨rfl, hx1⟩

set_option maxRecDepth 100000 in
theorem CodeReads_lifted (os : Os) (started : os.Started) (H : Type) (enc : TypeId × Value → H) :
    ReturnsInHanded {} Try.checked os 4 .any (Rows.codeReadsSpec.pre6 enc Try.prog Try.f4 Rows.codeReadsRow.domain false) (Rows.codeReadsSpec.post enc Try.prog Try.f4 false true false false) := by
  refine law_lift (C := Try.checked) (tb := 4) Try.ownKnob started (by kernel_rfl) Try.func4 Try.laidOut (by kernel_rfl) rfl Try.underlying4 rfl rfl ?_
    (ChangeSpec.witness6 (enc := enc) (C := Try.checked) false ⟨#[], #[.slice none 0 0, .int .i64 0, .int .i64 0], []⟩ 8 (by kernel_rfl) (by kernel_rfl) (by kernel_rfl) (by kernel_rfl)) ?_
  · intro ds hd
    rw [Try.params4] at hd
    match ds, hd with
    | [d0, d1, d2], _ => rfl
  · intro W base args ds p hval hA hsz
    rw [Try.params4] at hA hval hsz
    obtain ⟨v0, vs0, d0, ds0, p0, q0, hargs, rfl, rfl, h0, r0_⟩ := trodAll_cons hA
    obtain ⟨v1, vs1, d1, ds1, p1, q1, rfl, rfl, rfl, h1, r1_⟩ := trodAll_cons r0_
    obtain ⟨v2, vs2, d2, ds2, p2, q2, rfl, rfl, rfl, h2, r2_⟩ := trodAll_cons r1_
    obtain ⟨rfl, rfl, rfl⟩ := trodAll_nil r2_
    obtain rfl : args = #[v0, v1, v2] := by cases args; simp_all
    obtain ⟨a0, r0, s0⟩ := dec_bytes Try.underlying25 Try.underlying5 (by kernel_rfl) (by kernel_rfl) (hval 0 25 v0 rfl rfl) h0 hsz (j := 0) rfl rfl
    obtain ⟨a1, rfl, lo1, hi1⟩ := dec_int Try.underlying3 (hval 1 3 v1 rfl rfl) h1
    obtain ⟨a2, rfl, lo2, hi2⟩ := dec_int Try.underlying3 (hval 2 3 v2 rfl rfl) h2
    exact CodeReads_calls a0 a1 a2 _ W r0 hi1

theorem CodeReads_holds : Rows.CodeReadsSaid :=
  OpenClaim.holds_of_wide 4 Try.f4 rfl rfl rfl rfl rfl rfl rfl ⟨rfl, rfl, rfl, rfl, rfl⟩ rfl rfl rfl rfl rfl (by kernel_rfl) Try.func4 (by kernel_rfl)
    (of_decide_eq_true (by kernel_rfl)) (by unfold Func.isWrapper; first | (rw [if_pos (by decide +kernel)]; kernel_rfl) | (rw [if_neg (by decide +kernel)]; exact ⟨rfl, rfl⟩))
    (fun os started H enc _ => CodeReads_lifted os started H enc)

end Go.Proofs.Ytidaipbjhhcjhaa
