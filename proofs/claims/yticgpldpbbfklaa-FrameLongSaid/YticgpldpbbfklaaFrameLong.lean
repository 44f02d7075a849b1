/- For every input FrameLong returns true: a payload of 1 to 4,000 bytes has a frame, and no other; a frame has six or seven bytes more. No condition. -/
import Derived.Test.YticgpldpbbfklaaAlive03
import Derived.Test.YticgpldpbbfklaaTu8b
import Derived.Test.YticgpldpbbfklaaLift
namespace Go.Proofs.Yticgpldpbbfklaa
open Go.ChangeShapes Go.WideShapes Go.ChangeAt Go.RowKit

theorem numB_len1 {n : Nat} (h : n < 128) : (numB n).length = 1 := by rw [numB_lo h]; rfl
theorem numB_len2 {n : Nat} (h : 128 ≤ n) (h2 : n < 16384) : (numB n).length = 2 := by rw [numB_hi (by omega), numB_lo (by omega)]; rfl

theorem getF_frame {p : List UInt8} (h : 1 ≤ p.length ∧ p.length ≤ 4000) : getF (frameB p) 0 = (p, ((frameB p).length : Int), 1) := by
  have := getF_put h [] []
  simpa using this

set_option maxHeartbeats 1000000 in
theorem FrameLong_yes (n m : Nat) (w : World) (h : 1 ≤ n ∧ n ≤ 4000) (hm : (n ≤ 127 ∧ m = 6) ∨ (128 ≤ n ∧ m = 7)) :
    Calls Try.prog 8 #[.int .i64 (n : Int)] w fun e w' => e = .returned (.bool true) ∧ Ext w w' := by
  have hp : 1 ≤ (List.replicate n (0 : UInt8)).length ∧ (List.replicate n (0 : UInt8)).length ≤ 4000 := by rw [List.length_replicate]; exact h
  have hl := frameB_len hp
  rw [List.length_replicate] at hl
  have hlen : (frameB (List.replicate n (0 : UInt8))).length = n + m := by
    rcases hm with ⟨h1, h2⟩ | ⟨h1, h2⟩
    · rw [hl, numB_len1 (by omega)]
      omega
    · rw [hl, numB_len2 (by omega) (by omega)]
      omega
  have hget := getF_frame hp
  rw [hlen] at hget
  have HG := Lib.hid hget
  have HL := Lib.hid hlen
  obtain ⟨h1, h2⟩ := h
  clear hl hget hp hlen
  rcases hm with ⟨h3, rfl⟩ | ⟨h3, rfl⟩
  · go_enter Try.func8, Try.ntmps8
    go_wp2_with fail
    refine (alive_any _).mono ?_
    rintro e w1 ⟨rfl, hx1⟩
    go_wp2_with (refine make_u8 rfl _ _ rfl n rfl rfl (by omega) ?_; intro g w2 hg0 hg2)
    have hx2 := Ext.trans hx1 hg2.ext
    have hr2 := Rd.own hg2.own
    clear hg2 hx1
    refine (FramePut_rd _ _ _ hr2).mono ?_
    rintro e w3 ⟨v3, rfl, hr3, hx3⟩
    obtain ⟨A3, c3, rfl, _, _⟩ := hr3.sliceN (n := n + 6) (by rw [List.length_map]; exact HL.out)
    have hx3 := Ext.trans hx2 hx3
    go_wp2_with fail
    refine (FrameGet_rd _ _ 0 _ hr3).mono ?_
    rintro e w4 ⟨v4, rfl, hr4, hx4⟩
    rw [HG.out] at hr4 ⊢
    obtain ⟨A4, c4, rfl, _, _⟩ := hr4.sliceN (n := n) (by simp)
    have hx4 := Ext.trans hx3 hx4
    clear hr3 hr4 hr2 hx2 hx3
    go_wp2
    go_ret
    exact ⟨by simp, hx4⟩
  · go_enter Try.func8, Try.ntmps8
    go_wp2_with fail
    refine (alive_any _).mono ?_
    rintro e w1 ⟨rfl, hx1⟩
    go_wp2_with (refine make_u8 rfl _ _ rfl n rfl rfl (by omega) ?_; intro g w2 hg0 hg2)
    have hx2 := Ext.trans hx1 hg2.ext
    have hr2 := Rd.own hg2.own
    clear hg2 hx1
    refine (FramePut_rd _ _ _ hr2).mono ?_
    rintro e w3 ⟨v3, rfl, hr3, hx3⟩
    obtain ⟨A3, c3, rfl, _, _⟩ := hr3.sliceN (n := n + 7) (by rw [List.length_map]; exact HL.out)
    have hx3 := Ext.trans hx2 hx3
    go_wp2_with fail
    refine (FrameGet_rd _ _ 0 _ hr3).mono ?_
    rintro e w4 ⟨v4, rfl, hr4, hx4⟩
    rw [HG.out] at hr4 ⊢
    obtain ⟨A4, c4, rfl, _, _⟩ := hr4.sliceN (n := n) (by simp)
    have hx4 := Ext.trans hx3 hx4
    clear hr3 hr4 hr2 hx2 hx3
    go_wp2
    go_ret
    exact ⟨by simp, hx4⟩

set_option maxHeartbeats 400000 in
theorem FrameLong_calls (i : Int) (w : World) : Calls Try.prog 8 #[.int .i64 i] w fun e w' => e = .returned (.bool true) ∧ Ext w w' := by
  by_cases h0 : i < 0
  · go_enter Try.func8, Try.ntmps8
    go_wp2_with fail
    refine (alive_any _).mono ?_
    rintro e w1 ⟨rfl, hx1⟩
    go_wp2
    go_ret
    exact ⟨rfl, hx1⟩
  · obtain ⟨n, rfl⟩ : ∃ n : Nat, i = n := ⟨i.toNat, by omega⟩
    by_cases hb : 4100 < n
    · go_enter Try.func8, Try.ntmps8
      go_wp2_with fail
      refine (alive_any _).mono ?_
      rintro e w1 ⟨rfl, hx1⟩
      go_wp2
      go_ret
      exact ⟨rfl, hx1⟩
    · by_cases hn : 1 ≤ n ∧ n ≤ 4000
      · by_cases h7 : n ≤ 127
        · exact FrameLong_yes n 6 w hn (.inl ⟨h7, rfl⟩)
        · exact FrameLong_yes n 7 w hn (.inr ⟨by omega, rfl⟩)
      · have hf : frameB (List.replicate n (0 : UInt8)) = [] := frameB_no (by rw [List.length_replicate]; exact hn)
        have HF := Lib.hid hf
        have hc : n < 1 ∨ 4000 < n := by omega
        clear hn hf
        rcases hc with hc | hc
        all_goals
          go_enter Try.func8, Try.ntmps8
          go_wp2_with fail
          refine (alive_any _).mono ?_
          rintro e w1 ⟨rfl, hx1⟩
          go_wp2_with (refine make_u8 rfl _ _ rfl n rfl rfl (by omega) ?_; intro g w2 hg0 hg2)
          have hx2 := Ext.trans hx1 hg2.ext
          have hr2 := Rd.own hg2.own
          clear hg2 hx1
          refine (FramePut_rd _ _ _ hr2).mono ?_
          rintro e w3 ⟨v3, rfl, hr3, hx3⟩
          obtain ⟨A3, c3, rfl, _, _⟩ := hr3.sliceN (n := 0) (by rw [HF.out]; rfl)
          have hx3 := Ext.trans hx2 hx3
          go_wp2
          go_ret
          exact ⟨rfl, hx3⟩

set_option maxRecDepth 100000 in
theorem FrameLong_lifted (os : Os) (started : os.Started) (H : Type) (enc : TypeId × Value → H) :
    ReturnsInHanded {} Try.checked os 8 .any (Rows.frameLongSpec.pre6 enc Try.prog Try.f8 Rows.frameLongRow.domain false) (Rows.frameLongSpec.post enc Try.prog Try.f8 false true false false) := by
  refine law_lift (C := Try.checked) (tb := 4) Try.ownKnob started (by kernel_rfl) Try.func8 Try.laidOut (by kernel_rfl) rfl Try.underlying4 rfl rfl ?_
    (ChangeSpec.witness6 (enc := enc) (C := Try.checked) false ⟨#[], #[.int .i64 0], []⟩ 8 (by kernel_rfl) (by kernel_rfl) (by kernel_rfl) (by kernel_rfl)) ?_
  · intro ds hd
    rw [Try.params8] at hd
    match ds, hd with
    | [d0], _ => rfl
  · intro W base args ds p hval hA hsz
    rw [Try.params8] at hA hval hsz
    obtain ⟨v0, vs0, d0, ds0, p0, q0, hargs, rfl, rfl, h0, r0_⟩ := trodAll_cons hA
    obtain ⟨rfl, rfl, rfl⟩ := trodAll_nil r0_
    obtain rfl : args = #[v0] := by cases args; simp_all
    obtain ⟨a0, rfl, lo0, hi0⟩ := dec_int Try.underlying3 (hval 0 3 v0 rfl rfl) h0
    exact FrameLong_calls a0 W

theorem FrameLong_holds : Rows.FrameLongSaid :=
  OpenClaim.holds_of_wide 8 Try.f8 rfl rfl rfl rfl rfl rfl rfl ⟨rfl, rfl, rfl, rfl, rfl⟩ rfl rfl rfl rfl rfl (by kernel_rfl) Try.func8 (by kernel_rfl)
    (of_decide_eq_true (by kernel_rfl)) (by unfold Func.isWrapper; first | (rw [if_pos (by decide +kernel)]; kernel_rfl) | (rw [if_neg (by decide +kernel)]; exact ⟨rfl, rfl⟩))
    (fun os started H enc _ => FrameLong_lifted os started H enc)

end Go.Proofs.Yticgpldpbbfklaa
