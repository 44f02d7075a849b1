/- For every input FrameBack returns true: a frame is read again, whatever stands behind, and of its first bytes, fewer than all, with noughts behind, none is whole. No condition. -/
import Derived.Test.YticgpldpbbfklaaAlive03
import Derived.Test.YticgpldpbbfklaaTu8b
import Derived.Test.YticgpldpbbfklaaP03b
import Derived.Test.YticgpldpbbfklaaLift
namespace Go.Proofs.Yticgpldpbbfklaa
open Go.ChangeShapes Go.WideShapes Go.ChangeAt Go.RowKit

set_option maxHeartbeats 2000000 in
theorem FrameBack_main (p mo : List UInt8) (ka r : Nat) (u v : Value) (w : World) (hu : Rd w u (p.map B)) (hv : Rd w v (mo.map B)) (hp : 1 ≤ p.length ∧ p.length ≤ 200) (hm : mo.length ≤ 300) (hka : ka ≤ 255) (hr255 : r ≤ 255) :
    Calls Try.prog 5 #[u, v, .int .u8 (ka : Int), .int .u8 (r : Int)] w fun e w' => e = .returned (.bool true) ∧ Ext w w' := by
  obtain ⟨A, c, rfl, hlc, hcm⟩ := hu.sliceN (List.length_map _)
  obtain ⟨A', c', rfl, hlc', hcm'⟩ := hv.sliceN (List.length_map _)
  unfold maxLen at hcm hcm'
  have hp4 : 1 ≤ p.length ∧ p.length ≤ 4000 := ⟨hp.1, by omega⟩
  have hl := frameB_len hp4
  have h8 := numB_len8 (n := p.length) (by omega)
  obtain ⟨F, hF⟩ : ∃ F, F = frameB p := ⟨_, rfl⟩
  obtain ⟨N, hN⟩ : ∃ N, F.length = N := ⟨_, rfl⟩
  have hN1 : N ≤ 300 := by rw [← hN, hF]; omega
  have hN0 : 0 < N := by rw [← hN, hF]; omega
  have hget : getF (F ++ mo) 0 = (p, (N : Int), 1) := by
    have := getF_put hp4 [] mo
    rw [← hF] at this
    simpa [hN] using this
  obtain ⟨k, hk⟩ : ∃ k, ka % N = k := ⟨_, rfl⟩
  have hkN : k < N := by rw [← hk]; exact Nat.mod_lt _ hN0
  have hk2 : (ka : Int) % (N : Int) = (k : Int) := by rw [← hk]; exact (Int.natCast_emod ka N).symm
  have htorn : getF (F.take k ++ List.replicate r 0) 0 = ([], 0, if k = 0 then 0 else 2) := by
    rw [hF]
    exact getF_torn hp4 k r (by rw [← hF, hN]; exact hkN)
  have HF := Lib.hid hF
  have HN := Lib.hid hN
  have HG := Lib.hid hget
  have HT := Lib.hid htorn
  obtain ⟨hp1, hp2⟩ := hp
  have hp0 : ((p.length : Int) == 0) = false := by rw [beq_eq_false_iff_ne]; omega
  clear hF hN hget htorn hl h8 hp4 hk
  go_enter Try.func5, Try.ntmps5
  go_wp2_with fail
  refine (alive_any _).mono ?_
  rintro e w1 ⟨rfl, hx1⟩
  have hp1' := hu.ext hx1
  go_wp2_with fail
  refine (FramePut_rd p _ _ hp1').mono ?_
  rintro e w2 ⟨v2, rfl, hr2, hx2⟩
  rw [← HF.out] at hr2
  obtain ⟨A2, c2, rfl, hc2, hcm2⟩ := hr2.sliceN (n := N) (by rw [List.length_map, HN.out])
  unfold maxLen at hcm2
  have hx2 := Ext.trans hx1 hx2
  have hm2 := hv.ext hx2
  go_wp2_with (first | (at_builtin; refine app_u8 rfl _ _ rfl w2.heap.size _ [] rfl (World.ownsRow_nil _ _ _ _) _ F rfl hr2 (by simp; have := HN.out; omega) (Nat.le_refl _) ?_; intro v3 w3 hg3; rw [List.nil_append] at hg3; obtain ⟨A3, c3, rfl⟩ := hg3.slice_ (n := N) (by rw [List.length_map, HN.out])) | (at_builtin; refine app_u8 rfl _ _ rfl w2.heap.size _ _ rfl hg3.1 _ mo rfl (hm2.ext hg3.ext) (by rw [List.length_map, HN.out]; omega) hg3.size ?_; intro v4 w4 hh4; have hg4 := hg3.trans hh4; rw [← List.map_append] at hg4; obtain ⟨A4, c4, rfl⟩ := hg4.slice_ (n := N + mo.length) (by rw [List.length_map, List.length_append, HN.out]); clear hh4))
  have hr4 := Rd.own hg4.own
  have hx4 := Ext.trans hx2 hg4.ext
  have hr2 := hr2.ext hg4.ext
  have hp4 := hp1'.ext (Ext.trans ‹Ext w1 w2› hg4.ext)
  clear hg3 hg4 hm2 hx1 hx2
  refine (FrameGet_rd _ _ 0 _ hr4).mono ?_
  rintro e w5 ⟨v5, rfl, hr5, hx5⟩
  rw [HG.out] at hr5 ⊢
  obtain ⟨A5, c5, rfl, _, _⟩ := hr5.sliceN (List.length_map _)
  have hr2 := hr2.ext hx5
  have hp5 := hp4.ext hx5
  have hx5 := Ext.trans hx4 hx5
  clear hr4 hp4 hx4
  go_wp2_with fail
  refine (Bytes_any p p _ _ _ hp5 hr5).mono ?_
  rintro e w6 ⟨rfl, n6, rfl⟩
  simp only [decide_true]
  have hr2 := hr2.ext (Below.drewN' (Ext.refl _) n6)
  have hx6 := Below.drewN' hx5 n6
  clear hr5 hp5 hx5
  generalize w5.drewN n6 = w7 at *
  go_wp2_with (refine make_u8 rfl _ _ rfl (k + r) (congrArg (Value.int .i64) (Int.natCast_add k r).symm) (congrArg (Value.int .i64) (Int.natCast_add k r).symm) (by omega) ?_; intro g w8 hg0 hg8)
  obtain ⟨X, hX⟩ : ∃ X, X = F.take k ++ List.replicate r 0 := ⟨_, rfl⟩
  have hXl : X.length = k + r := by rw [hX, List.length_append, List.length_take, List.length_replicate, HN.out]; omega
  have hXi : ∀ i, i < k → X[i]? = F[i]? := fun i hi => by rw [hX, List.getElem?_append_left (by rw [List.length_take, HN.out]; omega), List.getElem?_take, if_pos hi]
  have hXk : X.take k ++ List.replicate r 0 = X := by rw [hX, List.take_left' (by rw [List.length_take, HN.out]; omega)]
  have HX := Lib.hid hX
  have HXi := Lib.hid hXi
  have HXk := Lib.hid hXk
  have HXl := Lib.hid hXl
  clear hX hXi hXk hXl
  obtain ⟨bf, of_, rfl, hbf, hcf⟩ := hr2.get (by rw [List.length_map, HN.out]; exact hN0)
  have HCF := Lib.hid hcf
  clear hcf
  go_loopw [16] (fun i wr => ∃ j : Nat, j ≤ k ∧ i = .int .i64 j ∧ Grew w7.heap.size 5 (.slice none 0 0) w7 ((X.take j ++ List.replicate (k + r - j) 0).map B) (.slice (some ⟨g, 0, none⟩) (k + r) (k + r)) wr) (fun i _ => k - (intOf i).toNat)
  case atStart => exact ⟨0, Nat.zero_le _, rfl, hg8⟩
  case round =>
    obtain ⟨j, hj, rfl, hgj⟩ := hrel
    by_cases hlt : j < k
    · have hlX : (X.take j ++ List.replicate (k + r - j) (0 : UInt8)).length = k + r := by rw [List.length_append, List.length_take, List.length_replicate, HXl.out]; omega
      have hlF : j < F.length := by rw [HN.out]; omega
      have cf := hgj.ext.cellOf (HCF.out j _ (by rw [List.getElem?_map, List.getElem?_eq_getElem hlF]; rfl)) hbf
      have hfr := hgj.frozenAt j
      have hc0 := hgj.cellAt j (by rw [List.length_map, hlX]; omega)
      rw [List.getElem?_map, List.getElem?_eq_getElem (by rw [hlX]; omega), Option.map_some] at hc0
      have hset := hgj.set j (B F[j])
      rw [← List.map_set, fill_set HXl.out (by omega) (by rw [HXi.out j hlt, List.getElem?_eq_getElem hlF])] at hset
      have HS := Lib.hid hset
      generalize (X.take j ++ List.replicate (k + r - j) (0 : UInt8))[j]'_ = z at *
      generalize hfj : F[j] = fj at *
      clear hfj hset hlX
      simp only [B] at cf hc0
      go_wp2
      go_roundw
      case rel => exact ⟨j + 1, by omega, by go_num, HS.out⟩
      case measure => simp [intOf]; omega
    · obtain rfl : j = k := by omega
      have hr9 := Rd.own hgj.own
      have hX : X.take j ++ List.replicate (j + r - j) 0 = F.take j ++ List.replicate r 0 := by rw [Nat.add_sub_cancel_left, HXk.out, HX.out]
      rw [hX] at hr9
      have hx9 := Ext.trans hx6 hgj.ext
      clear hX hgj
      go_wp2_with fail
      refine (FrameGet_rd _ _ 0 _ hr9).mono ?_
      rintro e w10 ⟨v10, rfl, hr10, hx10⟩
      rw [HT.out] at hr10 ⊢
      obtain ⟨A10, c10, rfl, _, _⟩ := hr10.sliceN (n := 0) rfl
      have hx11 := Ext.trans hx9 hx10
      clear hr10 hr9 hx9 hx10
      rcases Nat.eq_zero_or_pos j with h0 | h0
      · subst h0
        go_wp2
        go_ret
        exact ⟨by simp, hx11⟩
      · have hne : ((j : Int) == 0) = false := by rw [beq_eq_false_iff_ne]; omega
        rw [if_neg (by omega)]
        go_wp2
        go_ret
        exact ⟨by simp, hx11⟩

set_option maxHeartbeats 400000 in
theorem FrameBack_skip (p mo : List UInt8) (ka r : Nat) (u v : Value) (w : World) (hu : Rd w u (p.map B)) (hv : Rd w v (mo.map B)) (h : p.length < 1 ∨ (1 ≤ p.length ∧ 200 < p.length) ∨ (1 ≤ p.length ∧ p.length ≤ 200 ∧ 300 < mo.length)) :
    Calls Try.prog 5 #[u, v, .int .u8 (ka : Int), .int .u8 (r : Int)] w fun e w' => e = .returned (.bool true) ∧ Ext w w' := by
  obtain ⟨A, c, rfl, hlc, hcm⟩ := hu.sliceN (List.length_map _)
  obtain ⟨A', c', rfl, hlc', hcm'⟩ := hv.sliceN (List.length_map _)
  unfold maxLen at hcm hcm'
  rcases h with h | ⟨h, h2⟩ | ⟨h, h2, h3⟩
  · have h0 : ((p.length : Int) == 0) = true := by rw [beq_iff_eq]; omega
    go_enter Try.func5, Try.ntmps5
    go_wp2_with fail
    refine (alive_any _).mono ?_
    rintro e w1 ⟨rfl, hx1⟩
    go_wp2
    go_ret
    exact ⟨rfl, hx1⟩

  · have h0 : ((p.length : Int) == 0) = false := by rw [beq_eq_false_iff_ne]; omega
    go_enter Try.func5, Try.ntmps5
    go_wp2_with fail
    refine (alive_any _).mono ?_
    rintro e w1 ⟨rfl, hx1⟩
    go_wp2
    go_ret
    exact ⟨rfl, hx1⟩

  · have h0 : ((p.length : Int) == 0) = false := by rw [beq_eq_false_iff_ne]; omega
    go_enter Try.func5, Try.ntmps5
    go_wp2_with fail
    refine (alive_any _).mono ?_
    rintro e w1 ⟨rfl, hx1⟩
    go_wp2
    go_ret
    exact ⟨rfl, hx1⟩

theorem FrameBack_calls (p mo : List UInt8) (ka r : UInt8) (u v : Value) (w : World) (hu : Rd w u (p.map B)) (hv : Rd w v (mo.map B)) :
    Calls Try.prog 5 #[u, v, B ka, B r] w fun e w' => e = .returned (.bool true) ∧ Ext w w' := by
  have h1 := ka.toNat_lt
  have h2 := r.toNat_lt
  by_cases h : 1 ≤ p.length ∧ p.length ≤ 200 ∧ mo.length ≤ 300
  · exact FrameBack_main p mo ka.toNat r.toNat u v w hu hv ⟨h.1, h.2.1⟩ h.2.2 (by omega) (by omega)
  · exact FrameBack_skip p mo ka.toNat r.toNat u v w hu hv (by omega)

set_option maxRecDepth 100000 in
theorem FrameBack_lifted (os : Os) (started : os.Started) (H : Type) (enc : TypeId × Value → H) :
    ReturnsInHanded {} Try.checked os 5 .any (Rows.frameBackSpec.pre6 enc Try.prog Try.f5 Rows.frameBackRow.domain false) (Rows.frameBackSpec.post enc Try.prog Try.f5 false true false false) := by
  refine law_lift (C := Try.checked) (tb := 4) Try.ownKnob started (by kernel_rfl) Try.func5 Try.laidOut (by kernel_rfl) rfl Try.underlying4 rfl rfl ?_
    (ChangeSpec.witness6 (enc := enc) (C := Try.checked) false ⟨#[], #[.slice none 0 0, .slice none 0 0, .int .u8 0, .int .u8 0], []⟩ 8 (by kernel_rfl) (by kernel_rfl) (by kernel_rfl) (by kernel_rfl)) ?_
  · intro ds hd
    rw [Try.params5] at hd
    match ds, hd with
    | [d0, d1, d2, d3], _ => rfl
  · intro W base args ds p hval hA hsz
    rw [Try.params5] at hA hval hsz
    obtain ⟨v0, vs0, d0, ds0, p0, q0, hargs, rfl, rfl, h0, r0_⟩ := trodAll_cons hA
    obtain ⟨v1, vs1, d1, ds1, p1, q1, rfl, rfl, rfl, h1, r1_⟩ := trodAll_cons r0_
    obtain ⟨v2, vs2, d2, ds2, p2, q2, rfl, rfl, rfl, h2, r2_⟩ := trodAll_cons r1_
    obtain ⟨v3, vs3, d3, ds3, p3, q3, rfl, rfl, rfl, h3, r3_⟩ := trodAll_cons r2_
    obtain ⟨rfl, rfl, rfl⟩ := trodAll_nil r3_
    obtain rfl : args = #[v0, v1, v2, v3] := by cases args; simp_all
    obtain ⟨a0, r0, s0⟩ := dec_bytes Try.underlying22 Try.underlying5 (by kernel_rfl) (by kernel_rfl) (hval 0 22 v0 rfl rfl) h0 hsz (j := 0) rfl rfl
    obtain ⟨a1, r1, s1⟩ := dec_bytes Try.underlying22 Try.underlying5 (by kernel_rfl) (by kernel_rfl) (hval 1 22 v1 rfl rfl) h1 hsz (j := 1) rfl rfl
    obtain ⟨a2, rfl⟩ := dec_u8 Try.underlying5 (hval 2 5 v2 rfl rfl) h2
    obtain ⟨a3, rfl⟩ := dec_u8 Try.underlying5 (hval 3 5 v3 rfl rfl) h3
    exact FrameBack_calls a0 a1 a2 a3 _ _ W r0 r1

theorem FrameBack_holds : Rows.FrameBackSaid :=
  OpenClaim.holds_of_wide 5 Try.f5 rfl rfl rfl rfl rfl rfl rfl ⟨rfl, rfl, rfl, rfl, rfl⟩ rfl rfl rfl rfl rfl (by kernel_rfl) Try.func5 (by kernel_rfl)
    (of_decide_eq_true (by kernel_rfl)) (by unfold Func.isWrapper; first | (rw [if_pos (by decide +kernel)]; kernel_rfl) | (rw [if_neg (by decide +kernel)]; exact ⟨rfl, rfl⟩))
    (fun os started H enc _ => FrameBack_lifted os started H enc)

end Go.Proofs.Yticgpldpbbfklaa
