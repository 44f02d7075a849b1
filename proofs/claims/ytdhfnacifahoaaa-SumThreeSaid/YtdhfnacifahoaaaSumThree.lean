/- For every input SumThree returns true: of three texts of one length, put together bit by bit, the sum is theirs, put together. No condition. -/
import Derived.Test.YtdhfnacifahoaaaAlive02
import Derived.Test.YtdhfnacifahoaaaAll02
import Derived.Test.YtdhfnacifahoaaaP02d
import Derived.Test.YtdhfnacifahoaaaLift
import Derived.StillTailTactics
namespace Go.Proofs.Ytdhfnacifahoaaa
open Go.ChangeShapes Go.WideShapes Go.ChangeAt Go.RowKit

set_option maxHeartbeats 2000000 in
theorem SumThree_main (la lb lc : List UInt8) (u v x : Value) (w : World) (hu : Rd w u (la.map B)) (hv : Rd w v (lb.map B)) (hx : Rd w x (lc.map B)) (hla : la.length ≤ 300) (hlb : lb.length = la.length) (hlc : lc.length = la.length) :
    Calls Try.prog 7 #[u, v, x] w fun e w' => e = .returned (.bool true) ∧ Ext w w' := by
  obtain ⟨A, c, rfl, hc, hcm⟩ := hu.sliceN (List.length_map _)
  obtain ⟨A', c', rfl, hc', hcm'⟩ := hv.sliceN (List.length_map _)
  obtain ⟨A2, c2, rfl, hc2, hcm2⟩ := hx.sliceN (List.length_map _)
  unfold maxLen at hcm hcm' hcm2
  rw [hlb] at hc' ⊢
  rw [hlc] at hc2 ⊢
  have HB := Lib.hid hlb
  have HC := Lib.hid hlc
  clear hlb hlc
  have hda : decide (300 < la.length) = false := by simp; omega
  go_enter Try.func7, Try.ntmps7
  go_wp2_with fail
  refine (alive_any _).mono ?_
  rintro e w1 ⟨rfl, hx1⟩
  have ha1 := hu.ext hx1
  have hb1 := hv.ext hx1
  have hc1 := hx.ext hx1
  go_wp2_with (refine make_u8 rfl _ _ rfl la.length rfl rfl (by omega) ?_; intro g w2 hg0 hg2)
  obtain ⟨xs, hxs⟩ : ∃ xs, xs = List.zipWith (· ^^^ ·) (List.zipWith (· ^^^ ·) la lb) lc := ⟨_, rfl⟩
  have hxl : xs.length = la.length := by rw [hxs, List.length_zipWith, List.length_zipWith, HB.out, HC.out]; simp
  have HX := Lib.hid hxs
  clear hxs
  go_loopw [9] (fun i wr => ∃ k : Nat, k ≤ la.length ∧ i = .int .i64 k ∧ Grew w1.heap.size 5 (.slice none 0 0) w1 ((xs.take k ++ List.replicate (la.length - k) 0).map B) (.slice (some ⟨g, 0, none⟩) la.length la.length) wr) (fun i _ => la.length - (intOf i).toNat)
  case atStart => exact ⟨0, Nat.zero_le _, rfl, hg2⟩
  case round =>
    obtain ⟨k, hk, rfl, hgk⟩ := hrel
    by_cases hlt : k < la.length
    · have hlen : (xs.take k ++ List.replicate (la.length - k) (0 : UInt8)).length = la.length := by rw [List.length_append, List.length_take, List.length_replicate]; omega
      have hcell := hgk.cellAt k (by rw [List.length_map, hlen]; exact hlt)
      have hfr := hgk.frozenAt k
      have hset := hgk.set k (B xs[k])
      have hak := ha1.ext hgk.ext
      have hbk := hb1.ext hgk.ext
      have hck := hc1.ext hgk.ext
      obtain ⟨ba, oa, rfl, hba, hca⟩ := hak.get (by rw [List.length_map]; omega)
      obtain ⟨bb, ob, rfl, hbb, hcb⟩ := hbk.get (by rw [List.length_map]; have := HB.out; omega)
      obtain ⟨bc, oc, rfl, hbc, hcc⟩ := hck.get (by rw [List.length_map]; have := HC.out; omega)
      have ca := hca k (B la[k]) (by rw [List.getElem?_map, List.getElem?_eq_getElem (by omega)]; rfl)
      have cb := hcb k (B (lb[k]'(by have := HB.out; omega))) (by rw [List.getElem?_map, List.getElem?_eq_getElem (by have := HB.out; omega)]; rfl)
      have cc := hcc k (B (lc[k]'(by have := HC.out; omega))) (by rw [List.getElem?_map, List.getElem?_eq_getElem (by have := HC.out; omega)]; rfl)
      have hxk : xs[k] = la[k] ^^^ lb[k]'(by have := HB.out; omega) ^^^ lc[k]'(by have := HC.out; omega) := by
        have := HX.out
        subst this
        simp
      clear hca hcb hcc hak hbk hck
      have hc0 : ∃ z : UInt8, wr.cell? ⟨g, k, none⟩ = some (B z) := by
        rw [hcell, List.getElem?_map, List.getElem?_eq_getElem (by omega)]
        exact ⟨_, rfl⟩
      obtain ⟨z, hc0⟩ := hc0
      clear hcell
      rw [← List.map_set] at hset
      have hxe : xs[k]? = some xs[k] := List.getElem?_eq_getElem (by omega)
      generalize xs[k] = xk at *
      generalize la[k] = a0 at *
      generalize lb[k]'_ = b0 at *
      generalize lc[k]'_ = c0 at *
      have ho1 := xorU8 a0 b0
      have ho2 := xorU8 (a0 ^^^ b0) c0
      rw [← hxk] at ho2
      rw [fill_set hxl hlt hxe] at hset
      clear hxk hxe hlen
      generalize a0 ^^^ b0 = d0 at *
      simp only [B] at ca cb cc hc0
      go_wp2
      go_still_tail 17, (by kernel_rfl)
      change wpList _ _ _ _ _ wr.drew
      go_wp2
      go_roundw
      case rel => exact ⟨k + 1, by omega, by go_num, Grew.step hset (Below.drewN' (Ext.refl _) 1)⟩
      case measure => simp [intOf]; omega
    · obtain rfl : k = la.length := by omega
      have hr9 := Rd.own hgk.own
      rw [Nat.sub_self, List.replicate_zero, List.append_nil, List.take_of_length_le (by omega)] at hr9
      have ha9 := ha1.ext hgk.ext
      have hb9 := hb1.ext hgk.ext
      have hc9 := hc1.ext hgk.ext
      rw [HB.out] at hb9
      rw [HC.out] at hc9
      have hx9 := Ext.trans hx1 hgk.ext
      have h3 := crcOf_three la lb lc HB.out.symm HC.out.symm
      rw [← HX.out] at h3
      have q1 := xorI64b (crcOf la) (crcOf lb)
      have q2 := xorI64b (crcOf la ^^^ crcOf lb) (crcOf lc)
      rw [← h3] at q2
      clear h3 hgk
      generalize crcOf la ^^^ crcOf lb = dd at *
      go_wp2_with fail
      refine (Of_any xs _ _ hr9).mono ?_
      rintro e w3 ⟨rfl, rfl⟩
      go_wp2_with fail
      refine (Of_any la _ _ ha9).mono ?_
      rintro e w3 ⟨rfl, rfl⟩
      go_wp2_with fail
      refine (Of_any lb _ _ hb9).mono ?_
      rintro e w3 ⟨rfl, rfl⟩
      go_wp2_with fail
      refine (Of_any lc _ _ hc9).mono ?_
      rintro e w3 ⟨rfl, rfl⟩
      go_wp2
      go_ret
      exact ⟨by simp, hx9⟩

theorem SumThree_calls (la lb lc : List UInt8) (u v x : Value) (w : World) (hu : Rd w u (la.map B)) (hv : Rd w v (lb.map B)) (hx : Rd w x (lc.map B)) :
    Calls Try.prog 7 #[u, v, x] w fun e w' => e = .returned (.bool true) ∧ Ext w w' := by
  by_cases hs : la.length ≤ 300 ∧ lb.length = la.length ∧ lc.length = la.length
  · exact SumThree_main la lb lc u v x w hu hv hx hs.1 hs.2.1 hs.2.2
  · have hs3 : 300 < la.length ∨ (la.length ≤ 300 ∧ lb.length ≠ la.length) ∨ (la.length ≤ 300 ∧ lb.length = la.length ∧ lc.length ≠ la.length) := by omega
    clear hs
    obtain ⟨A0, k0, rfl, e0, m0⟩ := hu.sliceN (List.length_map _)
    obtain ⟨A1, k1, rfl, e1, m1⟩ := hv.sliceN (List.length_map _)
    obtain ⟨A2, k2, rfl, e2, m2⟩ := hx.sliceN (List.length_map _)
    unfold maxLen at m0 m1 m2
    rcases hs3 with h | ⟨h, h2⟩ | ⟨h, h2, h3⟩
    case' inl => have d1 : decide (300 < la.length) = true := by simp; omega
    case' inr.inl => have d1 : decide (300 < la.length) = false := by simp; omega
    case' inr.inl => have d2 : ((lb.length : Int) == (la.length : Int)) = false := by rw [beq_eq_false_iff_ne]; omega
    case' inr.inl => have d3 : ((lb.length : Int) != (la.length : Int)) = true := by rw [bne_iff_ne]; omega
    case' inr.inr => have d1 : decide (300 < la.length) = false := by simp; omega
    case' inr.inr => have d2 : ((lb.length : Int) == (la.length : Int)) = true := by rw [beq_iff_eq]; omega
    case' inr.inr => have d3 : ((lb.length : Int) != (la.length : Int)) = false := by rw [bne_eq_false_iff_eq]; omega
    case' inr.inr => have d4 : ((lc.length : Int) == (la.length : Int)) = false := by rw [beq_eq_false_iff_ne]; omega
    case' inr.inr => have d5 : ((lc.length : Int) != (la.length : Int)) = true := by rw [bne_iff_ne]; omega
    case' inr.inl => clear h2
    case' inr.inr => clear h2 h3
    all_goals
      go_enter Try.func7, Try.ntmps7
      go_wp2_with fail
      refine (alive_any _).mono ?_
      rintro e w1 ⟨rfl, hx1⟩
      go_wp2
      go_ret
      exact ⟨rfl, hx1⟩

set_option maxRecDepth 100000 in
theorem SumThree_lifted (os : Os) (started : os.Started) (H : Type) (enc : TypeId × Value → H) :
    ReturnsInHanded {} Try.checked os 7 .any (Rows.sumThreeSpec.pre6 enc Try.prog Try.f7 Rows.sumThreeRow.domain false) (Rows.sumThreeSpec.post enc Try.prog Try.f7 false true false false) := by
  refine law_lift (C := Try.checked) (tb := 4) Try.ownKnob started (by kernel_rfl) Try.func7 Try.laidOut (by kernel_rfl) rfl Try.underlying4 rfl rfl ?_
    (ChangeSpec.witness6 (enc := enc) (C := Try.checked) false ⟨#[], #[.slice none 0 0, .slice none 0 0, .slice none 0 0], []⟩ 8 (by kernel_rfl) (by kernel_rfl) (by kernel_rfl) (by kernel_rfl)) ?_
  · intro ds hd
    rw [Try.params7] at hd
    match ds, hd with
    | [d0, d1, d2], _ => rfl
  · intro W base args ds p hval hA hsz
    rw [Try.params7] at hA hval hsz
    obtain ⟨v0, vs0, d0, ds0, p0, q0, hargs, rfl, rfl, h0, r0_⟩ := trodAll_cons hA
    obtain ⟨v1, vs1, d1, ds1, p1, q1, rfl, rfl, rfl, h1, r1_⟩ := trodAll_cons r0_
    obtain ⟨v2, vs2, d2, ds2, p2, q2, rfl, rfl, rfl, h2, r2_⟩ := trodAll_cons r1_
    obtain ⟨rfl, rfl, rfl⟩ := trodAll_nil r2_
    obtain rfl : args = #[v0, v1, v2] := by cases args; simp_all
    obtain ⟨a0, r0, s0⟩ := dec_bytes Try.underlying22 Try.underlying5 (by kernel_rfl) (by kernel_rfl) (hval 0 22 v0 rfl rfl) h0 hsz (j := 0) rfl rfl
    obtain ⟨a1, r1, s1⟩ := dec_bytes Try.underlying22 Try.underlying5 (by kernel_rfl) (by kernel_rfl) (hval 1 22 v1 rfl rfl) h1 hsz (j := 1) rfl rfl
    obtain ⟨a2, r2, s2⟩ := dec_bytes Try.underlying22 Try.underlying5 (by kernel_rfl) (by kernel_rfl) (hval 2 22 v2 rfl rfl) h2 hsz (j := 2) rfl rfl
    exact SumThree_calls a0 a1 a2 _ _ _ W r0 r1 r2

theorem SumThree_holds : Rows.SumThreeSaid :=
  OpenClaim.holds_of_wide 7 Try.f7 rfl rfl rfl rfl rfl rfl rfl ⟨rfl, rfl, rfl, rfl, rfl⟩ rfl rfl rfl rfl rfl (by kernel_rfl) Try.func7 (by kernel_rfl)
    (of_decide_eq_true (by kernel_rfl)) (by unfold Func.isWrapper; first | (rw [if_pos (by decide +kernel)]; kernel_rfl) | (rw [if_neg (by decide +kernel)]; exact ⟨rfl, rfl⟩))
    (fun os started H enc _ => SumThree_lifted os started H enc)

end Go.Proofs.Ytdhfnacifahoaaa
