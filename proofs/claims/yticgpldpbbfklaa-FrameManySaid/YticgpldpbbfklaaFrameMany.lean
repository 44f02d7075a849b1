/- For every input FrameMany returns true: frames one behind the other are all read, up to what is none. No condition. -/
import Derived.Test.YticgpldpbbfklaaAlive03
import Derived.Test.YticgpldpbbfklaaMem3
import Derived.Test.YticgpldpbbfklaaP03b
import Derived.Test.YticgpldpbbfklaaLift
namespace Go.Proofs.Yticgpldpbbfklaa
open Go.ChangeShapes Go.WideShapes Go.ChangeAt Go.RowKit

theorem catF_snoc (l : List (List UInt8)) (p : List UInt8) : catF (l ++ [p]) = catF l ++ frameB p := by simp [catF]
theorem frameB_le {p : List UInt8} (h : 1 ≤ p.length ∧ p.length ≤ 200) : (frameB p).length ≤ 220 := by
  have := frameB_len (p := p) ⟨h.1, by omega⟩
  have := numB_len8 (n := p.length) (by omega)
  omega
theorem catF_le : ∀ (l : List (List UInt8)), (∀ p ∈ l, 1 ≤ p.length ∧ p.length ≤ 200) → (catF l).length ≤ 220 * l.length
  | [], _ => by simp [catF]
  | p :: l, h => by
    have h1 := frameB_le (h p (List.mem_cons_self ..))
    have h2 := catF_le l (fun q hq => h q (List.mem_cons_of_mem _ hq))
    have e : catF (p :: l) = frameB p ++ catF l := by simp [catF]
    rw [e, List.length_append, List.length_cons]
    omega
theorem take_all {l : List (List UInt8)} {k : Nat} (h : k < l.length) (h1 : ∀ p ∈ l.take k, 1 ≤ p.length ∧ p.length ≤ 200) (h2 : 1 ≤ l[k].length ∧ l[k].length ≤ 200) : ∀ p ∈ l.take (k + 1), 1 ≤ p.length ∧ p.length ≤ 200 := by
  rw [List.take_succ_eq_append_getElem h]
  intro p hp
  rcases List.mem_append.1 hp with hp | hp
  · exact h1 p hp
  · rw [List.mem_singleton.1 hp]
    exact h2

/-- How far the frames have been put. -/
def ManySt (ls : List (List UInt8)) (w1 : World) (v i : Value) (wr : World) : Prop :=
  ∃ k : Nat, k ≤ ls.length ∧ i = .int .i64 k ∧ (∀ p ∈ ls.take k, 1 ≤ p.length ∧ p.length ≤ 200) ∧ Grew w1.heap.size 5 (.slice none 0 0) w1 ((catF (ls.take k)).map B) v wr

set_option maxHeartbeats 2000000 in
theorem FrameMany_main (ls : List (List UInt8)) (mo : List UInt8) (u v : Value) (w : World) (hu : RdL w u ls) (hv : Rd w v (mo.map B)) (h30 : ls.length ≤ 30) (hm : mo.length ≤ 100) :
    Calls Try.prog 6 #[u, v] w fun e w' => e = .returned (.bool true) ∧ Ext w w' := by
  obtain ⟨A, c, rfl, hlc, hcm⟩ := hu.sliceN rfl
  obtain ⟨A', c', rfl, hlc', hcm'⟩ := hv.sliceN (List.length_map _)
  unfold maxLen at hcm hcm'
  go_enter Try.func6, Try.ntmps6
  go_wp2_with fail
  refine (alive_any _).mono ?_
  rintro e w1 ⟨rfl, hx1⟩
  have hu1 := hu.ext hx1
  have hv1 := hv.ext hx1
  go_wp2
  go_loopw [5, 6] (fun v i wr => ManySt ls w1 v i wr) (fun _ i _ => ls.length - (intOf i).toNat)
  case atStart => exact ⟨0, Nat.zero_le _, rfl, by simp, by simpa [catF] using Grew.nil w1⟩
  case round =>
    obtain ⟨k, hk, rfl, hall, hg⟩ := hrel
    have hcl := catF_le _ hall
    rw [List.length_take] at hcl
    obtain ⟨A5, c5, rfl⟩ := hg.slice_ (n := (catF (ls.take k)).length) (List.length_map _)
    by_cases hlt : k < ls.length
    · have huk := hu1.ext hg.ext
      obtain ⟨b, o, rfl, hb, hcl2⟩ := huk.at (by omega)
      obtain ⟨q, eq, hq⟩ := hcl2 k ls[k] (List.getElem?_eq_getElem hlt)
      obtain ⟨Q, cq, rfl, hcq, hcmq⟩ := hq.sliceN (List.length_map _)
      unfold maxLen at hcmq
      clear hcl2 huk
      by_cases hok : 1 ≤ ls[k].length ∧ ls[k].length ≤ 200
      · have hall2 := take_all hlt hall hok
        have hfl := frameB_le hok
        have HA := Lib.hid hall2
        have HH := Lib.hid hall
        obtain ⟨hok1, hok2⟩ := hok
        clear hall hall2
        go_wp2_with fail
        refine (FramePut_rd ls[k] _ _ hq).mono ?_
        rintro e w2 ⟨v2, rfl, hr2, hx2⟩
        obtain ⟨A2, c2, rfl, _, _⟩ := hr2.sliceN (List.length_map _)
        have hg2 := hg.step hx2
        clear hg
        go_wp2_with (at_builtin; refine app_u8 rfl _ _ rfl w1.heap.size _ _ rfl hg2.1 _ (frameB ls[k]) rfl hr2 (by rw [List.length_map]; omega) hg2.size ?_; intro v3 w3 hh3; have hg3 := hg2.trans hh3; rw [← List.map_append, ← catF_snoc, ← List.take_succ_eq_append_getElem hlt] at hg3)
        go_roundw
        case rel => exact ⟨k + 1, by omega, by go_num, HA.out, hg3⟩
        case measure => simp [intOf]; omega
      · have hx := Ext.trans hx1 hg.ext
        have hc : ls[k].length < 1 ∨ 200 < ls[k].length := by omega
        clear hok hall hg hq
        generalize ls[k].length = y at *
        rcases hc with hc | hc
        · go_wp2
          go_ret
          exact ⟨rfl, hx⟩
        · go_wp2
          go_ret
          exact ⟨rfl, hx⟩
    · obtain rfl : k = ls.length := by omega
      rw [List.take_length] at hall hg hcl ⊢
      have hv2 := hv1.ext hg.ext
      have HH := Lib.hid hall
      clear hall
      have hcat := allB_cat ls mo (fun p hp => ⟨(HH.out p hp).1, by have := (HH.out p hp).2; omega⟩)
      have hend0 := allB_end (catF ls ++ mo) ((catF ls).length : Nat)
      have hend := allB_end (catF ls ++ mo) 0
      have hfst := congrArg Prod.fst hcat
      have he2 := congrArg Prod.snd hcat
      simp only at hfst
      simp only at he2
      rw [← he2, List.length_append] at hend0
      rw [List.length_append] at hend
      obtain ⟨m, hm1⟩ : ∃ m : Nat, (allB (catF ls ++ mo) 0).2 = m := ⟨(allB (catF ls ++ mo) 0).2.toNat, by omega⟩
      obtain ⟨TT, hT⟩ : ∃ TT, TT = (allB (catF ls ++ mo) ((catF ls).length : Nat)).1 := ⟨_, rfl⟩
      have hall0 : allB (catF ls ++ mo) 0 = (ls ++ TT, (m : Int)) := Prod.ext (by rw [hT]; exact hfst) hm1
      rw [hm1] at hend hend0
      have hm2 : (catF ls).length ≤ m := by omega
      have hm3 : m ≤ (catF ls).length + mo.length := by omega
      have hw := hend.1
      have H0 := Lib.hid hall0
      have HW := Lib.hid hw
      clear hcat hfst hend0 hend he2 hm1 hT hall0 hw
      rw [Nat.min_self] at hcl
      go_wp2_with (at_builtin; refine app_u8 rfl _ _ rfl w1.heap.size _ _ rfl hg.1 _ mo rfl hv2 (by rw [List.length_map]; omega) hg.size ?_; intro v3 w3 hh3; have hg3 := hg.trans hh3; rw [← List.map_append] at hg3; obtain ⟨A3, c3, rfl⟩ := hg3.slice_ (n := (catF ls).length + mo.length) (by rw [List.length_map, List.length_append]))
      have hx3 := Ext.trans hx1 hg3.ext
      have hu3 := hu1.ext hg3.ext
      have hr3 := Rd.own hg3.own
      clear hg3 hg hv2
      refine (FrameAll_rd _ _ 0 _ hr3 (by rw [List.length_append]; omega)).mono ?_
      rintro e w4 ⟨v4, rfl, hr4, hx4⟩
      rw [H0.out] at hr4 ⊢
      obtain ⟨A4, c4, rfl, hc4, hcm4⟩ := hr4.sliceN (n := ls.length + TT.length) (by simp)
      unfold maxLen at hcm4
      have hu4 := hu3.ext hx4
      have hr5 := hr3.ext hx4
      have hx5 := Ext.trans hx3 hx4
      clear hu3 hr3 hx3 hx4
      go_wp2
      go_loopw [10] (fun i wr => ∃ k z : Nat, i = .int .i64 k ∧ k ≤ ls.length ∧ wr = w4.drewN z) (fun i _ => ls.length - (intOf i).toNat)
      case atStart => exact ⟨0, 0, rfl, Nat.zero_le _, rfl⟩
      case round =>
        obtain ⟨k, z, rfl, hk, hwz⟩ := hrel
        have hr6 := hr4.ext (Below.drewN' (Ext.refl w4) z)
        have hu6 := hu4.ext (Below.drewN' (Ext.refl w4) z)
        have hb6 := hr5.ext (Below.drewN' (Ext.refl w4) z)
        have hx6 := Below.drewN' hx5 z
        rw [← hwz] at hr6 hu6 hb6 hx6
        have HZ := Lib.hid hwz
        clear hwz
        by_cases hlt : k < ls.length
        · obtain ⟨b, o, rfl, hb, hc1⟩ := hr6.at (by rw [List.length_append]; omega)
          obtain ⟨b', o', rfl, hb', hc2⟩ := hu6.at (by omega)
          obtain ⟨p, e1, hp⟩ := hc1 k ls[k] (by rw [List.getElem?_append_left hlt, List.getElem?_eq_getElem hlt])
          obtain ⟨q, e2, hq⟩ := hc2 k ls[k] (List.getElem?_eq_getElem hlt)
          obtain ⟨P, cp, rfl, _, _⟩ := hp.sliceN (List.length_map _)
          obtain ⟨Q, cq, rfl, _, _⟩ := hq.sliceN (List.length_map _)
          clear hc1 hc2
          have hcall : ∀ n, Calls Try.prog 10 #[.slice P ls[k].length cp, .slice Q ls[k].length cq] (wr.drewN n) fun e w' => e = .returned (.bool true) ∧ ∃ m, w' = (wr.drewN n).drewN m := fun n => by
            have := Bytes_any ls[k] ls[k] _ _ _ (hp.ext (Below.drewN' (Ext.refl wr) n)) (hq.ext (Below.drewN' (Ext.refl wr) n))
            rw [decide_eq_true rfl] at this
            exact this
          have HC := Lib.hid hcall
          clear hcall
          generalize ls[k].length = y at *
          go_wp2_with fail
          go_quiet ((go_at_call 10; exact Calls.quiet_of (HC.out _)))
          go_wp2
          go_roundw
          case rel => exact ⟨k + 1, _, by go_num, by omega, by rw [HZ.out]; exact World.drewN_drewN _ _ _⟩
          case measure => simp [intOf]; omega
        · obtain rfl : k = ls.length := by omega
          go_wp2_with fail
          refine (FrameGet_rd _ _ m _ hb6).mono ?_
          rintro e w7 ⟨v7, rfl, hr7, hx7⟩
          obtain ⟨A7, c7, rfl, _, _⟩ := hr7.sliceN (List.length_map _)
          have hx8 := Ext.trans hx6 hx7
          have hne := HW.out
          have hb2 : ((getF (catF ls ++ mo) (m : Int)).2.2 != 1) = true := by rw [bne_iff_ne]; exact hne
          have hb1 : ((getF (catF ls ++ mo) (m : Int)).2.2 == 1) = false := by rw [beq_eq_false_iff_ne]; exact hne
          clear hr7 hne
          generalize (getF (catF ls ++ mo) (m : Int)).2.2 = t at *
          generalize (getF (catF ls ++ mo) (m : Int)).2.1 = t' at *
          go_wp2
          go_ret
          exact ⟨by simp [hb2], hx8⟩

theorem FrameMany_calls (ls : List (List UInt8)) (mo : List UInt8) (u v : Value) (w : World) (hu : RdL w u ls) (hv : Rd w v (mo.map B)) :
    Calls Try.prog 6 #[u, v] w fun e w' => e = .returned (.bool true) ∧ Ext w w' := by
  by_cases h30 : ls.length ≤ 30
  · by_cases hm : mo.length ≤ 100
    · exact FrameMany_main ls mo u v w hu hv h30 hm
    · obtain ⟨A, c, rfl, hlc, hcm⟩ := hu.sliceN rfl
      obtain ⟨A', c', rfl, hlc', hcm'⟩ := hv.sliceN (List.length_map _)
      unfold maxLen at hcm hcm'
      have d1 : decide (30 < ls.length) = false := by simp; omega
      have d2 : decide (100 < mo.length) = true := by simp; omega
      go_enter Try.func6, Try.ntmps6
      go_wp2_with fail
      refine (alive_any _).mono ?_
      rintro e w1 ⟨rfl, hx1⟩
      go_wp2
      go_ret
      exact ⟨rfl, hx1⟩

  · obtain ⟨A, c, rfl, hlc, hcm⟩ := hu.sliceN rfl
    obtain ⟨A', c', rfl, hlc', hcm'⟩ := hv.sliceN (List.length_map _)
    unfold maxLen at hcm hcm'
    have d1 : decide (30 < ls.length) = true := by simp; omega
    go_enter Try.func6, Try.ntmps6
    go_wp2_with fail
    refine (alive_any _).mono ?_
    rintro e w1 ⟨rfl, hx1⟩
    go_wp2
    go_ret
    exact ⟨rfl, hx1⟩

set_option maxRecDepth 100000 in
theorem FrameMany_lifted (os : Os) (started : os.Started) (H : Type) (enc : TypeId × Value → H) :
    ReturnsInHanded {} Try.checked os 6 .any (Rows.frameManySpec.pre6 enc Try.prog Try.f6 Rows.frameManyRow.domain false) (Rows.frameManySpec.post enc Try.prog Try.f6 false true false false) := by
  refine law_lift (C := Try.checked) (tb := 4) Try.ownKnob started (by kernel_rfl) Try.func6 Try.laidOut (by kernel_rfl) rfl Try.underlying4 rfl rfl ?_
    (ChangeSpec.witness6 (enc := enc) (C := Try.checked) false ⟨#[], #[.slice none 0 0, .slice none 0 0], []⟩ 8 (by kernel_rfl) (by kernel_rfl) (by kernel_rfl) (by kernel_rfl)) ?_
  · intro ds hd
    rw [Try.params6] at hd
    match ds, hd with
    | [d0, d1], _ => rfl
  · intro W base args ds p hval hA hsz
    rw [Try.params6] at hA hval hsz
    obtain ⟨v0, vs0, d0, ds0, p0, q0, hargs, rfl, rfl, h0, r0_⟩ := trodAll_cons hA
    obtain ⟨v1, vs1, d1, ds1, p1, q1, rfl, rfl, rfl, h1, r1_⟩ := trodAll_cons r0_
    obtain ⟨rfl, rfl, rfl⟩ := trodAll_nil r1_
    obtain rfl : args = #[v0, v1] := by cases args; simp_all
    obtain ⟨a0, r0⟩ := dec_rows Try.underlying29 Try.underlying22 Try.underlying5 (by kernel_rfl) (by kernel_rfl) (hval 0 29 v0 rfl rfl) h0
    obtain ⟨a1, r1, s1⟩ := dec_bytes Try.underlying22 Try.underlying5 (by kernel_rfl) (by kernel_rfl) (hval 1 22 v1 rfl rfl) h1 hsz (j := 1) rfl rfl
    exact FrameMany_calls a0 a1 _ _ W r0 r1

theorem FrameMany_holds : Rows.FrameManySaid :=
  OpenClaim.holds_of_wide 6 Try.f6 rfl rfl rfl rfl rfl rfl rfl ⟨rfl, rfl, rfl, rfl, rfl⟩ rfl rfl rfl rfl rfl (by kernel_rfl) Try.func6 (by kernel_rfl)
    (of_decide_eq_true (by kernel_rfl)) (by unfold Func.isWrapper; first | (rw [if_pos (by decide +kernel)]; kernel_rfl) | (rw [if_neg (by decide +kernel)]; exact ⟨rfl, rfl⟩))
    (fun os started H enc _ => FrameMany_lifted os started H enc)

end Go.Proofs.Yticgpldpbbfklaa
