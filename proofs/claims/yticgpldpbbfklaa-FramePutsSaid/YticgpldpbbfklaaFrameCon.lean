/- Layer 3, package frame: the contracts of its calls. -/
import Derived.Test.YticgpldpbbfklaaFrameCut
import Derived.Test.YticgpldpbbfklaaClone
import Derived.Test.YticgpldpbbfklaaConcat
import Derived.Test.YticgpldpbbfklaaCodeNum
import Derived.Deep.RegionWith
import Derived.Deep.LoopGhost
namespace Go.Proofs.Yticgpldpbbfklaa
open Go.RowKit

set_option maxHeartbeats 400000 in
theorem FrameGet_rd (bs : List UInt8) (v : Value) (i : Int) (w : World) (hr : Rd w v (bs.map B)) : Calls Try.prog 13 #[v, .int .i64 i] w (GetRd bs i w) := by
  have hn := RdN.of_rd hr
  have hp : (getF bs i).1.length ≤ 4000 := by
    rcases getF_cases bs i with ⟨h1, h2, h3, _⟩ | ⟨h1, _⟩
    · exact (frameAt_some h3).1.2
    · rw [h1]
      exact Nat.zero_le _
  have HP := Lib.hid hp
  clear hp hr
  go_enter Try.func13, Try.ntmps13
  go_wp2_with fail
  refine (cut_any bs _ i _ hn).mono ?_
  rintro e w1 ⟨v1, rfl, hr1, hx1⟩
  have hr1 := hr1.rd
  go_wp2_with fail
  refine (Clone_any _ _ _ hr1 (by have := HP.out; omega)).mono ?_
  rintro e w2 ⟨v2, rfl, hg2⟩
  go_wp2
  go_ret3
  exact ⟨_, rfl, Rd.own hg2.own, hx1.trans hg2.ext⟩

theorem OwnL.base {w0 w : World} {e : TypeId} {v : Value} {ls : List (List UInt8)} (h : OwnL w0 e v w ls) : ∀ k, v.ownBlock = some k → w0.heap.size ≤ k := by
  obtain ⟨vs, h1, _⟩ := h
  intro k hk
  rcases h1.1.2 with ⟨rfl, _⟩ | ⟨g, cap, cur, rfl, hg, _⟩
  · cases hk
  · cases hk
    exact hg
theorem RdN.apart {w0 w : World} {v u : Value} {xs : List Value} (h : Rd w0 v xs) (hx : Ext w0 w) (hu : ∀ k, u.ownBlock = some k → w0.heap.size ≤ k) : RdN w u.ownBlock v xs := by
  obtain ⟨A, c, e, h1, h2, h3⟩ := h
  refine ⟨A, c, e, h1, h2, fun hn => ?_⟩
  obtain ⟨b, o, a, hb, hc⟩ := h3 hn
  refine ⟨b, o, a, Nat.lt_of_lt_of_le hb hx.size, fun he => ?_, fun j u hu => (hx.cell (p := ⟨b, o + j, none⟩) hb).trans (hc j u hu)⟩
  have := hu b he.symm
  omega

def AllHead (bs : List UInt8) (i : Int) (w : World) (u v : Value) (wr : World) : Prop :=
  ∃ (a : Int) (ls : List (List UInt8)), u = .int .i64 a ∧ AllSt bs i ls a 1 ∧ OwnL w 22 v wr ls

set_option maxHeartbeats 1000000 in
theorem FrameAll_rd (bs : List UInt8) (v : Value) (i : Int) (w : World) (hr : Rd w v (bs.map B)) (hlen : bs.length < 1000000000000) : Calls Try.prog 15 #[v, .int .i64 i] w (AllRd bs i w) := by
  have HR := Lib.hid hr
  clear hr
  go_enter Try.func15, Try.ntmps15
  go_wp2_with fail
  refine (Clone_any bs _ _ HR.out (by omega)).mono ?_
  rintro e w0 ⟨v0, rfl, hg0⟩
  have hx0 := hg0.ext
  have hr0 := Rd.own hg0.own
  have HR0 := Lib.hid hr0
  clear hg0 hr0
  go_wp2
  go_loopw [1, 6, 8, 9, 10] (fun u v x y z wr => AllHead bs i w0 u v wr) (fun u _ _ _ _ _ => ((bs.length : Int) + 1 - intOf u).toNat)
  case atStart => exact ⟨i, [], rfl, AllSt.first bs i, OwnL.nil w0 _⟩
  case round =>
    obtain ⟨a, ls, rfl, hst, hown⟩ := hrel
    have HS := Lib.hid hst
    have hn := RdN.apart HR0.out hown.ext hown.base
    clear hst
    go_wp2_with fail
    refine (cut_any bs _ a _ hn).mono ?_
    rintro e w1 ⟨v1, rfl, hr1, hx1⟩
    obtain ⟨A1, c1, rfl, _, _⟩ := hr1.rd.sliceN (List.length_map _)
    have hown1 := hown.step hx1
    by_cases hw : (getF bs a).2.2 = 1
    · have hon := HS.out.on hw
      have hgo := getF_on hw
      have hls := hon.1
      rw [List.length_append, List.length_singleton] at hls
      have HO := Lib.hid hon
      rw [hw]
      clear hon hw HS hown hx1 hn
      generalize (getF bs a).2.1 = a' at *
      generalize (getF bs a).1 = q at *
      go_wp2_with (at_builtin; refine push_row rfl _ _ rfl _ ls hown1 A1 q.length c1 q hr1 rfl rfl (by omega) ?_; intro v2 w2 hown2)
      go_roundw
      case rel => exact ⟨a', ls ++ [q], rfl, HO.out, hown2⟩
      case measure => simp [intOf]; omega
    · have hend := (HS.out.off rfl hw).end_ hw
      have HE := Lib.hid hend
      have hne : ((getF bs a).2.2 != 1) = true := by rw [bne_iff_ne]; exact hw
      have hne2 : ((getF bs a).2.2 == 1) = false := by rw [beq_eq_false_iff_ne]; exact hw
      clear hend HS hown hw hn hr1
      generalize (getF bs a).2.2 = t' at *
      generalize (getF bs a).2.1 = a' at *
      generalize (getF bs a).1 = q at *
      go_wp2
      go_ret2
      rw [AllRd, HE.out]
      exact ⟨_, rfl, hown1.rdl, hx0.trans hown1.ext⟩

theorem FramePut_no (p : List UInt8) (v : Value) (w : World) (hr : Rd w v (p.map B)) (h : ¬ (1 ≤ p.length ∧ p.length ≤ 4000)) :
    Calls Try.prog 11 #[v] w fun e w' => ∃ v', e = .returned v' ∧ Grew w.heap.size 5 (.slice none 0 0) w ((frameB p).map B) v' w' := by
  obtain ⟨A, c, rfl, hlc, hcm⟩ := hr.sliceN (List.length_map _)
  unfold maxLen at hcm
  have hg := Grew.nil (base := w.heap.size) (e := 5) w
  have hf := frameB_no h
  have HG := Lib.hid hg
  have HF := Lib.hid hf
  clear hg hf hr
  by_cases h0 : p.length < 1
  · clear h
    go_enter Try.func11, Try.ntmps11
    go_wp2
    go_ret
    exact ⟨_, rfl, by rw [HF.out]; exact HG.out⟩
  · have h1 : decide ((p.length : Int) > 4000) = true := by simp; omega
    clear h
    go_enter Try.func11, Try.ntmps11
    go_wp2
    go_ret
    exact ⟨_, rfl, by rw [HF.out]; exact HG.out⟩

set_option maxHeartbeats 1000000 in
theorem FramePut_yes (p : List UInt8) (v : Value) (w : World) (hr : Rd w v (p.map B)) (h : 1 ≤ p.length ∧ p.length ≤ 4000) :
    Calls Try.prog 11 #[v] w fun e w' => ∃ v', e = .returned v' ∧ Grew w.heap.size 5 (.slice none 0 0) w ((frameB p).map B) v' w' := by
  obtain ⟨A, c, rfl, hlc, hcm⟩ := hr.sliceN (List.length_map _)
  unfold maxLen at hcm
  have hf := frameB_yes h
  have HF := Lib.hid hf
  obtain ⟨h1, h2⟩ := h
  clear hf
  go_enter Try.func11, Try.ntmps11
  go_wp2_with fail
  refine (Num_yes _ _ (by omega)).mono ?_
  rintro e w1 ⟨v1, rfl, hg1⟩
  have hr1 := Rd.own hg1.own
  have hx1 := hg1.ext
  clear hg1
  obtain ⟨A1, c1, rfl, _, _⟩ := hr1.sliceN (List.length_map _)
  go_wp2_with fail
  refine (Of_any p _ _ (hr.ext hx1)).mono ?_
  rintro e w2 ⟨rfl, rfl⟩
  have hs1 : ((crcOf p).toNat : Int) ≤ 9223372036854775807 := by have := (crcOf p).isLt; omega
  have hs0 : -9223372036854775808 ≤ ((crcOf p).toNat : Int) := by omega
  go_wp2_with fail
  refine (Put_any _ _ hs0 hs1).mono ?_
  rintro e w2 ⟨v2, rfl, hr2, hx2⟩
  obtain ⟨A2, c2, rfl, _, _⟩ := hr2.sliceN (n := 4) rfl
  have hE : Ext w2 (w2.alloc (.cells #[.int .u8 1] 5)) := (Below.refl _ _).alloc (Nat.le_refl _) _
  have h1b := hr1.ext (Ext.trans hx2 hE)
  have h2b := hr2.ext hE
  have hpb := hr.ext (Ext.trans hx1 (Ext.trans hx2 hE))
  have h3b := Rd.litB w2 [1] #[.int .u8 1] 5 1 w2.heap.size (by simp) (by simp [B]) rfl rfl
  have hx3 := Ext.trans hx1 (Ext.trans hx2 hE)
  have hl := RdL.lit (w := w2.alloc (.cells #[.int .u8 1] 5)) 22 [.slice A1 (numB p.length).length c1, .slice A p.length c, .slice A2 4 c2, .slice (some ⟨w2.heap.size, 0, none⟩) 1 1] [numB p.length, p, putB ((crcOf p).toNat : Int), [1]] #[.slice A1 (numB p.length).length c1, .slice A p.length c, .slice A2 4 c2, .slice (some ⟨w2.heap.size, 0, none⟩) 1 1] 4 (w2.heap.size + 1) rfl (by simp) rfl rfl (by simp) (by
    intro i u l hu hl
    match i, hu, hl with
    | 0, hu, hl => cases hu; cases hl; exact h1b
    | 1, hu, hl => cases hu; cases hl; exact hpb
    | 2, hu, hl => cases hu; cases hl; exact h2b
    | 3, hu, hl => cases hu; cases hl; exact h3b
    | (k + 4), hu, hl => simp at hu)
  have hcat : [numB p.length, p, putB ((crcOf p).toNat : Int), [1]].flatten = frameB p := by rw [HF.out]; simp
  have hlen : ([numB p.length, p, putB ((crcOf p).toNat : Int), [1]].flatten).length ≤ 140737488355328 := by
    have := numB_len8 (show p.length < 9007199254740992 by omega)
    rw [hcat, HF.out, List.length_append, List.length_append, List.length_append, putB_len]
    simp
    omega
  have hx4 : Ext w ((w2.alloc (.cells #[.int .u8 1] 5)).alloc (.cells #[.slice A1 (numB p.length).length c1, .slice A p.length c, .slice A2 4 c2, .slice (some ⟨w2.heap.size, 0, none⟩) 1 1] 22)) := Ext.trans hx3 ((Below.refl _ _).alloc (Nat.le_refl _) _)
  have HL := Lib.hid hl
  have HC := Lib.hid hcat
  have HN := Lib.hid hlen
  clear hr hl hcat hlen h1b h2b hpb h3b hr1 hr2 hs1 hs0 hE hx1 hx2 hx3 HF
  go_wp2_with fail
  refine (Concat_any _ _ _ HL.out HN.out).mono ?_
  rintro e w4 ⟨v4, rfl, hg4⟩
  go_wp2
  go_ret
  rw [HC.out] at hg4
  exact ⟨_, rfl, Grew.from_ext hx4 hg4⟩

theorem FramePut_any (p : List UInt8) (v : Value) (w : World) (hr : Rd w v (p.map B)) :
    Calls Try.prog 11 #[v] w fun e w' => ∃ v', e = .returned v' ∧ Grew w.heap.size 5 (.slice none 0 0) w ((frameB p).map B) v' w' := by
  by_cases h : 1 ≤ p.length ∧ p.length ≤ 4000
  · exact FramePut_yes p v w hr h
  · exact FramePut_no p v w hr h

theorem FramePut_rd (p : List UInt8) (v : Value) (w : World) (hr : Rd w v (p.map B)) : Calls Try.prog 11 #[v] w (BytesRd w (frameB p)) :=
  (FramePut_any p v w hr).mono fun _ _ h => BytesRd.of_grew h

end Go.Proofs.Yticgpldpbbfklaa
