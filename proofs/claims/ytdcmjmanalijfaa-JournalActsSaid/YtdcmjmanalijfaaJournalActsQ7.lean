/- Texts that the proof of JournalActs rests on, one behind the other. -/
import Derived.Test.YtdcmjmanalijfaaJournalActsQ6
import Derived.Outline
import Derived.BigQuiet
import Derived.Deep.RegionHeld3
import Derived.Deep.QuietTactic
import Derived.Lib.AppendZeros
import Derived.Deep.RegionWith

/- Layer 3, package frame: what stands at a place, the payload a piece of the bytes. -/
namespace Go.Proofs.Ytdcmjmanalijfaa
open Go.RowKit

theorem RdN.cut {w : World} {row : Nat → Prop} {b o N c : Nat} {xs : List Value} (h : RdN w row (.slice (some ⟨b, o, none⟩) N c) xs) (lo n m : Nat) (hn : 0 < n) (hnm : n ≤ m) (hle : lo + n ≤ xs.length) (hm : m ≤ c) :
    RdN w row (.slice (some ⟨b, o + lo, none⟩) n m) ((xs.drop lo).take n) := by
  obtain ⟨A', c', e, h1, h2, h3⟩ := h
  cases e
  have hl : ((xs.drop lo).take n).length = n := by rw [List.length_take, List.length_drop]; omega
  refine ⟨_, _, by rw [hl], by omega, by omega, fun _ => ?_⟩
  obtain ⟨b', o', h, hb, hr, hc⟩ := h3 (by omega)
  cases h
  refine ⟨b, o + lo, rfl, hb, hr, fun j u hu => ?_⟩
  rw [List.getElem?_take] at hu
  split at hu
  · rw [List.getElem?_drop] at hu
    rw [Nat.add_assoc]
    exact hc _ u hu
  · cases hu
theorem RdN.nil (w : World) (row : Nat → Prop) : RdN w row (.slice none 0 0) [] := ⟨none, 0, rfl, Nat.le_refl _, Nat.zero_le _, fun h => absurd h (by simp)⟩
theorem RdN.of_rd {w : World} {v : Value} {xs : List Value} (h : Rd w v xs) : RdN w (fun _ => True) v xs := by
  obtain ⟨A, c, e, h1, h2, h3⟩ := h
  refine ⟨A, c, e, h1, h2, fun hn => ?_⟩
  obtain ⟨b, o, a, hb, hc⟩ := h3 hn
  exact ⟨b, o, a, hb, by simp, hc⟩

/-- What cut answers: the payload is a piece of the bytes. -/
def CutPost (row : Nat → Prop) (bs : List UInt8) (i : Int) (w : World) (e : Ending) (w' : World) : Prop :=
  ∃ v', e = .returned (.tuple #[v', .int .i64 (getF bs i).2.1, .int .i64 (getF bs i).2.2]) ∧ RdN w' row v' ((getF bs i).1.map B) ∧ Ext w w'

theorem CutPost.none_ {row : Nat → Prop} {bs : List UInt8} {i : Int} {w w' : World} {t : Int} (h : getF bs i = ([], i, t)) (hx : Ext w w') : CutPost row bs i w (.returned (.tuple #[.slice none 0 0, .int .i64 i, .int .i64 t])) w' := by
  rw [CutPost, h]
  exact ⟨_, rfl, RdN.nil _ _, hx⟩

section
variable {row : Nat → Prop}
theorem cut_low (bs : List UInt8) (v : Value) (i : Int) (w : World) (hr : RdN w row v (bs.map B)) (h : i < 0 ∨ (bs.length : Int) < i) : Calls Try.prog 82 #[v, .int .i64 i] w (CutPost row bs i w) := by
  obtain ⟨A, c, rfl, hlc, hcm⟩ := hr.rd.sliceN (List.length_map _)
  unfold maxLen at hcm
  have hp := CutPost.none_ (row := row) (w := w) (getF_low h) (Ext.refl w)
  have HP := Lib.hid hp
  clear hp
  by_cases h0 : i < 0
  · clear h
    go_enter Try.func82, Try.ntmps82
    go_wp2
    go_ret3
    exact HP.out
  · have h1 : decide ((bs.length : Int) < i) = true := by simp; omega
    clear h
    go_enter Try.func82, Try.ntmps82
    go_wp2
    go_ret3
    exact HP.out

theorem cut_done (bs : List UInt8) (v : Value) (w : World) (hr : RdN w row v (bs.map B)) : Calls Try.prog 82 #[v, .int .i64 (bs.length : Int)] w (CutPost row bs (bs.length : Int) w) := by
  obtain ⟨A, c, rfl, hlc, hcm⟩ := hr.rd.sliceN (List.length_map _)
  unfold maxLen at hcm
  have hp := CutPost.none_ (row := row) (w := w) (getF_done bs) (Ext.refl w)
  have HP := Lib.hid hp
  clear hp
  go_enter Try.func82, Try.ntmps82
  go_wp2
  go_ret3
  exact HP.out

theorem cut_nought (bs : List UInt8) (v : Value) (k : Nat) (w : World) (hr : RdN w row v (bs.map B)) (h : k < bs.length) (h0 : bs[k] = 0) : Calls Try.prog 82 #[v, .int .i64 (k : Int)] w (CutPost row bs (k : Int) w) := by
  obtain ⟨A, c, rfl, hlc, hcm⟩ := hr.rd.sliceN (List.length_map _)
  unfold maxLen at hcm
  have hp := CutPost.none_ (row := row) (w := w) (getF_nought h h0) (Ext.refl w)
  have HP := Lib.hid hp
  clear hp
  obtain ⟨b, o, rfl, hb, hc⟩ := hr.rd.get (by rw [List.length_map]; omega)
  have e1 : w.cell? ⟨b, o + k, none⟩ = some (.int .u8 0) := hc k _ (by rw [List.getElem?_map, List.getElem?_eq_getElem h, h0]; rfl)
  clear hc h0
  go_enter Try.func82, Try.ntmps82
  go_wp2
  go_ret3
  exact HP.out

theorem cut_num (bs : List UInt8) (v : Value) (k : Nat) (w : World) (hr : RdN w row v (bs.map B)) (h : k < bs.length) (h0 : bs[k] ≠ 0) (hg : getN (bs.drop k) = none) : Calls Try.prog 82 #[v, .int .i64 (k : Int)] w (CutPost row bs (k : Int) w) := by
  obtain ⟨A, c, rfl, hlc, hcm⟩ := hr.rd.sliceN (List.length_map _)
  unfold maxLen at hcm
  have hf : getF bs (k : Int) = ([], (k : Int), 2) := by rw [getF_there h h0, frameAt_none hg]
  have hp := CutPost.none_ (row := row) (w := w) hf (Ext.refl w)
  have HP := Lib.hid hp
  have HG := Lib.hid hg
  clear hf hp hg
  have hr0 := hr.rd
  obtain ⟨b, o, rfl, hb, hc⟩ := hr0.get (by rw [List.length_map]; omega)
  have e1 : w.cell? ⟨b, o + k, none⟩ = some (B bs[k]) := hc k _ (by rw [List.getElem?_map, List.getElem?_eq_getElem h]; rfl)
  have hne : ((bs[k].toNat : Int) == 0) = false := by rw [beq_eq_false_iff_ne]; intro e; exact h0 (UInt8.toNat_inj.1 (by show bs[k].toNat = 0; omega))
  have hrr := hr.rd
  generalize bs[k] = x at *
  simp only [B] at e1
  clear hc h0
  go_enter Try.func82, Try.ntmps82
  go_wp2_with fail
  refine (GetNum_none bs _ k _ hrr (by omega) HG.out).mono ?_
  rintro e w1 ⟨rfl, rfl⟩
  go_wp2
  go_ret3
  exact HP.out

/-- The number of a frame's bytes isn't 0 where the first byte isn't. -/
theorem getN_pos {bs : List UInt8} {k n j : Nat} (h : k < bs.length) (h0 : bs[k] ≠ 0) (hg : getN (bs.drop k) = some (n, j)) : 1 ≤ n := by
  rcases Nat.eq_zero_or_pos n with h1 | h1
  · exfalso
    subst h1
    have hle := getN_le hg
    have h2 := getN_get hg
    rw [List.drop_eq_getElem_cons h, numB_lo (by omega)] at h2
    obtain ⟨j', rfl⟩ : ∃ j', j = j' + 1 := ⟨j - 1, by omega⟩
    rw [List.take_succ_cons] at h2
    injection h2 with h3 _
    exact h0 h3.symm
  · exact h1

set_option maxHeartbeats 400000 in
theorem cut_size (bs : List UInt8) (v : Value) (k n j : Nat) (w : World) (hr : RdN w row v (bs.map B)) (h : k < bs.length) (h0 : bs[k] ≠ 0) (hg : getN (bs.drop k) = some (n, j)) (hn : 4000 < n ∨ (n ≤ 4000 ∧ bs.length < k + j + n + 5)) : Calls Try.prog 82 #[v, .int .i64 (k : Int)] w (CutPost row bs (k : Int) w) := by
  obtain ⟨A, c, rfl, hlc, hcm⟩ := hr.rd.sliceN (List.length_map _)
  unfold maxLen at hcm
  have hle := getN_le hg
  rw [List.length_drop] at hle
  have hf : getF bs (k : Int) = ([], (k : Int), 2) := by rw [getF_there h h0, frameAt_no hg (by rw [List.length_drop]; omega)]
  have hp := CutPost.none_ (row := row) (w := w) hf (Ext.refl w)
  have HP := Lib.hid hp
  have HG := Lib.hid hg
  clear hf hp hg
  have hr0 := hr.rd
  obtain ⟨b, o, rfl, hb, hc⟩ := hr0.get (by rw [List.length_map]; omega)
  have e1 : w.cell? ⟨b, o + k, none⟩ = some (B bs[k]) := hc k _ (by rw [List.getElem?_map, List.getElem?_eq_getElem h]; rfl)
  have hne : ((bs[k].toNat : Int) == 0) = false := by rw [beq_eq_false_iff_ne]; intro e; exact h0 (UInt8.toNat_inj.1 (by show bs[k].toNat = 0; omega))
  have hrr := hr.rd
  generalize bs[k] = x at *
  simp only [B] at e1
  clear hc h0
  rcases hn with hn | ⟨hn1, hn2⟩
  all_goals
    go_enter Try.func82, Try.ntmps82
    go_wp2_with fail
    refine (GetNum_some bs _ k n j _ hrr (by omega) HG.out).mono ?_
    rintro e w1 ⟨rfl, rfl⟩
    go_wp2
    go_ret3
    exact HP.out

set_option maxHeartbeats 2000000 in
theorem cut_frame (bs : List UInt8) (v : Value) (k n j : Nat) (w : World) (hr : RdN w row v (bs.map B)) (h : k < bs.length) (h0 : bs[k] ≠ 0) (hg : getN (bs.drop k) = some (n, j)) (hn : n ≤ 4000 ∧ k + j + n + 5 ≤ bs.length) : Calls Try.prog 82 #[v, .int .i64 (k : Int)] w (CutPost row bs (k : Int) w) := by
  obtain ⟨A, c, rfl, hlc, hcm⟩ := hr.rd.sliceN (List.length_map _)
  unfold maxLen at hcm
  have hle := getN_le hg
  have hn0 := getN_pos h h0 hg
  rw [List.length_drop] at hle
  obtain ⟨hn1, hn2⟩ := hn
  have hparts := frame_parts hg ⟨hn0, hn1⟩ (by rw [List.length_drop]; omega)
  have hpay : ((bs.drop k).drop j).take n = (bs.drop (k + j)).take n := by rw [List.drop_drop]
  have hsum : ((bs.drop k).drop (j + n)).take 4 = (bs.drop (k + j + n)).take 4 := by rw [List.drop_drop, Nat.add_assoc]
  have hlast : (bs.drop k)[j + n + 4]? = some bs[k + j + n + 4] := by rw [List.getElem?_drop, List.getElem?_eq_getElem (by omega)]; congr 2; omega
  have his : isB ((bs.drop (k + j)).take (n + 4)) = decide ((bs.drop (k + j + n)).take 4 = putB ((crcOf ((bs.drop (k + j)).take n)).toNat : Int)) := by
    rw [isB]
    have hl : ((bs.drop (k + j)).take (n + 4)).length = n + 4 := by rw [List.length_take, List.length_drop]; omega
    rw [hl, decide_eq_true (by omega), Bool.true_and, Nat.add_sub_cancel, List.drop_take, List.drop_drop, List.take_take, Nat.min_eq_left (by omega), Nat.add_sub_cancel_left]
  rw [hpay, hsum, hlast] at hparts
  have hyes : bs[k + j + n + 4] = 1 → isB ((bs.drop (k + j)).take (n + 4)) = true → getF bs (k : Int) = ((bs.drop (k + j)).take n, (k : Int) + ((j + n + 5 : Nat) : Int), 1) := fun h1 h2 => by
    rw [his, decide_eq_true_iff] at h2
    rw [getF_there h h0, frameAt_yes hg (by rw [List.length_drop, hpay]; exact ⟨⟨hn0, hn1⟩, by omega, hparts.2 ⟨h2, by rw [h1]⟩⟩), hpay]
  have hno : (bs[k + j + n + 4] ≠ 1 ∨ isB ((bs.drop (k + j)).take (n + 4)) = false) → getF bs (k : Int) = ([], (k : Int), 2) := fun h1 => by
    rw [getF_there h h0, frameAt_no hg]
    rw [hpay]
    rintro ⟨_, _, h2⟩
    have h3 := hparts.1 h2
    rcases h1 with h1 | h1
    · exact h1 (by simpa using h3.2)
    · rw [his, decide_eq_false_iff_not] at h1
      exact h1 h3.1
  have HYES := Lib.hid hyes
  have HNO := Lib.hid hno
  have HG := Lib.hid hg
  clear hyes hno hg hparts hpay hsum hlast his
  have hr0 := hr.rd
  obtain ⟨b, o, rfl, hb, hc⟩ := hr0.get (by rw [List.length_map]; omega)
  have e1 : w.cell? ⟨b, o + k, none⟩ = some (B bs[k]) := hc k _ (by rw [List.getElem?_map, List.getElem?_eq_getElem h]; rfl)
  have e2 : w.cell? ⟨b, o + (k + j + n + 4), none⟩ = some (B bs[k + j + n + 4]) := hc _ _ (by rw [List.getElem?_map, List.getElem?_eq_getElem (by omega)]; rfl)
  have hne : ((bs[k].toNat : Int) == 0) = false := by rw [beq_eq_false_iff_ne]; intro e; exact h0 (UInt8.toNat_inj.1 (by show bs[k].toNat = 0; omega))
  have hcut := hr.cut (k + j) (n + 4) (c - (k + j)) (by omega) (by omega) (by rw [List.length_map]; omega) (by omega)
  have hpay := hr.cut (k + j) n n (by omega) (by omega) (by rw [List.length_map]; omega) (by omega)
  rw [← List.map_drop, ← List.map_take] at hcut hpay
  have hrr := hr.rd
  have hcr := hcut.rd
  rw [show (Value.slice (some ⟨b, o + (k + j), none⟩) (n + 4) (c - (k + j))) = .slice (some ⟨b, o + (k + j), none⟩) (k + j + n + 4 - (k + j)) (c - (k + j)) by rw [show k + j + n + 4 - (k + j) = n + 4 by omega]] at hcr
  rw [show (Value.slice (some ⟨b, o + (k + j), none⟩) n n) = .slice (some ⟨b, o + (k + j), none⟩) (k + j + n - (k + j)) (k + j + n - (k + j)) by rw [show k + j + n - (k + j) = n by omega]] at hpay
  generalize bs[k] = x at *
  simp only [B] at e1 e2
  clear hc h0 hcut
  by_cases hl : bs[k + j + n + 4] = 1
  · have hl1 : (((1 : UInt8).toNat : Int) == 1) = true := rfl
    rw [hl] at e2
    have hyes := HYES.out hl
    have HYES := Lib.hid hyes
    clear hyes
    go_enter Try.func82, Try.ntmps82
    go_wp2_with fail
    refine (GetNum_some bs _ k n j _ hrr (by omega) HG.out).mono ?_
    rintro e w1 ⟨rfl, rfl⟩
    go_wp2_with fail
    ((with_reducible refine (Is_any _ _ _ hcr).mono ?_))
    rintro e w2 ⟨rfl, hx2⟩
    by_cases his : isB ((bs.drop (k + j)).take (n + 4)) = true
    · have hf := HYES.out his
      have HF := Lib.hid hf
      have HPAY := Lib.hid hpay
      rw [his]
      clear hf HNO HYES his hpay hcr
      go_wp2
      go_ret3
      rw [CutPost, HF.out]
      exact ⟨_, by go_num, HPAY.out.ext hx2, hx2⟩
    · have hb : isB ((bs.drop (k + j)).take (n + 4)) = false := by simpa using his
      have hf := HNO.out (.inr hb)
      have hp := CutPost.none_ (row := row) (w := w) hf hx2
      have HP := Lib.hid hp
      rw [hb]
      clear hf HNO HYES his hb hp hpay hcr
      go_wp2
      go_ret3
      exact HP.out
  · have hl1 : ((bs[k + j + n + 4].toNat : Int) == 1) = false := by rw [beq_eq_false_iff_ne]; intro e; exact hl (UInt8.toNat_inj.1 (by show bs[k + j + n + 4].toNat = 1; omega))
    have hl2 : ((bs[k + j + n + 4].toNat : Int) != 1) = true := by rw [bne, hl1]; rfl
    have hno := HNO.out (.inl hl)
    have hp := CutPost.none_ (row := row) (w := w) hno (Ext.refl w)
    have HP := Lib.hid hp
    clear hno HNO HYES hp hl
    generalize bs[k + j + n + 4] = y at *
    go_enter Try.func82, Try.ntmps82
    go_wp2_with fail
    refine (GetNum_some bs _ k n j _ hrr (by omega) HG.out).mono ?_
    rintro e w1 ⟨rfl, rfl⟩
    go_wp2
    go_ret3
    exact HP.out

theorem cut_any (bs : List UInt8) (v : Value) (i : Int) (w : World) (hr : RdN w row v (bs.map B)) : Calls Try.prog 82 #[v, .int .i64 i] w (CutPost row bs i w) := by
  by_cases hi : i < 0 ∨ (bs.length : Int) < i
  · exact cut_low bs v i w hr hi
  · obtain ⟨k, rfl⟩ : ∃ k : Nat, i = k := ⟨i.toNat, by omega⟩
    by_cases he : k = bs.length
    · rw [he]
      exact cut_done bs v w hr
    · have hk : k < bs.length := by omega
      by_cases h0 : bs[k] = 0
      · exact cut_nought bs v k w hr hk h0
      · rcases hg : getN (bs.drop k) with _ | ⟨n, j⟩
        · exact cut_num bs v k w hr hk h0 hg
        · by_cases hn : n ≤ 4000 ∧ k + j + n + 5 ≤ bs.length
          · exact cut_frame bs v k n j w hr hk h0 hg hn
          · exact cut_size bs v k n j w hr hk h0 hg (by omega)

end
end Go.Proofs.Ytdcmjmanalijfaa

/- Layer 3, package frame: Get. -/
namespace Go.Proofs.Ytdcmjmanalijfaa
open Go.RowKit

set_option maxHeartbeats 400000 in
theorem FrameGet_rd (bs : List UInt8) (v : Value) (i : Int) (w : World) (hr : Rd w v (bs.map B)) : Calls Try.prog 88 #[v, .int .i64 i] w (GetRd bs i w) := by
  have hn := RdN.of_rd hr
  have hp : (getF bs i).1.length ≤ 4000 := by
    rcases getF_cases bs i with ⟨h1, h2, h3, _⟩ | ⟨h1, _⟩
    · exact (frameAt_some h3).1.2
    · rw [h1]
      exact Nat.zero_le _
  have HP := Lib.hid hp
  clear hp hr
  go_enter Try.func88, Try.ntmps88
  go_wp2_with fail
  refine (cut_any bs _ i _ hn).mono ?_
  rintro e w1 ⟨v1, rfl, hr1, hx1⟩
  have hr1 := hr1.rd
  go_wp2_with fail
  refine (Clone_any _ _ _ hr1 (by have := HP.out; omega)).mono ?_
  rintro e w2 ⟨v2, rfl, hg2⟩
  go_wp2
  go_ret3
  exact ⟨_, rfl, Rd.own hg2.own, hx1.trans hg2.ext⟩

theorem RdF.ext0 {F : Fp} {w w' : World} {v : Value} {xs : List Value} (h : RdF F w v xs) (hx : Ext w w') : RdF F w' v xs := h.chg (G := fun _ => False) (Chg.of_ext hx) (fun _ _ h => h)
theorem RdF.nil0 (F : Fp) (w : World) : RdF F w (.slice none 0 0) [] := ⟨none, 0, rfl, Nat.le_refl _, Nat.zero_le _, fun h => absurd h (by simp)⟩
theorem RdF.cut {F : Fp} {w : World} {A : Option Addr} {N c : Nat} {xs : List Value} (h : RdF F w (.slice A N c) xs) (lo n : Nat) (hle : lo + n ≤ xs.length) :
    RdF F w (.slice (if c = lo then A else A.map (fun x => x.add lo)) n (c - lo)) ((xs.drop lo).take n) := by
  obtain ⟨A', c', e, h1, h2, h3⟩ := h
  cases e
  have hl : ((xs.drop lo).take n).length = n := by rw [List.length_take, List.length_drop]; omega
  refine ⟨_, _, by rw [hl], by omega, by omega, fun hn => ?_⟩
  obtain ⟨b, o, rfl, hb, hF, hc⟩ := h3 (by omega)
  rw [if_neg (by omega)]
  refine ⟨b, o + lo, by simp [Addr.add_lit], hb, hF, fun j u hu => ?_⟩
  rw [List.getElem?_take] at hu
  split at hu
  · rw [List.getElem?_drop] at hu
    rw [Nat.add_assoc]
    exact hc _ u hu
  · cases hu
def GetRdF (bs : List UInt8) (i : Int) (w : World) (e : Ending) (w' : World) : Prop :=
  ∃ v', e = .returned (.tuple #[v', .int .i64 (getF bs i).2.1, .int .i64 (getF bs i).2.2]) ∧ RdF (fun b => w.heap.size ≤ b) w' v' ((getF bs i).1.map B) ∧ Ext w w'
set_option maxHeartbeats 400000 in
theorem FrameGet_rdF (bs : List UInt8) (v : Value) (i : Int) (w : World) (hr : Rd w v (bs.map B)) : Calls Try.prog 88 #[v, .int .i64 i] w (GetRdF bs i w) := by
  have hn := RdN.of_rd hr
  have hp : (getF bs i).1.length ≤ 4000 := by
    rcases getF_cases bs i with ⟨h1, h2, h3, _⟩ | ⟨h1, _⟩
    · exact (frameAt_some h3).1.2
    · rw [h1]
      exact Nat.zero_le _
  have HP := Lib.hid hp
  clear hp hr
  go_enter Try.func88, Try.ntmps88
  go_wp2_with fail
  refine (cut_any bs _ i _ hn).mono ?_
  rintro e w1 ⟨v1, rfl, hr1, hx1⟩
  have hr1 := hr1.rd
  go_wp2_with fail
  refine (Clone_any _ _ _ hr1 (by have := HP.out; omega)).mono ?_
  rintro e w2 ⟨v2, rfl, hg2⟩
  go_wp2
  go_ret3
  exact ⟨_, rfl, (RowF.made hg2).rdF.mono (fun b hb => Nat.le_trans hx1.size hb.1), hx1.trans hg2.ext⟩

end Go.Proofs.Ytdcmjmanalijfaa

/- Package slots: place, read, newer. -/
namespace Go.Proofs.Ytdcmjmanalijfaa
open Go.RowKit

theorem payP_getF (b : List UInt8) : payP (getF b 0).1 = picB b := by
  unfold picB
  split
  · rfl
  · rename_i hw
    rcases getF_cases b 0 with ⟨h, _⟩ | ⟨h, _⟩
    · exact absurd h hw
    · rw [h]
      rfl

/-- What read answers of the bytes that it got. -/
def SlPicP (x : Pic) (w : World) (e : Ending) (w' : World) : Prop := ∃ v, e = .returned (.tuple #[v, .int .i64 (ageI x)]) ∧ RdF (fun b => w.heap.size ≤ b) w' v ((bytP x).map B) ∧ Ext w w'

theorem SlPlace (G : Fp) (h g f z k : Nat) (w : World) (hl : Sl G w h g f z) (hb : f + 2 * z ≤ 65536) (hk : k ≤ 2) :
    Calls Try.prog 60 #[.pointer (some ⟨h, 0, none⟩), .int .i64 (k : Int)] w fun e w' => e = .returned (.int .i64 ((f + k * z : Nat) : Int)) ∧ Ext w w' := by
  have c1 := hl.c1
  have c2 := hl.c2
  obtain ⟨kz, hkz⟩ : ∃ x : Nat, x = k * z := ⟨_, rfl⟩
  have hkb : kz ≤ 2 * z := by rw [hkz]; exact Nat.mul_le_mul_right z hk
  obtain ⟨a, ha⟩ : ∃ x : Nat, x = f + kz := ⟨_, rfl⟩
  have w1 : IntKind.i64.wrap ((k : Int) * (z : Int)) = (kz : Int) := by rw [← Int.natCast_mul, ← hkz, IntKind.wrap_i64]; omega
  have w2 : IntKind.i64.wrap ((f : Int) + (kz : Int)) = (a : Int) := by rw [IntKind.wrap_i64]; omega
  have he : f + k * z = a := by rw [← hkz, ha]
  rw [he]
  clear hl hb hk hkz hkb ha he
  go_enter Try.func60, Try.ntmps60
  go_wp2
  go_quiet (fail)
  go_wp2
  go_ret
  exact ⟨rfl, Below.drewN' (Ext.refl w) _⟩

theorem SlRead (b : List UInt8) (v : Value) (w : World) (hr : Rd w v (b.map B)) : Calls Try.prog 83 #[v] w (SlPicP (picB b) w) := by
  rw [← payP_getF]
  obtain ⟨A, c, rfl, hlc, hcm⟩ := hr.sliceN (List.length_map _)
  go_enter Try.func83, Try.ntmps83
  go_wp2_with fail
  refine (FrameGet_rdF b _ 0 w hr).mono ?_
  rintro e w1 ⟨v1, rfl, hr1, hx1⟩
  clear hr
  generalize (getF b 0).2.1 = nx at *
  generalize (getF b 0).2.2 = wh at *
  generalize (getF b 0).1 = p at *
  obtain ⟨A1, c1, rfl, hc1, hm1⟩ := hr1.rd.sliceN (List.length_map _)
  unfold maxLen at hm1
  cases hg : getN p with
  | none =>
    have hP : payP p = none := by rw [payP, hg]
    have KN := Lib.hid (GetNum_none p _ 0 _ hr1.rd (by decide) (by rw [List.drop_zero]; exact hg))
    have HP := Lib.hid hP
    clear hP hg hr1
    go_wp2_with fail
    refine KN.out.mono ?_
    rintro e w2 ⟨rfl, rfl⟩
    go_wp2
    go_ret2
    rw [SlPicP, HP.out]
    exact ⟨_, rfl, RdF.nil0 _ _, hx1⟩
  | some x =>
    obtain ⟨n, j⟩ := x
    have hP : payP p = some (p.drop j, n) := by rw [payP, hg]
    have hj := getN_le hg
    have hjl : j ≤ p.length := hj.2.1
    have KN := Lib.hid (GetNum_some p _ 0 n j _ hr1.rd (by decide) (by rw [List.drop_zero]; exact hg))
    have hz0 : ((0 + j : Nat) : Int) = (j : Int) := by omega
    rw [hz0] at KN
    have HP := Lib.hid hP
    have HR := Lib.hid hr1
    have p1 : (j : Int) ≤ (p.length : Int) := by omega
    clear hP hg hr1 hz0 hj
    go_wp2_with fail
    refine KN.out.mono ?_
    rintro e w2 ⟨rfl, rfl⟩
    have hc := HR.out.cut j (p.length - j) (by rw [List.length_map]; omega)
    have hd : ((p.map B).drop j).take (p.length - j) = (bytP (some (p.drop j, n))).map B := by rw [bytP, List.map_drop, List.take_of_length_le (by rw [List.length_drop, List.length_map]; omega)]
    rw [hd] at hc
    by_cases hcj : c1 = j
    · rw [if_pos hcj, hcj, Nat.sub_self] at hc
      have HC := Lib.hid hc
      clear hc hd
      go_wp2
      go_ret2
      rw [SlPicP, HP.out]
      exact ⟨_, rfl, HC.out, hx1⟩
    · rw [if_neg hcj] at hc
      have HC := Lib.hid hc
      clear hc hd
      go_wp2
      go_ret2
      rw [SlPicP, HP.out]
      exact ⟨_, rfl, HC.out, hx1⟩

end Go.Proofs.Ytdcmjmanalijfaa

/- Package slots: newer. -/
namespace Go.Proofs.Ytdcmjmanalijfaa
open Go.RowKit

/-- The picture behind so many slots, and the other slot. -/
def nwP (x y : Pic) : Nat → Pic
  | 0 => none
  | 1 => x
  | _ => loadP x y
def nwO (x y : Pic) : Nat → Nat
  | 0 => 0
  | 1 => if 0 ≤ ageI x then 1 else 0
  | _ => if ageI y ≤ ageI x ∧ 0 ≤ ageI x then 1 else 0
theorem ageI_none {x : Pic} (h : ageI x < 0) : x = none := by
  cases x with
  | none => rfl
  | some x => simp only [ageI] at h; omega
theorem nw_up0 (x y : Pic) : ageI (nwP x y 0) < ageI x → nwP x y 1 = x ∧ nwO x y 1 = 1 := by
  intro h
  have h' : -1 < ageI x := h
  refine ⟨rfl, ?_⟩
  simp only [nwO]
  rw [if_pos (by omega)]
theorem nw_up1 (x y : Pic) : ageI (nwP x y 1) < ageI y → nwP x y 2 = y ∧ nwO x y 2 = 0 := by
  intro h
  simp only [nwP] at h
  simp only [nwP, nwO, loadP]
  rw [if_pos h, if_neg (by omega)]
  exact ⟨rfl, rfl⟩
theorem nw_on0 (x y : Pic) : ¬ ageI (nwP x y 0) < ageI x → nwP x y 1 = nwP x y 0 ∧ nwO x y 1 = nwO x y 0 := by
  intro h
  have h' : ¬ (-1 < ageI x) := h
  have hx : x = none := ageI_none (by omega)
  subst hx
  exact ⟨rfl, rfl⟩
theorem nw_on1 (x y : Pic) : ¬ ageI (nwP x y 1) < ageI y → nwP x y 2 = nwP x y 1 ∧ nwO x y 2 = nwO x y 1 := by
  intro h
  simp only [nwP] at h
  simp only [nwP, nwO, loadP]
  rw [if_neg h]
  refine ⟨rfl, ?_⟩
  by_cases h0 : 0 ≤ ageI x
  · rw [if_pos ⟨by omega, h0⟩, if_pos h0]
  · rw [if_neg (fun h' => h0 h'.2), if_neg h0]
/-- The slot's own picture. -/
def nwS (x y : Pic) : Nat → Pic
  | 0 => x
  | _ => y
theorem nw_up (x y : Pic) {k : Nat} (hk : k < 2) (h : ageI (nwP x y k) < ageI (nwS x y k)) : nwP x y (k + 1) = nwS x y k ∧ nwO x y (k + 1) = 1 - k := by
  rcases (show k = 0 ∨ k = 1 by omega) with rfl | rfl
  · exact nw_up0 x y h
  · exact nw_up1 x y h
theorem nw_on (x y : Pic) {k : Nat} (hk : k < 2) (h : ¬ ageI (nwP x y k) < ageI (nwS x y k)) : nwP x y (k + 1) = nwP x y k ∧ nwO x y (k + 1) = nwO x y k := by
  rcases (show k = 0 ∨ k = 1 by omega) with rfl | rfl
  · exact nw_on0 x y h
  · exact nw_on1 x y h
theorem nwP_lt {x y : Pic} {n : Int} {k : Nat} (hx : ageI x < n) (hy : ageI y < n) (hn : 0 ≤ n) : ageI (nwP x y k) < n := by
  match k with
  | 0 => simp only [nwP, ageI]; omega
  | 1 => exact hx
  | (k + 2) =>
    simp only [nwP]
    rcases loadP_cases x y with h | h <;> rw [h] <;> assumption
theorem nwO_le (x y : Pic) (k : Nat) : nwO x y k ≤ 1 := by
  match k with
  | 0 => exact Nat.zero_le _
  | 1 => simp only [nwO]; split <;> omega
  | (k + 2) => simp only [nwO]; split <;> omega

def NewSt (x y : Pic) (w : World) (v a o i : Value) (wr : World) : Prop :=
  ∃ (k : Nat) (P : Pic) (O : Nat), i = .int .i64 (k : Int) ∧ k ≤ 2 ∧ P = nwP x y k ∧ O = nwO x y k ∧ a = .int .i64 (ageI P) ∧ o = .int .i64 (O : Int) ∧ RdF (fun b => w.heap.size ≤ b) wr v ((bytP P).map B) ∧ Ext w wr

set_option maxRecDepth 100000 in
set_option maxHeartbeats 1000000 in
theorem SlNewer (G : Fp) (h g f z q c : Nat) (bs : List UInt8) (w : World) (hl : Sl G w h g f z) (hr : Rd w (.slice (some ⟨q, 0, none⟩) bs.length c) (bs.map B)) (hz : f + 2 * z ≤ bs.length) (h1 : 1 ≤ z) (hb : bs.length ≤ 65536) :
    Calls Try.prog 59 #[.slice (some ⟨q, 0, none⟩) bs.length c, .func (.func 60) #[.pointer (some ⟨h, 0, none⟩)] #[]] w fun e w' =>
      ∃ v, e = .returned (.tuple #[v, .int .i64 (ageI (nwP (picB (pieceB bs f z)) (picB (pieceB bs (f + z) z)) 2)), .int .i64 (nwO (picB (pieceB bs f z)) (picB (pieceB bs (f + z) z)) 2 : Int)]) ∧
        RdF (fun b => w.heap.size ≤ b) w' v ((bytP (nwP (picB (pieceB bs f z)) (picB (pieceB bs (f + z) z)) 2)).map B) ∧ Ext w w' := by
  have hc0 : bs.length ≤ c := by
    obtain ⟨A, c', he, e1, _⟩ := hr.sliceN (List.length_map _)
    injection he with e2 e3 e4
    omega
  obtain ⟨x, hx⟩ : ∃ x : Pic, x = picB (pieceB bs f z) := ⟨_, rfl⟩
  obtain ⟨y, hy⟩ : ∃ x : Pic, x = picB (pieceB bs (f + z) z) := ⟨_, rfl⟩
  rw [← hx, ← hy]
  have hxl : ageI x < 9007199254740992 := by rw [hx]; exact picB_lt.1
  have hyl : ageI y < 9007199254740992 := by rw [hy]; exact picB_lt.1
  have hpk : ∀ k : Nat, k < 2 → picB (pieceB bs (f + k * z) z) = nwS x y k := by
    intro k hk
    rcases (show k = 0 ∨ k = 1 by omega) with rfl | rfl
    · rw [nwS, hx, Nat.zero_mul, Nat.add_zero]
    · rw [nwS, hy, Nat.one_mul]
      omega
  have HL := Lib.hid hl
  have HR := Lib.hid hr
  have HB : Hid (f + 2 * z ≤ bs.length ∧ bs.length ≤ 65536 ∧ 1 ≤ z ∧ bs.length ≤ c) := Lib.hid ⟨hz, hb, h1, hc0⟩
  have HX : Hid (ageI x < 9007199254740992 ∧ ageI y < 9007199254740992) := Lib.hid ⟨hxl, hyl⟩
  have HPK := Lib.hid hpk
  clear hl hr hz hb h1 hc0 hx hy hxl hyl hpk
  go_enter Try.func59, Try.ntmps59
  go_wp2
  go_loopw [4, 5, 6, 7, 8, 9, 10] (fun v a o _ _ _ i wr => NewSt x y w v a o i wr) (fun _ _ _ _ _ _ i _ => 2 - (intOf i).toNat)
  case atStart => exact ⟨0, none, 0, rfl, Nat.zero_le _, rfl, rfl, rfl, rfl, RdF.nil0 _ _, Ext.refl _⟩
  case round =>
    obtain ⟨k, P, O, rfl, hk, hP, hO, rfl, rfl, hrv, hxr⟩ := hrel
    by_cases hlt : k < 2
    · have hin := slot_in HB.out.1 (show k ≤ 1 by omega)
      obtain ⟨k1, hk1⟩ : ∃ x : Nat, x = k + 1 := ⟨_, rfl⟩
      obtain ⟨a, ha⟩ : ∃ x : Nat, x = f + k * z := ⟨_, rfl⟩
      obtain ⟨b, hbb⟩ : ∃ x : Nat, x = f + k1 * z := ⟨_, rfl⟩
      have hab : b = a + z := by rw [hbb, ha, hk1, Nat.succ_mul]; omega
      have w1 : IntKind.i64.wrap ((k : Int) + 1) = (k1 : Int) := by rw [IntKind.wrap_i64]; omega
      have p1 : (a : Int) ≤ (b : Int) := by omega
      have p2 : b - a = z := by have := HB.out; omega
      have p3 : (b : Int) ≤ (c : Int) := by have := HB.out; omega
      have p4 : ¬ c = a := by have := HB.out; omega
      have d1 : decide ((k : Int) < 2) = true := by simp; omega
      have HP := Lib.hid hP
      have HO := Lib.hid hO
      have HI : Hid (a + z ≤ bs.length ∧ k1 = k + 1 ∧ k < 2 ∧ a = f + k * z ∧ b = f + k1 * z) := Lib.hid ⟨by omega, hk1, hlt, ha, hbb⟩
      have HRV := Lib.hid hrv
      have HXR := Lib.hid hxr
      clear hP hO hin hk1 ha hbb hab hrv hxr hlt
      go_wp2_with fail
      refine (SlPlace G h g f z k wr (HL.out.ext HXR.out) (by have := HB.out; omega) (by have := HI.out; omega)).mono ?_
      rintro e wa ⟨he, hxa⟩
      rw [← HI.out.2.2.2.1] at he
      subst he
      have HXA := Lib.hid (Ext.trans HXR.out hxa)
      have HRA := Lib.hid (HRV.out.ext0 hxa)
      clear hxa HXR HRV
      go_wp2_with fail
      refine (SlPlace G h g f z k1 wa (HL.out.ext HXA.out) (by have := HB.out; omega) (by have := HI.out; omega)).mono ?_
      rintro e wb ⟨he, hxb⟩
      rw [← HI.out.2.2.2.2] at he
      subst he
      have HXB := Lib.hid (Ext.trans HXA.out hxb)
      have HRB := Lib.hid (HRA.out.ext0 hxb)
      clear hxb HXA HRA
      have hrc := (HR.out.ext HXB.out).cut a z (by rw [List.length_map]; exact HI.out.1)
      have hrd : ((bs.map B).drop a).take z = (pieceB bs a z).map B := by rw [pieceB, List.map_take, List.map_drop]
      have hpa : picB (pieceB bs a z) = nwS x y k := by rw [HI.out.2.2.2.1]; exact HPK.out k HI.out.2.2.1
      have hA : Option.map (fun x => Addr.add x a) (some (⟨q, 0, none⟩ : Addr)) = some ⟨q, a, none⟩ := by simp [Addr.add_lit]
      rw [if_neg p4, hrd, hA] at hrc
      have HRC := Lib.hid hrc
      have HPA := Lib.hid hpa
      clear hrc hrd hpa hA
      go_wp2_with fail
      refine (SlRead (pieceB bs a z) _ wb HRC.out).mono ?_
      rintro e wc ⟨v, rfl, hrc, hxc⟩
      rw [HPA.out] at hrc ⊢
      have HXC := Lib.hid (Ext.trans HXB.out hxc)
      have HRP := Lib.hid (HRB.out.ext0 hxc)
      have HRN := Lib.hid (hrc.mono (G := fun b => w.heap.size ≤ b) (fun b hb => Nat.le_trans HXB.out.size hb))
      clear hxc hrc HXB HRB HRC
      have w2 : IntKind.i64.wrap (1 - (k : Int)) = ((1 - k : Nat) : Int) := by have := HI.out; rw [IntKind.wrap_i64]; omega
      by_cases hup : ageI (nwP x y k) < ageI (nwS x y k)
      · have hu := nw_up x y HI.out.2.2.1 hup
        have d2 : decide (ageI (nwS x y k) > ageI P) = true := by rw [HP.out]; simpa using hup
        have HU := Lib.hid hu
        clear hu hup
        go_wp2_with fail
        obtain ⟨u1, u2⟩ := HU.out
        obtain ⟨i1, i2, i3, i4, i5⟩ := HI.out
        refine ⟨⟨k1, nwS x y k, 1 - k, rfl, by omega, by rw [i2, u1], by rw [i2, u2], rfl, rfl, HRN.out, HXC.out⟩, ?_⟩
        simp only [intOf]
        omega
      · have hu := nw_on x y HI.out.2.2.1 hup
        have d2 : decide (ageI (nwS x y k) > ageI P) = false := by rw [HP.out]; simpa using hup
        have HU := Lib.hid hu
        clear hu hup
        go_wp2_with fail
        obtain ⟨u1, u2⟩ := HU.out
        obtain ⟨i1, i2, i3, i4, i5⟩ := HI.out
        refine ⟨⟨k1, P, O, rfl, by omega, by rw [i2, u1, HP.out], by rw [i2, u2, HO.out], rfl, rfl, HRP.out, HXC.out⟩, ?_⟩
        simp only [intOf]
        omega
    · have hk2 : k = 2 := by omega
      subst hk2
      subst hP
      subst hO
      have HRV := Lib.hid hrv
      have HXR := Lib.hid hxr
      clear hrv hxr hlt hk
      go_wp2
      go_ret3
      exact ⟨_, rfl, HRV.out, HXR.out⟩

end Go.Proofs.Ytdcmjmanalijfaa

/- Layer 6: a disk and slots on it. -/
namespace Go.Proofs.Ytdcmjmanalijfaa
open Go.RowKit

/-- The disk at g, and the slots at h on it. -/
def SD (F : Fp) (w : World) (h g : Nat) (s : DkS) (f z : Nat) : Prop :=
  ∃ F1 F2 : Fp, Dk F1 w g s ∧ Sl F2 w h g f z ∧ F2.apart F1 ∧ (∀ k, F1 k → F k) ∧ (∀ k, F2 k → F k) ∧ F.isIn w

section
variable {F G : Fp} {w w' : World} {h g f z : Nat} {s s' : DkS}
theorem SD.isIn (hd : SD F w h g s f z) : F.isIn w := by
  obtain ⟨F1, F2, h1, h2, h3, h4, h5, h6⟩ := hd
  exact h6
theorem SD.dk (hd : SD F w h g s f z) : Dk F w g s := by
  obtain ⟨F1, F2, h1, h2, h3, h4, h5, h6⟩ := hd
  exact h1.mono h4 h6
theorem SD.sl (hd : SD F w h g s f z) : Sl F w h g f z := by
  obtain ⟨F1, F2, h1, h2, h3, h4, h5, h6⟩ := hd
  exact h2.mono h5 h6
theorem SD.chg (hd : SD F w h g s f z) (hc : Chg G w w') (ha : F.apart G) : SD F w' h g s f z := by
  obtain ⟨F1, F2, h1, h2, h3, h4, h5, h6⟩ := hd
  exact ⟨F1, F2, h1.chg hc (fun k hk => ha k (h4 k hk)), h2.chg hc (fun k hk => ha k (h5 k hk)), h3, h4, h5, h6.chg hc⟩
theorem SD.ext (hd : SD F w h g s f z) (hx : Ext w w') : SD F w' h g s f z := hd.chg (G := fun _ => False) (Chg.of_ext hx) (fun _ _ h => h)
theorem SD.mono (hd : SD F w h g s f z) (hf : ∀ k, F k → G k) (hi : G.isIn w) : SD G w h g s f z := by
  obtain ⟨F1, F2, h1, h2, h3, h4, h5, h6⟩ := hd
  exact ⟨F1, F2, h1, h2, h3, fun k hk => hf k (h4 k hk), fun k hk => hf k (h5 k hk), hi⟩
theorem SD.later (hd : SD F w h g s f z) (hx : Ext w w') : SD (F.since w w') w' h g s f z := (hd.ext hx).mono (fun _ hk => .inl hk) (hd.isIn.since hx.size)
theorem SD.lens (hd : SD F w h g s f z) : 1 ≤ s.1.length ∧ s.1.length ≤ 65536 := by
  have := hd.dk.lens
  exact ⟨this.1, this.2.1⟩
end

/-- A call of the disk's own turns the disk alone. -/
theorem SD.turnF {F : Fp} {w : World} {h g f z : Nat} {s s' : DkS} (hd : SD F w h g s f z) {n : Nat} {args : Array Value} {v : Value}
    (hk : ∀ F1, (∀ k, F1 k → F k) → Dk F1 w g s → Calls Try.prog n args w fun e w' => e = .returned v ∧ Dk (F1.since w w') w' g s' ∧ Chg F1 w w') :
    Calls Try.prog n args w fun e w' => e = .returned v ∧ SD (F.since w w') w' h g s' f z ∧ Chg F w w' := by
  obtain ⟨F1, F2, h1, h2, h3, h4, h5, h6⟩ := hd
  refine (hk F1 h4 h1).mono ?_
  rintro e w' ⟨he, hd', hc⟩
  refine ⟨he, ⟨_, F2, hd', h2.chg hc h3, (h3.symm.since h2.isIn).symm, fun k hk => ?_, fun k hk => .inl (h5 k hk), h6.since hc.size⟩, hc.mono fun k _ hk => h4 k hk⟩
  rcases hk with hk | hk
  · exact .inl (h4 k hk)
  · exact .inr hk
theorem SD.turn {F : Fp} {w : World} {h g f z : Nat} {s s' : DkS} (hd : SD F w h g s f z) {n : Nat} {args : Array Value} {v : Value}
    (hk : ∀ F1, Dk F1 w g s → Calls Try.prog n args w fun e w' => e = .returned v ∧ Dk (F1.since w w') w' g s' ∧ Chg F1 w w') :
    Calls Try.prog n args w fun e w' => e = .returned v ∧ SD (F.since w w') w' h g s' f z ∧ Chg F w w' := hd.turnF fun F1 _ h1 => hk F1 h1

/-- What Load answers. -/
def LoadP (x : Pic) (w : World) (e : Ending) (w' : World) : Prop := ∃ v, e = .returned (.tuple #[v, .int .i64 (match x with | none => 0 | some y => (y.2 : Int)), .bool x.isSome]) ∧ Rd w' v ((bytP x).map B) ∧ Ext w w'

end Go.Proofs.Ytdcmjmanalijfaa

/- Layer 4: the calls of both disks, in colours. -/
namespace Go.Proofs.Ytdcmjmanalijfaa
open Go.RowKit

theorem Dk.chgC {g : Nat} {s : DkS} : ∀ {F G : Fp} {w w' : World}, Dk F w g s → Chg G w w' → F.apart G → Dk F w' g s := fun h hc ha => Dk.chg h hc ha
theorem Dk.monoC {g : Nat} {s : DkS} : ∀ {F G : Fp} {w : World}, Dk F w g s → (∀ k, F k → G k) → G.isIn w → Dk G w g s := fun h hf hi => Dk.mono h hf hi
theorem Rk.chgC {g : Nat} {s : DkS} : ∀ {F G : Fp} {w w' : World}, Rk F w g s → Chg G w w' → F.apart G → Rk F w' g s := fun h hc ha => Rk.chg h hc ha
theorem Rk.monoC {g : Nat} {s : DkS} : ∀ {F G : Fp} {w : World}, Rk F w g s → (∀ k, F k → G k) → G.isIn w → Rk G w g s := fun h hf hi => Rk.mono h hf hi
theorem RdF.chgC {v : Value} {xs : List Value} : ∀ {F G : Fp} {w w' : World}, RdF F w v xs → Chg G w w' → F.apart G → RdF F w' v xs := fun h hc ha => h.chg hc ha
theorem RdF.monoC {v : Value} {xs : List Value} : ∀ {F G : Fp} {w : World}, RdF F w v xs → (∀ k, F k → G k) → G.isIn w → RdF G w v xs := fun h hf _ => h.mono hf

/-- What a turning call leaves of the colours, and of what it turned. -/
def Turned (X : Fp → World → Prop) (w0 w : World) (col : Nat → Nat) (i : Nat) (w' : World) : Prop :=
  Cols w0 w' (Cols.next col w w' i) ∧ X (Fp.of (Cols.next col w w' i) i) w' ∧ Chg (Fp.of col i) w w'

section
variable {w0 w : World} {col : Nat → Nat} {i : Nat} {g : Nat} {s : DkS}
theorem DkNewC (C : Cols w0 w col) (hi : i ≠ 0) (n : Nat) (h1 : 1 ≤ n) (h2 : n ≤ 65536) : Calls Try.prog 9 #[.int .i64 (n : Int)] w fun e w' =>
    ∃ g, e = .returned (.pointer (some ⟨g, 0, none⟩)) ∧ Turned (fun F w => Dk F w g (List.replicate n 0, [], 0)) w0 w col i w' ∧ Ext w w' :=
  (DkNew_yes n w h1 h2).mono fun _ _ ⟨g, he, hd, hx⟩ => ⟨g, he, ⟨C.stepE hi hx, Cols.made (X := fun F w => Dk F w g _) Dk.monoC C hi hx hd, Chg.of_ext hx⟩, hx⟩
theorem DkWriteC (C : Cols w0 w col) (hi : i ≠ 0) (hd : Dk (Fp.of col i) w g s) {H : Fp} {a : Int} {v : Value} {l : List UInt8} (hr : RdF H w v (l.map B)) (ha : H.apart (Fp.of col i)) (hH : H.isIn w)
    (h0 : -9223372036854775808 ≤ a) (h1 : a ≤ 9223372036854775807) (hw : s.2.1.length ≤ 1000000000) :
    Calls Try.prog 74 #[.pointer (some ⟨g, 0, none⟩), .int .i64 a, v] w fun e w' => e = .returned (.int .i64 (wrE s.1.length a l.length)) ∧ Turned (fun F w => Dk F w g (wrD s a l)) w0 w col i w' :=
  (DkWrite _ H g s a v l w hd hr ha hH h0 h1 hw).mono fun _ _ ⟨he, hd, hc⟩ => ⟨he, C.step hi hc, Cols.own (X := fun F w => Dk F w g _) Dk.monoC C hi hc hd, hc⟩
theorem DkSyncC (C : Cols w0 w col) (hi : i ≠ 0) (hd : Dk (Fp.of col i) w g s) (hw : s.2.1.length ≤ 1000000000) (hn0 : 0 ≤ s.2.2) (hn1 : s.2.2 ≤ 1000000000) :
    Calls Try.prog 70 #[.pointer (some ⟨g, 0, none⟩)] w fun e w' => e = .returned (.tuple #[]) ∧ Turned (fun F w => Dk F w g (syD s)) w0 w col i w' :=
  (DkSync _ g s w hd hw hn0 hn1).mono fun _ _ ⟨he, hd, hc⟩ => ⟨he, C.step hi hc, Cols.own (X := fun F w => Dk F w g _) Dk.monoC C hi hc hd, hc⟩
theorem DkCrashC (C : Cols w0 w col) (hi : i ≠ 0) (hd : Dk (Fp.of col i) w g s) (k : Int) (h0 : -9223372036854775808 ≤ k) (h1 : k ≤ 9223372036854775807) (hw : s.2.1.length ≤ 1000000000) :
    Calls Try.prog 21 #[.pointer (some ⟨g, 0, none⟩), .int .i64 k] w fun e w' => e = .returned (.tuple #[]) ∧ Turned (fun F w => Dk F w g (crD s k)) w0 w col i w' :=
  (DkCrash _ g s k w hd h0 h1 hw).mono fun _ _ ⟨he, hd, hc⟩ => ⟨he, C.step hi hc, Cols.own (X := fun F w => Dk F w g _) Dk.monoC C hi hc hd, hc⟩

theorem RkNewC (C : Cols w0 w col) (hi : i ≠ 0) (n : Nat) (h2 : n ≤ 65536) : Calls Try.prog 10 #[.int .i64 (n : Int)] w fun e w' =>
    ∃ g, e = .returned (.pointer (some ⟨g, 0, none⟩)) ∧ Turned (fun F w => Rk F w g (List.replicate n 0, [], 0)) w0 w col i w' ∧ Ext w w' :=
  (RkNew n w h2).mono fun _ _ ⟨g, he, hd, hx⟩ => ⟨g, he, ⟨C.stepE hi hx, Cols.made (X := fun F w => Rk F w g _) Rk.monoC C hi hx hd, Chg.of_ext hx⟩, hx⟩
theorem RkWriteC (C : Cols w0 w col) (hi : i ≠ 0) (hd : Rk (Fp.of col i) w g s) {H : Fp} {a : Int} {v : Value} {l : List UInt8} (hr : RdF H w v (l.map B)) (ha : H.apart (Fp.of col i)) (hH : H.isIn w)
    (hb : s.1.length ≤ 65536) (hw : s.2.1.length ≤ 1000000000) :
    Calls Try.prog 79 #[.pointer (some ⟨g, 0, none⟩), .int .i64 a, v] w fun e w' => e = .returned (.int .i64 (wrE s.1.length a l.length)) ∧ Turned (fun F w => Rk F w g (wrD s a l)) w0 w col i w' :=
  (RkWrite _ H g s a v l w hd hr ha hH hb hw).mono fun _ _ ⟨he, hd, hc⟩ => ⟨he, C.step hi hc, Cols.own (X := fun F w => Rk F w g _) Rk.monoC C hi hc hd, hc⟩
theorem RkSyncC (C : Cols w0 w col) (hi : i ≠ 0) (hd : Rk (Fp.of col i) w g s) (hw : s.2.1.length ≤ 1000000000) (hn0 : 0 ≤ s.2.2) (hn1 : s.2.2 ≤ 1000000000) :
    Calls Try.prog 47 #[.pointer (some ⟨g, 0, none⟩)] w fun e w' => e = .returned (.tuple #[]) ∧ Turned (fun F w => Rk F w g (syD s)) w0 w col i w' :=
  (RkSync _ g s w hd hw hn0 hn1).mono fun _ _ ⟨he, hd, hc⟩ => ⟨he, C.step hi hc, Cols.own' (X := fun F w => Rk F w g _) Rk.monoC C hi hc hd, hc⟩
theorem RkCrashC (C : Cols w0 w col) (hi : i ≠ 0) (hd : Rk (Fp.of col i) w g s) (k : Int) (hw : s.2.1.length ≤ 1000000000) :
    Calls Try.prog 22 #[.pointer (some ⟨g, 0, none⟩), .int .i64 k] w fun e w' => e = .returned (.tuple #[]) ∧ Turned (fun F w => Rk F w g (crD s k)) w0 w col i w' :=
  (RkCrash _ g s k w hd hw).mono fun _ _ ⟨he, hd, hc⟩ => ⟨he, C.step hi hc, Cols.own' (X := fun F w => Rk F w g _) Rk.monoC C hi hc hd, hc⟩

/-- What only made memory leaves a disk as it was. -/
theorem Rk.ext {F : Fp} {w w' : World} (h : Rk F w g s) (hx : Ext w w') : Rk F w' g s := Rk.chg (G := fun _ => False) h (Chg.of_ext hx) (fun _ _ h => h)
/-- What is newer than the colours is nobody's. -/
theorem Cols.new_apart (C : Cols w0 w col) (hi : i ≠ 0) {w' : World} : Fp.apart (fun k => w.heap.size ≤ k ∧ k < w'.heap.size) (Fp.of col i) := fun k hk hc => by
  have := C.isIn k (by rw [show col k = i from hc]; exact hi)
  omega
theorem new_in {w w' : World} : Fp.isIn (fun k => w.heap.size ≤ k ∧ k < w'.heap.size) w' := fun _ hk => hk.2
end

end Go.Proofs.Ytdcmjmanalijfaa

/- Layer 4: what is read of a disk, with how long it is. -/
namespace Go.Proofs.Ytdcmjmanalijfaa
open Go.RowKit

theorem Dk.bytesN {F : Fp} {w : World} {g : Nat} {s : DkS} (hd : Dk F w g s) {N : Nat} (hN : s.1.length = N) (hw : s.2.1.length ≤ 1000000000) :
    Calls Try.prog 25 #[.pointer (some ⟨g, 0, none⟩)] w fun e w' => ∃ A c, e = .returned (.slice A N c) ∧ Rd w' (.slice A N c) ((rdD s).map B) ∧ N ≤ c ∧ c ≤ maxLen ∧ Grew w.heap.size 5 (.slice none 0 0) w ((rdD s).map B) (.slice A N c) w' := by
  refine (DkBytes _ g s w hd hw).mono ?_
  rintro e w' ⟨v', rfl, hg⟩
  have hr := Rd.own hg.own
  obtain ⟨A, c, rfl, h1, h2⟩ := hr.sliceN (n := N) (by rw [List.length_map, rdD_len, hN])
  exact ⟨A, c, rfl, hr, h1, h2, hg⟩

theorem Bytes_same (l : List UInt8) (u v : Value) (w : World) (hu : Rd w u (l.map B)) (hv : Rd w v (l.map B)) : Calls Try.prog 23 #[u, v] w fun e w' => e = .returned (.bool true) ∧ ∃ m, w' = w.drewN m := by
  have := Bytes_any l l u v w hu hv
  rw [decide_eq_true rfl] at this
  exact this

end Go.Proofs.Ytdcmjmanalijfaa

/- Layer 1, package code: a number's bytes. -/
namespace Go.Proofs.Ytdcmjmanalijfaa
open Go.RowKit

theorem isNum_yes (n : Int) (w : World) (h0 : 0 ≤ n) (h1 : n < 9007199254740992) :
    Calls Try.prog 86 #[.int .i64 n] w fun e w' => e = .returned (.bool true) ∧ w = w' := by
  go_enter Try.func86, Try.ntmps86
  go_wp2
  go_ret
  exact ⟨rfl, rfl⟩

theorem isNum_no (n : Int) (w : World) (h : ¬ (0 ≤ n ∧ n < 9007199254740992)) :
    Calls Try.prog 86 #[.int .i64 n] w fun e w' => e = .returned (.bool false) ∧ w = w' := by
  by_cases h0 : 0 ≤ n
  · have h1 : 9007199254740992 ≤ n := by omega
    have h2 : decide (n < 9007199254740992) = false := by simp; omega
    clear h
    go_enter Try.func86, Try.ntmps86
    go_wp2
    go_ret
    exact ⟨rfl, rfl⟩
  · clear h
    go_enter Try.func86, Try.ntmps86
    go_wp2
    go_ret
    exact ⟨rfl, rfl⟩

set_option maxRecDepth 100000 in
set_option maxHeartbeats 1000000 in
theorem addNum_any (base : Nat) (v : Value) (l : List UInt8) (n : Nat) (w : World) (hown : w.ownsRow base 5 1 v (l.map B).length (l.map B)) (hb : base ≤ w.heap.size)
    (hn : n < 9223372036854775808) (hl : l.length ≤ 140737488355318) :
    Calls Try.prog 87 #[v, .int .i64 n] w fun e w' => ∃ v', e = .returned v' ∧ Grew base 5 v w ((l ++ numB n).map B) v' w' := by
  obtain ⟨i0, hi, hz0, hz1, hz2⟩ := info_parts Try.infoU8
  have hlen := numB_len10 hn
  go_enter Try.func87, Try.ntmps87
  go_wp2
  go_loopw [0, 1] (fun v' n' wr => ∃ (m : Nat) (l' : List UInt8), n' = .int .i64 m ∧ m ≤ n ∧ l' ++ numB m = l ++ numB n ∧ Grew base 5 v w (l'.map B) v' wr) (fun _ n' _ => (intOf n').toNat)
  case atStart => exact ⟨n, l, rfl, Nat.le_refl _, rfl, Grew.start hown⟩
  case round =>
    obtain ⟨m, l', rfl, hmn, hmm, hg⟩ := hrel
    have hlt : (List.map B l').length < 140737488355328 := by
      have := congrArg List.length hmm
      have := numB_pos m
      simp only [List.length_append, List.length_map] at *
      omega
    have hbw : base ≤ wr.heap.size := Nat.le_trans hb hg.size
    have hML := Lib.hid hmm
    clear hmm
    by_cases h128 : m < 128
    · go_wp2_with (at_builtin; refine push_u8 rfl _ _ rfl base _ _ rfl hg.1 _ rfl rfl hlt hbw ?_; intro v' w' hg')
      go_ret
      refine ⟨_, rfl, ?_⟩
      have hgg := hg.trans hg'
      rw [← hML.out, numB_lo h128, List.map_append]
      rw [B_eq (n := (m : Int)) (u := UInt8.ofNat m) (by rw [u8_toNat]; omega)] at hgg
      exact hgg
    · have ho := or128 m
      have hO := Lib.hid ho
      clear ho
      go_wp2_with (at_builtin; refine push_u8 rfl _ _ rfl base _ _ rfl hg.1 _ rfl rfl hlt hbw ?_; intro v' w' hg')
      go_roundw
      case rel =>
        have hgg := hg.trans hg'
        rw [B_eq hO.out] at hgg
        refine ⟨m / 128, l' ++ [UInt8.ofNat (m % 128 + 128)], by go_num, by omega, ?_, by simpa using hgg⟩
        rw [← hML.out, numB_hi h128]
        simp
      case measure => simp [intOf]; omega

theorem Num_yes (n : Nat) (w : World) (hn : n < 9007199254740992) :
    Calls Try.prog 68 #[.int .i64 n] w fun e w' => ∃ v', e = .returned v' ∧ Grew w.heap.size 5 (.slice none 0 0) w ((numB n).map B) v' w' := by
  go_enter Try.func68, Try.ntmps68
  go_wp2_with (first | (go_at_call 86; refine (isNum_yes _ _ (by omega) (by omega)).mono ?_; rintro e w' ⟨rfl, rfl⟩) | (go_at_call 87; refine (addNum_any w.heap.size _ [] _ _ (World.ownsRow_nil _ _ _ _) (Nat.le_refl _) (by omega) (by simp)).mono ?_; rintro e w' ⟨v', rfl, hg⟩))
  go_ret
  exact ⟨_, rfl, hg⟩

theorem Num_no (n : Int) (w : World) (hn : ¬ (0 ≤ n ∧ n < 9007199254740992)) :
    Calls Try.prog 68 #[.int .i64 n] w fun e w' => e = .returned (.slice none 0 0) ∧ w = w' := by
  have H := Lib.hid hn
  clear hn
  go_enter Try.func68, Try.ntmps68
  go_wp2_with (first | (go_at_call 86; refine (isNum_no _ _ H.out).mono ?_; rintro e w' ⟨rfl, rfl⟩))
  go_ret
  exact ⟨rfl, rfl⟩

end Go.Proofs.Ytdcmjmanalijfaa

/- Package slots: Load; what nil slots answer. -/
namespace Go.Proofs.Ytdcmjmanalijfaa
open Go.RowKit

theorem nw_load (s : DkS) (f z : Nat) : nwP (picB (pieceB (rdD s) f z)) (picB (pieceB (rdD s) (f + z) z)) 2 = loadD s f z := by
  rw [loadD, picD, picD, Nat.zero_mul, Nat.one_mul, Nat.add_zero]
  rfl
theorem nw_other (s : DkS) (f z : Nat) : nwO (picB (pieceB (rdD s) f z)) (picB (pieceB (rdD s) (f + z) z)) 2 = stK s f z := by
  rw [stK, picD, picD, Nat.zero_mul, Nat.one_mul, Nat.add_zero]
  rfl

/-- The disk's bytes, and which of its slots is the newer one. -/
theorem SlNewD (G : Fp) (h g f z q c N : Nat) (s : DkS) (w : World) (hl : Sl G w h g f z) (hN : s.1.length = N) (hr : Rd w (.slice (some ⟨q, 0, none⟩) N c) ((rdD s).map B)) (hz : f + 2 * z ≤ N) (h1 : 1 ≤ z) (hb : N ≤ 65536) :
    Calls Try.prog 59 #[.slice (some ⟨q, 0, none⟩) N c, .func (.func 60) #[.pointer (some ⟨h, 0, none⟩)] #[]] w fun e w' =>
      ∃ v, e = .returned (.tuple #[v, .int .i64 (ageI (loadD s f z)), .int .i64 (stK s f z : Int)]) ∧ RdF (fun b => w.heap.size ≤ b) w' v ((bytP (loadD s f z)).map B) ∧ Ext w w' := by
  have hn : (rdD s).length = N := by rw [rdD_len, hN]
  have := SlNewer G h g f z q c (rdD s) w hl (by rw [hn]; exact hr) (by omega) h1 (by omega)
  rw [hn, nw_load, nw_other] at this
  exact this
theorem Dk.bytesQ {F : Fp} {w : World} {g : Nat} {s : DkS} (hd : Dk F w g s) {N : Nat} (hN : s.1.length = N) (h0 : 0 < N) (hw : s.2.1.length ≤ 1000000000) :
    Calls Try.prog 25 #[.pointer (some ⟨g, 0, none⟩)] w fun e w' => ∃ q c, e = .returned (.slice (some ⟨q, 0, none⟩) N c) ∧ Rd w' (.slice (some ⟨q, 0, none⟩) N c) ((rdD s).map B) ∧ Ext w w' := by
  refine (hd.bytesN hN hw).mono ?_
  rintro e w' ⟨A, c, rfl, hr, -, -, hg⟩
  obtain ⟨q, c', e, -, q3, q4⟩ := hg.form (by rw [List.length_map, rdD_len, hN]; exact h0)
  rw [List.length_map, rdD_len, hN] at e
  rw [e] at hr ⊢
  exact ⟨q, c', rfl, hr, hg.ext⟩

/-- What Load answers, and where it lies. -/
def LoadPF (x : Pic) (w : World) (e : Ending) (w' : World) : Prop := ∃ v, e = .returned (.tuple #[v, .int .i64 (match x with | none => 0 | some y => (y.2 : Int)), .bool x.isSome]) ∧ RdF (fun b => w.heap.size ≤ b) w' v ((bytP x).map B) ∧ Ext w w'

set_option maxRecDepth 100000 in
theorem SlLoadF (F : Fp) (h g : Nat) (s : DkS) (f z : Nat) (w : World) (hd : SD F w h g s f z) (hz : f + 2 * z ≤ s.1.length) (h1 : 1 ≤ z) (hw : s.2.1.length ≤ 1000000000) :
    Calls Try.prog 32 #[.pointer (some ⟨h, 0, none⟩)] w (LoadPF (loadD s f z) w) := by
  have hb := hd.lens
  obtain ⟨N, hN⟩ : ∃ N, s.1.length = N := ⟨_, rfl⟩
  have hlen : N ≤ 65536 := by omega
  have hz' : f + 2 * z ≤ N := by omega
  have KB := Dk.bytesQ hd.dk hN (by omega) hw
  have c0 := hd.sl.c0
  have HL := Lib.hid hd.sl
  have HK := Lib.hid KB
  have HN := Lib.hid (And.intro hN (And.intro hz' (And.intro h1 hlen)))
  clear hd hz hw hb KB hN hz' h1 hlen
  go_enter Try.func32, Try.ntmps32
  go_wp2_with fail
  refine HK.out.mono ?_
  rintro e w1 ⟨q, c, rfl, hr1, hx1⟩
  have HR1 := Lib.hid hr1
  have HX1 := Lib.hid hx1
  clear hr1 hx1 c0
  go_wp2_with fail
  refine (SlNewD F h g f z q c N s w1 (HL.out.ext HX1.out) HN.out.1 HR1.out HN.out.2.1 HN.out.2.2.1 HN.out.2.2.2).mono ?_
  rintro e w2 ⟨v, rfl, hr2, hx2⟩
  have HX2 := Lib.hid (HX1.out.trans hx2)
  have HX1' := Lib.hid HX1.out
  clear hx2 HX1 HR1 HL HK HN
  cases hld : loadD s f z with
  | none =>
    have hA : ageI none = -1 := rfl
    rw [hA]
    have HLD := Lib.hid hld
    clear hld hr2
    go_wp2
    go_ret3
    rw [HLD.out]
    exact ⟨_, rfl, RdF.nil0 _ _, HX2.out⟩
  | some x =>
    obtain ⟨p, n⟩ := x
    rw [hld] at hr2
    have hA : ageI (some (p, n)) = (n : Int) := rfl
    have hne : ((n : Int) == -1) = false := by rw [beq_eq_false_iff_ne]; omega
    rw [hA]
    have HR2 := Lib.hid (hr2.mono (G := fun b => w.heap.size ≤ b) (fun b hb => Nat.le_trans HX1'.out.size hb))
    have HLD := Lib.hid hld
    clear hld hr2
    go_wp2
    go_ret3
    rw [HLD.out]
    exact ⟨_, rfl, HR2.out, HX2.out⟩

theorem SlLoad (F : Fp) (h g : Nat) (s : DkS) (f z : Nat) (w : World) (hd : SD F w h g s f z) (hz : f + 2 * z ≤ s.1.length) (h1 : 1 ≤ z) (hw : s.2.1.length ≤ 1000000000) :
    Calls Try.prog 32 #[.pointer (some ⟨h, 0, none⟩)] w (LoadP (loadD s f z) w) :=
  (SlLoadF F h g s f z w hd hz h1 hw).mono fun _ _ ⟨v, he, hr, hx⟩ => ⟨v, he, hr.rd, hx⟩

set_option maxRecDepth 100000 in
theorem SlLoad_nil (w : World) : Calls Try.prog 32 #[.pointer none] w fun e w' => e = .returned (.tuple #[.slice none 0 0, .int .i64 0, .bool false]) ∧ Ext w w' := by
  go_enter Try.func32, Try.ntmps32
  go_wp2
  go_ret3
  exact ⟨rfl, Ext.refl _⟩

end Go.Proofs.Ytdcmjmanalijfaa

/- Go's slices.Grow of nil, and slices.Concat, at bytes: all of the slices, one behind the other, in a row of its own. -/
namespace Go.Proofs.Ytdcmjmanalijfaa
open Go.RowKit

theorem Grew.short {w w' : World} {e : TypeId} {n cap : Nat} {xs : List Value} {g : Nat} (h : Grew w.heap.size e (.slice none 0 0) w xs (.slice (some ⟨g, 0, none⟩) n cap) w') : Grew w.heap.size e (.slice none 0 0) w [] (.slice (some ⟨g, 0, none⟩) 0 cap) w' := by
  obtain ⟨h1, h2, h3⟩ := h
  refine ⟨⟨rfl, ?_⟩, h2, ?_⟩
  · rcases h1.2 with ⟨h, _⟩ | ⟨g', cap', cur, h, hg, hh, hn, hcap, hs, ht⟩
    · cases h
    · cases h
      exact .inr ⟨g, cap, cur, rfl, hg, hh, Nat.zero_le _, hcap, hs, by simp⟩
  · rcases h3 with h3 | h3
    · cases h3
    · exact .inr h3

/-- 'append(b, make([]byte, n)...)', b nil: n noughts, and what room there is. -/
theorem zeros_u8 {w : World} {ops : Array Oper} {rest : List Oper} {o : Oper} {a : Act} {Q : Exit → Act → World → Prop} (hgd : o.guard = none) (s x : Operand)
    (ho : o.op = .call { callee := .builtin .append, args := #[s, x], argTypes := #[30, 3] }) (hs : a.eval s = .slice none 0 0) (n : Nat) (hx : a.eval x = .int .i64 (n : Int)) (h0 : 0 < n) (hn : n ≤ 140737488355328)
    (h : ∀ G w', n ≤ G → G ≤ 9223372036854775807 → Grew w.heap.size 5 (.slice none 0 0) w ((List.replicate n (0 : UInt8)).map B) (.slice (some ⟨w.heap.size, 0, none⟩) n G) w' → wpList Try.prog ops Q rest (a.put o.dst (.slice (some ⟨w.heap.size, 0, none⟩) n G)) w') :
    wpList Try.prog ops Q (o :: rest) a w := by
  refine wpList_plain hgd fun K hK => ?_
  obtain ⟨i0, hi, hz0, hz1, hz2⟩ := info_parts Try.infoU8
  have hrz := Lib.run_append_nil_zeros (P := Try.prog) w 30 3 o.type 5 i0 (.int .u8 0) .i64 .i64 Try.underlying30 Try.underlying3 hi hz0 n h0 (by omega) (by omega) (by rw [hz2]; omega)
  have hge := grownCap_ge w n 0 5
  have hle := grownCap_le_maxLen w n 0 5 (by unfold maxLen; omega)
  generalize grownCap w n 0 5 = G at *
  have hg : Grew w.heap.size 5 (.slice none 0 0) w ((List.replicate n (0 : UInt8)).map B) (.slice (some ⟨w.heap.size, 0, none⟩) n G) (w.drew.alloc (.cells (Builtin.zeroCells (Value.int .u8 0).cells n ++ Builtin.zeroCells (Value.int .u8 0).cells (G - n)) 5)) := by
    refine ⟨⟨by simp, .inr ⟨w.heap.size, G, _, by simp, Nat.le_refl _, heap_alloc_new w.drew _, by simpa using hge, hle, ?_, ?_⟩⟩, ⟨rfl, rfl, rfl, by simp, fun k hk _ => heap_alloc_old w.drew _ hk⟩, .inr fun k hk => ?_⟩
    · rw [Array.size_append, size_zeroCells, size_zeroCells]
      show n * 1 + (G - n) * 1 = G * 1
      omega
    · have e : (Builtin.zeroCells (Value.int .u8 0).cells n).toList = (List.replicate n (0 : UInt8)).map B := by
        rw [List.map_replicate]
        apply List.ext_getElem (by simp [Builtin.zeroCells, Value.cells])
        intro i h1 h2
        simp [Builtin.zeroCells, Value.cells, B, Nat.mod_one]
      rw [Array.toList_append, e, List.length_map, List.length_replicate, Nat.mul_one]
      exact List.take_left' (by simp)
    · simp only [Value.ownBlock] at hk
      cases hk
      exact Nat.le_refl _
  unfold Oper.wp execOp
  simp only [ho, resolve, invoke, builtin, Sem.run_bind, Sem.run_pure, Result.andThen_ok, List.map_toArray, List.map_cons, List.map_nil, hs, hx, hrz]
  exact hK _ _ (h G _ hge (by unfold maxLen at hle; omega) hg)

theorem Grow_none (n : Nat) (w : World) (hn : n ≤ 140737488355328) :
    Calls Try.prog 85 #[.slice none 0 0, .int .i64 (n : Int)] w fun e w' => ∃ v', e = .returned v' ∧ Grew w.heap.size 5 (.slice none 0 0) w [] v' w' := by
  rcases Nat.eq_zero_or_pos n with h0 | h0
  · subst h0
    have hg := Grew.nil (base := w.heap.size) (e := 5) w
    have HG := Lib.hid hg
    clear hg
    go_enter Try.func85, Try.ntmps85
    go_wp2
    go_ret
    exact ⟨_, rfl, HG.out⟩
  · go_enter Try.func85, Try.ntmps85
    go_wp2_with (at_builtin; refine zeros_u8 rfl _ _ rfl rfl n rfl h0 hn ?_; intro G w2 hge hle hg2; have HG := Lib.hid hg2; clear hg2)
    go_ret
    exact ⟨_, rfl, HG.out.short⟩

/-- '[][]byte{a, b, ..}': a row of slices. -/
theorem RdL.lit {w : World} (e : TypeId) (vs : List Value) (ls : List (List UInt8)) (cs : Array Value) (n g : Nat) (hl : vs.length = ls.length) (h4 : vs.length ≤ 4096) (hc : cs = vs.toArray) (hn : n = vs.length) (hg : g = w.heap.size)
    (h : ∀ (i : Nat) u l, vs[i]? = some u → ls[i]? = some l → Rd w u (l.map B)) : RdL (w.alloc (.cells cs e)) (.slice (some ⟨g, 0, none⟩) n n) ls := by
  subst hc hn hg
  have h0 := Rd.lit w vs.toArray e (by unfold maxLen; simp; omega)
  refine ⟨vs, by simpa using h0, hl, fun i u l hu hl => (h i u l hu hl).ext ((Below.refl _ _).alloc (Nat.le_refl _) _)⟩

/-- How many bytes the first k of them have. -/
def lenTo (ls : List (List UInt8)) (k : Nat) : Nat := ((ls.take k).flatten).length
theorem lenTo_succ {ls : List (List UInt8)} {k : Nat} (h : k < ls.length) : lenTo ls (k + 1) = lenTo ls k + ls[k].length := by
  rw [lenTo, List.take_succ_eq_append_getElem h, List.flatten_append, List.length_append, List.flatten_singleton, lenTo]
theorem lenTo_all (ls : List (List UInt8)) : lenTo ls ls.length = ls.flatten.length := by rw [lenTo, List.take_length]
theorem lenTo_le (ls : List (List UInt8)) (k : Nat) : lenTo ls k ≤ ls.flatten.length := by
  have h := congrArg (fun l : List (List UInt8) => l.flatten.length) (List.take_append_drop k ls)
  simp only [List.flatten_append, List.length_append] at h
  rw [lenTo]
  omega

set_option maxHeartbeats 1000000 in
theorem Concat_any (ls : List (List UInt8)) (v : Value) (w : World) (hr : RdL w v ls) (hlen : ls.flatten.length ≤ 140737488355328) :
    Calls Try.prog 67 #[v] w fun e w' => ∃ v', e = .returned v' ∧ Grew w.heap.size 5 (.slice none 0 0) w (ls.flatten.map B) v' w' := by
  obtain ⟨A, c, rfl, hlc, hcm⟩ := hr.sliceN rfl
  unfold maxLen at hcm
  go_enter Try.func67, Try.ntmps67
  go_wp2
  go_loop [3, 5, 11] (fun n x i => ∃ k : Nat, k ≤ ls.length ∧ i = .int .i64 k ∧ n = .int .i64 (lenTo ls k)) (fun _ _ i => ls.length - (intOf i).toNat)
  case atStart => exact ⟨0, Nat.zero_le _, rfl, rfl⟩
  case round =>
    obtain ⟨k, hk, rfl, rfl⟩ := hrel
    by_cases hlt : k < ls.length
    · obtain ⟨b, o, rfl, hb, hc⟩ := hr.at (by omega)
      obtain ⟨u, hu, hru⟩ := hc k ls[k] (List.getElem?_eq_getElem hlt)
      obtain ⟨A1, c1, rfl, _, _⟩ := hru.sliceN (List.length_map _)
      have hs := lenTo_succ hlt
      have hle := lenTo_le ls (k + 1)
      have HS := Lib.hid hs
      have h1 : lenTo ls k + ls[k].length ≤ 140737488355328 := by omega
      generalize ls[k].length = m at *
      generalize hm0 : lenTo ls k = s at *
      clear hm0 hs hc
      go_wp2
      go_round
      case rel => exact ⟨k + 1, by omega, by go_num, by rw [HS.out]; go_num⟩
      case measure => simp [intOf]; omega
    · obtain rfl : k = ls.length := by omega
      have hs : lenTo ls ls.length = ls.flatten.length := lenTo_all ls
      have HL := Lib.hid hlen
      rw [← hs] at hlen
      generalize lenTo ls ls.length = N at *
      have HR := Lib.hid hr
      clear hr hs
      go_wp2_with fail
      refine (Grow_none N _ hlen).mono ?_
      rintro e w1 ⟨v1, rfl, hg1⟩
      go_wp2
      go_loopw [6, 8, 27] (fun v' x i wr => ∃ k : Nat, k ≤ ls.length ∧ i = .int .i64 k ∧ Grew w.heap.size 5 (.slice none 0 0) w (((ls.take k).flatten).map B) v' wr) (fun _ _ i _ => ls.length - (intOf i).toNat)
      case atStart => exact ⟨0, Nat.zero_le _, rfl, hg1⟩
      case round =>
        obtain ⟨k, hk, rfl, hg⟩ := hrel
        by_cases hlt : k < ls.length
        · have hr1 := HR.out.ext hg.ext
          obtain ⟨b, o, rfl, hb, hc⟩ := hr1.at (by omega)
          obtain ⟨u, hu, hru⟩ := hc k ls[k] (List.getElem?_eq_getElem hlt)
          have hs := lenTo_succ hlt
          have hle := lenTo_le ls (k + 1)
          have h2 : (((ls.take k).flatten).map B).length + ls[k].length ≤ 140737488355328 := by have := HL.out; rw [List.length_map]; unfold lenTo at *; omega
          have he : ((ls.take k).flatten).map B ++ ls[k].map B = ((ls.take (k + 1)).flatten).map B := by rw [List.take_succ_eq_append_getElem hlt, List.flatten_append, List.flatten_singleton, List.map_append]
          have HE := Lib.hid he
          have HU := Lib.hid hru
          have HG := Lib.hid hg
          obtain ⟨A1, c1, rfl, _, _⟩ := hru.sliceN (List.length_map _)
          clear he hru hs hle hc hr1 hg hg1
          go_wp2_with (at_builtin; refine app_u8 rfl _ _ rfl w.heap.size _ _ rfl HG.out.own _ _ rfl HU.out h2 HG.out.size ?_; intro v2 w2 hg2)
          have hg3 := HG.out.trans hg2
          rw [HE.out] at hg3
          have HG3 := Lib.hid hg3
          clear hg2 hg3
          go_roundw
          case rel => exact ⟨k + 1, by omega, by go_num, HG3.out⟩
          case measure => simp [intOf]; omega
        · obtain rfl : k = ls.length := by omega
          rw [List.take_length] at hg
          have HG := Lib.hid hg
          clear hg hg1
          go_wp2
          go_ret
          exact ⟨_, rfl, HG.out⟩

end Go.Proofs.Ytdcmjmanalijfaa

/- Layer 3, package frame: Put. -/
namespace Go.Proofs.Ytdcmjmanalijfaa
open Go.RowKit

theorem FramePut_no (p : List UInt8) (v : Value) (w : World) (hr : Rd w v (p.map B)) (h : ¬ (1 ≤ p.length ∧ p.length ≤ 4000)) :
    Calls Try.prog 72 #[v] w fun e w' => ∃ v', e = .returned v' ∧ Grew w.heap.size 5 (.slice none 0 0) w ((frameB p).map B) v' w' := by
  obtain ⟨A, c, rfl, hlc, hcm⟩ := hr.sliceN (List.length_map _)
  unfold maxLen at hcm
  have hg := Grew.nil (base := w.heap.size) (e := 5) w
  have hf := frameB_no h
  have HG := Lib.hid hg
  have HF := Lib.hid hf
  clear hg hf hr
  by_cases h0 : p.length < 1
  · clear h
    go_enter Try.func72, Try.ntmps72
    go_wp2
    go_ret
    exact ⟨_, rfl, by rw [HF.out]; exact HG.out⟩
  · have h1 : decide ((p.length : Int) > 4000) = true := by simp; omega
    clear h
    go_enter Try.func72, Try.ntmps72
    go_wp2
    go_ret
    exact ⟨_, rfl, by rw [HF.out]; exact HG.out⟩

set_option maxHeartbeats 1000000 in
theorem FramePut_yes (p : List UInt8) (v : Value) (w : World) (hr : Rd w v (p.map B)) (h : 1 ≤ p.length ∧ p.length ≤ 4000) :
    Calls Try.prog 72 #[v] w fun e w' => ∃ v', e = .returned v' ∧ Grew w.heap.size 5 (.slice none 0 0) w ((frameB p).map B) v' w' := by
  obtain ⟨A, c, rfl, hlc, hcm⟩ := hr.sliceN (List.length_map _)
  unfold maxLen at hcm
  have hf := frameB_yes h
  have HF := Lib.hid hf
  obtain ⟨h1, h2⟩ := h
  clear hf
  go_enter Try.func72, Try.ntmps72
  go_wp2_with fail
  refine (Num_yes _ _ (by omega)).mono ?_
  rintro e w1 ⟨v1, rfl, hg1⟩
  have hr1 := Rd.own hg1.own
  have hx1 := hg1.ext
  clear hg1
  obtain ⟨A1, c1, rfl, _, _⟩ := hr1.sliceN (List.length_map _)
  go_wp2_with fail
  refine (Of_any p _ _ (hr.ext hx1)).mono ?_
  rintro e w2 ⟨rfl, rfl⟩
  have hs1 : ((crcOf p).toNat : Int) ≤ 9223372036854775807 := by have := (crcOf p).isLt; omega
  have hs0 : -9223372036854775808 ≤ ((crcOf p).toNat : Int) := by omega
  go_wp2_with fail
  refine (Put_any _ _ hs0 hs1).mono ?_
  rintro e w2 ⟨v2, rfl, hr2, hx2⟩
  obtain ⟨A2, c2, rfl, _, _⟩ := hr2.sliceN (n := 4) rfl
  have hE : Ext w2 (w2.alloc (.cells #[.int .u8 1] 5)) := (Below.refl _ _).alloc (Nat.le_refl _) _
  have h1b := hr1.ext (Ext.trans hx2 hE)
  have h2b := hr2.ext hE
  have hpb := hr.ext (Ext.trans hx1 (Ext.trans hx2 hE))
  have h3b := Rd.litB w2 [1] #[.int .u8 1] 5 1 w2.heap.size (by simp) (by simp [B]) rfl rfl
  have hx3 := Ext.trans hx1 (Ext.trans hx2 hE)
  have hl := RdL.lit (w := w2.alloc (.cells #[.int .u8 1] 5)) 30 [.slice A1 (numB p.length).length c1, .slice A p.length c, .slice A2 4 c2, .slice (some ⟨w2.heap.size, 0, none⟩) 1 1] [numB p.length, p, putB ((crcOf p).toNat : Int), [1]] #[.slice A1 (numB p.length).length c1, .slice A p.length c, .slice A2 4 c2, .slice (some ⟨w2.heap.size, 0, none⟩) 1 1] 4 (w2.heap.size + 1) rfl (by simp) rfl rfl (by simp) (by
    intro i u l hu hl
    match i, hu, hl with
    | 0, hu, hl => cases hu; cases hl; exact h1b
    | 1, hu, hl => cases hu; cases hl; exact hpb
    | 2, hu, hl => cases hu; cases hl; exact h2b
    | 3, hu, hl => cases hu; cases hl; exact h3b
    | (k + 4), hu, hl => simp at hu)
  have hcat : [numB p.length, p, putB ((crcOf p).toNat : Int), [1]].flatten = frameB p := by rw [HF.out]; simp
  have hlen : ([numB p.length, p, putB ((crcOf p).toNat : Int), [1]].flatten).length ≤ 140737488355328 := by
    have := numB_len8 (show p.length < 9007199254740992 by omega)
    rw [hcat, HF.out, List.length_append, List.length_append, List.length_append, putB_len]
    simp
    omega
  have hx4 : Ext w ((w2.alloc (.cells #[.int .u8 1] 5)).alloc (.cells #[.slice A1 (numB p.length).length c1, .slice A p.length c, .slice A2 4 c2, .slice (some ⟨w2.heap.size, 0, none⟩) 1 1] 30)) := Ext.trans hx3 ((Below.refl _ _).alloc (Nat.le_refl _) _)
  have HL := Lib.hid hl
  have HC := Lib.hid hcat
  have HN := Lib.hid hlen
  clear hr hl hcat hlen h1b h2b hpb h3b hr1 hr2 hs1 hs0 hE hx1 hx2 hx3 HF
  go_wp2_with fail
  refine (Concat_any _ _ _ HL.out HN.out).mono ?_
  rintro e w4 ⟨v4, rfl, hg4⟩
  go_wp2
  go_ret
  rw [HC.out] at hg4
  exact ⟨_, rfl, Grew.from_ext hx4 hg4⟩

theorem FramePut_any (p : List UInt8) (v : Value) (w : World) (hr : Rd w v (p.map B)) :
    Calls Try.prog 72 #[v] w fun e w' => ∃ v', e = .returned v' ∧ Grew w.heap.size 5 (.slice none 0 0) w ((frameB p).map B) v' w' := by
  by_cases h : 1 ≤ p.length ∧ p.length ≤ 4000
  · exact FramePut_yes p v w hr h
  · exact FramePut_no p v w hr h

theorem FramePut_rd (p : List UInt8) (v : Value) (w : World) (hr : Rd w v (p.map B)) : Calls Try.prog 72 #[v] w (BytesRd w (frameB p)) :=
  (FramePut_any p v w hr).mono fun _ _ h => BytesRd.of_grew h

end Go.Proofs.Ytdcmjmanalijfaa

/- Package slots: Start, where it fails. -/
namespace Go.Proofs.Ytdcmjmanalijfaa
open Go.RowKit

theorem load_old (s : DkS) (f z : Nat) (age : Int) : age ≤ ageI (loadD s f z) ↔ age ≤ ageI (picD s f z 0) ∨ age ≤ ageI (picD s f z 1) := by
  rw [loadD, loadP]
  split <;> omega

set_option maxRecDepth 100000 in
theorem SlStart_num (r : Option Addr) (v : Value) (age : Int) (w : World) (hn : ¬ (0 ≤ age ∧ age < 9007199254740992)) :
    Calls Try.prog 75 #[.pointer r, v, .int .i64 age] w fun e w' => e = .returned (.int .i64 1) ∧ Ext w w' := by
  have HK := Lib.hid (Num_no age w hn)
  clear hn
  cases r with
  | none =>
    go_enter Try.func75, Try.ntmps75
    go_wp2_with fail
    refine HK.out.mono ?_
    rintro e w1 ⟨rfl, rfl⟩
    go_wp2
    go_ret
    exact ⟨rfl, Ext.refl _⟩
  | some r =>
    go_enter Try.func75, Try.ntmps75
    go_wp2_with fail
    refine HK.out.mono ?_
    rintro e w1 ⟨rfl, rfl⟩
    go_wp2
    go_ret
    exact ⟨rfl, Ext.refl _⟩

set_option maxRecDepth 100000 in
theorem SlStart_nil0 (v : Value) (n : Nat) (w : World) (hn : n < 9007199254740992) : Calls Try.prog 75 #[.pointer none, v, .int .i64 (n : Int)] w fun e w' => e = .returned (.int .i64 1) ∧ Ext w w' := by
  have HK := Lib.hid (Num_yes n w hn)
  clear hn
  go_enter Try.func75, Try.ntmps75
  go_wp2_with fail
  refine HK.out.mono ?_
  rintro e w1 ⟨v1, rfl, hg1⟩
  have HX := Lib.hid hg1.ext
  clear hg1
  go_wp2
  go_ret
  exact ⟨rfl, HX.out⟩
theorem SlStart_nil (_p : List UInt8) (v : Value) (age : Int) (w : World) (_hr : Rd w v (_p.map B)) (_a0 : -9223372036854775808 ≤ age) (_a1 : age ≤ 9223372036854775807) : Calls Try.prog 75 #[.pointer none, v, .int .i64 age] w fun e w' => e = .returned (.int .i64 1) ∧ Ext w w' := by
  by_cases hn : 0 ≤ age ∧ age < 9007199254740992
  · obtain ⟨n, rfl⟩ : ∃ n : Nat, age = n := ⟨age.toNat, by omega⟩
    exact SlStart_nil0 v n w (by omega)
  · exact SlStart_num none v age w hn

set_option maxRecDepth 100000 in
theorem SlStart_old (F : Fp) (h g : Nat) (s : DkS) (f z : Nat) (v : Value) (n : Nat) (w : World) (hd : SD F w h g s f z) (hz : f + 2 * z ≤ s.1.length) (h1 : 1 ≤ z) (hw : s.2.1.length ≤ 1000000000) (hn : n < 9007199254740992) (ho : (n : Int) ≤ ageI (loadD s f z)) :
    Calls Try.prog 75 #[.pointer (some ⟨h, 0, none⟩), v, .int .i64 (n : Int)] w fun e w' => e = .returned (.int .i64 6) ∧ Ext w w' := by
  have hb := hd.lens
  obtain ⟨N, hN⟩ : ∃ N, s.1.length = N := ⟨_, rfl⟩
  have hlen : N ≤ 65536 := by omega
  have hz' : f + 2 * z ≤ N := by omega
  obtain ⟨m, hm⟩ : ∃ m, (numB n).length = m := ⟨_, rfl⟩
  have hm0 : ((m : Int) == 0) = false := by have := numB_pos n; rw [beq_eq_false_iff_ne]; omega
  obtain ⟨A, hA⟩ : ∃ A, A = ageI (loadD s f z) := ⟨_, rfl⟩
  have hO : decide ((n : Int) ≤ A) = true := by rw [hA]; exact decide_eq_true ho
  have HD := Lib.hid hd
  have HK := Lib.hid (Num_yes n w hn)
  have HN := Lib.hid (And.intro hN (And.intro hz' (And.intro h1 (And.intro hlen (And.intro hw (And.intro hm hA))))))
  clear hd hz hw hb hN hz' h1 hlen hn ho hm hA
  go_enter Try.func75, Try.ntmps75
  go_wp2_with fail
  refine HK.out.mono ?_
  rintro e w1 ⟨v1, rfl, hg1⟩
  have hr1 := Rd.own hg1.own
  obtain ⟨A1, k1, rfl, _, _⟩ := hr1.sliceN (n := m) (by rw [List.length_map, HN.out.2.2.2.2.2.1])
  have HX1 := Lib.hid hg1.ext
  have HD1 := Lib.hid (HD.out.ext hg1.ext)
  have c0 := HD1.out.sl.c0
  clear hg1 hr1
  go_wp2_with fail
  refine (Dk.bytesQ HD1.out.dk HN.out.1 (by have := HN.out; omega) HN.out.2.2.2.2.1).mono ?_
  rintro e w2 ⟨q, c, rfl, hr2, hx2⟩
  have HR2 := Lib.hid hr2
  have HX2 := Lib.hid (HX1.out.trans hx2)
  clear hr2 hx2 c0
  go_wp2_with fail
  refine (SlNewD F h g f z q c N s w2 (HD.out.ext HX2.out).sl HN.out.1 HR2.out HN.out.2.1 HN.out.2.2.1 HN.out.2.2.2.1).mono ?_
  rintro e w3 ⟨v3, rfl, hr3, hx3⟩
  have HX3 := Lib.hid (HX2.out.trans hx3)
  rw [← HN.out.2.2.2.2.2.2]
  clear hr3 hx3 HX2 HR2
  go_wp2
  go_ret
  exact ⟨rfl, HX3.out⟩

end Go.Proofs.Ytdcmjmanalijfaa

/- Package slots: Start, where the picture has no room. -/
namespace Go.Proofs.Ytdcmjmanalijfaa
open Go.RowKit

set_option maxRecDepth 100000 in
set_option maxHeartbeats 400000 in
theorem SlStart_full (F : Fp) (h g : Nat) (s : DkS) (f z : Nat) (p : List UInt8) (v : Value) (n : Nat) (w : World) (hd : SD F w h g s f z) (hr : Rd w v (p.map B)) (hz : f + 2 * z ≤ s.1.length) (h1 : 1 ≤ z) (hw : s.2.1.length ≤ 1000000000) (hp : p.length ≤ 1000000)
    (hn : n < 9007199254740992) (ho : ¬ (n : Int) ≤ ageI (loadD s f z)) (hf : frameB (payB n p) = [] ∨ z < (frameB (payB n p)).length) :
    Calls Try.prog 75 #[.pointer (some ⟨h, 0, none⟩), v, .int .i64 (n : Int)] w fun e w' => e = .returned (.int .i64 3) ∧ Ext w w' := by
  have hb := hd.lens
  obtain ⟨N, hN⟩ : ∃ N, s.1.length = N := ⟨_, rfl⟩
  have hlen : N ≤ 65536 := by omega
  have hz' : f + 2 * z ≤ N := by omega
  obtain ⟨m, hm⟩ : ∃ m, (numB n).length = m := ⟨_, rfl⟩
  have hm0 : ((m : Int) == 0) = false := by have := numB_pos n; rw [beq_eq_false_iff_ne]; omega
  have hm8 : m ≤ 8 := by rw [← hm]; exact numB_len8 hn
  obtain ⟨A, hA⟩ : ∃ A, A = ageI (loadD s f z) := ⟨_, rfl⟩
  have hO : decide ((n : Int) ≤ A) = false := by rw [hA]; exact decide_eq_false ho
  obtain ⟨L, hL⟩ : ∃ L, (frameB (payB n p)).length = L := ⟨_, rfl⟩
  obtain ⟨Ap, cp, rfl, hlp, _⟩ := hr.sliceN (List.length_map _)
  have hcat : [numB n, p].flatten = payB n p := by rw [payB]; simp
  have hpl : ([numB n, p].flatten).length ≤ 140737488355328 := by rw [hcat, payB, List.length_append]; omega
  have HD := Lib.hid hd
  have HR := Lib.hid hr
  have HK := Lib.hid (Num_yes n w hn)
  have HCAT := Lib.hid hcat
  have HPL := Lib.hid hpl
  have HN := Lib.hid (And.intro hN (And.intro hz' (And.intro h1 (And.intro hlen (And.intro hw (And.intro hm (And.intro hA hL)))))))
  have hLz : L = 0 ∨ z < L := by
    rcases hf with hf | hf
    · left
      rw [← hL, hf]
      rfl
    · right
      omega
  have HLZ := Lib.hid hLz
  clear hLz
  clear hd hr hz hw hb hN hz' h1 hlen hn ho hm hm8 hA hlp hcat hpl hL hp hf
  go_enter Try.func75, Try.ntmps75
  go_wp2_with fail
  refine HK.out.mono ?_
  rintro e w1 ⟨v1, rfl, hg1⟩
  have hr1 := Rd.own hg1.own
  obtain ⟨A1, k1, rfl, _, _⟩ := hr1.sliceN (n := m) (by rw [List.length_map, HN.out.2.2.2.2.2.1])
  have HX1 := Lib.hid hg1.ext
  have HD1 := Lib.hid (HD.out.ext hg1.ext)
  have HR1 := Lib.hid hr1
  have c0 := HD1.out.sl.c0
  clear hg1 hr1
  go_wp2_with fail
  refine (Dk.bytesQ HD1.out.dk HN.out.1 (by have := HN.out; omega) (by have := HN.out; omega)).mono ?_
  rintro e w2 ⟨q, c, rfl, hr2, hx2⟩
  have HR2 := Lib.hid hr2
  have HRN := Lib.hid (HR1.out.ext hx2)
  have HX2 := Lib.hid (HX1.out.trans hx2)
  clear hr2 hx2 c0 HR1 HD1
  go_wp2_with fail
  refine (SlNewD F h g f z q c N s w2 (HD.out.ext HX2.out).sl HN.out.1 HR2.out HN.out.2.1 HN.out.2.2.1 HN.out.2.2.2.1).mono ?_
  rintro e w3 ⟨v3, rfl, hr3, hx3⟩
  have HX3 := Lib.hid (HX2.out.trans hx3)
  have HRM := Lib.hid (HRN.out.ext hx3)
  rw [← HN.out.2.2.2.2.2.2.1]
  clear hr3 hx3 HX2 HR2 HRN HX1 HK
  go_wp2_with fail
  have hE : Ext w3 (w3.alloc (.cells #[.slice A1 m k1, .slice Ap p.length cp] 30)) := (Below.refl _ _).alloc (Nat.le_refl _) _
  have h1b := HRM.out
  have hpb := HR.out.ext HX3.out
  have hl := RdL.lit (w := w3) 30 [.slice A1 m k1, .slice Ap p.length cp] [numB n, p] #[.slice A1 m k1, .slice Ap p.length cp] 2 w3.heap.size rfl (by simp) rfl rfl rfl (by
    intro i u l hu hl
    match i, hu, hl with
    | 0, hu, hl => cases hu; cases hl; exact h1b
    | 1, hu, hl => cases hu; cases hl; exact hpb
    | (k + 2), hu, hl => simp at hu)
  have HX4 := Lib.hid (HX3.out.trans hE)
  have HL := Lib.hid hl
  clear hE h1b hpb hl HRM
  refine (Concat_any _ _ _ HL.out HPL.out).mono ?_
  rintro e w5 ⟨v5, rfl, hg5⟩
  rw [HCAT.out] at hg5
  have HR5 := Lib.hid (Rd.own hg5.own)
  have HX5 := Lib.hid (HX4.out.trans hg5.ext)
  clear hg5 HX4 HL HX3
  go_wp2_with fail
  refine (FramePut_any (payB n p) _ w5 HR5.out).mono ?_
  rintro e w6 ⟨v6, rfl, hg6⟩
  have hr6 := Rd.own hg6.own
  obtain ⟨A6, k6, rfl, _, _⟩ := hr6.sliceN (n := L) (by rw [List.length_map, HN.out.2.2.2.2.2.2.2])
  have HX6 := Lib.hid (HX5.out.trans hg6.ext)
  have c2 := (HD.out.ext HX6.out).sl.c2
  clear hg6 hr6 HR5
  by_cases h0 : L = 0
  · subst h0
    go_wp2
    go_ret
    exact ⟨rfl, HX6.out⟩
  · have hz0 : ((L : Int) == 0) = false := by rw [beq_eq_false_iff_ne]; omega
    have hg : z < L := by have := HLZ.out; omega
    clear h0
    go_wp2
    go_ret
    exact ⟨rfl, HX6.out⟩

end Go.Proofs.Ytdcmjmanalijfaa

/- Package slots: Start, where a picture is written. -/
namespace Go.Proofs.Ytdcmjmanalijfaa
open Go.RowKit

set_option maxRecDepth 100000 in
set_option maxHeartbeats 1000000 in
theorem SlStart_yes (F : Fp) (h g : Nat) (s : DkS) (f z : Nat) (p : List UInt8) (v : Value) (n : Nat) (w : World) (hd : SD F w h g s f z) (hr : Rd w v (p.map B)) (hz : f + 2 * z ≤ s.1.length) (h1 : 1 ≤ z) (hw : s.2.1.length ≤ 100000000) (hn0 : 0 ≤ s.2.2) (hn1 : s.2.2 ≤ 100000000) (hp : p.length ≤ 1000000)
    (hn : n < 9007199254740992) (ho : ¬ (n : Int) ≤ ageI (loadD s f z)) (hf : ¬ (frameB (payB n p) = [] ∨ z < (frameB (payB n p)).length)) :
    Calls Try.prog 75 #[.pointer (some ⟨h, 0, none⟩), v, .int .i64 (n : Int)] w fun e w' => e = .returned (.int .i64 0) ∧ SD (F.since w w') w' h g (stD s f z p n) f z ∧ Chg F w w' := by
  have hb := hd.lens
  obtain ⟨N, hN⟩ : ∃ N, s.1.length = N := ⟨_, rfl⟩
  have hlen : N ≤ 65536 := by omega
  have hz' : f + 2 * z ≤ N := by omega
  obtain ⟨m, hm⟩ : ∃ m, (numB n).length = m := ⟨_, rfl⟩
  have hm0 : ((m : Int) == 0) = false := by have := numB_pos n; rw [beq_eq_false_iff_ne]; omega
  have hm8 : m ≤ 8 := by rw [← hm]; exact numB_len8 hn
  obtain ⟨A, hA⟩ : ∃ A, A = ageI (loadD s f z) := ⟨_, rfl⟩
  have hO : decide ((n : Int) ≤ A) = false := by rw [hA]; exact decide_eq_false ho
  obtain ⟨L, hL⟩ : ∃ L, (frameB (payB n p)).length = L := ⟨_, rfl⟩
  obtain ⟨Ap, cp, rfl, hlp, _⟩ := hr.sliceN (List.length_map _)
  have hcat : [numB n, p].flatten = payB n p := by rw [payB]; simp
  have hpl : ([numB n, p].flatten).length ≤ 140737488355328 := by rw [hcat, payB, List.length_append]; omega
  have HD := Lib.hid hd
  have HR := Lib.hid hr
  have HK := Lib.hid (Num_yes n w hn)
  have HCAT := Lib.hid hcat
  have HPL := Lib.hid hpl
  have HN := Lib.hid (And.intro hN (And.intro hz' (And.intro h1 (And.intro hlen (And.intro hw (And.intro hm (And.intro hA hL)))))))
  obtain ⟨K, hK⟩ : ∃ K, K = stK s f z := ⟨_, rfl⟩
  have HKK : Hid (K = stK s f z ∧ K ≤ 1) := Lib.hid ⟨hK, by rw [hK]; exact stK_le _ _ _⟩
  have hL0 : 0 < L := by
    rw [← hL]
    exact List.length_pos_iff.2 (fun e => hf (.inl e))
  have hLz : ¬ z < L := by omega
  have hz0 : ((L : Int) == 0) = false := by rw [beq_eq_false_iff_ne]; omega
  obtain ⟨a, ha⟩ : ∃ a : Nat, a = f + K * z := ⟨_, rfl⟩
  have hain : a + z ≤ N := by
    rw [ha]
    exact slot_in hz' (by rw [hK]; exact stK_le _ _ _)
  have hsd : stD s f z p n = wrD (syD (wrD s (a : Int) (List.replicate z 0))) (a : Int) (frameB (payB n p)) := by
    rw [stD, wpD, ← hK, ← ha, frP, Int.toNat_natCast]
  have hwt := wrD_waits s (a : Int) (List.replicate z (0 : UInt8))
  rw [List.length_replicate] at hwt
  have HM : Hid (0 < L ∧ a = f + K * z ∧ a + z ≤ N ∧ L ≤ z ∧ (wrD s (a : Int) (List.replicate z 0)).2.1.length ≤ 1000000000 ∧ 0 ≤ s.2.2 ∧ s.2.2 ≤ 100000000) := Lib.hid ⟨hL0, ha, hain, by omega, by omega, hn0, hn1⟩
  have HSD := Lib.hid hsd
  clear hK ha hain hL0 hsd hwt
  clear hd hr hz hw hb hN hz' h1 hlen hn ho hm hm8 hA hlp hcat hpl hL hp hf hn0 hn1
  go_enter Try.func75, Try.ntmps75
  go_wp2_with fail
  refine HK.out.mono ?_
  rintro e w1 ⟨v1, rfl, hg1⟩
  have hr1 := Rd.own hg1.own
  obtain ⟨A1, k1, rfl, _, _⟩ := hr1.sliceN (n := m) (by rw [List.length_map, HN.out.2.2.2.2.2.1])
  have HX1 := Lib.hid hg1.ext
  have HD1 := Lib.hid (HD.out.ext hg1.ext)
  have HR1 := Lib.hid hr1
  have c0 := HD1.out.sl.c0
  clear hg1 hr1
  go_wp2_with fail
  refine (Dk.bytesQ HD1.out.dk HN.out.1 (by have := HN.out; omega) (by have := HN.out; omega)).mono ?_
  rintro e w2 ⟨q, c, rfl, hr2, hx2⟩
  have HR2 := Lib.hid hr2
  have HRN := Lib.hid (HR1.out.ext hx2)
  have HX2 := Lib.hid (HX1.out.trans hx2)
  clear hr2 hx2 c0 HR1 HD1
  go_wp2_with fail
  refine (SlNewD F h g f z q c N s w2 (HD.out.ext HX2.out).sl HN.out.1 HR2.out HN.out.2.1 HN.out.2.2.1 HN.out.2.2.2.1).mono ?_
  rintro e w3 ⟨v3, rfl, hr3, hx3⟩
  have HX3 := Lib.hid (HX2.out.trans hx3)
  have HRM := Lib.hid (HRN.out.ext hx3)
  rw [← HN.out.2.2.2.2.2.2.1]
  rw [← HKK.out.1]
  clear hr3 hx3 HX2 HR2 HRN HX1 HK
  go_wp2_with fail
  have hE : Ext w3 (w3.alloc (.cells #[.slice A1 m k1, .slice Ap p.length cp] 30)) := (Below.refl _ _).alloc (Nat.le_refl _) _
  have h1b := HRM.out
  have hpb := HR.out.ext HX3.out
  have hl := RdL.lit (w := w3) 30 [.slice A1 m k1, .slice Ap p.length cp] [numB n, p] #[.slice A1 m k1, .slice Ap p.length cp] 2 w3.heap.size rfl (by simp) rfl rfl rfl (by
    intro i u l hu hl
    match i, hu, hl with
    | 0, hu, hl => cases hu; cases hl; exact h1b
    | 1, hu, hl => cases hu; cases hl; exact hpb
    | (k + 2), hu, hl => simp at hu)
  have HX4 := Lib.hid (HX3.out.trans hE)
  have HL := Lib.hid hl
  clear hE h1b hpb hl HRM
  refine (Concat_any _ _ _ HL.out HPL.out).mono ?_
  rintro e w5 ⟨v5, rfl, hg5⟩
  rw [HCAT.out] at hg5
  have HR5 := Lib.hid (Rd.own hg5.own)
  have HX5 := Lib.hid (HX4.out.trans hg5.ext)
  clear hg5 HX4 HL HX3
  go_wp2_with fail
  refine (FramePut_any (payB n p) _ w5 HR5.out).mono ?_
  rintro e w6 ⟨v6, rfl, hg6⟩
  have hr6 := RdF.made hg6
  obtain ⟨A6, k6, rfl, _, _⟩ := hr6.rd.sliceN (n := L) (by rw [List.length_map, HN.out.2.2.2.2.2.2.2])
  have HX6 := Lib.hid (HX5.out.trans hg6.ext)
  have HR6 := Lib.hid hr6
  have HS6 : Hid (w.heap.size ≤ w5.heap.size ∧ w5.heap.size ≤ w6.heap.size) := Lib.hid ⟨HX5.out.size, hg6.ext.size⟩
  have c2 := (HD.out.ext HX6.out).sl.c2
  clear hg6 hr6 HR5 HX5 HR
  go_wp2_with fail
  refine (SlPlace F h g f z K w6 (HD.out.ext HX6.out).sl (by have := HN.out; omega) (by have := HKK.out.2; omega)).mono ?_
  rintro e w7 ⟨he, hx7⟩
  rw [← HM.out.2.1] at he
  subst he
  obtain ⟨w8, hmk, hg8⟩ := run_make_u8 w7.drew z (by have := HN.out; omega)
  have hx67 := hx7.trans (Ext.dr (Ext.refl w7))
  have hx68 := hx67.trans hg8.ext
  have hx7d := HX6.out.trans hx67
  have hx8 := HX6.out.trans hx68
  have e0 := (HD.out.ext hx7d).sl.c0
  have e2 := (HD.out.ext hx7d).sl.c2
  have d0 := (HD.out.ext hx8).sl.c0
  have d2 := (HD.out.ext hx8).sl.c2
  have hrd := RdF.made hg8
  have hs67 : w6.heap.size ≤ w7.heap.size := hx7.size
  have hs78 : w7.heap.size ≤ w8.heap.size := hg8.ext.size
  have KW := SD.turnF (HD.out.ext hx8) (fun F1 hF1 hd1 => DkWrite F1 (fun k => w7.drew.heap.size ≤ k ∧ k < w8.heap.size) g s (a : Int) _ (List.replicate z (0 : UInt8)) w8 hd1 hrd (fun k hk hF => by have := HD.out.isIn k (hF1 k hF); have := HS6.out; have : w7.drew.heap.size = w7.heap.size := rfl; omega) (fun k hk => hk.2) (by omega) (by have := HN.out; have := HM.out; omega) (by have := HN.out; omega))
  have HR8 := Lib.hid (RdF.ext HR6.out hx68)
  have HX8 := Lib.hid hx8
  have HS8 : Hid (w6.heap.size ≤ w8.heap.size) := Lib.hid (by omega)
  have KW' := Lib.hid KW
  clear KW hx67 hx68 hx7d hx8 hrd hs67 hs78 hg8 HR6 HX6 hx7
  go_wp2
  go_region_law (go_simp; (go_at_call 74; refine KW'.out.mono ?_; rintro e w9 ⟨rfl, hd9, hc9⟩))
  all_goals
    have HD9 := Lib.hid hd9
    have HC9 := Lib.hid hc9
    have HR9 := Lib.hid (HR8.out.chg hc9 (fun k hk hF => by have := HD.out.isIn k hF; have := HS6.out; omega))
    have g0 := hd9.sl.c0
    clear hd9 hc9 hmk e0 e2 d0 d2 KW' HR8 c2
    go_wp2_with fail
    refine (SD.turnF HD9.out (fun F1 hF1 hd1 => DkSync F1 g _ w9 hd1 HM.out.2.2.2.2.1 (by rw [wrD_n]; exact HM.out.2.2.2.2.2.1) (by rw [wrD_n]; have := HM.out; omega))).mono ?_
    rintro e w10 ⟨rfl, hd10, hc10⟩
    have hi9 : ∀ k, F.since w8 w9 k → ¬ (w5.heap.size ≤ k ∧ k < w6.heap.size) := fun k hk hk2 => by
      rcases hk with hk | hk
      · have := HD.out.isIn k hk
        have := HS6.out
        omega
      · have := HS8.out
        omega
    have hr10 := HR9.out.chg hc10 (fun k hk hF => hi9 k hF hk)
    have hl2 : (syD (wrD s (a : Int) (List.replicate z (0 : UInt8)))).1.length = N := by rw [syD_len, wrD_len, HN.out.1]
    have hwe : wrE (syD (wrD s (a : Int) (List.replicate z (0 : UInt8)))).1.length (a : Int) (frameB (payB n p)).length = 0 := by
      rw [hl2]
      exact wrE_yes (by have := HN.out; have := HM.out; omega)
    have h810 : w8.heap.size ≤ w9.heap.size ∧ w9.heap.size ≤ w10.heap.size := ⟨HC9.out.size, hc10.size⟩
    have KW2 := SD.turnF hd10 (fun F1 hF1 hd1 => DkWrite F1 (fun k => w5.heap.size ≤ k ∧ k < w6.heap.size) g _ (a : Int) _ (frameB (payB n p)) w10 hd1 hr10 (fun k hk hF => by
      rcases hF1 k hF with hF | hF
      · exact hi9 k hF hk
      · have := HS8.out
        omega) (fun k hk => by have := HS8.out; omega) (by omega) (by have := HN.out; have := HM.out; omega) (by simp [syD]))
    rw [hwe] at KW2
    have g0 := hd10.sl.c0
    have KW2' := Lib.hid KW2
    have HC10 := Lib.hid hc10
    clear hd10 hc10 hi9 hr10 hl2 hwe KW2 HD9 HR9 h810
    go_wp2_with fail
    refine KW2'.out.mono ?_
    rintro e w11 ⟨rfl, hd11, hc11⟩
    have HD11 := Lib.hid hd11
    have HC11 := Lib.hid hc11
    clear hd11 hc11 KW2'
    go_wp2
    go_ret
    have t8 := HX8.out.size
    have t9 := HC9.out.size
    have t10 := HC10.out.size
    have t11 := HC11.out.size
    refine ⟨rfl, ?_, ?_⟩
    · rw [HSD.out]
      refine HD11.out.mono (fun k hk => ?_) (HD.out.isIn.since (by omega))
      rcases hk with (hk | hk) | hk
      · rcases hk with hk | hk
        · exact .inl hk
        · exact .inr ⟨by omega, by omega⟩
      · exact .inr ⟨by omega, by omega⟩
      · exact .inr ⟨by omega, by omega⟩
    · have q1 : Chg F w w9 := (Chg.of_ext HX8.out).trans HC9.out (fun _ _ h => h)
      have q2 : Chg F w w10 := q1.trans HC10.out (fun x hx hF => by
        rcases hF with hF | hF
        · exact hF
        · omega)
      exact q2.trans HC11.out (fun x hx hF => by
        rcases hF with (hF | hF) | hF
        · exact hF
        · omega
        · omega)

end Go.Proofs.Ytdcmjmanalijfaa

/- Package slots: Open, Load; what nil slots answer. -/
namespace Go.Proofs.Ytdcmjmanalijfaa
open Go.RowKit

theorem half_le {N i n Y : Int} (hY : Y = N - i) (hN : N ≤ 65536) (hi : 0 ≤ i) (h : i + 2 * n ≤ N) (h1 : 1 ≤ n) : ∃ Z, wrap64 (Y.tdiv 2) = Z ∧ decide (Z < n) = false := by
  subst hY
  refine ⟨(N - i) / 2, ?_, by simp; omega⟩
  rw [Int.tdiv_eq_ediv_of_nonneg (by omega)]
  exact IntWalk.wrap64_in _ (by omega)
theorem half_gt {N i n Y : Int} (hY : Y = N - i) (hN : 0 ≤ N ∧ N ≤ 65536) (hi : 0 ≤ i ∧ i ≤ 9223372036854775807) (h : N < i + 2 * n) (h1 : 1 ≤ n) : ∃ Z, wrap64 (Y.tdiv 2) = Z ∧ decide (Z < n) = true := by
  subst hY
  rcases Int.lt_or_le (N - i) 0 with h0 | h0
  · refine ⟨- ((i - N) / 2), ?_, by simp; omega⟩
    rw [show N - i = -(i - N) by omega, Int.neg_tdiv, Int.tdiv_eq_ediv_of_nonneg (by omega)]
    exact IntWalk.wrap64_in _ (by omega)
  · refine ⟨(N - i) / 2, ?_, by simp; omega⟩
    rw [Int.tdiv_eq_ediv_of_nonneg h0]
    exact IntWalk.wrap64_in _ (by omega)

set_option maxRecDepth 100000 in
theorem SlOpen_no (F : Fp) (g : Nat) (s : DkS) (i n : Int) (w : World) (hd : Dk F w g s) (h : ¬ (0 ≤ i ∧ 1 ≤ n ∧ i + 2 * n ≤ s.1.length)) (i0 : -9223372036854775808 ≤ i) (i1 : i ≤ 9223372036854775807) (n0 : -9223372036854775808 ≤ n) (n1 : n ≤ 9223372036854775807) :
    Calls Try.prog 30 #[.pointer (some ⟨g, 0, none⟩), .int .i64 i, .int .i64 n] w fun e w' => e = .returned (.tuple #[.pointer none, .int .i64 1]) ∧ Ext w w' := by
  have hb := hd.lens
  have KS := DkSize F g s w hd
  by_cases c1 : n < 1
  · have d1 : decide (n < 1) = true := by simp; omega
    clear h hd hb KS
    go_enter Try.func30, Try.ntmps30
    go_wp2
    go_ret2
    exact ⟨rfl, Ext.refl _⟩
  · by_cases c2 : i < 0
    · have d1 : decide (n < 1) = false := by simp; omega
      have d2 : decide (i < 0) = true := by simp; omega
      clear h hd hb KS c1
      go_enter Try.func30, Try.ntmps30
      go_wp2
      go_ret2
      exact ⟨rfl, Ext.refl _⟩
    · obtain ⟨Y, hY⟩ : ∃ Y : Int, Y = (s.1.length : Int) - i := ⟨_, rfl⟩
      have w1 : IntKind.i64.wrap ((s.1.length : Int) - i) = Y := by rw [IntKind.wrap_i64]; omega
      obtain ⟨Z, wz, d3⟩ := half_gt (n := n) hY (by omega) (by omega) (by omega) (by omega)
      have d1 : decide (n < 1) = false := by simp; omega
      have d2 : decide (i < 0) = false := by simp; omega
      have HK := Lib.hid KS
      clear h hd hb KS hY c1 c2
      go_enter Try.func30, Try.ntmps30
      go_wp2_with fail
      refine HK.out.mono ?_
      rintro e w2 ⟨rfl, hx⟩
      go_wp2
      go_ret2
      exact ⟨rfl, hx⟩

set_option maxRecDepth 100000 in
theorem SlOpen_yes (F : Fp) (g : Nat) (s : DkS) (f z : Nat) (w : World) (hd : Dk F w g s) (hz : f + 2 * z ≤ s.1.length) (h1 : 1 ≤ z) :
    Calls Try.prog 30 #[.pointer (some ⟨g, 0, none⟩), .int .i64 (f : Int), .int .i64 (z : Int)] w fun e w' => ∃ h, e = .returned (.tuple #[.pointer (some ⟨h, 0, none⟩), .int .i64 0]) ∧ Sl (fun k => w.heap.size ≤ k ∧ k < w'.heap.size) w' h g f z ∧ Ext w w' := by
  have hb := hd.lens
  have KS := DkSize F g s w hd
  obtain ⟨Y, hY⟩ : ∃ Y : Int, Y = (s.1.length : Int) - (f : Int) := ⟨_, rfl⟩
  have w1 : IntKind.i64.wrap ((s.1.length : Int) - (f : Int)) = Y := by rw [IntKind.wrap_i64]; omega
  obtain ⟨Z, wz, d3⟩ := half_le (n := (z : Int)) hY (by omega) (by omega) (by omega) (by omega)
  have d1 : decide ((z : Int) < 1) = false := by simp; omega
  have d2 : decide ((f : Int) < 0) = false := by simp
  have HK := Lib.hid KS
  clear hd hb KS hY hz h1
  go_enter Try.func30, Try.ntmps30
  go_wp2_with fail
  refine HK.out.mono ?_
  rintro e w2 ⟨rfl, hx⟩
  have HX := Lib.hid hx
  clear hx
  go_wp2
  go_ret2
  have hs := HX.out.size
  have hn : ObjF (fun k => w2.heap.size ≤ k ∧ k < w2.heap.size + 1) (w2.alloc (.cells #[.pointer (some ⟨g, 0, none⟩), .int .i64 (f : Int), .int .i64 (z : Int)] 101)) w2.heap.size 101 #[.pointer (some ⟨g, 0, none⟩), .int .i64 (f : Int), .int .i64 (z : Int)] [] :=
    ObjF.new (w0 := w2) (rows := []) (Nat.le_refl _) _ _ (fun r hr => absurd hr List.not_mem_nil) List.Pairwise.nil
  refine ⟨w2.heap.size, rfl, ?_, HX.out.trans ((Below.refl _ _).alloc (Nat.le_refl _) _)⟩
  exact Sl.mono hn (fun k hk => ⟨by omega, by simpa using hk.2⟩) (fun k hk => hk.2)

end Go.Proofs.Ytdcmjmanalijfaa
