/- Layer 3, package frame: what stands at a place, the payload a piece of the bytes. -/
import Derived.Test.YticgpldpbbfklaaFrameDef
import Derived.Test.YticgpldpbbfklaaCodeGetNum
import Derived.Test.YticgpldpbbfklaaSumIs
import Derived.Outline
namespace Go.Proofs.Yticgpldpbbfklaa
open Go.RowKit

theorem RdN.cut {w : World} {row : Option Nat} {b o N c : Nat} {xs : List Value} (h : RdN w row (.slice (some ⟨b, o, none⟩) N c) xs) (lo n m : Nat) (hn : 0 < n) (hnm : n ≤ m) (hle : lo + n ≤ xs.length) (hm : m ≤ c) :
    RdN w row (.slice (some ⟨b, o + lo, none⟩) n m) ((xs.drop lo).take n) := by
  obtain ⟨A', c', e, h1, h2, h3⟩ := h
  cases e
  have hl : ((xs.drop lo).take n).length = n := by rw [List.length_take, List.length_drop]; omega
  refine ⟨_, _, by rw [hl], by omega, by omega, fun _ => ?_⟩
  obtain ⟨b', o', h, hb, hr, hc⟩ := h3 (by omega)
  cases h
  refine ⟨b, o + lo, rfl, hb, hr, fun j u hu => ?_⟩
  rw [List.getElem?_take] at hu
  split at hu
  · rw [List.getElem?_drop] at hu
    rw [Nat.add_assoc]
    exact hc _ u hu
  · cases hu
theorem RdN.nil (w : World) (row : Option Nat) : RdN w row (.slice none 0 0) [] := ⟨none, 0, rfl, Nat.le_refl _, Nat.zero_le _, fun h => absurd h (by simp)⟩
theorem RdN.of_rd {w : World} {v : Value} {xs : List Value} (h : Rd w v xs) : RdN w none v xs := by
  obtain ⟨A, c, e, h1, h2, h3⟩ := h
  refine ⟨A, c, e, h1, h2, fun hn => ?_⟩
  obtain ⟨b, o, a, hb, hc⟩ := h3 hn
  exact ⟨b, o, a, hb, by simp, hc⟩

/-- What cut answers: the payload is a piece of the bytes. -/
def CutPost (row : Option Nat) (bs : List UInt8) (i : Int) (w : World) (e : Ending) (w' : World) : Prop :=
  ∃ v', e = .returned (.tuple #[v', .int .i64 (getF bs i).2.1, .int .i64 (getF bs i).2.2]) ∧ RdN w' row v' ((getF bs i).1.map B) ∧ Ext w w'

theorem CutPost.none_ {row : Option Nat} {bs : List UInt8} {i : Int} {w w' : World} {t : Int} (h : getF bs i = ([], i, t)) (hx : Ext w w') : CutPost row bs i w (.returned (.tuple #[.slice none 0 0, .int .i64 i, .int .i64 t])) w' := by
  rw [CutPost, h]
  exact ⟨_, rfl, RdN.nil _ _, hx⟩

section
variable {row : Option Nat}
theorem cut_low (bs : List UInt8) (v : Value) (i : Int) (w : World) (hr : RdN w row v (bs.map B)) (h : i < 0 ∨ (bs.length : Int) < i) : Calls Try.prog 25 #[v, .int .i64 i] w (CutPost row bs i w) := by
  obtain ⟨A, c, rfl, hlc, hcm⟩ := hr.rd.sliceN (List.length_map _)
  unfold maxLen at hcm
  have hp := CutPost.none_ (row := row) (w := w) (getF_low h) (Ext.refl w)
  have HP := Lib.hid hp
  clear hp
  by_cases h0 : i < 0
  · clear h
    go_enter Try.func25, Try.ntmps25
    go_wp2
    go_ret3
    exact HP.out
  · have h1 : decide ((bs.length : Int) < i) = true := by simp; omega
    clear h
    go_enter Try.func25, Try.ntmps25
    go_wp2
    go_ret3
    exact HP.out

theorem cut_done (bs : List UInt8) (v : Value) (w : World) (hr : RdN w row v (bs.map B)) : Calls Try.prog 25 #[v, .int .i64 (bs.length : Int)] w (CutPost row bs (bs.length : Int) w) := by
  obtain ⟨A, c, rfl, hlc, hcm⟩ := hr.rd.sliceN (List.length_map _)
  unfold maxLen at hcm
  have hp := CutPost.none_ (row := row) (w := w) (getF_done bs) (Ext.refl w)
  have HP := Lib.hid hp
  clear hp
  go_enter Try.func25, Try.ntmps25
  go_wp2
  go_ret3
  exact HP.out

theorem cut_nought (bs : List UInt8) (v : Value) (k : Nat) (w : World) (hr : RdN w row v (bs.map B)) (h : k < bs.length) (h0 : bs[k] = 0) : Calls Try.prog 25 #[v, .int .i64 (k : Int)] w (CutPost row bs (k : Int) w) := by
  obtain ⟨A, c, rfl, hlc, hcm⟩ := hr.rd.sliceN (List.length_map _)
  unfold maxLen at hcm
  have hp := CutPost.none_ (row := row) (w := w) (getF_nought h h0) (Ext.refl w)
  have HP := Lib.hid hp
  clear hp
  obtain ⟨b, o, rfl, hb, hc⟩ := hr.rd.get (by rw [List.length_map]; omega)
  have e1 : w.cell? ⟨b, o + k, none⟩ = some (.int .u8 0) := hc k _ (by rw [List.getElem?_map, List.getElem?_eq_getElem h, h0]; rfl)
  clear hc h0
  go_enter Try.func25, Try.ntmps25
  go_wp2
  go_ret3
  exact HP.out

theorem cut_num (bs : List UInt8) (v : Value) (k : Nat) (w : World) (hr : RdN w row v (bs.map B)) (h : k < bs.length) (h0 : bs[k] ≠ 0) (hg : getN (bs.drop k) = none) : Calls Try.prog 25 #[v, .int .i64 (k : Int)] w (CutPost row bs (k : Int) w) := by
  obtain ⟨A, c, rfl, hlc, hcm⟩ := hr.rd.sliceN (List.length_map _)
  unfold maxLen at hcm
  have hf : getF bs (k : Int) = ([], (k : Int), 2) := by rw [getF_there h h0, frameAt_none hg]
  have hp := CutPost.none_ (row := row) (w := w) hf (Ext.refl w)
  have HP := Lib.hid hp
  have HG := Lib.hid hg
  clear hf hp hg
  have hr0 := hr.rd
  obtain ⟨b, o, rfl, hb, hc⟩ := hr0.get (by rw [List.length_map]; omega)
  have e1 : w.cell? ⟨b, o + k, none⟩ = some (B bs[k]) := hc k _ (by rw [List.getElem?_map, List.getElem?_eq_getElem h]; rfl)
  have hne : ((bs[k].toNat : Int) == 0) = false := by rw [beq_eq_false_iff_ne]; intro e; exact h0 (UInt8.toNat_inj.1 (by show bs[k].toNat = 0; omega))
  have hrr := hr.rd
  generalize bs[k] = x at *
  simp only [B] at e1
  clear hc h0
  go_enter Try.func25, Try.ntmps25
  go_wp2_with fail
  refine (GetNum_none bs _ k _ hrr (by omega) HG.out).mono ?_
  rintro e w1 ⟨rfl, rfl⟩
  go_wp2
  go_ret3
  exact HP.out

/-- The number of a frame's bytes isn't 0 where the first byte isn't. -/
theorem getN_pos {bs : List UInt8} {k n j : Nat} (h : k < bs.length) (h0 : bs[k] ≠ 0) (hg : getN (bs.drop k) = some (n, j)) : 1 ≤ n := by
  rcases Nat.eq_zero_or_pos n with h1 | h1
  · exfalso
    subst h1
    have hle := getN_le hg
    have h2 := getN_get hg
    rw [List.drop_eq_getElem_cons h, numB_lo (by omega)] at h2
    obtain ⟨j', rfl⟩ : ∃ j', j = j' + 1 := ⟨j - 1, by omega⟩
    rw [List.take_succ_cons] at h2
    injection h2 with h3 _
    exact h0 h3.symm
  · exact h1

set_option maxHeartbeats 400000 in
theorem cut_size (bs : List UInt8) (v : Value) (k n j : Nat) (w : World) (hr : RdN w row v (bs.map B)) (h : k < bs.length) (h0 : bs[k] ≠ 0) (hg : getN (bs.drop k) = some (n, j)) (hn : 4000 < n ∨ (n ≤ 4000 ∧ bs.length < k + j + n + 5)) : Calls Try.prog 25 #[v, .int .i64 (k : Int)] w (CutPost row bs (k : Int) w) := by
  obtain ⟨A, c, rfl, hlc, hcm⟩ := hr.rd.sliceN (List.length_map _)
  unfold maxLen at hcm
  have hle := getN_le hg
  rw [List.length_drop] at hle
  have hf : getF bs (k : Int) = ([], (k : Int), 2) := by rw [getF_there h h0, frameAt_no hg (by rw [List.length_drop]; omega)]
  have hp := CutPost.none_ (row := row) (w := w) hf (Ext.refl w)
  have HP := Lib.hid hp
  have HG := Lib.hid hg
  clear hf hp hg
  have hr0 := hr.rd
  obtain ⟨b, o, rfl, hb, hc⟩ := hr0.get (by rw [List.length_map]; omega)
  have e1 : w.cell? ⟨b, o + k, none⟩ = some (B bs[k]) := hc k _ (by rw [List.getElem?_map, List.getElem?_eq_getElem h]; rfl)
  have hne : ((bs[k].toNat : Int) == 0) = false := by rw [beq_eq_false_iff_ne]; intro e; exact h0 (UInt8.toNat_inj.1 (by show bs[k].toNat = 0; omega))
  have hrr := hr.rd
  generalize bs[k] = x at *
  simp only [B] at e1
  clear hc h0
  rcases hn with hn | ⟨hn1, hn2⟩
  all_goals
    go_enter Try.func25, Try.ntmps25
    go_wp2_with fail
    refine (GetNum_some bs _ k n j _ hrr (by omega) HG.out).mono ?_
    rintro e w1 ⟨rfl, rfl⟩
    go_wp2
    go_ret3
    exact HP.out

set_option maxHeartbeats 2000000 in
theorem cut_frame (bs : List UInt8) (v : Value) (k n j : Nat) (w : World) (hr : RdN w row v (bs.map B)) (h : k < bs.length) (h0 : bs[k] ≠ 0) (hg : getN (bs.drop k) = some (n, j)) (hn : n ≤ 4000 ∧ k + j + n + 5 ≤ bs.length) : Calls Try.prog 25 #[v, .int .i64 (k : Int)] w (CutPost row bs (k : Int) w) := by
  obtain ⟨A, c, rfl, hlc, hcm⟩ := hr.rd.sliceN (List.length_map _)
  unfold maxLen at hcm
  have hle := getN_le hg
  have hn0 := getN_pos h h0 hg
  rw [List.length_drop] at hle
  obtain ⟨hn1, hn2⟩ := hn
  have hparts := frame_parts hg ⟨hn0, hn1⟩ (by rw [List.length_drop]; omega)
  have hpay : ((bs.drop k).drop j).take n = (bs.drop (k + j)).take n := by rw [List.drop_drop]
  have hsum : ((bs.drop k).drop (j + n)).take 4 = (bs.drop (k + j + n)).take 4 := by rw [List.drop_drop, Nat.add_assoc]
  have hlast : (bs.drop k)[j + n + 4]? = some bs[k + j + n + 4] := by rw [List.getElem?_drop, List.getElem?_eq_getElem (by omega)]; congr 2; omega
  have his : isB ((bs.drop (k + j)).take (n + 4)) = decide ((bs.drop (k + j + n)).take 4 = putB ((crcOf ((bs.drop (k + j)).take n)).toNat : Int)) := by
    rw [isB]
    have hl : ((bs.drop (k + j)).take (n + 4)).length = n + 4 := by rw [List.length_take, List.length_drop]; omega
    rw [hl, decide_eq_true (by omega), Bool.true_and, Nat.add_sub_cancel, List.drop_take, List.drop_drop, List.take_take, Nat.min_eq_left (by omega), Nat.add_sub_cancel_left]
  rw [hpay, hsum, hlast] at hparts
  have hyes : bs[k + j + n + 4] = 1 → isB ((bs.drop (k + j)).take (n + 4)) = true → getF bs (k : Int) = ((bs.drop (k + j)).take n, (k : Int) + ((j + n + 5 : Nat) : Int), 1) := fun h1 h2 => by
    rw [his, decide_eq_true_iff] at h2
    rw [getF_there h h0, frameAt_yes hg (by rw [List.length_drop, hpay]; exact ⟨⟨hn0, hn1⟩, by omega, hparts.2 ⟨h2, by rw [h1]⟩⟩), hpay]
  have hno : (bs[k + j + n + 4] ≠ 1 ∨ isB ((bs.drop (k + j)).take (n + 4)) = false) → getF bs (k : Int) = ([], (k : Int), 2) := fun h1 => by
    rw [getF_there h h0, frameAt_no hg]
    rw [hpay]
    rintro ⟨_, _, h2⟩
    have h3 := hparts.1 h2
    rcases h1 with h1 | h1
    · exact h1 (by simpa using h3.2)
    · rw [his, decide_eq_false_iff_not] at h1
      exact h1 h3.1
  have HYES := Lib.hid hyes
  have HNO := Lib.hid hno
  have HG := Lib.hid hg
  clear hyes hno hg hparts hpay hsum hlast his
  have hr0 := hr.rd
  obtain ⟨b, o, rfl, hb, hc⟩ := hr0.get (by rw [List.length_map]; omega)
  have e1 : w.cell? ⟨b, o + k, none⟩ = some (B bs[k]) := hc k _ (by rw [List.getElem?_map, List.getElem?_eq_getElem h]; rfl)
  have e2 : w.cell? ⟨b, o + (k + j + n + 4), none⟩ = some (B bs[k + j + n + 4]) := hc _ _ (by rw [List.getElem?_map, List.getElem?_eq_getElem (by omega)]; rfl)
  have hne : ((bs[k].toNat : Int) == 0) = false := by rw [beq_eq_false_iff_ne]; intro e; exact h0 (UInt8.toNat_inj.1 (by show bs[k].toNat = 0; omega))
  have hcut := hr.cut (k + j) (n + 4) (c - (k + j)) (by omega) (by omega) (by rw [List.length_map]; omega) (by omega)
  have hpay := hr.cut (k + j) n n (by omega) (by omega) (by rw [List.length_map]; omega) (by omega)
  rw [← List.map_drop, ← List.map_take] at hcut hpay
  have hrr := hr.rd
  have hcr := hcut.rd
  rw [show (Value.slice (some ⟨b, o + (k + j), none⟩) (n + 4) (c - (k + j))) = .slice (some ⟨b, o + (k + j), none⟩) (k + j + n + 4 - (k + j)) (c - (k + j)) by rw [show k + j + n + 4 - (k + j) = n + 4 by omega]] at hcr
  rw [show (Value.slice (some ⟨b, o + (k + j), none⟩) n n) = .slice (some ⟨b, o + (k + j), none⟩) (k + j + n - (k + j)) (k + j + n - (k + j)) by rw [show k + j + n - (k + j) = n by omega]] at hpay
  generalize bs[k] = x at *
  simp only [B] at e1 e2
  clear hc h0 hcut
  by_cases hl : bs[k + j + n + 4] = 1
  · have hl1 : (((1 : UInt8).toNat : Int) == 1) = true := rfl
    rw [hl] at e2
    have hyes := HYES.out hl
    have HYES := Lib.hid hyes
    clear hyes
    go_enter Try.func25, Try.ntmps25
    go_wp2_with fail
    refine (GetNum_some bs _ k n j _ hrr (by omega) HG.out).mono ?_
    rintro e w1 ⟨rfl, rfl⟩
    go_wp2_with fail
    ((with_reducible refine (Is_any _ _ _ hcr).mono ?_))
    rintro e w2 ⟨rfl, hx2⟩
    by_cases his : isB ((bs.drop (k + j)).take (n + 4)) = true
    · have hf := HYES.out his
      have HF := Lib.hid hf
      have HPAY := Lib.hid hpay
      rw [his]
      clear hf HNO HYES his hpay hcr
      go_wp2
      go_ret3
      rw [CutPost, HF.out]
      exact ⟨_, by go_num, HPAY.out.ext hx2, hx2⟩
    · have hb : isB ((bs.drop (k + j)).take (n + 4)) = false := by simpa using his
      have hf := HNO.out (.inr hb)
      have hp := CutPost.none_ (row := row) (w := w) hf hx2
      have HP := Lib.hid hp
      rw [hb]
      clear hf HNO HYES his hb hp hpay hcr
      go_wp2
      go_ret3
      exact HP.out
  · have hl1 : ((bs[k + j + n + 4].toNat : Int) == 1) = false := by rw [beq_eq_false_iff_ne]; intro e; exact hl (UInt8.toNat_inj.1 (by show bs[k + j + n + 4].toNat = 1; omega))
    have hl2 : ((bs[k + j + n + 4].toNat : Int) != 1) = true := by rw [bne, hl1]; rfl
    have hno := HNO.out (.inl hl)
    have hp := CutPost.none_ (row := row) (w := w) hno (Ext.refl w)
    have HP := Lib.hid hp
    clear hno HNO HYES hp hl
    generalize bs[k + j + n + 4] = y at *
    go_enter Try.func25, Try.ntmps25
    go_wp2_with fail
    refine (GetNum_some bs _ k n j _ hrr (by omega) HG.out).mono ?_
    rintro e w1 ⟨rfl, rfl⟩
    go_wp2
    go_ret3
    exact HP.out

theorem cut_any (bs : List UInt8) (v : Value) (i : Int) (w : World) (hr : RdN w row v (bs.map B)) : Calls Try.prog 25 #[v, .int .i64 i] w (CutPost row bs i w) := by
  by_cases hi : i < 0 ∨ (bs.length : Int) < i
  · exact cut_low bs v i w hr hi
  · obtain ⟨k, rfl⟩ : ∃ k : Nat, i = k := ⟨i.toNat, by omega⟩
    by_cases he : k = bs.length
    · rw [he]
      exact cut_done bs v w hr
    · have hk : k < bs.length := by omega
      by_cases h0 : bs[k] = 0
      · exact cut_nought bs v k w hr hk h0
      · rcases hg : getN (bs.drop k) with _ | ⟨n, j⟩
        · exact cut_num bs v k w hr hk h0 hg
        · by_cases hn : n ≤ 4000 ∧ k + j + n + 5 ≤ bs.length
          · exact cut_frame bs v k n j w hr hk h0 hg hn
          · exact cut_size bs v k n j w hr hk h0 hg (by omega)

end
end Go.Proofs.Yticgpldpbbfklaa
