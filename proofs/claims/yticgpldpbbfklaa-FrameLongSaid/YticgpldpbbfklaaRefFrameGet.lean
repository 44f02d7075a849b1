/- Layer 3, the reference: what stands at a place. -/
import Derived.Test.YticgpldpbbfklaaRef03
import Derived.Test.YticgpldpbbfklaaRefGetNum
import Derived.Test.YticgpldpbbfklaaP03b
import Derived.Outline
namespace Go.Proofs.Yticgpldpbbfklaa
open Go.RowKit

/-- What Get answers. -/
def GetPost (bs : List UInt8) (i : Int) (w : World) (e : Ending) (w' : World) : Prop :=
  ∃ v', e = .returned (.tuple #[v', .int .i64 (getF bs i).2.1, .int .i64 (getF bs i).2.2]) ∧ Grew w.heap.size 5 (.slice none 0 0) w ((getF bs i).1.map B) v' w'

theorem GetPost.none_ {bs : List UInt8} {i : Int} {w w' : World} {t : Int} (h : getF bs i = ([], i, t)) (hx : Ext w w') : GetPost bs i w (.returned (.tuple #[.slice none 0 0, .int .i64 i, .int .i64 t])) w' := by
  rw [GetPost, h]
  exact ⟨_, rfl, (Grew.nil w).step hx⟩

theorem RefGet_low (bs : List UInt8) (v : Value) (i : Int) (w : World) (hr : Rd w v (bs.map B)) (h : i < 0 ∨ (bs.length : Int) < i) : Calls Try.prog 14 #[v, .int .i64 i] w (GetPost bs i w) := by
  obtain ⟨A, c, rfl, hlc, hcm⟩ := hr.sliceN (List.length_map _)
  unfold maxLen at hcm
  have hp := GetPost.none_ (w := w) (getF_low h) (Ext.refl w)
  have HP := Lib.hid hp
  clear hp
  by_cases h0 : i < 0
  · clear h
    go_enter Try.func14, Try.ntmps14
    go_wp2
    go_ret3
    exact HP.out
  · have h1 : decide ((bs.length : Int) < i) = true := by simp; omega
    clear h
    go_enter Try.func14, Try.ntmps14
    go_wp2
    go_ret3
    exact HP.out

theorem RefGet_done (bs : List UInt8) (v : Value) (w : World) (hr : Rd w v (bs.map B)) : Calls Try.prog 14 #[v, .int .i64 (bs.length : Int)] w (GetPost bs (bs.length : Int) w) := by
  obtain ⟨A, c, rfl, hlc, hcm⟩ := hr.sliceN (List.length_map _)
  unfold maxLen at hcm
  have hp := GetPost.none_ (w := w) (getF_done bs) (Ext.refl w)
  have HP := Lib.hid hp
  clear hp
  go_enter Try.func14, Try.ntmps14
  go_wp2
  go_ret3
  exact HP.out

theorem RefGet_nought (bs : List UInt8) (v : Value) (k : Nat) (w : World) (hr : Rd w v (bs.map B)) (h : k < bs.length) (h0 : bs[k] = 0) : Calls Try.prog 14 #[v, .int .i64 (k : Int)] w (GetPost bs (k : Int) w) := by
  obtain ⟨A, c, rfl, hlc, hcm⟩ := hr.sliceN (List.length_map _)
  unfold maxLen at hcm
  have hp := GetPost.none_ (w := w) (getF_nought h h0) (Ext.refl w)
  have HP := Lib.hid hp
  clear hp
  obtain ⟨b, o, rfl, hb, hc⟩ := hr.get (by rw [List.length_map]; omega)
  have e1 : w.cell? ⟨b, o + k, none⟩ = some (.int .u8 0) := hc k _ (by rw [List.getElem?_map, List.getElem?_eq_getElem h, h0]; rfl)
  clear hc h0
  go_enter Try.func14, Try.ntmps14
  go_wp2
  go_ret3
  exact HP.out

theorem RefGet_num (bs : List UInt8) (v : Value) (k : Nat) (w : World) (hr : Rd w v (bs.map B)) (h : k < bs.length) (h0 : bs[k] ≠ 0) (hg : getN (bs.drop k) = none) : Calls Try.prog 14 #[v, .int .i64 (k : Int)] w (GetPost bs (k : Int) w) := by
  obtain ⟨A, c, rfl, hlc, hcm⟩ := hr.sliceN (List.length_map _)
  unfold maxLen at hcm
  have hf : getF bs (k : Int) = ([], (k : Int), 2) := by rw [getF_there h h0, frameAt_none hg]
  have HF := Lib.hid hf
  have HG := Lib.hid hg
  clear hf hg
  have hr0 := hr
  obtain ⟨b, o, rfl, hb, hc⟩ := hr0.get (by rw [List.length_map]; omega)
  have e1 : w.cell? ⟨b, o + k, none⟩ = some (B bs[k]) := hc k _ (by rw [List.getElem?_map, List.getElem?_eq_getElem h]; rfl)
  have hne : ((bs[k].toNat : Int) == 0) = false := by rw [beq_eq_false_iff_ne]; intro e; exact h0 (UInt8.toNat_inj.1 (by show bs[k].toNat = 0; omega))
  generalize bs[k] = x at *
  simp only [B] at e1
  clear hc h0
  go_enter Try.func14, Try.ntmps14
  go_wp2_with fail
  refine (RefGetNum_none bs _ k _ hr (by omega) HG.out).mono ?_
  rintro e w1 ⟨rfl, hx1⟩
  go_wp2
  go_ret3
  exact GetPost.none_ HF.out hx1

set_option maxHeartbeats 400000 in
theorem RefGet_size (bs : List UInt8) (v : Value) (k n j : Nat) (w : World) (hr : Rd w v (bs.map B)) (h : k < bs.length) (h0 : bs[k] ≠ 0) (hg : getN (bs.drop k) = some (n, j)) (hn : n < 1 ∨ (1 ≤ n ∧ 4000 < n) ∨ (1 ≤ n ∧ n ≤ 4000 ∧ bs.length < k + j + n)) : Calls Try.prog 14 #[v, .int .i64 (k : Int)] w (GetPost bs (k : Int) w) := by
  obtain ⟨A, c, rfl, hlc, hcm⟩ := hr.sliceN (List.length_map _)
  unfold maxLen at hcm
  have hle := getN_le hg
  rw [List.length_drop] at hle
  have hf : getF bs (k : Int) = ([], (k : Int), 2) := by rw [getF_there h h0, frameAt_no hg (by rw [List.length_drop]; omega)]
  have HF := Lib.hid hf
  have HG := Lib.hid hg
  clear hf hg
  have hr0 := hr
  obtain ⟨b, o, rfl, hb, hc⟩ := hr0.get (by rw [List.length_map]; omega)
  have e1 : w.cell? ⟨b, o + k, none⟩ = some (B bs[k]) := hc k _ (by rw [List.getElem?_map, List.getElem?_eq_getElem h]; rfl)
  have hne : ((bs[k].toNat : Int) == 0) = false := by rw [beq_eq_false_iff_ne]; intro e; exact h0 (UInt8.toNat_inj.1 (by show bs[k].toNat = 0; omega))
  generalize bs[k] = x at *
  simp only [B] at e1
  clear hc h0
  rcases hn with hn | ⟨hn1, hn2⟩ | ⟨hn1, hn2, hn3⟩
  all_goals
    go_enter Try.func14, Try.ntmps14
    go_wp2_with fail
    refine (RefGetNum_some bs _ k n j _ hr (by omega) HG.out).mono ?_
    rintro e w1 ⟨rfl, hx1⟩
    go_wp2
    go_ret3
    exact GetPost.none_ HF.out hx1

set_option maxHeartbeats 2000000 in
theorem RefGet_frame (bs : List UInt8) (v : Value) (k n j : Nat) (w : World) (hr : Rd w v (bs.map B)) (h : k < bs.length) (h0 : bs[k] ≠ 0) (hg : getN (bs.drop k) = some (n, j)) (hn : 1 ≤ n ∧ n ≤ 4000 ∧ k + j + n ≤ bs.length) : Calls Try.prog 14 #[v, .int .i64 (k : Int)] w (GetPost bs (k : Int) w) := by
  obtain ⟨A, c, rfl, hlc, hcm⟩ := hr.sliceN (List.length_map _)
  unfold maxLen at hcm
  have hle := getN_le hg
  rw [List.length_drop] at hle
  obtain ⟨p, hp⟩ : ∃ p, p = ((bs.drop k).drop j).take n := ⟨_, rfl⟩
  have hpl : p.length = n := by rw [hp, List.length_take, List.length_drop, List.length_drop]; omega
  have hfl : (frameB p).length = j + n + 5 := by
    rw [frameB_len (by omega), hpl, getN_get hg, List.length_take, List.length_drop]
    omega
  have hcut := hr.cut (k + j) n (by rw [List.length_map]; omega)
  rw [if_neg (by omega), ← List.map_drop, ← List.map_take, ← List.drop_drop, ← hp] at hcut
  have hno : (¬ (j + n + 5 ≤ bs.length - k)) → getF bs (k : Int) = ([], (k : Int), 2) := fun hc => by
    rw [getF_there h h0, frameAt_no hg (by rw [List.length_drop]; omega)]
  have hno2 : (frameB p = (bs.drop k).take (j + n + 5)) = False → getF bs (k : Int) = ([], (k : Int), 2) := fun hc => by
    rw [getF_there h h0, frameAt_no hg (by rw [← hp]; intro hh; rw [← hc]; exact hh.2.2.symm)]
  have hyes : j + n + 5 ≤ bs.length - k → frameB p = (bs.drop k).take (j + n + 5) → getF bs (k : Int) = (p, (k : Int) + ((j + n + 5 : Nat) : Int), 1) := fun hc he => by
    rw [getF_there h h0, frameAt_yes hg (by rw [List.length_drop, ← hp]; exact ⟨⟨hn.1, hn.2.1⟩, by omega, he.symm⟩), ← hp]
  have HNO := Lib.hid hno
  have HNO2 := Lib.hid hno2
  have HYES := Lib.hid hyes
  have HG := Lib.hid hg
  have HFL := Lib.hid hfl
  have HPL := Lib.hid hpl
  clear hno hno2 hyes hg hfl hp
  have hr0 := hr
  obtain ⟨b, o, rfl, hb, hc⟩ := hr0.get (by rw [List.length_map]; omega)
  have e1 : w.cell? ⟨b, o + k, none⟩ = some (B bs[k]) := hc k _ (by rw [List.getElem?_map, List.getElem?_eq_getElem h]; rfl)
  have hne : ((bs[k].toNat : Int) == 0) = false := by rw [beq_eq_false_iff_ne]; intro e; exact h0 (UInt8.toNat_inj.1 (by show bs[k].toNat = 0; omega))
  generalize bs[k] = x at *
  simp only [B] at e1
  clear hc h0 hpl
  simp only [Option.map_some, Addr.add_lit] at hcut
  obtain ⟨hn1, hn2, hn3⟩ := hn
  go_enter Try.func14, Try.ntmps14
  go_wp2_with fail
  refine (RefGetNum_some bs _ k n j _ hr (by omega) HG.out).mono ?_
  rintro e w1 ⟨rfl, hx1⟩
  have hcut1 : Rd (w1.alloc (.cells #[] 5)) (.slice (some ⟨b, o + (k + j), none⟩) (k + j + n - (k + j)) (c - (k + j))) (p.map B) := by
    rw [show k + j + n - (k + j) = n by omega]
    exact hcut.ext (hx1.alloc hx1.size (.cells #[] 5))
  go_wp2_with (at_builtin; refine app_u8 rfl _ _ rfl w1.heap.size _ [] rfl (own_none _ _ _ rfl) _ p rfl hcut1 (by simp; have := HPL.out; omega) (by simp) ?_; intro v2 w2 hg2; rw [List.nil_append] at hg2; have hg3 := Grew.from_empty rfl hg2; obtain ⟨A3, c3, rfl⟩ := hg3.slice_ (n := n) (by rw [List.length_map, HPL.out]); clear hg2)
  have hr3 := Rd.own hg3.own
  refine (RefFrame_any p _ _ hr3).mono ?_
  rintro e w4 ⟨v4, rfl, hg4⟩
  obtain ⟨A4, c4, rfl⟩ := hg4.slice_ (n := j + n + 5) (by rw [List.length_map, HFL.out])
  have hx4 := Ext.trans hx1 (Ext.trans hg3.ext hg4.ext)
  have hg5 := Grew.from_ext hx1 (hg3.step hg4.ext)
  have hr4 := Rd.own hg4.own
  clear hg3 hg4 hr3 hcut hcut1
  by_cases hl : j + n + 5 ≤ bs.length - k
  · have hcut := (hr.ext hx4).cut k (j + n + 5) (by rw [List.length_map]; omega)
    rw [if_neg (by omega), ← List.map_drop, ← List.map_take] at hcut
    simp only [Option.map_some, Addr.add_lit] at hcut
    have hyes := HYES.out hl
    have HYES := Lib.hid hyes
    clear hyes HNO
    go_wp2_with fail
    refine (Bytes_any _ _ _ _ _ hr4 hcut).mono ?_
    rintro e w6 ⟨rfl, n6, rfl⟩
    by_cases hd : frameB p = (bs.drop k).take (j + n + 5)
    · have hf := HYES.out hd
      have HF := Lib.hid hf
      rw [decide_eq_true hd]
      clear hf HYES HNO2 hd
      go_wp2
      go_ret3
      rw [GetPost, HF.out]
      exact ⟨_, by go_num, hg5.step (Below.drewN' (Ext.refl _) _)⟩
    · have hf := HNO2.out (eq_false hd)
      have HF := Lib.hid hf
      rw [decide_eq_false hd]
      clear hf HYES HNO2 hd
      go_wp2
      go_ret3
      exact GetPost.none_ HF.out (Below.drewN' hx4 _)
  · have hf := HNO.out hl
    have HF := Lib.hid hf
    clear hf HNO HNO2 HYES
    go_wp2
    go_ret3
    exact GetPost.none_ HF.out hx4

theorem RefFrameGet_any (bs : List UInt8) (v : Value) (i : Int) (w : World) (hr : Rd w v (bs.map B)) : Calls Try.prog 14 #[v, .int .i64 i] w (GetPost bs i w) := by
  by_cases hi : i < 0 ∨ (bs.length : Int) < i
  · exact RefGet_low bs v i w hr hi
  · obtain ⟨k, rfl⟩ : ∃ k : Nat, i = k := ⟨i.toNat, by omega⟩
    by_cases he : k = bs.length
    · rw [he]
      exact RefGet_done bs v w hr
    · have hk : k < bs.length := by omega
      by_cases h0 : bs[k] = 0
      · exact RefGet_nought bs v k w hr hk h0
      · rcases hg : getN (bs.drop k) with _ | ⟨n, j⟩
        · exact RefGet_num bs v k w hr hk h0 hg
        · by_cases hn : 1 ≤ n ∧ n ≤ 4000 ∧ k + j + n ≤ bs.length
          · exact RefGet_frame bs v k n j w hr hk h0 hg hn
          · exact RefGet_size bs v k n j w hr hk h0 hg (by omega)

end Go.Proofs.Yticgpldpbbfklaa
