/- Texts that the proof of LogActs rests on, one behind the other. -/
import Derived.Test.YtnihgpdkolmkgaaLogActsQ5
import Derived.Deep.QuietTactic
import Derived.BigQuiet
import Derived.Deep.LoopGhost
import Derived.Outline
import Derived.WalkSpells
import Derived.Deep.RegionWith
import Derived.Lib.AppendZeros
import Derived.Deep.RegionHeld3
import Derived.Lib.SliceRun

/- Layer 2, package sum: the register behind some bytes. -/
namespace Go.Proofs.Ytnihgpdkolmkgaa
open Go.RowKit

set_option maxHeartbeats 1000000 in
theorem goOn_any (l : List UInt8) (v : Value) (r : BitVec 32) (w : World) (hr : Rd w v (l.map B)) :
    Calls Try.prog 69 #[.int .u32 (r.toNat : Int), v] w fun e w' => e = .returned (.int .u32 ((crcAll r l).toNat : Int)) ∧ w = w' := by
  obtain ⟨A, c, rfl, hlc, hcm, hca⟩ := hr
  simp only [List.length_map] at *
  unfold maxLen at hcm
  go_enter Try.func69, Try.ntmps69
  go_wp2
  go_loop [0, 10] (fun s i => ∃ k : Nat, k ≤ l.length ∧ i = .int .i64 k ∧ s = .int .u32 ((crcAll r (l.take k)).toNat : Int)) (fun _ i => l.length - (intOf i).toNat)
  case atStart => exact ⟨0, Nat.zero_le _, rfl, rfl⟩
  case round =>
    obtain ⟨k, hk, rfl, rfl⟩ := hrel
    by_cases hlt : k < l.length
    · obtain ⟨b, o, rfl, hb, hc1⟩ := hca (by omega)
      have e1 : w.cell? ⟨b, o + k, none⟩ = some (B l[k]) := hc1 k _ (by simp [hlt])
      clear hc1 hca
      have hs := crcAll_snoc hlt r
      have HS := Lib.hid hs
      clear hs
      generalize hx : l[k] = x at e1
      have HX := Lib.hid hx
      clear hx
      simp only [B] at e1
      generalize hq : crcAll r (List.take k l) = q at *
      have HQ := Lib.hid hq
      clear hq
      have hxo := xorU32m q x
      generalize hy : q ^^^ BitVec.ofNat 32 x.toNat = y at hxo
      have HY := Lib.hid hy
      clear hy
      go_wp2
      go_step3
      go_wp2
      go_step3
      go_wp2
      clear hxo
      go_loop [0, 18] (fun s i => ∃ j : Nat, j ≤ 8 ∧ i = .int .i64 j ∧ s = .int .u32 ((crcBits j y).toNat : Int)) (fun _ i => 8 - (intOf i).toNat)
      case atStart => exact ⟨0, Nat.zero_le _, rfl, rfl⟩
      case round =>
        obtain ⟨j, hj, rfl, rfl⟩ := hrel
        by_cases hlj : j < 8
        · have hbs := crcBits_succ j y
          have HB := Lib.hid hbs
          clear hbs
          generalize crcBits j y = z at *
          have hz := z.isLt
          have hlow := lowU32 z
          rcases Nat.mod_two_eq_zero_or_one z.toNat with h0 | h1
          · have hev := crcBit_even h0
            have HE := Lib.hid hev
            rw [h0] at hlow
            clear hev h0
            go_wp2
            go_round
            case rel => exact ⟨j + 1, by omega, by go_num, by rw [HB.out, ← HE.out]; go_num⟩
            case measure => simp [intOf]; omega
          · have hod := polyU32 h1
            rw [h1] at hlow
            clear h1
            go_wp2
            go_round
            case rel => exact ⟨j + 1, by omega, by go_num, by rw [HB.out]⟩
            case measure => simp [intOf]; omega
        · obtain rfl : j = 8 := by omega
          go_wp2
          go_round
          case rel => exact ⟨k + 1, by omega, by go_num, by rw [HS.out, HX.out]; rw [crcByte, HY.out]⟩
          case measure => simp [intOf]; omega
    · obtain rfl : k = l.length := by omega
      rw [List.take_length]
      go_wp2
      go_ret
      exact ⟨rfl, rfl⟩

end Go.Proofs.Ytnihgpdkolmkgaa

/- Layer 2, package sum: sums, and a number's four bytes. -/
namespace Go.Proofs.Ytnihgpdkolmkgaa
open Go.RowKit

set_option maxHeartbeats 400000 in
theorem More_yes (l : List UInt8) (v : Value) (s : BitVec 32) (w : World) (hr : Rd w v (l.map B)) :
    Calls Try.prog 67 #[.int .i64 (s.toNat : Int), v] w fun e w' => e = .returned (.int .i64 ((crcMore s l).toNat : Int)) ∧ w = w' := by
  have hs : decide (4294967295 < (s.toNat : Int)) = false := by simp; have := s.isLt; omega
  have hs0 : s.toNat % 4294967296 = s.toNat := by have := s.isLt; omega
  have hn1 := notMax s
  have hn2 : bits .xor .u32 IntKind.u32.max ((crcAll (~~~ s) l).toNat : Int) = ((crcMore s l).toNat : Int) := notMax _
  generalize ~~~ s = t at *
  have hle : ((crcMore s l).toNat : Int) ≤ 4294967295 := by have := (crcMore s l).isLt; omega
  go_enter Try.func67, Try.ntmps67
  go_wp2_with fail
  refine (goOn_any l v t _ hr).mono ?_
  rintro e w' ⟨rfl, rfl⟩
  go_wp2
  go_ret
  exact ⟨rfl, rfl⟩

theorem More_no (n : Int) (v : Value) (w : World) (h : ¬ (0 ≤ n ∧ n ≤ 4294967295)) :
    Calls Try.prog 67 #[.int .i64 n, v] w fun e w' => e = .returned (.int .i64 0) ∧ w = w' := by
  by_cases h0 : n < 0
  · clear h
    go_enter Try.func67, Try.ntmps67
    go_wp2
    go_ret
    exact ⟨rfl, rfl⟩
  · have hs : decide (4294967295 < n) = true := by simp; omega
    clear h
    go_enter Try.func67, Try.ntmps67
    go_wp2
    go_ret
    exact ⟨rfl, rfl⟩

theorem Of_any (l : List UInt8) (v : Value) (w : World) (hr : Rd w v (l.map B)) :
    Calls Try.prog 57 #[v] w fun e w' => e = .returned (.int .i64 ((crcOf l).toNat : Int)) ∧ w = w' := by
  go_enter Try.func57, Try.ntmps57
  go_wp2_with fail
  refine (More_yes l v 0#32 _ hr).mono ?_
  rintro e w' ⟨rfl, rfl⟩
  go_wp2
  go_ret
  exact ⟨rfl, rfl⟩

theorem Put_any (n : Int) (w : World) (h0 : -9223372036854775808 ≤ n) (h1 : n ≤ 9223372036854775807) :
    Calls Try.prog 56 #[.int .i64 n] w fun e w' => ∃ v', e = .returned v' ∧ Rd w' v' ((putB n).map B) ∧ Ext w w' := by
  go_enter Try.func56, Try.ntmps56
  go_wp2
  go_ret
  have h := Rd.litB w (putB n) #[Value.int .u8 (n / 16777216 % 256), Value.int .u8 (n / 65536 % 256), Value.int .u8 (n / 256 % 256), Value.int .u8 (n % 256)] 5 4 w.heap.size (by simp [putB]) (by simp only [putB, B, u8_mod, List.map_cons, List.map_nil]) rfl rfl
  exact ⟨_, rfl, h, (Below.refl _ _).alloc (Nat.le_refl _) _⟩

end Go.Proofs.Ytnihgpdkolmkgaa

/- Strings in this translation's numbers: a string appended to bytes; bytes made into a string. -/
namespace Go.Proofs.Ytnihgpdkolmkgaa
open Go.RowKit

/-- 'b = append(b, s...)', s a string. -/
theorem app_str {w : World} {ops : Array Oper} {rest : List Oper} {o : Oper} {a : Act} {Q : Exit → Act → World → Prop} (hgd : o.guard = none) (s x : Operand)
    (ho : o.op = .call { callee := .builtin .append, args := #[s, x], argTypes := #[38, 9] })
    (base : Nat) (v : Value) (xs : List Value) (hs : a.eval s = v) (hown : w.ownsRow base 5 1 v xs.length xs) (str : ByteArray) (hx : a.eval x = .string str)
    (hbytes : xs.length + str.size ≤ 140737488355328) (hbase : base ≤ w.heap.size)
    (h : ∀ v' w', Grew base 5 v w (xs ++ str.data.toList.map B) v' w' → wpList Try.prog ops Q rest (a.put o.dst v') w') : wpList Try.prog ops Q (o :: rest) a w :=
  wpList_appendStr hgd s x 38 9 ho base 5 Try.underlying38 Try.underlying9 Try.infoU8 v xs hs hown str hx hbytes hbase h

theorem conv_u8 {w : World} {ops : Array Oper} {rest : List Oper} {o : Oper} {a : Act} {Q : Exit → Act → World → Prop} (hgd : o.guard = none) (x : Operand)
    (ho : o.op = .convert 38 9 x) (u : Value) (ys : List UInt8) (hx : a.eval x = u) (hr : Rd w u (ys.map B))
    (h : wpList Try.prog ops Q rest (a.put o.dst (.string ⟨ys.toArray⟩)) w) : wpList Try.prog ops Q (o :: rest) a w :=
  wpList_conv hgd x 38 9 5 ho Try.underlying38 Try.underlying5 Try.underlying9 u ys hx hr h

end Go.Proofs.Ytnihgpdkolmkgaa

/- Go's bytes.Equal: the same bytes? -/
namespace Go.Proofs.Ytnihgpdkolmkgaa
open Go.RowKit

theorem Equal_any (xs ys : List UInt8) (u v : Value) (w : World) (hu : Rd w u (xs.map B)) (hv : Rd w v (ys.map B)) :
    Calls Try.prog 68 #[u, v] w fun e w' => e = .returned (.bool (decide (xs = ys))) ∧ w = w' := by
  go_enter Try.func68, Try.ntmps68
  go_wp2_with (first | (refine conv_u8 rfl _ rfl _ xs rfl hu ?_) | (refine conv_u8 rfl _ rfl _ ys rfl hv ?_))
  go_ret
  exact ⟨by rw [show (xs == ys) = decide (xs = ys) by rw [Bool.eq_iff_iff]; simp]; rfl, rfl⟩

end Go.Proofs.Ytnihgpdkolmkgaa

/- Layer 2, package sum: whether bytes end with their sum. -/
namespace Go.Proofs.Ytnihgpdkolmkgaa
open Go.RowKit

set_option maxHeartbeats 400000 in
theorem Is_any (l : List UInt8) (v : Value) (w : World) (hr : Rd w v (l.map B)) :
    Calls Try.prog 62 #[v] w fun e w' => e = .returned (.bool (isB l)) ∧ Ext w w' := by
  have hr0 := hr
  obtain ⟨A, c, rfl, hlc, hcm, _⟩ := hr0
  simp only [List.length_map] at *
  unfold maxLen at hcm
  by_cases h4 : l.length < 4
  · go_enter Try.func62, Try.ntmps62
    go_wp2
    go_ret
    exact ⟨by rw [show isB l = false by rw [isB, decide_eq_false (by omega)]; rfl]; rfl, Ext.refl _⟩
  · obtain ⟨n, hn⟩ : ∃ n, l.length = n + 4 := ⟨l.length - 4, by omega⟩
    have hp := hr.prefix_ n (by simp; omega)
    have hq := hr.cut n 4 (by simp; omega)
    rw [← List.map_take] at hp
    rw [← List.map_drop, ← List.map_take, List.take_of_length_le (by simp; omega)] at hq
    have he : isB l = decide (l.drop n = putB ((crcOf (l.take n)).toNat : Int)) := by
      rw [isB, decide_eq_true (show 4 ≤ l.length by omega), Bool.true_and, show l.length - 4 = n by omega]
    have HE := Lib.hid he
    clear he
    have hs1 : ((crcOf (l.take n)).toNat : Int) ≤ 9223372036854775807 := by have := (crcOf (l.take n)).isLt; omega
    have hs0 : -9223372036854775808 ≤ ((crcOf (l.take n)).toNat : Int) := by omega
    rw [hn] at hlc ⊢
    rw [if_neg (by omega)] at hq
    clear hr hn h4
    go_enter Try.func62, Try.ntmps62
    go_wp2_with fail
    go_region_with (first | (go_at_call 57; refine (Of_any (l.take n) _ _ (hp.ext (Below.drewN' (Ext.refl _) _))).mono ?_; rintro e w1 ⟨rfl, rfl⟩) | (go_at_call 56; refine (Put_any _ _ hs0 hs1).mono ?_; rintro e w2 ⟨v2, rfl, hr2, hx2⟩; have hx3 := (Below.drewN' (Ext.refl w) 1).trans hx2; have hq3 := hq.ext hx3) | (go_at_call 68; refine (Equal_any _ _ _ _ _ hq3 hr2).mono ?_; rintro e w3 ⟨rfl, rfl⟩))
    all_goals go_wp2
    all_goals go_ret
    all_goals exact ⟨by rw [HE.out]; rfl, hx3⟩

end Go.Proofs.Ytnihgpdkolmkgaa

/- Layer 3, package frame: what stands at a place, the payload a piece of the bytes. -/
namespace Go.Proofs.Ytnihgpdkolmkgaa
open Go.RowKit

theorem RdN.cut {w : World} {row : Nat → Prop} {b o N c : Nat} {xs : List Value} (h : RdN w row (.slice (some ⟨b, o, none⟩) N c) xs) (lo n m : Nat) (hn : 0 < n) (hnm : n ≤ m) (hle : lo + n ≤ xs.length) (hm : m ≤ c) :
    RdN w row (.slice (some ⟨b, o + lo, none⟩) n m) ((xs.drop lo).take n) := by
  obtain ⟨A', c', e, h1, h2, h3⟩ := h
  cases e
  have hl : ((xs.drop lo).take n).length = n := by rw [List.length_take, List.length_drop]; omega
  refine ⟨_, _, by rw [hl], by omega, by omega, fun _ => ?_⟩
  obtain ⟨b', o', h, hb, hr, hc⟩ := h3 (by omega)
  cases h
  refine ⟨b, o + lo, rfl, hb, hr, fun j u hu => ?_⟩
  rw [List.getElem?_take] at hu
  split at hu
  · rw [List.getElem?_drop] at hu
    rw [Nat.add_assoc]
    exact hc _ u hu
  · cases hu
theorem RdN.nil (w : World) (row : Nat → Prop) : RdN w row (.slice none 0 0) [] := ⟨none, 0, rfl, Nat.le_refl _, Nat.zero_le _, fun h => absurd h (by simp)⟩
theorem RdN.of_rd {w : World} {v : Value} {xs : List Value} (h : Rd w v xs) : RdN w (fun _ => True) v xs := by
  obtain ⟨A, c, e, h1, h2, h3⟩ := h
  refine ⟨A, c, e, h1, h2, fun hn => ?_⟩
  obtain ⟨b, o, a, hb, hc⟩ := h3 hn
  exact ⟨b, o, a, hb, by simp, hc⟩

/-- What cut answers: the payload is a piece of the bytes. -/
def CutPost (row : Nat → Prop) (bs : List UInt8) (i : Int) (w : World) (e : Ending) (w' : World) : Prop :=
  ∃ v', e = .returned (.tuple #[v', .int .i64 (getF bs i).2.1, .int .i64 (getF bs i).2.2]) ∧ RdN w' row v' ((getF bs i).1.map B) ∧ Ext w w'

theorem CutPost.none_ {row : Nat → Prop} {bs : List UInt8} {i : Int} {w w' : World} {t : Int} (h : getF bs i = ([], i, t)) (hx : Ext w w') : CutPost row bs i w (.returned (.tuple #[.slice none 0 0, .int .i64 i, .int .i64 t])) w' := by
  rw [CutPost, h]
  exact ⟨_, rfl, RdN.nil _ _, hx⟩

section
variable {row : Nat → Prop}
theorem cut_low (bs : List UInt8) (v : Value) (i : Int) (w : World) (hr : RdN w row v (bs.map B)) (h : i < 0 ∨ (bs.length : Int) < i) : Calls Try.prog 52 #[v, .int .i64 i] w (CutPost row bs i w) := by
  obtain ⟨A, c, rfl, hlc, hcm⟩ := hr.rd.sliceN (List.length_map _)
  unfold maxLen at hcm
  have hp := CutPost.none_ (row := row) (w := w) (getF_low h) (Ext.refl w)
  have HP := Lib.hid hp
  clear hp
  by_cases h0 : i < 0
  · clear h
    go_enter Try.func52, Try.ntmps52
    go_wp2
    go_ret3
    exact HP.out
  · have h1 : decide ((bs.length : Int) < i) = true := by simp; omega
    clear h
    go_enter Try.func52, Try.ntmps52
    go_wp2
    go_ret3
    exact HP.out

theorem cut_done (bs : List UInt8) (v : Value) (w : World) (hr : RdN w row v (bs.map B)) : Calls Try.prog 52 #[v, .int .i64 (bs.length : Int)] w (CutPost row bs (bs.length : Int) w) := by
  obtain ⟨A, c, rfl, hlc, hcm⟩ := hr.rd.sliceN (List.length_map _)
  unfold maxLen at hcm
  have hp := CutPost.none_ (row := row) (w := w) (getF_done bs) (Ext.refl w)
  have HP := Lib.hid hp
  clear hp
  go_enter Try.func52, Try.ntmps52
  go_wp2
  go_ret3
  exact HP.out

theorem cut_nought (bs : List UInt8) (v : Value) (k : Nat) (w : World) (hr : RdN w row v (bs.map B)) (h : k < bs.length) (h0 : bs[k] = 0) : Calls Try.prog 52 #[v, .int .i64 (k : Int)] w (CutPost row bs (k : Int) w) := by
  obtain ⟨A, c, rfl, hlc, hcm⟩ := hr.rd.sliceN (List.length_map _)
  unfold maxLen at hcm
  have hp := CutPost.none_ (row := row) (w := w) (getF_nought h h0) (Ext.refl w)
  have HP := Lib.hid hp
  clear hp
  obtain ⟨b, o, rfl, hb, hc⟩ := hr.rd.get (by rw [List.length_map]; omega)
  have e1 : w.cell? ⟨b, o + k, none⟩ = some (.int .u8 0) := hc k _ (by rw [List.getElem?_map, List.getElem?_eq_getElem h, h0]; rfl)
  clear hc h0
  go_enter Try.func52, Try.ntmps52
  go_wp2
  go_ret3
  exact HP.out

theorem cut_num (bs : List UInt8) (v : Value) (k : Nat) (w : World) (hr : RdN w row v (bs.map B)) (h : k < bs.length) (h0 : bs[k] ≠ 0) (hg : getN (bs.drop k) = none) : Calls Try.prog 52 #[v, .int .i64 (k : Int)] w (CutPost row bs (k : Int) w) := by
  obtain ⟨A, c, rfl, hlc, hcm⟩ := hr.rd.sliceN (List.length_map _)
  unfold maxLen at hcm
  have hf : getF bs (k : Int) = ([], (k : Int), 2) := by rw [getF_there h h0, frameAt_none hg]
  have hp := CutPost.none_ (row := row) (w := w) hf (Ext.refl w)
  have HP := Lib.hid hp
  have HG := Lib.hid hg
  clear hf hp hg
  have hr0 := hr.rd
  obtain ⟨b, o, rfl, hb, hc⟩ := hr0.get (by rw [List.length_map]; omega)
  have e1 : w.cell? ⟨b, o + k, none⟩ = some (B bs[k]) := hc k _ (by rw [List.getElem?_map, List.getElem?_eq_getElem h]; rfl)
  have hne : ((bs[k].toNat : Int) == 0) = false := by rw [beq_eq_false_iff_ne]; intro e; exact h0 (UInt8.toNat_inj.1 (by show bs[k].toNat = 0; omega))
  have hrr := hr.rd
  generalize bs[k] = x at *
  simp only [B] at e1
  clear hc h0
  go_enter Try.func52, Try.ntmps52
  go_wp2_with fail
  refine (GetNum_none bs _ k _ hrr (by omega) HG.out).mono ?_
  rintro e w1 ⟨rfl, rfl⟩
  go_wp2
  go_ret3
  exact HP.out

/-- The number of a frame's bytes isn't 0 where the first byte isn't. -/
theorem getN_pos {bs : List UInt8} {k n j : Nat} (h : k < bs.length) (h0 : bs[k] ≠ 0) (hg : getN (bs.drop k) = some (n, j)) : 1 ≤ n := by
  rcases Nat.eq_zero_or_pos n with h1 | h1
  · exfalso
    subst h1
    have hle := getN_le hg
    have h2 := getN_get hg
    rw [List.drop_eq_getElem_cons h, numB_lo (by omega)] at h2
    obtain ⟨j', rfl⟩ : ∃ j', j = j' + 1 := ⟨j - 1, by omega⟩
    rw [List.take_succ_cons] at h2
    injection h2 with h3 _
    exact h0 h3.symm
  · exact h1

set_option maxHeartbeats 400000 in
theorem cut_size (bs : List UInt8) (v : Value) (k n j : Nat) (w : World) (hr : RdN w row v (bs.map B)) (h : k < bs.length) (h0 : bs[k] ≠ 0) (hg : getN (bs.drop k) = some (n, j)) (hn : 4000 < n ∨ (n ≤ 4000 ∧ bs.length < k + j + n + 5)) : Calls Try.prog 52 #[v, .int .i64 (k : Int)] w (CutPost row bs (k : Int) w) := by
  obtain ⟨A, c, rfl, hlc, hcm⟩ := hr.rd.sliceN (List.length_map _)
  unfold maxLen at hcm
  have hle := getN_le hg
  rw [List.length_drop] at hle
  have hf : getF bs (k : Int) = ([], (k : Int), 2) := by rw [getF_there h h0, frameAt_no hg (by rw [List.length_drop]; omega)]
  have hp := CutPost.none_ (row := row) (w := w) hf (Ext.refl w)
  have HP := Lib.hid hp
  have HG := Lib.hid hg
  clear hf hp hg
  have hr0 := hr.rd
  obtain ⟨b, o, rfl, hb, hc⟩ := hr0.get (by rw [List.length_map]; omega)
  have e1 : w.cell? ⟨b, o + k, none⟩ = some (B bs[k]) := hc k _ (by rw [List.getElem?_map, List.getElem?_eq_getElem h]; rfl)
  have hne : ((bs[k].toNat : Int) == 0) = false := by rw [beq_eq_false_iff_ne]; intro e; exact h0 (UInt8.toNat_inj.1 (by show bs[k].toNat = 0; omega))
  have hrr := hr.rd
  generalize bs[k] = x at *
  simp only [B] at e1
  clear hc h0
  rcases hn with hn | ⟨hn1, hn2⟩
  all_goals
    go_enter Try.func52, Try.ntmps52
    go_wp2_with fail
    refine (GetNum_some bs _ k n j _ hrr (by omega) HG.out).mono ?_
    rintro e w1 ⟨rfl, rfl⟩
    go_wp2
    go_ret3
    exact HP.out

set_option maxHeartbeats 2000000 in
theorem cut_frame (bs : List UInt8) (v : Value) (k n j : Nat) (w : World) (hr : RdN w row v (bs.map B)) (h : k < bs.length) (h0 : bs[k] ≠ 0) (hg : getN (bs.drop k) = some (n, j)) (hn : n ≤ 4000 ∧ k + j + n + 5 ≤ bs.length) : Calls Try.prog 52 #[v, .int .i64 (k : Int)] w (CutPost row bs (k : Int) w) := by
  obtain ⟨A, c, rfl, hlc, hcm⟩ := hr.rd.sliceN (List.length_map _)
  unfold maxLen at hcm
  have hle := getN_le hg
  have hn0 := getN_pos h h0 hg
  rw [List.length_drop] at hle
  obtain ⟨hn1, hn2⟩ := hn
  have hparts := frame_parts hg ⟨hn0, hn1⟩ (by rw [List.length_drop]; omega)
  have hpay : ((bs.drop k).drop j).take n = (bs.drop (k + j)).take n := by rw [List.drop_drop]
  have hsum : ((bs.drop k).drop (j + n)).take 4 = (bs.drop (k + j + n)).take 4 := by rw [List.drop_drop, Nat.add_assoc]
  have hlast : (bs.drop k)[j + n + 4]? = some bs[k + j + n + 4] := by rw [List.getElem?_drop, List.getElem?_eq_getElem (by omega)]; congr 2; omega
  have his : isB ((bs.drop (k + j)).take (n + 4)) = decide ((bs.drop (k + j + n)).take 4 = putB ((crcOf ((bs.drop (k + j)).take n)).toNat : Int)) := by
    rw [isB]
    have hl : ((bs.drop (k + j)).take (n + 4)).length = n + 4 := by rw [List.length_take, List.length_drop]; omega
    rw [hl, decide_eq_true (by omega), Bool.true_and, Nat.add_sub_cancel, List.drop_take, List.drop_drop, List.take_take, Nat.min_eq_left (by omega), Nat.add_sub_cancel_left]
  rw [hpay, hsum, hlast] at hparts
  have hyes : bs[k + j + n + 4] = 1 → isB ((bs.drop (k + j)).take (n + 4)) = true → getF bs (k : Int) = ((bs.drop (k + j)).take n, (k : Int) + ((j + n + 5 : Nat) : Int), 1) := fun h1 h2 => by
    rw [his, decide_eq_true_iff] at h2
    rw [getF_there h h0, frameAt_yes hg (by rw [List.length_drop, hpay]; exact ⟨⟨hn0, hn1⟩, by omega, hparts.2 ⟨h2, by rw [h1]⟩⟩), hpay]
  have hno : (bs[k + j + n + 4] ≠ 1 ∨ isB ((bs.drop (k + j)).take (n + 4)) = false) → getF bs (k : Int) = ([], (k : Int), 2) := fun h1 => by
    rw [getF_there h h0, frameAt_no hg]
    rw [hpay]
    rintro ⟨_, _, h2⟩
    have h3 := hparts.1 h2
    rcases h1 with h1 | h1
    · exact h1 (by simpa using h3.2)
    · rw [his, decide_eq_false_iff_not] at h1
      exact h1 h3.1
  have HYES := Lib.hid hyes
  have HNO := Lib.hid hno
  have HG := Lib.hid hg
  clear hyes hno hg hparts hpay hsum hlast his
  have hr0 := hr.rd
  obtain ⟨b, o, rfl, hb, hc⟩ := hr0.get (by rw [List.length_map]; omega)
  have e1 : w.cell? ⟨b, o + k, none⟩ = some (B bs[k]) := hc k _ (by rw [List.getElem?_map, List.getElem?_eq_getElem h]; rfl)
  have e2 : w.cell? ⟨b, o + (k + j + n + 4), none⟩ = some (B bs[k + j + n + 4]) := hc _ _ (by rw [List.getElem?_map, List.getElem?_eq_getElem (by omega)]; rfl)
  have hne : ((bs[k].toNat : Int) == 0) = false := by rw [beq_eq_false_iff_ne]; intro e; exact h0 (UInt8.toNat_inj.1 (by show bs[k].toNat = 0; omega))
  have hcut := hr.cut (k + j) (n + 4) (c - (k + j)) (by omega) (by omega) (by rw [List.length_map]; omega) (by omega)
  have hpay := hr.cut (k + j) n n (by omega) (by omega) (by rw [List.length_map]; omega) (by omega)
  rw [← List.map_drop, ← List.map_take] at hcut hpay
  have hrr := hr.rd
  have hcr := hcut.rd
  rw [show (Value.slice (some ⟨b, o + (k + j), none⟩) (n + 4) (c - (k + j))) = .slice (some ⟨b, o + (k + j), none⟩) (k + j + n + 4 - (k + j)) (c - (k + j)) by rw [show k + j + n + 4 - (k + j) = n + 4 by omega]] at hcr
  rw [show (Value.slice (some ⟨b, o + (k + j), none⟩) n n) = .slice (some ⟨b, o + (k + j), none⟩) (k + j + n - (k + j)) (k + j + n - (k + j)) by rw [show k + j + n - (k + j) = n by omega]] at hpay
  generalize bs[k] = x at *
  simp only [B] at e1 e2
  clear hc h0 hcut
  by_cases hl : bs[k + j + n + 4] = 1
  · have hl1 : (((1 : UInt8).toNat : Int) == 1) = true := rfl
    rw [hl] at e2
    have hyes := HYES.out hl
    have HYES := Lib.hid hyes
    clear hyes
    go_enter Try.func52, Try.ntmps52
    go_wp2_with fail
    refine (GetNum_some bs _ k n j _ hrr (by omega) HG.out).mono ?_
    rintro e w1 ⟨rfl, rfl⟩
    go_wp2_with fail
    ((with_reducible refine (Is_any _ _ _ hcr).mono ?_))
    rintro e w2 ⟨rfl, hx2⟩
    by_cases his : isB ((bs.drop (k + j)).take (n + 4)) = true
    · have hf := HYES.out his
      have HF := Lib.hid hf
      have HPAY := Lib.hid hpay
      rw [his]
      clear hf HNO HYES his hpay hcr
      go_wp2
      go_ret3
      rw [CutPost, HF.out]
      exact ⟨_, by go_num, HPAY.out.ext hx2, hx2⟩
    · have hb : isB ((bs.drop (k + j)).take (n + 4)) = false := by simpa using his
      have hf := HNO.out (.inr hb)
      have hp := CutPost.none_ (row := row) (w := w) hf hx2
      have HP := Lib.hid hp
      rw [hb]
      clear hf HNO HYES his hb hp hpay hcr
      go_wp2
      go_ret3
      exact HP.out
  · have hl1 : ((bs[k + j + n + 4].toNat : Int) == 1) = false := by rw [beq_eq_false_iff_ne]; intro e; exact hl (UInt8.toNat_inj.1 (by show bs[k + j + n + 4].toNat = 1; omega))
    have hl2 : ((bs[k + j + n + 4].toNat : Int) != 1) = true := by rw [bne, hl1]; rfl
    have hno := HNO.out (.inl hl)
    have hp := CutPost.none_ (row := row) (w := w) hno (Ext.refl w)
    have HP := Lib.hid hp
    clear hno HNO HYES hp hl
    generalize bs[k + j + n + 4] = y at *
    go_enter Try.func52, Try.ntmps52
    go_wp2_with fail
    refine (GetNum_some bs _ k n j _ hrr (by omega) HG.out).mono ?_
    rintro e w1 ⟨rfl, rfl⟩
    go_wp2
    go_ret3
    exact HP.out

theorem cut_any (bs : List UInt8) (v : Value) (i : Int) (w : World) (hr : RdN w row v (bs.map B)) : Calls Try.prog 52 #[v, .int .i64 i] w (CutPost row bs i w) := by
  by_cases hi : i < 0 ∨ (bs.length : Int) < i
  · exact cut_low bs v i w hr hi
  · obtain ⟨k, rfl⟩ : ∃ k : Nat, i = k := ⟨i.toNat, by omega⟩
    by_cases he : k = bs.length
    · rw [he]
      exact cut_done bs v w hr
    · have hk : k < bs.length := by omega
      by_cases h0 : bs[k] = 0
      · exact cut_nought bs v k w hr hk h0
      · rcases hg : getN (bs.drop k) with _ | ⟨n, j⟩
        · exact cut_num bs v k w hr hk h0 hg
        · by_cases hn : n ≤ 4000 ∧ k + j + n + 5 ≤ bs.length
          · exact cut_frame bs v k n j w hr hk h0 hg hn
          · exact cut_size bs v k n j w hr hk h0 hg (by omega)

end
end Go.Proofs.Ytnihgpdkolmkgaa

/- Go's slices.Grow of nil, and slices.Concat, at bytes: all of the slices, one behind the other, in a row of its own. -/
namespace Go.Proofs.Ytnihgpdkolmkgaa
open Go.RowKit

theorem Grew.short {w w' : World} {e : TypeId} {n cap : Nat} {xs : List Value} {g : Nat} (h : Grew w.heap.size e (.slice none 0 0) w xs (.slice (some ⟨g, 0, none⟩) n cap) w') : Grew w.heap.size e (.slice none 0 0) w [] (.slice (some ⟨g, 0, none⟩) 0 cap) w' := by
  obtain ⟨h1, h2, h3⟩ := h
  refine ⟨⟨rfl, ?_⟩, h2, ?_⟩
  · rcases h1.2 with ⟨h, _⟩ | ⟨g', cap', cur, h, hg, hh, hn, hcap, hs, ht⟩
    · cases h
    · cases h
      exact .inr ⟨g, cap, cur, rfl, hg, hh, Nat.zero_le _, hcap, hs, by simp⟩
  · rcases h3 with h3 | h3
    · cases h3
    · exact .inr h3

/-- 'append(b, make([]byte, n)...)', b nil: n noughts, and what room there is. -/
theorem zeros_u8 {w : World} {ops : Array Oper} {rest : List Oper} {o : Oper} {a : Act} {Q : Exit → Act → World → Prop} (hgd : o.guard = none) (s x : Operand)
    (ho : o.op = .call { callee := .builtin .append, args := #[s, x], argTypes := #[38, 3] }) (hs : a.eval s = .slice none 0 0) (n : Nat) (hx : a.eval x = .int .i64 (n : Int)) (h0 : 0 < n) (hn : n ≤ 140737488355328)
    (h : ∀ G w', n ≤ G → G ≤ 9223372036854775807 → Grew w.heap.size 5 (.slice none 0 0) w ((List.replicate n (0 : UInt8)).map B) (.slice (some ⟨w.heap.size, 0, none⟩) n G) w' → wpList Try.prog ops Q rest (a.put o.dst (.slice (some ⟨w.heap.size, 0, none⟩) n G)) w') :
    wpList Try.prog ops Q (o :: rest) a w := by
  refine wpList_plain hgd fun K hK => ?_
  obtain ⟨i0, hi, hz0, hz1, hz2⟩ := info_parts Try.infoU8
  have hrz := Lib.run_append_nil_zeros (P := Try.prog) w 38 3 o.type 5 i0 (.int .u8 0) .i64 .i64 Try.underlying38 Try.underlying3 hi hz0 n h0 (by omega) (by omega) (by rw [hz2]; omega)
  have hge := grownCap_ge w n 0 5
  have hle := grownCap_le_maxLen w n 0 5 (by unfold maxLen; omega)
  generalize grownCap w n 0 5 = G at *
  have hg : Grew w.heap.size 5 (.slice none 0 0) w ((List.replicate n (0 : UInt8)).map B) (.slice (some ⟨w.heap.size, 0, none⟩) n G) (w.drew.alloc (.cells (Builtin.zeroCells (Value.int .u8 0).cells n ++ Builtin.zeroCells (Value.int .u8 0).cells (G - n)) 5)) := by
    refine ⟨⟨by simp, .inr ⟨w.heap.size, G, _, by simp, Nat.le_refl _, heap_alloc_new w.drew _, by simpa using hge, hle, ?_, ?_⟩⟩, ⟨rfl, rfl, rfl, by simp, fun k hk _ => heap_alloc_old w.drew _ hk⟩, .inr fun k hk => ?_⟩
    · rw [Array.size_append, size_zeroCells, size_zeroCells]
      show n * 1 + (G - n) * 1 = G * 1
      omega
    · have e : (Builtin.zeroCells (Value.int .u8 0).cells n).toList = (List.replicate n (0 : UInt8)).map B := by
        rw [List.map_replicate]
        apply List.ext_getElem (by simp [Builtin.zeroCells, Value.cells])
        intro i h1 h2
        simp [Builtin.zeroCells, Value.cells, B, Nat.mod_one]
      rw [Array.toList_append, e, List.length_map, List.length_replicate, Nat.mul_one]
      exact List.take_left' (by simp)
    · simp only [Value.ownBlock] at hk
      cases hk
      exact Nat.le_refl _
  unfold Oper.wp execOp
  simp only [ho, resolve, invoke, builtin, Sem.run_bind, Sem.run_pure, Result.andThen_ok, List.map_toArray, List.map_cons, List.map_nil, hs, hx, hrz]
  exact hK _ _ (h G _ hge (by unfold maxLen at hle; omega) hg)

theorem Grow_none (n : Nat) (w : World) (hn : n ≤ 140737488355328) :
    Calls Try.prog 66 #[.slice none 0 0, .int .i64 (n : Int)] w fun e w' => ∃ v', e = .returned v' ∧ Grew w.heap.size 5 (.slice none 0 0) w [] v' w' := by
  rcases Nat.eq_zero_or_pos n with h0 | h0
  · subst h0
    have hg := Grew.nil (base := w.heap.size) (e := 5) w
    have HG := Lib.hid hg
    clear hg
    go_enter Try.func66, Try.ntmps66
    go_wp2
    go_ret
    exact ⟨_, rfl, HG.out⟩
  · go_enter Try.func66, Try.ntmps66
    go_wp2_with (at_builtin; refine zeros_u8 rfl _ _ rfl rfl n rfl h0 hn ?_; intro G w2 hge hle hg2; have HG := Lib.hid hg2; clear hg2)
    go_ret
    exact ⟨_, rfl, HG.out.short⟩

/-- '[][]byte{a, b, ..}': a row of slices. -/
theorem RdL.lit {w : World} (e : TypeId) (vs : List Value) (ls : List (List UInt8)) (cs : Array Value) (n g : Nat) (hl : vs.length = ls.length) (h4 : vs.length ≤ 4096) (hc : cs = vs.toArray) (hn : n = vs.length) (hg : g = w.heap.size)
    (h : ∀ (i : Nat) u l, vs[i]? = some u → ls[i]? = some l → Rd w u (l.map B)) : RdL (w.alloc (.cells cs e)) (.slice (some ⟨g, 0, none⟩) n n) ls := by
  subst hc hn hg
  have h0 := Rd.lit w vs.toArray e (by unfold maxLen; simp; omega)
  refine ⟨vs, by simpa using h0, hl, fun i u l hu hl => (h i u l hu hl).ext ((Below.refl _ _).alloc (Nat.le_refl _) _)⟩

/-- How many bytes the first k of them have. -/
def lenTo (ls : List (List UInt8)) (k : Nat) : Nat := ((ls.take k).flatten).length
theorem lenTo_succ {ls : List (List UInt8)} {k : Nat} (h : k < ls.length) : lenTo ls (k + 1) = lenTo ls k + ls[k].length := by
  rw [lenTo, List.take_succ_eq_append_getElem h, List.flatten_append, List.length_append, List.flatten_singleton, lenTo]
theorem lenTo_all (ls : List (List UInt8)) : lenTo ls ls.length = ls.flatten.length := by rw [lenTo, List.take_length]
theorem lenTo_le (ls : List (List UInt8)) (k : Nat) : lenTo ls k ≤ ls.flatten.length := by
  have h := congrArg (fun l : List (List UInt8) => l.flatten.length) (List.take_append_drop k ls)
  simp only [List.flatten_append, List.length_append] at h
  rw [lenTo]
  omega

set_option maxHeartbeats 1000000 in
theorem Concat_any (ls : List (List UInt8)) (v : Value) (w : World) (hr : RdL w v ls) (hlen : ls.flatten.length ≤ 140737488355328) :
    Calls Try.prog 55 #[v] w fun e w' => ∃ v', e = .returned v' ∧ Grew w.heap.size 5 (.slice none 0 0) w (ls.flatten.map B) v' w' := by
  obtain ⟨A, c, rfl, hlc, hcm⟩ := hr.sliceN rfl
  unfold maxLen at hcm
  go_enter Try.func55, Try.ntmps55
  go_wp2
  go_loop [3, 5, 11] (fun n x i => ∃ k : Nat, k ≤ ls.length ∧ i = .int .i64 k ∧ n = .int .i64 (lenTo ls k)) (fun _ _ i => ls.length - (intOf i).toNat)
  case atStart => exact ⟨0, Nat.zero_le _, rfl, rfl⟩
  case round =>
    obtain ⟨k, hk, rfl, rfl⟩ := hrel
    by_cases hlt : k < ls.length
    · obtain ⟨b, o, rfl, hb, hc⟩ := hr.at (by omega)
      obtain ⟨u, hu, hru⟩ := hc k ls[k] (List.getElem?_eq_getElem hlt)
      obtain ⟨A1, c1, rfl, _, _⟩ := hru.sliceN (List.length_map _)
      have hs := lenTo_succ hlt
      have hle := lenTo_le ls (k + 1)
      have HS := Lib.hid hs
      have h1 : lenTo ls k + ls[k].length ≤ 140737488355328 := by omega
      generalize ls[k].length = m at *
      generalize hm0 : lenTo ls k = s at *
      clear hm0 hs hc
      go_wp2
      go_round
      case rel => exact ⟨k + 1, by omega, by go_num, by rw [HS.out]; go_num⟩
      case measure => simp [intOf]; omega
    · obtain rfl : k = ls.length := by omega
      have hs : lenTo ls ls.length = ls.flatten.length := lenTo_all ls
      have HL := Lib.hid hlen
      rw [← hs] at hlen
      generalize lenTo ls ls.length = N at *
      have HR := Lib.hid hr
      clear hr hs
      go_wp2_with fail
      refine (Grow_none N _ hlen).mono ?_
      rintro e w1 ⟨v1, rfl, hg1⟩
      go_wp2
      go_loopw [6, 8, 27] (fun v' x i wr => ∃ k : Nat, k ≤ ls.length ∧ i = .int .i64 k ∧ Grew w.heap.size 5 (.slice none 0 0) w (((ls.take k).flatten).map B) v' wr) (fun _ _ i _ => ls.length - (intOf i).toNat)
      case atStart => exact ⟨0, Nat.zero_le _, rfl, hg1⟩
      case round =>
        obtain ⟨k, hk, rfl, hg⟩ := hrel
        by_cases hlt : k < ls.length
        · have hr1 := HR.out.ext hg.ext
          obtain ⟨b, o, rfl, hb, hc⟩ := hr1.at (by omega)
          obtain ⟨u, hu, hru⟩ := hc k ls[k] (List.getElem?_eq_getElem hlt)
          have hs := lenTo_succ hlt
          have hle := lenTo_le ls (k + 1)
          have h2 : (((ls.take k).flatten).map B).length + ls[k].length ≤ 140737488355328 := by have := HL.out; rw [List.length_map]; unfold lenTo at *; omega
          have he : ((ls.take k).flatten).map B ++ ls[k].map B = ((ls.take (k + 1)).flatten).map B := by rw [List.take_succ_eq_append_getElem hlt, List.flatten_append, List.flatten_singleton, List.map_append]
          have HE := Lib.hid he
          have HU := Lib.hid hru
          have HG := Lib.hid hg
          obtain ⟨A1, c1, rfl, _, _⟩ := hru.sliceN (List.length_map _)
          clear he hru hs hle hc hr1 hg hg1
          go_wp2_with (at_builtin; refine app_u8 rfl _ _ rfl w.heap.size _ _ rfl HG.out.own _ _ rfl HU.out h2 HG.out.size ?_; intro v2 w2 hg2)
          have hg3 := HG.out.trans hg2
          rw [HE.out] at hg3
          have HG3 := Lib.hid hg3
          clear hg2 hg3
          go_roundw
          case rel => exact ⟨k + 1, by omega, by go_num, HG3.out⟩
          case measure => simp [intOf]; omega
        · obtain rfl : k = ls.length := by omega
          rw [List.take_length] at hg
          have HG := Lib.hid hg
          clear hg hg1
          go_wp2
          go_ret
          exact ⟨_, rfl, HG.out⟩

end Go.Proofs.Ytnihgpdkolmkgaa

/- Layer 1, package code: a number's bytes. -/
namespace Go.Proofs.Ytnihgpdkolmkgaa
open Go.RowKit

theorem isNum_yes (n : Int) (w : World) (h0 : 0 ≤ n) (h1 : n < 9007199254740992) :
    Calls Try.prog 64 #[.int .i64 n] w fun e w' => e = .returned (.bool true) ∧ w = w' := by
  go_enter Try.func64, Try.ntmps64
  go_wp2
  go_ret
  exact ⟨rfl, rfl⟩

theorem isNum_no (n : Int) (w : World) (h : ¬ (0 ≤ n ∧ n < 9007199254740992)) :
    Calls Try.prog 64 #[.int .i64 n] w fun e w' => e = .returned (.bool false) ∧ w = w' := by
  by_cases h0 : 0 ≤ n
  · have h1 : 9007199254740992 ≤ n := by omega
    have h2 : decide (n < 9007199254740992) = false := by simp; omega
    clear h
    go_enter Try.func64, Try.ntmps64
    go_wp2
    go_ret
    exact ⟨rfl, rfl⟩
  · clear h
    go_enter Try.func64, Try.ntmps64
    go_wp2
    go_ret
    exact ⟨rfl, rfl⟩

set_option maxRecDepth 100000 in
set_option maxHeartbeats 1000000 in
theorem addNum_any (base : Nat) (v : Value) (l : List UInt8) (n : Nat) (w : World) (hown : w.ownsRow base 5 1 v (l.map B).length (l.map B)) (hb : base ≤ w.heap.size)
    (hn : n < 9223372036854775808) (hl : l.length ≤ 140737488355318) :
    Calls Try.prog 65 #[v, .int .i64 n] w fun e w' => ∃ v', e = .returned v' ∧ Grew base 5 v w ((l ++ numB n).map B) v' w' := by
  obtain ⟨i0, hi, hz0, hz1, hz2⟩ := info_parts Try.infoU8
  have hlen := numB_len10 hn
  go_enter Try.func65, Try.ntmps65
  go_wp2
  go_loopw [0, 1] (fun v' n' wr => ∃ (m : Nat) (l' : List UInt8), n' = .int .i64 m ∧ m ≤ n ∧ l' ++ numB m = l ++ numB n ∧ Grew base 5 v w (l'.map B) v' wr) (fun _ n' _ => (intOf n').toNat)
  case atStart => exact ⟨n, l, rfl, Nat.le_refl _, rfl, Grew.start hown⟩
  case round =>
    obtain ⟨m, l', rfl, hmn, hmm, hg⟩ := hrel
    have hlt : (List.map B l').length < 140737488355328 := by
      have := congrArg List.length hmm
      have := numB_pos m
      simp only [List.length_append, List.length_map] at *
      omega
    have hbw : base ≤ wr.heap.size := Nat.le_trans hb hg.size
    have hML := Lib.hid hmm
    clear hmm
    by_cases h128 : m < 128
    · go_wp2_with (at_builtin; refine push_u8 rfl _ _ rfl base _ _ rfl hg.1 _ rfl rfl hlt hbw ?_; intro v' w' hg')
      go_ret
      refine ⟨_, rfl, ?_⟩
      have hgg := hg.trans hg'
      rw [← hML.out, numB_lo h128, List.map_append]
      rw [B_eq (n := (m : Int)) (u := UInt8.ofNat m) (by rw [u8_toNat]; omega)] at hgg
      exact hgg
    · have ho := or128 m
      have hO := Lib.hid ho
      clear ho
      go_wp2_with (at_builtin; refine push_u8 rfl _ _ rfl base _ _ rfl hg.1 _ rfl rfl hlt hbw ?_; intro v' w' hg')
      go_roundw
      case rel =>
        have hgg := hg.trans hg'
        rw [B_eq hO.out] at hgg
        refine ⟨m / 128, l' ++ [UInt8.ofNat (m % 128 + 128)], by go_num, by omega, ?_, by simpa using hgg⟩
        rw [← hML.out, numB_hi h128]
        simp
      case measure => simp [intOf]; omega

theorem Num_yes (n : Nat) (w : World) (hn : n < 9007199254740992) :
    Calls Try.prog 54 #[.int .i64 n] w fun e w' => ∃ v', e = .returned v' ∧ Grew w.heap.size 5 (.slice none 0 0) w ((numB n).map B) v' w' := by
  go_enter Try.func54, Try.ntmps54
  go_wp2_with (first | (go_at_call 64; refine (isNum_yes _ _ (by omega) (by omega)).mono ?_; rintro e w' ⟨rfl, rfl⟩) | (go_at_call 65; refine (addNum_any w.heap.size _ [] _ _ (World.ownsRow_nil _ _ _ _) (Nat.le_refl _) (by omega) (by simp)).mono ?_; rintro e w' ⟨v', rfl, hg⟩))
  go_ret
  exact ⟨_, rfl, hg⟩

theorem Num_no (n : Int) (w : World) (hn : ¬ (0 ≤ n ∧ n < 9007199254740992)) :
    Calls Try.prog 54 #[.int .i64 n] w fun e w' => e = .returned (.slice none 0 0) ∧ w = w' := by
  have H := Lib.hid hn
  clear hn
  go_enter Try.func54, Try.ntmps54
  go_wp2_with (first | (go_at_call 64; refine (isNum_no _ _ H.out).mono ?_; rintro e w' ⟨rfl, rfl⟩))
  go_ret
  exact ⟨rfl, rfl⟩

end Go.Proofs.Ytnihgpdkolmkgaa

/- Layer 3, package frame: the contracts of its calls. -/
namespace Go.Proofs.Ytnihgpdkolmkgaa
open Go.RowKit

theorem OwnL.base {lo : Nat} {w0 w : World} {e : TypeId} {v : Value} {ls : List (List UInt8)} (h : OwnL lo w0 e v w ls) : ∀ k, v.ownBlock = some k → w0.heap.size ≤ k := by
  obtain ⟨vs, h1, _⟩ := h
  intro k hk
  rcases h1.1.2 with ⟨rfl, _⟩ | ⟨g, cap, cur, rfl, hg, _⟩
  · cases hk
  · cases hk
    exact hg
theorem RdN.apart {lo : Nat} {w0 w : World} {v u : Value} {xs : List Value} (h : RdN w0 (Off lo (.slice none 0 0)) v xs) (hx : Ext w0 w) (hu : ∀ k, u.ownBlock = some k → w0.heap.size ≤ k) : RdN w (Off lo u) v xs := by
  obtain ⟨A, c, e, h1, h2, h3⟩ := h
  refine ⟨A, c, e, h1, h2, fun hn => ?_⟩
  obtain ⟨b, o, a, hb, hl, hc⟩ := h3 hn
  refine ⟨b, o, a, Nat.lt_of_lt_of_le hb hx.size, ⟨hl.1, fun he => ?_⟩, fun j u hu => (hx.cell (p := ⟨b, o + j, none⟩) hb).trans (hc j u hu)⟩
  have := hu b he.symm
  omega

def AllHead (lo : Nat) (bs : List UInt8) (i : Int) (w : World) (u v : Value) (wr : World) : Prop :=
  ∃ (a : Int) (ls : List (List UInt8)), u = .int .i64 a ∧ AllSt bs i ls a 1 ∧ OwnL lo w 38 v wr ls

set_option maxHeartbeats 1000000 in
theorem FrameAll_rdF (bs : List UInt8) (v : Value) (i : Int) (w : World) (hr : Rd w v (bs.map B)) (hlen : bs.length < 1000000000000) : Calls Try.prog 32 #[v, .int .i64 i] w (AllRdF bs i w) := by
  have HR := Lib.hid hr
  clear hr
  go_enter Try.func32, Try.ntmps32
  go_wp2_with fail
  refine (Clone_any bs _ _ HR.out (by omega)).mono ?_
  rintro e w0 ⟨v0, rfl, hg0⟩
  have hx0 := hg0.ext
  have hr0 := RdN.fresh (lo := w.heap.size) (r := .slice none 0 0) hg0 (Nat.le_refl _) (fun k hk => by cases hk)
  have HR0 := Lib.hid hr0
  clear hg0 hr0
  go_wp2
  go_loopw [1, 6, 8, 9, 10] (fun u v x y z wr => AllHead w.heap.size bs i w0 u v wr) (fun u _ _ _ _ _ => ((bs.length : Int) + 1 - intOf u).toNat)
  case atStart => exact ⟨i, [], rfl, AllSt.first bs i, OwnL.nil _ w0 _⟩
  case round =>
    obtain ⟨a, ls, rfl, hst, hown⟩ := hrel
    have HS := Lib.hid hst
    have hn := RdN.apart HR0.out hown.ext hown.base
    clear hst
    go_wp2_with fail
    refine (cut_any bs _ a _ hn).mono ?_
    rintro e w1 ⟨v1, rfl, hr1, hx1⟩
    obtain ⟨A1, c1, rfl, _, _⟩ := hr1.rd.sliceN (List.length_map _)
    have hown1 := hown.step hx1
    by_cases hw : (getF bs a).2.2 = 1
    · have hon := HS.out.on hw
      have hgo := getF_on hw
      have hls := hon.1
      rw [List.length_append, List.length_singleton] at hls
      have HO := Lib.hid hon
      rw [hw]
      clear hon hw HS hown hx1 hn
      generalize (getF bs a).2.1 = a' at *
      generalize (getF bs a).1 = q at *
      go_wp2_with (at_builtin; refine push_row rfl _ _ rfl _ ls hown1 A1 q.length c1 q hr1 rfl rfl (by omega) ?_; intro v2 w2 hown2)
      go_roundw
      case rel => exact ⟨a', ls ++ [q], rfl, HO.out, hown2⟩
      case measure => simp [intOf]; omega
    · have hend := (HS.out.off rfl hw).end_ hw
      have HE := Lib.hid hend
      have hne : ((getF bs a).2.2 != 1) = true := by rw [bne_iff_ne]; exact hw
      have hne2 : ((getF bs a).2.2 == 1) = false := by rw [beq_eq_false_iff_ne]; exact hw
      clear hend HS hown hw hn hr1
      generalize (getF bs a).2.2 = t' at *
      generalize (getF bs a).2.1 = a' at *
      generalize (getF bs a).1 = q at *
      go_wp2
      go_ret2
      rw [AllRdF, HE.out]
      exact ⟨_, rfl, hown1.rdlF hx0.size, hx0.trans hown1.ext⟩

theorem FrameAll_rd (bs : List UInt8) (v : Value) (i : Int) (w : World) (hr : Rd w v (bs.map B)) (hlen : bs.length < 1000000000000) : Calls Try.prog 32 #[v, .int .i64 i] w (AllRd bs i w) :=
  (FrameAll_rdF bs v i w hr hlen).mono fun _ _ ⟨v', he, hr, hx⟩ => ⟨v', he, hr.rdl, hx⟩

theorem FramePut_no (p : List UInt8) (v : Value) (w : World) (hr : Rd w v (p.map B)) (h : ¬ (1 ≤ p.length ∧ p.length ≤ 4000)) :
    Calls Try.prog 38 #[v] w fun e w' => ∃ v', e = .returned v' ∧ Grew w.heap.size 5 (.slice none 0 0) w ((frameB p).map B) v' w' := by
  obtain ⟨A, c, rfl, hlc, hcm⟩ := hr.sliceN (List.length_map _)
  unfold maxLen at hcm
  have hg := Grew.nil (base := w.heap.size) (e := 5) w
  have hf := frameB_no h
  have HG := Lib.hid hg
  have HF := Lib.hid hf
  clear hg hf hr
  by_cases h0 : p.length < 1
  · clear h
    go_enter Try.func38, Try.ntmps38
    go_wp2
    go_ret
    exact ⟨_, rfl, by rw [HF.out]; exact HG.out⟩
  · have h1 : decide ((p.length : Int) > 4000) = true := by simp; omega
    clear h
    go_enter Try.func38, Try.ntmps38
    go_wp2
    go_ret
    exact ⟨_, rfl, by rw [HF.out]; exact HG.out⟩

set_option maxHeartbeats 1000000 in
theorem FramePut_yes (p : List UInt8) (v : Value) (w : World) (hr : Rd w v (p.map B)) (h : 1 ≤ p.length ∧ p.length ≤ 4000) :
    Calls Try.prog 38 #[v] w fun e w' => ∃ v', e = .returned v' ∧ Grew w.heap.size 5 (.slice none 0 0) w ((frameB p).map B) v' w' := by
  obtain ⟨A, c, rfl, hlc, hcm⟩ := hr.sliceN (List.length_map _)
  unfold maxLen at hcm
  have hf := frameB_yes h
  have HF := Lib.hid hf
  obtain ⟨h1, h2⟩ := h
  clear hf
  go_enter Try.func38, Try.ntmps38
  go_wp2_with fail
  refine (Num_yes _ _ (by omega)).mono ?_
  rintro e w1 ⟨v1, rfl, hg1⟩
  have hr1 := Rd.own hg1.own
  have hx1 := hg1.ext
  clear hg1
  obtain ⟨A1, c1, rfl, _, _⟩ := hr1.sliceN (List.length_map _)
  go_wp2_with fail
  refine (Of_any p _ _ (hr.ext hx1)).mono ?_
  rintro e w2 ⟨rfl, rfl⟩
  have hs1 : ((crcOf p).toNat : Int) ≤ 9223372036854775807 := by have := (crcOf p).isLt; omega
  have hs0 : -9223372036854775808 ≤ ((crcOf p).toNat : Int) := by omega
  go_wp2_with fail
  refine (Put_any _ _ hs0 hs1).mono ?_
  rintro e w2 ⟨v2, rfl, hr2, hx2⟩
  obtain ⟨A2, c2, rfl, _, _⟩ := hr2.sliceN (n := 4) rfl
  have hE : Ext w2 (w2.alloc (.cells #[.int .u8 1] 5)) := (Below.refl _ _).alloc (Nat.le_refl _) _
  have h1b := hr1.ext (Ext.trans hx2 hE)
  have h2b := hr2.ext hE
  have hpb := hr.ext (Ext.trans hx1 (Ext.trans hx2 hE))
  have h3b := Rd.litB w2 [1] #[.int .u8 1] 5 1 w2.heap.size (by simp) (by simp [B]) rfl rfl
  have hx3 := Ext.trans hx1 (Ext.trans hx2 hE)
  have hl := RdL.lit (w := w2.alloc (.cells #[.int .u8 1] 5)) 38 [.slice A1 (numB p.length).length c1, .slice A p.length c, .slice A2 4 c2, .slice (some ⟨w2.heap.size, 0, none⟩) 1 1] [numB p.length, p, putB ((crcOf p).toNat : Int), [1]] #[.slice A1 (numB p.length).length c1, .slice A p.length c, .slice A2 4 c2, .slice (some ⟨w2.heap.size, 0, none⟩) 1 1] 4 (w2.heap.size + 1) rfl (by simp) rfl rfl (by simp) (by
    intro i u l hu hl
    match i, hu, hl with
    | 0, hu, hl => cases hu; cases hl; exact h1b
    | 1, hu, hl => cases hu; cases hl; exact hpb
    | 2, hu, hl => cases hu; cases hl; exact h2b
    | 3, hu, hl => cases hu; cases hl; exact h3b
    | (k + 4), hu, hl => simp at hu)
  have hcat : [numB p.length, p, putB ((crcOf p).toNat : Int), [1]].flatten = frameB p := by rw [HF.out]; simp
  have hlen : ([numB p.length, p, putB ((crcOf p).toNat : Int), [1]].flatten).length ≤ 140737488355328 := by
    have := numB_len8 (show p.length < 9007199254740992 by omega)
    rw [hcat, HF.out, List.length_append, List.length_append, List.length_append, putB_len]
    simp
    omega
  have hx4 : Ext w ((w2.alloc (.cells #[.int .u8 1] 5)).alloc (.cells #[.slice A1 (numB p.length).length c1, .slice A p.length c, .slice A2 4 c2, .slice (some ⟨w2.heap.size, 0, none⟩) 1 1] 38)) := Ext.trans hx3 ((Below.refl _ _).alloc (Nat.le_refl _) _)
  have HL := Lib.hid hl
  have HC := Lib.hid hcat
  have HN := Lib.hid hlen
  clear hr hl hcat hlen h1b h2b hpb h3b hr1 hr2 hs1 hs0 hE hx1 hx2 hx3 HF
  go_wp2_with fail
  refine (Concat_any _ _ _ HL.out HN.out).mono ?_
  rintro e w4 ⟨v4, rfl, hg4⟩
  go_wp2
  go_ret
  rw [HC.out] at hg4
  exact ⟨_, rfl, Grew.from_ext hx4 hg4⟩

theorem FramePut_any (p : List UInt8) (v : Value) (w : World) (hr : Rd w v (p.map B)) :
    Calls Try.prog 38 #[v] w fun e w' => ∃ v', e = .returned v' ∧ Grew w.heap.size 5 (.slice none 0 0) w ((frameB p).map B) v' w' := by
  by_cases h : 1 ≤ p.length ∧ p.length ≤ 4000
  · exact FramePut_yes p v w hr h
  · exact FramePut_no p v w hr h

theorem FramePut_rd (p : List UInt8) (v : Value) (w : World) (hr : Rd w v (p.map B)) : Calls Try.prog 38 #[v] w (BytesRd w (frameB p)) :=
  (FramePut_any p v w hr).mono fun _ _ h => BytesRd.of_grew h

end Go.Proofs.Ytnihgpdkolmkgaa

/- Layer 3, package frame: Get. -/
namespace Go.Proofs.Ytnihgpdkolmkgaa
open Go.RowKit

set_option maxHeartbeats 400000 in
theorem FrameGet_rd (bs : List UInt8) (v : Value) (i : Int) (w : World) (hr : Rd w v (bs.map B)) : Calls Try.prog 41 #[v, .int .i64 i] w (GetRd bs i w) := by
  have hn := RdN.of_rd hr
  have hp : (getF bs i).1.length ≤ 4000 := by
    rcases getF_cases bs i with ⟨h1, h2, h3, _⟩ | ⟨h1, _⟩
    · exact (frameAt_some h3).1.2
    · rw [h1]
      exact Nat.zero_le _
  have HP := Lib.hid hp
  clear hp hr
  go_enter Try.func41, Try.ntmps41
  go_wp2_with fail
  refine (cut_any bs _ i _ hn).mono ?_
  rintro e w1 ⟨v1, rfl, hr1, hx1⟩
  have hr1 := hr1.rd
  go_wp2_with fail
  refine (Clone_any _ _ _ hr1 (by have := HP.out; omega)).mono ?_
  rintro e w2 ⟨v2, rfl, hg2⟩
  go_wp2
  go_ret3
  exact ⟨_, rfl, Rd.own hg2.own, hx1.trans hg2.ext⟩

end Go.Proofs.Ytnihgpdkolmkgaa

/- Package log: Used, wrong, Room. -/
namespace Go.Proofs.Ytnihgpdkolmkgaa
open Go.RowKit

theorem LgUsed (G : Fp) (h g f z u : Nat) (w : World) (hl : Lg G w h g f z u) (hu : u ≤ 65536) :
    Calls Try.prog 17 #[.pointer (some ⟨h, 0, none⟩)] w fun e w' => e = .returned (.int .i64 (u : Int)) ∧ Ext w w' := by
  have c3 := LgO.c3 hl
  have c4 := LgO.c4 hl
  have hb : ((u : Int) == (u : Int)) = true := by simp
  clear hl
  go_enter Try.func17, Try.ntmps17
  go_wp2
  go_quiet (fail)
  go_wp2
  go_ret
  exact ⟨rfl, Below.drewN' (Ext.refl w) _⟩

set_option maxHeartbeats 400000 in
theorem LgUsed_far (F G : Fp) (h g : Nat) (s : DkS) (f z u l : Nat) (w : World) (hd : Dk F w g s) (hl : LgO G w h g f z u l) (hz : f + z ≤ s.1.length) (h1 : 1 ≤ z) (hw : s.2.1.length ≤ 1000000000) (hlu : l ≠ u) :
    Calls Try.prog 17 #[.pointer (some ⟨h, 0, none⟩)] w fun e w' => e = .returned (.int .i64 (usedD s f z u l : Int)) ∧ Ext w w' := by
  have hb := hd.lens
  have c3 := hl.c3
  have c4 := hl.c4
  have hb1 : ((l : Int) == (u : Int)) = false := by rw [beq_eq_false_iff_ne]; omega
  have hpl : (pieceB (rdD s) f z).length = z := pieceB_len (by rw [rdD_len]; exact hz)
  have HL := Lib.hid hl
  have HD := Lib.hid hd
  have HP := Lib.hid hpl
  have HB : Hid (s.1.length ≤ 65536) := Lib.hid hb.2.1
  have hue : usedD s f z u l = if (getF (pieceB (rdD s) f z) (l : Int)).2.1 = (u : Int) then u else endD s f z := by rw [usedD, if_neg hlu]
  have hre := recD_end s f z
  have HU := Lib.hid hue
  have HE := Lib.hid hre
  clear hl hd hb hpl hue hre
  go_enter Try.func17, Try.ntmps17
  go_wp2
  go_quiet (fail)
  have hxq : Ext w (w.drewN nq) := Below.drewN' (Ext.refl w) nq
  clear c3 c4
  generalize w.drewN nq = w0 at *
  go_wp2_with fail
  refine (LgPiece F G h g s f z u l w0 (HD.out.ext hxq) (HL.out.ext hxq) hz h1 hw).mono ?_
  rintro e w1 ⟨b, c, rfl, hg1, hc1⟩
  have hr1 := PieceP.rd hg1 h1 hz hc1
  have hx1 := hxq.trans hg1.ext
  have hl2 := HL.out.ext hx1
  have d3 := hl2.c3
  have d4 := hl2.c4
  have HX1 := Lib.hid hx1
  have HR1 := Lib.hid hr1
  clear hg1 hx1 hl2 hxq hc1 hr1
  go_wp2_with fail
  refine (FrameGet_rd (pieceB (rdD s) f z) _ (l : Int) w1 HR1.out).mono ?_
  rintro e w2 ⟨v2, rfl, -, hx2⟩
  have HX2 := Lib.hid (HX1.out.trans hx2)
  have HR2 := Lib.hid (HR1.out.ext hx2)
  have e3 := (HL.out.ext HX2.out).c3
  clear hx2 HX1 HR1 d3 d4
  generalize (getF (pieceB (rdD s) f z) (l : Int)).2.2 = t2 at *
  generalize (getF (pieceB (rdD s) f z) (l : Int)).2.1 = t1 at *
  by_cases ht : t1 = (u : Int)
  · have hb2 : (t1 == (u : Int)) = true := by rw [beq_iff_eq]; exact ht
    have hu : usedD s f z u l = u := by rw [HU.out, if_pos ht]
    have HU2 := Lib.hid hu
    clear ht hu HU
    go_wp2
    go_ret
    exact ⟨by rw [HU2.out]; rfl, HX2.out⟩
  · have hb2 : (t1 == (u : Int)) = false := by rw [beq_eq_false_iff_ne]; exact ht
    have hu : usedD s f z u l = endD s f z := by rw [HU.out, if_neg ht]
    have HU2 := Lib.hid hu
    clear ht hu HU
    go_wp2_with fail
    refine (FrameAll_rd (pieceB (rdD s) f z) _ 0 w2 HR2.out (by rw [HP.out]; have := HB.out; omega)).mono ?_
    rintro e w3 ⟨v3, rfl, -, hx3⟩
    rw [HE.out]
    go_wp2
    go_ret
    exact ⟨by rw [HU2.out]; rfl, HX2.out.trans hx3⟩

/-- Used, whatever waits. -/
theorem LgUsed_any (F G : Fp) (h g : Nat) (s : DkS) (f z u l : Nat) (w : World) (hd : Dk F w g s) (hl : LgO G w h g f z u l) (hz : f + z ≤ s.1.length) (h1 : 1 ≤ z) (hu : u ≤ 65536) (hw : s.2.1.length ≤ 1000000000) :
    Calls Try.prog 17 #[.pointer (some ⟨h, 0, none⟩)] w fun e w' => e = .returned (.int .i64 (usedD s f z u l : Int)) ∧ Ext w w' := by
  by_cases hlu : l = u
  · subst hlu
    rw [usedD, if_pos rfl]
    exact LgUsed G h g f z l w hl hu
  · exact LgUsed_far F G h g s f z u l w hd hl hz h1 hw hlu

/-- What wrong answers. -/
def wrongE (z u : Nat) (n : Int) : Int := if 1 ≤ n ∧ n ≤ 4000 then (if z - u < (numB n.toNat).length + n.toNat + 5 then 3 else 0) else 1
theorem wrongE_put (z u : Nat) (p : List UInt8) : wrongE z u p.length = putE z u p := by
  unfold wrongE putE
  rw [Int.toNat_natCast]
  by_cases hp : okP p
  · have hl := frameB_len hp
    rw [if_pos (by omega), if_neg (show ¬ frameB p = [] by rw [frameB_nil]; omega), hl]
  · rw [if_neg (by omega), if_pos (frameB_nil.2 hp)]
theorem wrongE_room (z u : Nat) (n : Int) : (wrongE z u n == 0) = roomB z u n := by
  unfold wrongE roomB
  by_cases hn : 1 ≤ n ∧ n ≤ 4000
  · rw [if_pos hn]
    by_cases h2 : z - u < (numB n.toNat).length + n.toNat + 5
    · rw [if_pos h2, decide_eq_false (by omega)]
      rfl
    · rw [if_neg h2, decide_eq_true (by omega)]
      rfl
  · rw [if_neg hn, decide_eq_false (by omega)]
    rfl

set_option maxHeartbeats 400000 in
theorem LgWrong_n (G : Fp) (h g f z u l U : Nat) (n : Nat) (w : World) (hl : LgO G w h g f z u l) (hz : z ≤ 65536) (hU : U ≤ z) (n0 : 1 ≤ n) (n1 : n ≤ 4000)
    (KU : ∀ w1, Ext w w1 → Calls Try.prog 17 #[.pointer (some ⟨h, 0, none⟩)] w1 fun e w' => e = .returned (.int .i64 (U : Int)) ∧ Ext w1 w') :
    Calls Try.prog 37 #[.pointer (some ⟨h, 0, none⟩), .int .i64 (n : Int)] w fun e w' => e = .returned (.int .i64 (wrongE z U n)) ∧ Ext w w' := by
  have h8 := numB_len8 (n := n) (by omega)
  have hx0 : Ext w w.drew := Ext.dr (Ext.refl w)
  have c2 := (hl.ext hx0).c2
  have KN := Num_yes n w.drew (by omega)
  have q1 : decide ((n : Int) < 1) = false := by simp; omega
  have q2 : decide (4000 < (n : Int)) = false := by simp; omega
  have hwe : wrongE z U n = if z - U < (numB n).length + n + 5 then 3 else 0 := by rw [wrongE, if_pos (by omega), Int.toNat_natCast]
  obtain ⟨X1, hX1⟩ : ∃ X : Int, X = (((numB n).length + n : Nat) : Int) := ⟨_, rfl⟩
  obtain ⟨X2, hX2⟩ : ∃ X : Int, X = (((numB n).length + n + 5 : Nat) : Int) := ⟨_, rfl⟩
  obtain ⟨Y, hY⟩ : ∃ X : Int, X = ((z - U : Nat) : Int) := ⟨_, rfl⟩
  have w1 : IntKind.i64.wrap (((numB n).length : Int) + (n : Int)) = X1 := by rw [IntKind.wrap_i64]; omega
  have w2 : IntKind.i64.wrap (X1 + 5) = X2 := by rw [IntKind.wrap_i64]; omega
  have w3 : IntKind.i64.wrap ((z : Int) - (U : Int)) = Y := by rw [IntKind.wrap_i64]; omega
  have he : wrongE z U n = if Y < X2 then 3 else 0 := by
    rw [hwe]
    by_cases hc : z - U < (numB n).length + n + 5
    · rw [if_pos hc, if_pos (by omega)]
    · rw [if_neg hc, if_neg (by omega)]
  have KN' := Lib.hid KN
  have KU' := Lib.hid KU
  have HL := Lib.hid hl
  have HE := Lib.hid he
  have HX := Lib.hid hx0
  clear KN KU hl he hx0 h8 hX1 hX2 hY hwe n0 n1 hz hU
  generalize hm : (numB n).length = m at *
  have HM := Lib.hid hm
  clear hm
  by_cases hc : Y < X2
  all_goals
    have hcd : decide (Y < X2) = decide (Y < X2) := rfl
    conv at hcd => rhs; simp [hc]
    have HC := Lib.hid hc
    clear hc
    go_enter Try.func37, Try.ntmps37
    go_wp2
    go_region_held3 (fun w' => w'.cell? ⟨h, 2, none⟩ = some (.int .i64 (z : Int))) (first | go_keep | (exact d2) | (exact e2)) (first | (go_at_call 54; (with_reducible refine KN'.out.mono ?_); rintro e w4 ⟨v4, rfl, hg4⟩; obtain ⟨A4, k4, rfl⟩ := hg4.slice_ (n := m) (by rw [List.length_map, HM.out]); have hx4 := HX.out.trans hg4.ext; have d2 := (HL.out.ext hx4).c2) | (go_at_call 17; (with_reducible refine (KU'.out _ hx4).mono ?_); rintro e w5 ⟨rfl, hx5⟩; have e2 := (HL.out.ext (hx4.trans hx5)).c2))
    all_goals
      go_wp2
      go_ret
      refine ⟨?_, HX.out.trans (hg4.ext.trans hx5)⟩
      rw [HE.out]
      simp [HC.out]

theorem LgWrong_no (h : Nat) (z U : Nat) (n : Int) (w : World) (hn : ¬ (1 ≤ n ∧ n ≤ 4000)) :
    Calls Try.prog 37 #[.pointer (some ⟨h, 0, none⟩), .int .i64 n] w fun e w' => e = .returned (.int .i64 (wrongE z U n)) ∧ Ext w w' := by
  have he : wrongE z U n = 1 := by rw [wrongE, if_neg hn]
  have HE := Lib.hid he
  by_cases h1 : n < 1
  · clear he hn
    go_enter Try.func37, Try.ntmps37
    go_wp2
    go_ret
    exact ⟨by rw [HE.out]; rfl, Ext.refl _⟩
  · have q1 : decide (n < 1) = false := by simp; omega
    have q2 : decide (4000 < n) = true := by simp; omega
    clear he hn h1
    go_enter Try.func37, Try.ntmps37
    go_wp2
    go_ret
    exact ⟨by rw [HE.out]; rfl, Ext.refl _⟩

theorem LgWrong_any (G : Fp) (h g f z u l U : Nat) (n : Int) (w : World) (hl : LgO G w h g f z u l) (hz : z ≤ 65536) (hU : U ≤ z)
    (KU : ∀ w1, Ext w w1 → Calls Try.prog 17 #[.pointer (some ⟨h, 0, none⟩)] w1 fun e w' => e = .returned (.int .i64 (U : Int)) ∧ Ext w1 w') :
    Calls Try.prog 37 #[.pointer (some ⟨h, 0, none⟩), .int .i64 n] w fun e w' => e = .returned (.int .i64 (wrongE z U n)) ∧ Ext w w' := by
  by_cases hn : 1 ≤ n ∧ n ≤ 4000
  · obtain ⟨m, rfl⟩ : ∃ m : Nat, n = m := ⟨n.toNat, by omega⟩
    exact LgWrong_n G h g f z u l U m w hl hz hU (by omega) (by omega) KU
  · exact LgWrong_no h z U n w hn

theorem LgRoom_U (G : Fp) (h g f z u l U : Nat) (n : Int) (w : World) (hl : LgO G w h g f z u l) (hz : z ≤ 65536) (hU : U ≤ z)
    (KU : ∀ w1, Ext w w1 → Calls Try.prog 17 #[.pointer (some ⟨h, 0, none⟩)] w1 fun e w' => e = .returned (.int .i64 (U : Int)) ∧ Ext w1 w') :
    Calls Try.prog 18 #[.pointer (some ⟨h, 0, none⟩), .int .i64 n] w fun e w' => e = .returned (.bool (roomB z U n)) ∧ Ext w w' := by
  have K := LgWrong_any G h g f z u l U n w hl hz hU KU
  have HR := Lib.hid (wrongE_room z U n)
  have HK := Lib.hid K
  clear hl KU K hz hU
  go_enter Try.func18, Try.ntmps18
  go_wp2_with fail
  refine HK.out.mono ?_
  rintro e w1 ⟨rfl, hx⟩
  go_wp2
  go_ret
  refine ⟨?_, hx⟩
  rw [← HR.out]
  rfl

theorem usedD_le {s : DkS} {f z u l : Nat} (hz : f + z ≤ s.1.length) (hu : u ≤ z) : usedD s f z u l ≤ z := by
  unfold usedD
  split
  · exact hu
  · split
    · exact hu
    · exact endD_le hz
theorem LgRoom_any (F G : Fp) (h g : Nat) (s : DkS) (f z u l : Nat) (n : Int) (w : World) (hd : Dk F w g s) (hl : LgO G w h g f z u l) (hz : f + z ≤ s.1.length) (h1 : 1 ≤ z) (hu : u ≤ z) (hw : s.2.1.length ≤ 1000000000) :
    Calls Try.prog 18 #[.pointer (some ⟨h, 0, none⟩), .int .i64 n] w fun e w' => e = .returned (.bool (roomB z (usedD s f z u l) n)) ∧ Ext w w' := by
  have hl65 := hd.lens.2.1
  exact LgRoom_U G h g f z u l _ n w hl (by omega) (usedD_le hz hu) (fun w1 hx => LgUsed_any F G h g s f z u l w1 (hd.ext hx) (hl.ext hx) hz h1 (by omega) hw)

/-- The same, of a disk and a log of which it is known what waits. -/
theorem LD.useds {F : Fp} {w : World} {h g f z u : Nat} {s : DkS} (hd : LD F w h g s f z u) (hu : u ≤ 65536) (w1 : World) (hx : Ext w w1) :
    Calls Try.prog 17 #[.pointer (some ⟨h, 0, none⟩)] w1 fun e w' => e = .returned (.int .i64 (u : Int)) ∧ Ext w1 w' := by
  obtain ⟨F1, F2, l, a1, a2, a3, a4, a5, a6, a7, a8⟩ := hd
  rcases a7 with rfl | a7
  · exact LgUsed F2 h g f z l w1 (LgO.ext a2 hx) hu
  · have := LgUsed_any F1 F2 h g s f z u l w1 (a1.ext hx) (a2.ext hx) a7.2.2.1 a8 hu a7.2.2.2.2
    rw [LastD.used (.inr a7)] at this
    exact this
theorem LDUsed (F : Fp) (h g : Nat) (s : DkS) (f z u : Nat) (w : World) (hd : LD F w h g s f z u) (hu : u ≤ 65536) :
    Calls Try.prog 17 #[.pointer (some ⟨h, 0, none⟩)] w fun e w' => e = .returned (.int .i64 (u : Int)) ∧ Ext w w' := hd.useds hu w (Ext.refl w)
theorem LDRoom (F : Fp) (h g : Nat) (s : DkS) (f z u : Nat) (n : Int) (w : World) (hd : LD F w h g s f z u) (hz : z ≤ 65536) (hu : u ≤ z) :
    Calls Try.prog 18 #[.pointer (some ⟨h, 0, none⟩), .int .i64 n] w fun e w' => e = .returned (.bool (roomB z u n)) ∧ Ext w w' := by
  have hd' := hd
  obtain ⟨F1, F2, l, a1, a2, a3, a4, a5, a6, a7, a8⟩ := hd
  exact LgRoom_U F2 h g f z u l u n w a2 hz hu (hd'.useds (by omega))

end Go.Proofs.Ytnihgpdkolmkgaa

/- Package log: cut. -/
namespace Go.Proofs.Ytnihgpdkolmkgaa
open Go.RowKit

theorem Grew.noughts {base : Nat} {e : TypeId} {w0 : World} {b n c : Nat} {v : Value} : ∀ (m o : Nat) (xs : List UInt8) (w : World), Grew base e v w0 (xs.map B) (.slice (some ⟨b, 0, none⟩) n c) w → o + m ≤ xs.length →
    Grew base e v w0 ((xs.take o ++ (List.replicate m 0 ++ xs.drop (o + m))).map B) (.slice (some ⟨b, 0, none⟩) n c) (w.setCells b o (List.replicate m (.int .u8 0)))
  | 0, o, xs, w, hg, hm => by
    rw [List.replicate_zero, List.nil_append, Nat.add_zero, List.take_append_drop]
    exact hg
  | m + 1, o, xs, w, hg, hm => by
    have h1 := hg.set o (.int .u8 0)
    have e1 : (xs.map B).set o (.int .u8 0) = (xs.set o 0).map B := by rw [List.map_set]; rfl
    rw [e1] at h1
    have h2 := Grew.noughts m (o + 1) (xs.set o 0) _ h1 (by rw [List.length_set]; omega)
    have e2 : (xs.set o 0).take (o + 1) ++ (List.replicate m 0 ++ (xs.set o 0).drop (o + 1 + m)) = xs.take o ++ (List.replicate (m + 1) 0 ++ xs.drop (o + (m + 1))) := by
      rw [List.drop_set_of_lt (by omega), List.take_succ_eq_append_getElem (by rw [List.length_set]; omega), List.getElem_set_self, List.take_set_of_le (Nat.le_refl _), List.replicate_succ, List.append_assoc, show o + 1 + m = o + (m + 1) by omega]
      rfl
    rw [e2] at h2
    exact h2

theorem clear_run {base : Nat} {w0 w1 : World} {b n c : Nat} {v : Value} {xs : List UInt8} (hg : Grew base 5 v w0 (xs.map B) (.slice (some ⟨b, 0, none⟩) n c) w1) (o m C : Nat) (hm : o + m ≤ xs.length) (ty : TypeId) :
    (Builtin.clear_ #[38] ty #[.slice (some ⟨b, o, none⟩) m C]).run Try.prog w1 = .ok (.tuple #[]) (w1.setCells b o (List.replicate m (.int .u8 0))) := by
  rcases Nat.eq_zero_or_pos m with h0 | h0
  · subst h0
    simp [Builtin.clear_, run_underlying Try.underlying38, World.setCells]
  · refine Lib.run_clear_slice w1 38 5 ty (.int .u8 0) Try.underlying38 (fun w => by kernel_rfl) rfl rfl b o m C h0 (fun j hj => ?_) (fun j _ => hg.frozenAt (o + j))
    rw [hg.cellAt (o + j) (by rw [List.length_map]; omega), List.getElem?_map, List.getElem?_eq_getElem (by omega)]
    rfl

theorem RdF.of_rd {F : Fp} {w : World} {b o n c : Nat} {xs : List Value} (h : Rd w (.slice (some ⟨b, o, none⟩) n c) xs) (hb : F b) : RdF F w (.slice (some ⟨b, o, none⟩) n c) xs := by
  obtain ⟨A, c, e, h1, h2, h3⟩ := h
  refine ⟨A, c, e, h1, h2, fun hn => ?_⟩
  obtain ⟨b', o', rfl, hb', hc⟩ := h3 hn
  cases e
  exact ⟨_, _, rfl, hb', hb, hc⟩

/-- What lies behind a place of a piece is made noughts: the piece's end reads so. -/
theorem zeros_rd {s : DkS} {f z v b c : Nat} {w w1 : World} (hg : Grew w.heap.size 5 (.slice none 0 0) w ((rdD s).map B) (.slice (some ⟨b, 0, none⟩) s.1.length c) w1) (hz : f + z ≤ s.1.length) (hv : v < z) (hc : f + z ≤ c) :
    RdF (fun k => w.heap.size ≤ k ∧ k < (w1.setCells b (f + v) (List.replicate (z - v) (.int .u8 0))).heap.size) (w1.setCells b (f + v) (List.replicate (z - v) (.int .u8 0))) (.slice (some ⟨b, f + v, none⟩) (z - v) (c - f - v)) ((List.replicate (z - v) (0 : UInt8)).map B) ∧
      Ext w (w1.setCells b (f + v) (List.replicate (z - v) (.int .u8 0))) := by
  have hl : (rdD s).length = s.1.length := rdD_len s
  have hg2 := Grew.noughts (z - v) (f + v) (rdD s) w1 hg (by omega)
  have hn : ((rdD s).take (f + v) ++ (List.replicate (z - v) (0 : UInt8) ++ (rdD s).drop (f + v + (z - v)))).length = s.1.length := by
    simp only [List.length_append, List.length_take, List.length_replicate, List.length_drop, hl]
    omega
  obtain ⟨g', c', e, -, q3, q4⟩ := hg2.form (by rw [List.length_map, hn]; omega)
  rw [List.length_map, hn] at e
  cases e
  refine ⟨RdF.of_rd ?_ ⟨q3, q4⟩, hg2.ext⟩
  have hr := (Rd.own hg2.own)
  have hr := hr.cut (f + v) (z - v) (by rw [List.length_map, hn]; omega)
  rw [if_neg (by omega)] at hr
  rw [← List.map_drop, ← List.map_take, List.drop_left' (by rw [List.length_take, hl]; omega), List.take_left' (List.length_replicate)] at hr
  rw [Nat.sub_sub]
  simpa [Addr.add_lit] using hr

/-- What the two first statements of cut leave: a slice of noughts in new memory. -/
theorem cut_zeros {s : DkS} {f z v b c : Nat} {w w1 : World} (hg : Grew w.heap.size 5 (.slice none 0 0) w ((rdD s).map B) (.slice (some ⟨b, 0, none⟩) s.1.length c) w1) (hz : f + z ≤ s.1.length) (hv : v ≤ z) (hc : f + z ≤ c) :
    ∃ (o : Nat) (w2 : World), (if c - f = v then some (⟨b, f, none⟩ : Addr) else some ⟨b, f + v, none⟩) = some ⟨b, o, none⟩ ∧
      (∀ ty, (Builtin.clear_ #[38] ty #[.slice (some ⟨b, o, none⟩) (z - v) (c - f - v)]).run Try.prog w1 = .ok (.tuple #[]) w2) ∧
      RdF (fun k => w.heap.size ≤ k ∧ k < w2.heap.size) w2 (.slice (some ⟨b, o, none⟩) (z - v) (c - f - v)) ((List.replicate (z - v) (0 : UInt8)).map B) ∧ Ext w w2 := by
  have hl : (rdD s).length = s.1.length := rdD_len s
  by_cases hvz : v < z
  · obtain ⟨hr2, hx2⟩ := zeros_rd hg hz hvz hc
    exact ⟨f + v, _, by rw [if_neg (by omega)], clear_run hg (f + v) (z - v) (c - f - v) (by omega), hr2, hx2⟩
  · obtain rfl : v = z := by omega
    have hcm : c ≤ maxLen := by
      obtain ⟨A, c', e, h1, h2, h3⟩ := Rd.own hg.own
      injection e with _ _ e3
      rw [e3]
      exact h2
    have h0 : ∀ o, RdF (fun k => w.heap.size ≤ k ∧ k < w1.heap.size) w1 (.slice (some ⟨b, o, none⟩) (v - v) (c - f - v)) ((List.replicate (v - v) (0 : UInt8)).map B) := fun o =>
      ⟨some ⟨b, o, none⟩, c - f - v, by simp, by simp, by omega, fun hn => by simp at hn⟩
    have h1 : ∀ o, o ≤ s.1.length → ∀ ty, (Builtin.clear_ #[38] ty #[.slice (some ⟨b, o, none⟩) (v - v) (c - f - v)]).run Try.prog w1 = .ok (.tuple #[]) w1 := fun o ho ty => by
      have := clear_run hg o (v - v) (c - f - v) (by omega) ty
      rw [Nat.sub_self] at *
      exact this
    by_cases hcf : c - f = v
    · exact ⟨f, w1, by rw [if_pos hcf], h1 f (by omega), h0 f, hg.ext⟩
    · exact ⟨f + v, w1, by rw [if_neg hcf], h1 (f + v) (by omega), h0 _, hg.ext⟩

set_option maxHeartbeats 400000 in
theorem LgCut (F1 F2 : Fp) (h g : Nat) (s : DkS) (f z u l v : Nat) (w : World) (hd : Dk F1 w g s) (hl : LgO F2 w h g f z u l) (ha : F2.apart F1) (hz : f + z ≤ s.1.length) (h1 : 1 ≤ z) (hv : v ≤ z) (hw : s.2.1.length ≤ 100000000) (hn0 : 0 ≤ s.2.2) (hn1 : s.2.2 ≤ 1000000000) :
    Calls Try.prog 34 #[.pointer (some ⟨h, 0, none⟩), .int .i64 (v : Int)] w fun e w' =>
      e = .returned (.tuple #[]) ∧ Dk (F1.since w w') w' g (zrD s f z v) ∧ LgO F2 w' h g f z v v ∧ Chg (fun k => F1 k ∨ F2 k) w w' := by
  have hb := hd.lens
  have HL := Lib.hid hl
  have HD := Lib.hid hd
  have HA := Lib.hid ha
  have HB : Hid (s.1.length ≤ 65536 ∧ f + z ≤ s.1.length) := Lib.hid ⟨hb.2.1, hz⟩
  clear hl hd ha hb
  go_enter Try.func34, Try.ntmps34
  go_wp2_with fail
  refine (LgPiece F1 F2 h g s f z u l w HD.out HL.out hz h1 (by omega)).mono ?_
  rintro e w1 ⟨b, c, rfl, hg1, hc1⟩
  obtain ⟨o, w2, hA, hcl, hr2, hx2⟩ := cut_zeros hg1 hz hv hc1
  have p1 : v ≤ c - f := by omega
  have HR := Lib.hid hr2
  have HX := Lib.hid hx2
  clear hr2 hx2 hg1 hz hc1
  go_wp2_with (simp only [hcl])
  have c0 := (HL.out.ext HX.out).c0
  have c1 := (HL.out.ext HX.out).c1
  obtain ⟨Y, hY⟩ : ∃ Y : Int, Y = ((f + v : Nat) : Int) := ⟨_, rfl⟩
  have w3 : IntKind.i64.wrap ((f : Int) + (v : Int)) = Y := by rw [IntKind.wrap_i64]; have := HB.out; omega
  have hx3 : Ext w w2.drew := HX.out.trans (Ext.dr (Ext.refl w2))
  have KW := DkWrite F1 (fun k => w.heap.size ≤ k ∧ k < w2.heap.size) g s ((f + v : Nat) : Int) _ (List.replicate (z - v) (0 : UInt8)) w2.drew (HD.out.ext hx3) (RdF.ext HR.out (Ext.dr (Ext.refl w2))) (fun k hk hF => by have := HD.out.isIn k hF; omega) (fun k hk => hk.2) (by omega) (by have := HB.out; omega) (by omega)
  rw [← hY] at KW
  have KW' := Lib.hid KW
  have HX3 := Lib.hid hx3
  have HY := Lib.hid hY
  have hwt := wrD_waits s ((f + v : Nat) : Int) (List.replicate (z - v) (0 : UInt8))
  rw [List.length_replicate, ← hY] at hwt
  have hwt2 : (wrD s Y (List.replicate (z - v) 0)).2.1.length ≤ 1000000000 := by have := HB.out; omega
  have hwn : (wrD s Y (List.replicate (z - v) 0)).2.2 = s.2.2 := wrD_n _ _ _
  have HW := Lib.hid (And.intro hwt2 hwn)
  have hzr : zrD s f z v = syD (wrD s Y (List.replicate (z - v) 0)) := by rw [hY]; rfl
  have HZ := Lib.hid hzr
  clear KW hx3 hY hcl HR hwt hwt2 hwn hzr
  go_still_tail 11, (by kernel_rfl)
  change wpList _ _ _ _ _ w2.drew
  go_wp2_with fail
  refine KW'.out.mono ?_
  rintro e w4 ⟨rfl, hd4, hc4⟩
  have hl4 := (HL.out.ext HX3.out).chg hc4 HA.out
  have ha4 : F2.apart (F1.since w2.drew w4) := (HA.out.symm.since (HL.out.ext HX3.out).isIn).symm
  have c0 := hl4.c0
  have HD4 := Lib.hid hd4
  have HC4 := Lib.hid hc4
  have HL4 := Lib.hid hl4
  have HA4 := Lib.hid ha4
  clear hd4 hc4 hl4 ha4 KW'
  go_wp2_with fail
  refine (DkSync _ g _ w4 HD4.out HW.out.1 (by rw [HW.out.2]; exact hn0) (by rw [HW.out.2]; exact hn1)).mono ?_
  rintro e w5 ⟨rfl, hd5, hc5⟩
  rw [← HZ.out] at hd5
  have hl5 := HL4.out.chg hc5 HA4.out
  have c3 := hl5.c3
  have c4 := hl5.c4
  have f3 := hl5.fr 3
  have f4 := hl5.fr 4
  have hset := hl5.set v v
  have ha5 : F2.apart ((F1.since w2.drew w4).since w4 w5) := (HA4.out.symm.since HL4.out.isIn).symm
  have HD5 := Lib.hid hd5
  have HC5 := Lib.hid hc5
  have HS := Lib.hid hset
  have HA5 := Lib.hid ha5
  clear hd5 hc5 hl5 hset ha5 HD4 c0 HL4 HA4 HL
  go_wp2
  go_end0
  have hs1 := HX3.out.size
  have hs2 := HC4.out.size
  have hs3 := HC5.out.size
  have hd6 := Dk.chg HD5.out HS.out.2 HA5.out.symm
  refine ⟨rfl, hd6.mono (fun k hk => ?_) ?_, HS.out.1, ?_⟩
  · have hk2 := Fp.since_since hs2 hs3 k hk
    rcases hk2 with hk2 | hk2
    · exact .inl hk2
    · exact .inr ⟨by omega, by simpa using hk2.2⟩
  · exact HD.out.isIn.since (by simp; omega)
  · have q1 : Chg F1 w w4 := (Chg.of_ext HX3.out).trans HC4.out (fun _ _ h => h)
    have q2 : Chg F1 w w5 := q1.trans HC5.out (fun x hx hF => by
      rcases hF with hF | hF
      · exact hF
      · omega)
    exact (q2.mono (G := fun k => F1 k ∨ F2 k) (fun k _ hk => .inl hk)).trans HS.out.2 (fun x _ hF => .inr hF)

end Go.Proofs.Ytnihgpdkolmkgaa

/- Package log: what its calls do. -/
namespace Go.Proofs.Ytnihgpdkolmkgaa
open Go.RowKit

/-- A disk, the log on it, where each lies. -/
structure LP (w : World) (h g : Nat) (s : DkS) (f z u l : Nat) (F1 F2 : Fp) : Prop where
  dk : Dk F1 w g s
  lg : LgO F2 w h g f z u l
  apart : F2.apart F1
  last : LastD s f z u l
  one : 1 ≤ z

set_option maxHeartbeats 400000 in
theorem LgPut_yes (F1 F2 H : Fp) (h g : Nat) (s : DkS) (f z u l : Nat) (p : List UInt8) (v : Value) (w : World) (hd : LP w h g s f z u l F1 F2) (hr : RdF H w v (p.map B)) (hz : f + z ≤ s.1.length) (hu : u ≤ z) (hw : s.2.1.length ≤ 10000000) (he : putE z u p = 0) :
    Calls Try.prog 15 #[.pointer (some ⟨h, 0, none⟩), v] w fun e w' =>
      e = .returned (.int .i64 0) ∧ LP w' h g (ptD s f u p) f z (u + (frameB p).length) u (F1.since w w') F2 ∧ Chg (fun k => F1 k ∨ F2 k) w w' := by
  have hp := putE_yes he
  have hfl := frameB_len hp.1
  have hb := hd.dk.lens
  obtain ⟨A, c, rfl, hlc, hcm⟩ := hr.rd.sliceN (List.length_map _)
  unfold maxLen at hcm
  have KU : ∀ w1, Ext w w1 → Calls Try.prog 17 #[.pointer (some ⟨h, 0, none⟩)] w1 fun e w' => e = .returned (.int .i64 (u : Int)) ∧ Ext w1 w' := by
    intro w1 hx
    have := LgUsed_any F1 F2 h g s f z u l w1 (hd.dk.ext hx) (hd.lg.ext hx) hz hd.one (by omega) (by omega)
    rw [hd.last.used] at this
    exact this
  have KW := LgWrong_any F2 h g f z u l u p.length w hd.lg (by omega) hu KU
  rw [wrongE_put, he] at KW
  have hls := LastD.put hz hu he hw
  have HD := Lib.hid hd
  have HR := Lib.hid hr
  have HKU := Lib.hid KU
  have HKW := Lib.hid KW
  have HP := Lib.hid hp
  have HLS := Lib.hid hls
  have HB : Hid (s.1.length ≤ 65536 ∧ f + z ≤ s.1.length ∧ u + (frameB p).length ≤ z) := Lib.hid ⟨hb.2.1, hz, by omega⟩
  clear hd hr KU KW hp hls hfl hb hz hu he
  go_enter Try.func15, Try.ntmps15
  go_wp2_with fail
  refine HKW.out.mono ?_
  rintro e w1 ⟨rfl, hx1⟩
  have HX1 := Lib.hid hx1
  clear hx1
  go_wp2_with fail
  refine (FramePut_any p _ w1 (HR.out.rd.ext HX1.out)).mono ?_
  rintro e w2 ⟨v2, rfl, hg2⟩
  obtain ⟨A2, c2, rfl⟩ := hg2.slice_ (List.length_map _)
  have hr2 := RdF.made hg2
  have HX2 := Lib.hid (HX1.out.trans hg2.ext)
  have HR2 := Lib.hid hr2
  clear hg2 hr2
  go_wp2_with fail
  refine (HKU.out w2 HX2.out).mono ?_
  rintro e w3 ⟨rfl, hx3⟩
  have hl3 := HD.out.lg.ext (HX2.out.trans hx3)
  have c3 := hl3.c3
  have c4 := hl3.c4
  have f3 := hl3.fr 3
  have f4 := hl3.fr 4
  have hset := hl3.set (u + (frameB p).length) u
  have hxx := HX2.out.trans hx3
  have w5 : IntKind.i64.wrap ((u : Int) + ((frameB p).length : Int)) = ((u + (frameB p).length : Nat) : Int) := by rw [IntKind.wrap_i64]; have := HB.out; omega
  have hlt : decide ((u : Int) < (u : Int)) = false := by simp
  have HX3 := Lib.hid hxx
  have HS := Lib.hid hset
  have HR3 := Lib.hid (RdF.ext HR2.out hx3)
  have HX32 : Hid (w2.heap.size ≤ w3.heap.size) := Lib.hid hx3.size
  clear hl3 hset hx3 hxx HX2 HR2
  go_wp2_with fail
  rw [Int.natCast_add] at HS
  generalize World.setCell _ _ _ = w4 at *
  have hl4 := HS.out.1
  have c0 := hl4.c0
  have c1 := hl4.c1
  have hi2 := HD.out.lg.isIn
  have hx1s := HX1.out.size
  have hd5 := ((HD.out.dk.ext HX3.out).chg HS.out.2 HD.out.apart.symm).ext (Ext.dr (Ext.refl w4))
  have hr5 := RdF.ext (RdF.chg HR3.out HS.out.2 (fun k hk hF => by have := hi2 k hF; omega)) (Ext.dr (Ext.refl w4))
  have hc5 : Chg F2 w w4.drew := ((Chg.of_ext HX3.out).trans HS.out.2 (fun _ _ h => h)).drew
  have hin : ∀ k, k < w2.heap.size → k < w4.drew.heap.size := fun k hk => by
    obtain ⟨A', c', e, _⟩ := HR3.out
    have h1 : w2.heap.size ≤ w3.heap.size := HX32.out
    have h2 := HS.out.2.size
    show k < w4.heap.size
    omega
  obtain ⟨Y, hY⟩ : ∃ Y : Int, Y = ((f + u : Nat) : Int) := ⟨_, rfl⟩
  have w6 : IntKind.i64.wrap ((f : Int) + (u : Int)) = Y := by rw [IntKind.wrap_i64]; have := HB.out; omega
  have hwe : wrE s.1.length Y (frameB p).length = 0 := by
    rw [hY]
    exact wrE_yes (by have := HB.out; omega)
  have KW := DkWrite F1 (fun k => w1.heap.size ≤ k ∧ k < w2.heap.size) g s Y _ (frameB p) w4.drew hd5 hr5 (fun k hk hF => by have := HD.out.dk.isIn k hF; omega) (fun k hk => hin k hk.2) (by omega) (by have := HB.out; omega) (by omega)
  rw [hwe] at KW
  have hpt : ptD s f u p = wrD s Y (frameB p) := by rw [hY]; rfl
  have KW' := Lib.hid KW
  have HC5 := Lib.hid hc5
  have HPT := Lib.hid hpt
  have HL5 := Lib.hid (hl4.ext (Ext.dr (Ext.refl w4)))
  clear KW hc5 hpt hl4 hd5 hr5 hin hY hwe hi2 hx1s c3 c4 f3 f4
  go_still_tail 11, (by kernel_rfl)
  change wpList _ _ _ _ _ w4.drew
  go_wp2_with fail
  refine KW'.out.mono ?_
  rintro e w7 ⟨rfl, hd7, hc7⟩
  have hl7 := HL5.out.chg hc7 HD.out.apart
  have HD7 := Lib.hid hd7
  have HC7 := Lib.hid hc7
  have HL7 := Lib.hid hl7
  clear hd7 hc7 hl7 KW'
  go_wp2
  go_ret
  have hs1 := HC5.out.size
  have hs2 := HC7.out.size
  have hi1 := HD.out.dk.isIn
  have hd8 : Dk (F1.since w w7) w7 g (ptD s f u p) := by
    rw [HPT.out]
    refine HD7.out.mono (fun k hk => ?_) (hi1.since (by omega))
    rcases hk with hk | hk
    · exact .inl hk
    · exact .inr ⟨by omega, hk.2⟩
  refine ⟨rfl, ⟨hd8, HL7.out, ?_, HLS.out, HD.out.one⟩, (HC5.out.mono (G := fun k => F1 k ∨ F2 k) (fun k _ hk => .inr hk)).trans HC7.out (fun x _ hF => .inl hF)⟩
  exact (HD.out.apart.symm.since HD.out.lg.isIn).symm

theorem putE_cases (z u : Nat) (p : List UInt8) : putE z u p = 0 ∨ putE z u p = 1 ∨ putE z u p = 3 := by
  unfold putE
  split
  · exact .inr (.inl rfl)
  · split
    · exact .inr (.inr rfl)
    · exact .inl rfl
theorem LgPut_no (F1 F2 H : Fp) (h g : Nat) (s : DkS) (f z u l : Nat) (p : List UInt8) (v : Value) (w : World) (hd : LP w h g s f z u l F1 F2) (hr : RdF H w v (p.map B)) (hz : f + z ≤ s.1.length) (hu : u ≤ z) (hw : s.2.1.length ≤ 10000000)
    (he : putE z u p ≠ 0) :
    Calls Try.prog 15 #[.pointer (some ⟨h, 0, none⟩), v] w fun e w' => e = .returned (.int .i64 (putE z u p)) ∧ Ext w w' := by
  have hb := hd.dk.lens
  obtain ⟨A, c, rfl, hlc, hcm⟩ := hr.rd.sliceN (List.length_map _)
  unfold maxLen at hcm
  have KU : ∀ w1, Ext w w1 → Calls Try.prog 17 #[.pointer (some ⟨h, 0, none⟩)] w1 fun e w' => e = .returned (.int .i64 (u : Int)) ∧ Ext w1 w' := by
    intro w1 hx
    have := LgUsed_any F1 F2 h g s f z u l w1 (hd.dk.ext hx) (hd.lg.ext hx) hz hd.one (by omega) (by omega)
    rw [hd.last.used] at this
    exact this
  have KW := LgWrong_any F2 h g f z u l u p.length w hd.lg (by omega) hu KU
  rw [wrongE_put] at KW
  have hne : (putE z u p == 0) = false := by rw [beq_eq_false_iff_ne]; exact he
  have hne2 : (putE z u p != 0) = true := by rw [bne_iff_ne]; exact he
  have HKW := Lib.hid KW
  clear hd hr KU KW hb hz hu he
  generalize putE z u p = E at *
  go_enter Try.func15, Try.ntmps15
  go_wp2_with fail
  refine HKW.out.mono ?_
  rintro e w1 ⟨rfl, hx1⟩
  go_wp2
  go_ret
  exact ⟨rfl, hx1⟩

theorem LD.lp {F : Fp} {w : World} {h g f z u : Nat} {s : DkS} (hd : LD F w h g s f z u) : ∃ (F1 F2 : Fp) (l : Nat), LP w h g s f z u l F1 F2 ∧ (∀ k, F1 k → F k) ∧ (∀ k, F2 k → F k) ∧ F.isIn w := by
  obtain ⟨F1, F2, l, h1, h2, h3, h4, h5, h6, h7, h8⟩ := hd
  exact ⟨F1, F2, l, ⟨h1, h2, h3, h7, h8⟩, h4, h5, h6⟩
/-- What a call leaves of a disk and a log, in one word. -/
theorem LP.ld {F F1 F2 F1' : Fp} {w w' : World} {h g f z u l : Nat} {s : DkS} (hp : LP w' h g s f z u l F1' F2) (h1 : ∀ k, F1 k → F k) (h2 : ∀ k, F2 k → F k) (hi : F.isIn w) (hf : ∀ k, F1' k → F1.since w w' k) (hs : w.heap.size ≤ w'.heap.size) :
    LD (F.since w w') w' h g s f z u := by
  refine ⟨F1', F2, l, hp.dk, hp.lg, hp.apart, fun k hk => ?_, fun k hk => .inl (h2 k hk), hi.since hs, hp.last, hp.one⟩
  rcases hf k hk with hk | hk
  · exact .inl (h1 k hk)
  · exact .inr hk
theorem LD.later {F : Fp} {w w' : World} {h g f z u : Nat} {s : DkS} (hd : LD F w h g s f z u) (hx : Ext w w') : LD (F.since w w') w' h g s f z u :=
  (hd.ext hx).mono (fun _ hk => .inl hk) (hd.isIn.since hx.size)
theorem LD.sizes {F : Fp} {w : World} {h g f z u : Nat} {s : DkS} (hd : LD F w h g s f z u) : s.1.length ≤ 65536 := hd.lens.2

theorem LgPut (F : Fp) (h g : Nat) (s : DkS) (f z u : Nat) (H : Fp) (p : List UInt8) (v : Value) (w : World) (hd : LD F w h g s f z u) (hr : RdF H w v (p.map B)) (ha : H.apart F) (hH : H.isIn w) (hz : f + z ≤ s.1.length) (hu : u ≤ z) (hw : s.2.1.length ≤ 10000000) :
    Calls Try.prog 15 #[.pointer (some ⟨h, 0, none⟩), v] w fun e w' => e = .returned (.int .i64 (putE z u p)) ∧ LD (F.since w w') w' h g (putS s f z u p) f z (putU z u p) ∧ Chg F w w' := by
  have hd0 := hd
  obtain ⟨F1, F2, l, hp, h1, h2, hi⟩ := hd.lp
  by_cases he : putE z u p = 0
  · refine (LgPut_yes F1 F2 H h g s f z u l p v w hp hr hz hu hw he).mono ?_
    rintro e w' ⟨rfl, hp', hc⟩
    rw [he, putS, if_pos he, putU, if_pos he]
    refine ⟨rfl, hp'.ld h1 h2 hi (fun _ hk => hk) hc.size, hc.mono fun k _ hk => ?_⟩
    rcases hk with hk | hk
    · exact h1 k hk
    · exact h2 k hk
  · refine (LgPut_no F1 F2 H h g s f z u l p v w hp hr hz hu hw he).mono ?_
    rintro e w' ⟨rfl, hx⟩
    rw [putS, if_neg he, putU, if_neg he]
    exact ⟨rfl, hd0.later hx, Chg.of_ext hx⟩

set_option maxHeartbeats 400000 in
theorem LgAppend (F : Fp) (h g : Nat) (s : DkS) (f z u : Nat) (H : Fp) (p : List UInt8) (v : Value) (w : World) (hd : LD F w h g s f z u) (hr : RdF H w v (p.map B)) (ha : H.apart F) (hH : H.isIn w) (hz : f + z ≤ s.1.length) (hu : u ≤ z) (hw : s.2.1.length ≤ 10000000) (hn0 : 0 ≤ s.2.2) (hn1 : s.2.2 ≤ 100000000) :
    Calls Try.prog 16 #[.pointer (some ⟨h, 0, none⟩), v] w fun e w' => e = .returned (.int .i64 (putE z u p)) ∧ LD (F.since w w') w' h g (appS s f z u p) f z (putU z u p) ∧ Chg F w w' := by
  have hd0 := hd
  obtain ⟨F1, F2, l, hp, h1, h2, hi⟩ := hd.lp
  by_cases he : putE z u p = 0
  · have K := LgPut_yes F1 F2 H h g s f z u l p v w hp hr hz hu hw he
    rw [he, appS, if_pos he, putU, if_pos he]
    have hwt := ptD_waits s f u p
    have hmx := frameB_max p
    have hok := putE_yes he
    have hw2 : (ptD s f u p).2.1.length ≤ 1000000000 := by omega
    have hnn : (ptD s f u p).2.2 = s.2.2 := ptD_n _ _ _ _
    have HK := Lib.hid K
    have HP := Lib.hid hp
    have HI := Lib.hid (And.intro h1 (And.intro h2 hi))
    have HW := Lib.hid (And.intro hw2 hnn)
    clear K hp h1 h2 hi hd hd0 hr ha hH hz hu he hwt hmx hok hw2 hnn
    go_enter Try.func16, Try.ntmps16
    go_wp2_with fail
    refine HK.out.mono ?_
    rintro e w1 ⟨rfl, hp1, hc1⟩
    have c0 := hp1.lg.c0
    have HP1 := Lib.hid hp1
    have HC1 := Lib.hid hc1
    clear hp1 hc1
    go_wp2_with fail
    refine (DkSync _ g _ w1 HP1.out.dk HW.out.1 (by rw [HW.out.2]; exact hn0) (by rw [HW.out.2]; omega)).mono ?_
    rintro e w2 ⟨rfl, hd2, hc2⟩
    have hl2 := HP1.out.lg.chg hc2 HP1.out.apart
    have ha2 : F2.apart ((F1.since w w1).since w1 w2) := (HP1.out.apart.symm.since HP1.out.lg.isIn).symm
    have c3 := hl2.c3
    have c4 := hl2.c4
    have f4 := hl2.fr 4
    obtain ⟨hl3, hc3⟩ := ObjF.setCell hl2 4 (.int .i64 ((u + (frameB p).length : Nat) : Int))
    have HD2 := Lib.hid hd2
    have HC2 := Lib.hid hc2
    have HL3 := Lib.hid hl3
    have HC3 := Lib.hid hc3
    have HA2 := Lib.hid ha2
    clear hd2 hc2 hl2 hl3 hc3 ha2 c0
    go_wp2
    go_ret
    have hs1 := HC1.out.size
    have hs2 := HC2.out.size
    obtain ⟨h1, h2, hi⟩ := HI.out
    have hd3 := Dk.chg HD2.out HC3.out HA2.out.symm
    refine ⟨rfl, ⟨_, F2, u + (frameB p).length, hd3, HL3.out, HA2.out, fun k hk => ?_, fun k hk => .inl (h2 k hk), hi.since (by simp; omega), .inl rfl, HP.out.one⟩, ?_⟩
    · rcases Fp.since_since hs1 hs2 k hk with hk | hk
      · exact .inl (h1 k hk)
      · exact .inr ⟨hk.1, by simpa using hk.2⟩
    · have q1 : Chg F w w1 := HC1.out.mono fun k _ hk => by
        rcases hk with hk | hk
        · exact h1 k hk
        · exact h2 k hk
      have q2 : Chg F w w2 := q1.trans HC2.out (fun x hx hF => by
        rcases hF with hF | hF
        · exact h1 x hF
        · omega)
      exact q2.trans HC3.out (fun x _ hF => h2 x hF)
  · have K := LgPut_no F1 F2 H h g s f z u l p v w hp hr hz hu hw he
    have hE : (putE z u p == 0) = false := by rw [beq_eq_false_iff_ne]; exact he
    rw [appS, if_neg he, putU, if_neg he]
    have HK := Lib.hid K
    have HD := Lib.hid hd0
    clear K hp h1 h2 hi hd hd0 hr ha hH hz hu he
    generalize putE z u p = E at *
    go_enter Try.func16, Try.ntmps16
    go_wp2_with fail
    refine HK.out.mono ?_
    rintro e w1 ⟨rfl, hx1⟩
    go_wp2
    go_ret
    exact ⟨rfl, HD.out.later hx1, Chg.of_ext hx1⟩

theorem LgClear (F : Fp) (h g : Nat) (s : DkS) (f z u : Nat) (w : World) (hd : LD F w h g s f z u) (hz : f + z ≤ s.1.length) (hw : s.2.1.length ≤ 10000000) (hn0 : 0 ≤ s.2.2) (hn1 : s.2.2 ≤ 100000000) :
    Calls Try.prog 14 #[.pointer (some ⟨h, 0, none⟩)] w fun e w' => e = .returned (.tuple #[]) ∧ LD (F.since w w') w' h g (zrD s f z 0) f z 0 ∧ Chg F w w' := by
  obtain ⟨F1, F2, l, hp, h1, h2, hi⟩ := hd.lp
  have K := LgCut F1 F2 h g s f z u l 0 w hp.dk hp.lg hp.apart hz hp.one (Nat.zero_le _) (by omega) hn0 (by omega)
  have HK := Lib.hid K
  have HP := Lib.hid hp
  have HI := Lib.hid (And.intro h1 (And.intro h2 hi))
  clear K hp h1 h2 hi hd hz hw hn0 hn1
  go_enter Try.func14, Try.ntmps14
  go_wp2_with fail
  refine HK.out.mono ?_
  rintro e w1 ⟨rfl, hd1, hl1, hc1⟩
  go_wp2
  go_end0
  obtain ⟨h1, h2, hi⟩ := HI.out
  have hp1 : LP w1 h g (zrD s f z 0) f z 0 0 (F1.since w w1) F2 := ⟨hd1, hl1, (HP.out.apart.symm.since HP.out.lg.isIn).symm, .inl rfl, HP.out.one⟩
  refine ⟨rfl, hp1.ld h1 h2 hi (fun _ hk => hk) hc1.size, hc1.mono fun k _ hk => ?_⟩
  rcases hk with hk | hk
  · exact h1 k hk
  · exact h2 k hk

end Go.Proofs.Ytnihgpdkolmkgaa

/- Package log: Open. -/
namespace Go.Proofs.Ytnihgpdkolmkgaa
open Go.RowKit

theorem LgOpen_no (F : Fp) (g : Nat) (s : DkS) (i n : Int) (w : World) (hd : Dk F w g s) (h : ¬ (0 ≤ i ∧ 1 ≤ n ∧ i + n ≤ s.1.length)) (i0 : -9223372036854775808 ≤ i) (i1 : i ≤ 9223372036854775807) (n0 : -9223372036854775808 ≤ n) (n1 : n ≤ 9223372036854775807) :
    Calls Try.prog 12 #[.pointer (some ⟨g, 0, none⟩), .int .i64 i, .int .i64 n] w fun e w' => ∃ v, e = .returned (.tuple #[.pointer none, v, .int .i64 1]) ∧ RdL w' v [] ∧ Ext w w' := by
  have hb := hd.lens
  have KS := DkSize F g s w hd
  have hnil : ∀ w', RdL w' (.slice none 0 0) [] := fun w' => (RdLF.nil (fun _ => False) w').rdl
  by_cases c1 : n < 1
  · have d1 : decide (n < 1) = true := by simp; omega
    clear h hd hb KS
    go_enter Try.func12, Try.ntmps12
    go_wp2
    go_ret3
    exact ⟨_, rfl, hnil _, Ext.refl _⟩
  · by_cases c2 : i < 0
    · have d1 : decide (n < 1) = false := by simp; omega
      have d2 : decide (i < 0) = true := by simp; omega
      clear h hd hb KS c1
      go_enter Try.func12, Try.ntmps12
      go_wp2
      go_ret3
      exact ⟨_, rfl, hnil _, Ext.refl _⟩
    · obtain ⟨Y, hY⟩ : ∃ Y : Int, Y = (s.1.length : Int) - n := ⟨_, rfl⟩
      have w1 : IntKind.i64.wrap ((s.1.length : Int) - n) = Y := by rw [IntKind.wrap_i64]; omega
      have d1 : decide (n < 1) = false := by simp; omega
      have d2 : decide (i < 0) = false := by simp; omega
      have d3 : decide (Y < i) = true := by simp; omega
      have HK := Lib.hid KS
      clear h hd hb KS hY c1 c2
      go_enter Try.func12, Try.ntmps12
      go_wp2_with fail
      refine HK.out.mono ?_
      rintro e w2 ⟨rfl, hx⟩
      go_wp2
      go_ret3
      exact ⟨_, rfl, hnil _, hx⟩

set_option maxHeartbeats 400000 in
theorem LgOpen_yes (F : Fp) (g : Nat) (s : DkS) (f z : Nat) (w : World) (hd : Dk F w g s) (hz : f + z ≤ s.1.length) (h1 : 1 ≤ z) (hw : s.2.1.length ≤ 10000000) (hn0 : 0 ≤ s.2.2) (hn1 : s.2.2 ≤ 100000000) :
    Calls Try.prog 12 #[.pointer (some ⟨g, 0, none⟩), .int .i64 (f : Int), .int .i64 (z : Int)] w fun e w' => ∃ (h : Nat) (v : Value) (F1 F2 V : Fp), e = .returned (.tuple #[.pointer (some ⟨h, 0, none⟩), v, .int .i64 0]) ∧
      Dk F1 w' g (opD s f z) ∧ Lg F2 w' h g f z (endD s f z) ∧ RdLF V w' v (recD s f z) ∧ F2.apart F1 ∧ V.apart F1 ∧ V.apart F2 ∧ (∀ k, F1 k → F.since w w' k) ∧ (∀ k, F2 k → w.heap.size ≤ k ∧ k < w'.heap.size) ∧ (∀ k, V k → w.heap.size ≤ k ∧ k < w'.heap.size) ∧ Chg F w w' := by
  have hb := hd.lens
  have KS := DkSize F g s w hd
  obtain ⟨Y, hY⟩ : ∃ Y : Int, Y = (s.1.length : Int) - (z : Int) := ⟨_, rfl⟩
  have w1 : IntKind.i64.wrap ((s.1.length : Int) - (z : Int)) = Y := by rw [IntKind.wrap_i64]; omega
  have d1 : decide ((z : Int) < 1) = false := by simp; omega
  have d2 : decide ((f : Int) < 0) = false := by simp
  have d3 : decide (Y < (f : Int)) = false := by simp; omega
  have hpl : (pieceB (rdD s) f z).length = z := pieceB_len (by rw [rdD_len]; exact hz)
  have HP := Lib.hid hpl
  have HK := Lib.hid KS
  have HD := Lib.hid hd
  have HB : Hid (s.1.length ≤ 65536 ∧ endD s f z ≤ z) := Lib.hid ⟨hb.2.1, endD_le hz⟩
  have HE := Lib.hid (recD_end s f z)
  clear hd hb KS hY hpl
  go_enter Try.func12, Try.ntmps12
  go_wp2_with fail
  refine HK.out.mono ?_
  rintro e w2 ⟨rfl, hx2⟩
  have HX2 := Lib.hid hx2
  clear hx2
  go_wp2_with fail
  have hl3 : LgO (fun k => w2.heap.size ≤ k ∧ k < w2.heap.size + 1) (w2.alloc (.cells #[.pointer (some ⟨g, 0, none⟩), .int .i64 (f : Int), .int .i64 (z : Int), .int .i64 0, .int .i64 0] 65)) w2.heap.size g f z 0 0 :=
    ObjF.new (w0 := w2) (rows := []) (Nat.le_refl _) _ _ (fun r hr => absurd hr List.not_mem_nil) List.Pairwise.nil
  have hx3 : Ext w (w2.alloc (.cells #[.pointer (some ⟨g, 0, none⟩), .int .i64 (f : Int), .int .i64 (z : Int), .int .i64 0, .int .i64 0] 65)) := HX2.out.trans ((Below.refl _ _).alloc (Nat.le_refl _) _)
  have HL3 := Lib.hid hl3
  have HX3 := Lib.hid hx3
  have HS : Hid (w.heap.size ≤ w2.heap.size) := Lib.hid HX2.out.size
  clear hl3 hx3
  generalize World.alloc w2 _ = w3 at *
  generalize w2.heap.size = h at *
  refine (LgPiece F _ h g s f z 0 0 w3 (HD.out.ext HX3.out) HL3.out hz h1 (by omega)).mono ?_
  rintro e w4 ⟨b, c, rfl, hg4, hc4⟩
  have hr4 := PieceP.rd hg4 h1 hz hc4
  have HX4 := Lib.hid (HX3.out.trans hg4.ext)
  have HL4 := Lib.hid (HL3.out.ext hg4.ext)
  have HR4 := Lib.hid hr4
  clear hg4 hc4 hr4 HX3
  go_wp2_with fail
  refine (FrameAll_rdF (pieceB (rdD s) f z) _ 0 w4 HR4.out (by rw [HP.out]; have := HB.out; omega)).mono ?_
  rintro e w5 ⟨v5, rfl, hv5, hx5⟩
  rw [HE.out]
  have HV5 := Lib.hid (show RdLF (fun k => w4.heap.size ≤ k ∧ k < w5.heap.size) w5 v5 (recD s f z) from hv5)
  have HL5 := Lib.hid (HL4.out.ext hx5)
  have HX5 := Lib.hid (HX4.out.trans hx5)
  have HS5 := Lib.hid hx5.size
  obtain ⟨A5, c5, rfl, _, _⟩ := hv5.rdl.sliceN rfl
  clear hv5 hx5
  go_wp2_with fail
  refine (LgCut F _ h g s f z 0 0 (endD s f z) w5 (HD.out.ext HX5.out) HL5.out ?_ hz h1 HB.out.2 (by omega) hn0 (by omega)).mono ?_
  · intro k hk hF
    have := HD.out.isIn k hF
    have := HS.out
    omega
  rintro e w6 ⟨rfl, hd6, hl6, hc6⟩
  have HD6 := Lib.hid hd6
  have HL6 := Lib.hid hl6
  have HC6 := Lib.hid hc6
  clear hd6 hl6 hc6 HK HE
  go_wp2
  go_ret3
  have hw0 := HS.out
  have hi := HD.out.isIn
  have hs4 := HX4.out.size
  have hs45 := HS5.out
  have hs5 := HX5.out.size
  have hs6 := HC6.out.size
  have hi2 := HL6.out.isIn
  have hh4 := HL4.out.isIn
  have hV : RdLF (fun k => w4.heap.size ≤ k ∧ k < w5.heap.size) w6 _ (recD s f z) := HV5.out.chg HC6.out (fun k hk hF => by
    rcases hF with hF | hF
    · have := hi k hF
      omega
    · have := hh4 k hF
      omega)
  refine ⟨h, _, _, _, _, rfl, HD6.out, HL6.out, hV, fun k hk hF => ?_, fun k hk hF => ?_, fun k hk hF => ?_, fun k hk => ?_, fun k hk => ⟨by omega, hi2 k hk⟩, fun k hk => ⟨by omega, by omega⟩, ?_⟩
  · rcases hF with hF | hF
    · have := hi k hF
      omega
    · have := hh4 k hk
      omega
  · rcases hF with hF | hF
    · have := hi k hF
      omega
    · omega
  · have := hh4 k hF
    omega
  · rcases hk with hk | hk
    · exact .inl hk
    · exact .inr ⟨by omega, hk.2⟩
  · exact (Chg.of_ext HX5.out).trans HC6.out (fun x hx hF => by
      rcases hF with hF | hF
      · exact hF
      · omega)

end Go.Proofs.Ytnihgpdkolmkgaa
