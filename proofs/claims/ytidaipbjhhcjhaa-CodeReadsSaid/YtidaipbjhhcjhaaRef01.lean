/- The reference's layer 1: the contracts of its functions, walked. -/
import Derived.Test.YtidaipbjhhcjhaaCode2
import Derived.Test.YtidaipbjhhcjhaaP01b
import Derived.Test.YtidaipbjhhcjhaaMem2
import Derived.Test.YtidaipbjhhcjhaaLift
namespace Go.Proofs.Ytidaipbjhhcjhaa
open Go.RowKit

theorem RefIs_yes (n : Int) (w : World) (h0 : 0 ≤ n) (h1 : n < 9007199254740992) :
    Calls Try.prog 25 #[.int .i64 n] w fun e w' => e = .returned (.bool true) ∧ w = w' := by
  go_enter Try.func25, Try.ntmps25
  go_wp2
  go_ret
  exact ⟨rfl, rfl⟩
theorem RefIs_no (n : Int) (w : World) (h : ¬ (0 ≤ n ∧ n < 9007199254740992)) :
    Calls Try.prog 25 #[.int .i64 n] w fun e w' => e = .returned (.bool false) ∧ w = w' := by
  by_cases h0 : 0 ≤ n
  · have h1 : 9007199254740992 ≤ n := by omega
    have h2 : decide (n < 9007199254740992) = false := by simp; omega
    clear h
    go_enter Try.func25, Try.ntmps25
    go_wp2
    go_ret
    exact ⟨rfl, rfl⟩
  · clear h
    go_enter Try.func25, Try.ntmps25
    go_wp2
    go_ret
    exact ⟨rfl, rfl⟩

theorem RefNum_no (n : Int) (w : World) (hn : ¬ (0 ≤ n ∧ n < 9007199254740992)) :
    Calls Try.prog 11 #[.int .i64 n] w fun e w' => e = .returned (.slice none 0 0) ∧ w = w' := by
  have H := Lib.hid hn
  clear hn
  go_enter Try.func11, Try.ntmps11
  go_wp2
  refine wp_loop_rounds 1 ?_
  rw [rounds_succ]
  go_wp2_with (first | (go_at_call 25; refine (RefIs_no _ _ H.out).mono ?_; rintro e w' ⟨rfl, rfl⟩))
  go_ret
  exact ⟨rfl, rfl⟩

def ifz : Nat → Nat
  | 0 => 1
  | _ + 1 => 0

/-- The reference's bytes while it goes: of n, l has been put, m is left; the last byte is without its bit. -/
def NumSt (n : Nat) (l : List UInt8) (m : Nat) : Prop :=
  (l = [] ∧ m = n) ∨ ∃ l0 c, l = l0 ++ [c] ∧ c.toNat < 128 ∧ ((m = 0 ∧ l = numB n) ∨ (0 < m ∧ l0 ++ (c + 128) :: numB m = numB n))

theorem u8_add128 {c : UInt8} (h : c.toNat < 128) : ((c + 128).toNat : Int) = (c.toNat : Int) + 128 := by
  rw [UInt8.toNat_add]
  have : (128 : UInt8).toNat = 128 := rfl
  omega
theorem u8_ofNat_add (m : Nat) : UInt8.ofNat (m % 128) + 128 = UInt8.ofNat (m % 128 + 128) := by
  apply UInt8.toNat_inj.1
  rw [UInt8.toNat_add, u8_toNat, u8_toNat]
  have : (128 : UInt8).toNat = 128 := rfl
  omega
theorem numB_end (m : Nat) (pre : List UInt8) : (m / 128 = 0 → pre ++ [UInt8.ofNat (m % 128)] = pre ++ numB m) ∧ (0 < m / 128 → pre ++ (UInt8.ofNat (m % 128) + 128) :: numB (m / 128) = pre ++ numB m) := by
  refine ⟨fun h => ?_, fun h => ?_⟩
  · rw [numB_lo (by omega), Nat.mod_eq_of_lt (by omega)]
  · rw [numB_hi (n := m) (by omega), u8_ofNat_add]
theorem NumSt.first (n : Nat) : NumSt n [UInt8.ofNat (n % 128)] (n / 128) := by
  have he := numB_end n []
  refine .inr ⟨[], _, rfl, by rw [u8_toNat]; omega, ?_⟩
  rcases Nat.eq_zero_or_pos (n / 128) with h | h
  · exact .inl ⟨h, by simpa using he.1 h⟩
  · exact .inr ⟨h, by simpa using he.2 h⟩
theorem NumSt.next {n m : Nat} {l0 : List UInt8} {c : UInt8} (h : l0 ++ (c + 128) :: numB m = numB n) : NumSt n ((l0 ++ [c + 128]) ++ [UInt8.ofNat (m % 128)]) (m / 128) := by
  have he := numB_end m (l0 ++ [c + 128])
  refine .inr ⟨l0 ++ [c + 128], _, rfl, by rw [u8_toNat]; omega, ?_⟩
  rcases Nat.eq_zero_or_pos (m / 128) with h0 | h0
  · refine .inl ⟨h0, ?_⟩
    rw [he.1 h0, ← h]
    simp
  · refine .inr ⟨h0, ?_⟩
    rw [he.2 h0, ← h]
    simp

set_option maxRecDepth 100000 in
set_option maxHeartbeats 2000000 in
theorem RefNum_yes (n : Nat) (w : World) (hn : n < 9007199254740992) :
    Calls Try.prog 11 #[.int .i64 n] w fun e w' => ∃ v', e = .returned v' ∧ Grew w.heap.size 5 (.slice none 0 0) w ((numB n).map B) v' w' := by
  go_enter Try.func11, Try.ntmps11
  go_wp2
  go_loopw [0, 3, 4] (fun n' v' i' wr => ∃ (m : Nat) (l : List UInt8), n' = .int .i64 m ∧ i' = .int .i64 l.length ∧ m < 9007199254740992 ∧ NumSt n l m ∧ Grew w.heap.size 5 (.slice none 0 0) w (l.map B) v' wr) (fun n' _ i' _ => (intOf n').toNat + ifz (intOf i').toNat)
  case atStart => exact ⟨n, [], rfl, rfl, hn, .inl ⟨rfl, rfl⟩, Grew.nil w⟩
  case round =>
    obtain ⟨m, l, rfl, rfl, hm, hst, hg⟩ := hrel
    rcases hst with ⟨rfl, rfl⟩ | ⟨l0, c, rfl, hc, hst⟩
    · have hbw := hg.size
      simp only [List.length_nil]
      go_wp2_with (first | (go_at_call 25; refine (RefIs_yes _ _ (by omega) (by omega)).mono ?_; rintro e w' ⟨rfl, rfl⟩) | (at_builtin; refine push_u8 rfl _ _ rfl w.heap.size _ _ rfl hg.1 _ rfl rfl (by simp) hbw ?_; intro v' w' hg'))
      go_roundw
      case rel =>
        have hgg := hg.trans hg'
        rw [B_eq (u := UInt8.ofNat (m % 128)) (by rw [u8_toNat]; omega)] at hgg
        exact ⟨m / 128, [UInt8.ofNat (m % 128)], by go_num, rfl, by omega, NumSt.first m, by simpa using hgg⟩
      case measure => simp [intOf, ifz]; omega
    · have hlb : l0.length < 8 := by
        have h8 := numB_len8 hn
        rcases hst with ⟨_, h⟩ | ⟨_, h⟩
        · have := congrArg List.length h
          simp only [List.length_append, List.length_singleton] at this
          omega
        · have := congrArg List.length h
          simp only [List.length_append, List.length_cons] at this
          omega
      have hib : ((l0.length : Int) + 1 == 0) = false := by rw [beq_eq_false_iff_ne]; omega
      simp only [List.length_append, List.length_singleton, Int.natCast_add, Int.natCast_one]
      rcases hst with ⟨rfl, hfin⟩ | ⟨hpos, hst⟩
      · have hF := Lib.hid hfin
        clear hfin
        simp only [Int.natCast_zero]
        go_wp2_with (first | (go_at_call 25; refine (RefIs_yes _ _ (by omega) (by omega)).mono ?_; rintro e w' ⟨rfl, rfl⟩))
        go_ret
        exact ⟨_, rfl, by rw [← hF.out]; exact hg⟩
      · have hS := Lib.hid hst
        clear hst
        obtain ⟨g, cap, rfl, hcap, hgb, hgl⟩ := hg.form (by simp)
        have hc1 : wr.cell? ⟨g, l0.length, none⟩ = some (.int .u8 (c.toNat : Int)) := by
          rw [hg.cellAt _ (by simp)]
          simp
        have hf1 := hg.frozenAt l0.length
        have hcc : (c.toNat : Int) < 128 := by omega
        have HC := Lib.hid (u8_add128 hc)
        have hg2 := hg.set l0.length (.int .u8 ((c.toNat : Int) + 128))
        have hbw := hg2.size
        rw [show ((l0 ++ [c]).map B).set l0.length (.int .u8 ((c.toNat : Int) + 128)) = (l0 ++ [c + 128]).map B by
          rw [B_eq (u := c + 128) HC.out.symm]
          simp [List.set_append_right]] at hg2
        have hlt : ((l0 ++ [c + 128]).map B).length < 140737488355328 := by simp; omega
        generalize hcn : c.toNat = cn at hc1 hcc hc hg2 hbw
        have HCN := Lib.hid hcn
        clear hcn
        rw [List.length_map, List.length_append, List.length_singleton] at hg2 ⊢
        go_wp2_with (first | (go_at_call 25; refine (RefIs_yes _ _ (by omega) (by omega)).mono ?_; rintro e w' ⟨rfl, rfl⟩) | (at_builtin; refine push_u8 rfl _ _ rfl w.heap.size _ _ rfl hg2.1 _ rfl rfl hlt hbw ?_; intro v' w' hg'))
        go_roundw
        case rel =>
          have hgg := hg2.trans hg'
          rw [B_eq (u := UInt8.ofNat (m % 128)) (by rw [u8_toNat]; omega)] at hgg
          exact ⟨m / 128, (l0 ++ [c + 128]) ++ [UInt8.ofNat (m % 128)], by go_num, by simp; omega, by omega, NumSt.next hS.out, by simpa using hgg⟩
        case measure =>
          simp only [intOf]
          rw [show ((l0.length : Int) + 1 + 1).toNat = l0.length + 1 + 1 by omega, show ((l0.length : Int) + 1).toNat = l0.length + 1 by omega, ifz, ifz]
          omega

def GNRel (bs : List UInt8) (p : Nat) (n' s' i' : Value) : Prop :=
  ∃ (i acc st : Nat), i' = .int .i64 i ∧ n' = .int .i64 acc ∧ s' = .int .i64 st ∧ Hid (st = 128 ^ i) ∧ i ≤ 8 ∧ acc < 128 ^ i ∧ Hid (scanN (8 - i) (bs.drop (p + i)) i acc = getN (bs.drop p))

set_option maxRecDepth 100000 in
set_option maxHeartbeats 4000000 in
theorem RefGetNum_at (bs : List UInt8) (v : Value) (p : Nat) (w : World) (hr : Rd w v (bs.map B)) (hp63 : p < 9223372036854775808) :
    Calls Try.prog 17 #[v, .int .i64 p] w fun e w' => e = .returned (numAt bs p) ∧ Ext w w' := by
  obtain ⟨A, c, rfl, hlc, hcm, hcell⟩ := hr
  simp only [List.length_map] at *
  unfold maxLen at hcm
  by_cases hpl : p < bs.length
  · obtain ⟨b, o, rfl, hbl, hce⟩ := hcell (by omega)
    clear hcell
    go_enter Try.func17, Try.ntmps17
    go_wp2
    go_loop [7, 8, 9] (fun n' s' i' => GNRel bs p n' s' i') (fun _ _ i' => 8 - (intOf i').toNat)
    case atStart => exact ⟨0, 0, 1, rfl, rfl, rfl, rfl, by omega, by omega, rfl⟩
    case round =>
      obtain ⟨i, acc, st, rfl, rfl, rfl, hst, hi, hacc, hsc0⟩ := hrel
      have hsc := hsc0.out
      clear hsc0
      by_cases h8 : i < 8
      · by_cases hp : p + i < bs.length
        · have hc1 : w.cell? ⟨b, o + (p + i), none⟩ = some (B bs[p + i]) := hce (p + i) _ (by simp [hp])
          clear hce
          rw [show 8 - i = (7 - i) + 1 by omega, scanN_step i acc (drop_cons hp)] at hsc
          have hcl := bs[p + i].toNat_lt
          unfold B at hc1
          generalize bs[p + i].toNat = c at hc1 hsc hcl
          have hlt := group_lt i acc c h8 hacc
          have hl8 := pow128_le (show i + 1 ≤ 8 by omega)
          have hl7 := pow128_le (show i ≤ 7 by omega)
          have hst7 : st ≤ 562949953421312 := by have := hst.out; omega
          have hlen := fun hc => numB_group_len (c := c) hacc hc
          have hq : Hid (128 ^ i * (c % 128) = st * (c % 128)) := by unfold Hid; rw [hst.out]
          rw [hq.out] at hlt hsc hlen
          have hql : st * (c % 128) ≤ 71494644084506624 := Nat.le_trans (Nat.mul_le_mul hst7 (show c % 128 ≤ 127 by omega)) (by omega)
          have hqc : (st : Int) * ((c : Int) % 128) = ((st * (c % 128) : Nat) : Int) := by simp
          generalize st * (c % 128) = q at *
          have hw1 : IntKind.i64.wrap ((st : Int) * ((c : Int) % 128)) = (q : Int) := by rw [hqc]; exact IntWalk.i64_in _ (by omega)
          clear hqc
          generalize hN : acc + q = N at hsc hlt hlen
          have hNi : (acc : Int) + (q : Int) = (N : Int) := by omega
          have hw2 : IntKind.i64.wrap ((acc : Int) + (q : Int)) = (N : Int) := by rw [hNi]; exact IntWalk.i64_in _ (by omega)
          have HN := Lib.hid hN
          clear hN
          by_cases hc : 128 ≤ c
          · rw [if_pos hc] at hsc
            have hSC := Lib.hid hsc
            have HL := Lib.hid hlen
            clear hsc hlen
            clear hNi
            go_wp2
            refine ⟨⟨_, _, _, _, _, _, ⟨i + 1, N, st * 128, rfl, rfl, rfl, by unfold Hid; rw [hst.out, Nat.pow_succ], by omega, hlt, by unfold Hid; rw [← hSC.out, show 8 - (i + 1) = 7 - i by omega]; rfl⟩, rfl, rfl, rfl, rfl, by go_num, by go_num⟩, ?_⟩
            simp [intOf]; omega
          · rw [if_neg hc] at hsc
            have hln := hlen (by omega)
            clear hlen
            by_cases hn : 9007199254740992 ≤ N
            · rw [if_pos (.inl hn)] at hsc
              have hF : Hid (numAt bs p = .tuple #[.int .i64 0, .int .i64 0, .bool false]) := by unfold Hid; rw [numAt, ← hsc]
              have hno : Hid (¬ (0 ≤ (N : Int) ∧ (N : Int) < 9007199254740992)) := by unfold Hid; omega
              have hib : (((0 : Int) == (i : Int) + 1) = false) := by rw [beq_eq_false_iff_ne]; omega
              have hib2 : (((0 : Int) != (i : Int) + 1) = true) := by rw [bne_iff_ne]; omega
              clear hsc hn hln hNi
              go_wp2_with (go_at_call 11; refine (RefNum_no _ _ hno.out).mono ?_; rintro e w2 ⟨rfl, rfl⟩)
              go_ret3
              exact ⟨by rw [hF.out]; rfl, Ext.refl _⟩
            · have hnl : N < 9007199254740992 := by omega
              have hNL := Lib.hid hnl
              by_cases hc0 : c = 0 ∧ 0 < i
              · rw [if_pos (.inr hc0)] at hsc
                have hF : Hid (numAt bs p = .tuple #[.int .i64 0, .int .i64 0, .bool false]) := by unfold Hid; rw [numAt, ← hsc]
                have hne : ¬ (numB N).length = i + 1 := fun h => (hln.1 h) hc0
                have hib : (((numB N).length : Int) == (i : Int) + 1) = false := by rw [beq_eq_false_iff_ne]; omega
                have hib2 : (((numB N).length : Int) != (i : Int) + 1) = true := by rw [bne_iff_ne]; omega
                clear hsc hn hnl hln hNi hne hc0
                go_wp2_with (go_at_call 11; refine (RefNum_yes N _ hNL.out).mono ?_; rintro e w2 ⟨v2, rfl, hg2⟩; obtain ⟨A2, c2, rfl⟩ := hg2.slice_ (n := (numB N).length) (List.length_map _))
                go_ret3
                exact ⟨by rw [hF.out]; rfl, hg2.ext⟩
              · rw [if_neg (by omega)] at hsc
                have hF : Hid (numAt bs p = .tuple #[.int .i64 (N : Int), .int .i64 ((p + (i + 1) : Nat) : Int), .bool true]) := by unfold Hid; rw [numAt, ← hsc]
                have hne : (numB N).length = i + 1 := hln.2 hc0
                have hib : (((numB N).length : Int) == (i : Int) + 1) = true := by rw [beq_iff_eq]; omega
                have hib2 : (((numB N).length : Int) != (i : Int) + 1) = false := by rw [bne_eq_false_iff_eq]; omega
                clear hsc hn hnl hln hNi hne hc0
                go_wp2_with (go_at_call 11; refine (RefNum_yes N _ hNL.out).mono ?_; rintro e w2 ⟨v2, rfl, hg2⟩; obtain ⟨A2, c2, rfl⟩ := hg2.slice_ (n := (numB N).length) (List.length_map _))
                go_ret3
                exact ⟨by rw [hF.out]; simp; omega, hg2.ext⟩
        · rw [List.drop_eq_nil_of_le (by omega), show 8 - i = (7 - i) + 1 by omega, scanN] at hsc
          have hF : Hid (numAt bs p = .tuple #[.int .i64 0, .int .i64 0, .bool false]) := by unfold Hid; rw [numAt, ← hsc]
          clear hsc
          go_wp2
          go_ret3
          exact ⟨by rw [hF.out]; rfl, Ext.refl _⟩
      · rw [show 8 - i = 0 by omega, scanN] at hsc
        have hF : Hid (numAt bs p = .tuple #[.int .i64 0, .int .i64 0, .bool false]) := by unfold Hid; rw [numAt, ← hsc]
        clear hsc
        go_wp2
        go_ret3
        exact ⟨by rw [hF.out]; rfl, Ext.refl _⟩
  · have hF : Hid (numAt bs p = .tuple #[.int .i64 0, .int .i64 0, .bool false]) := by
      unfold Hid
      rw [numAt, List.drop_eq_nil_of_le (by omega)]
      rfl
    clear hcell
    go_enter Try.func17, Try.ntmps17
    go_wp2
    go_ret3
    exact ⟨by rw [hF.out]; rfl, Ext.refl _⟩

theorem RefGetNum_neg (bs : List UInt8) (v : Value) (p : Int) (w : World) (hr : Rd w v (bs.map B)) (hp : p < 0) :
    Calls Try.prog 17 #[v, .int .i64 p] w fun e w' => e = .returned (.tuple #[.int .i64 0, .int .i64 0, .bool false]) ∧ w = w' := by
  obtain ⟨A, c, rfl, _⟩ := hr.slice_
  go_enter Try.func17, Try.ntmps17
  go_wp2
  go_ret3
  exact ⟨rfl, rfl⟩

theorem RefGetNum_some (bs : List UInt8) (v : Value) (p n j : Nat) (w : World) (hr : Rd w v (bs.map B)) (hp63 : p < 9223372036854775808) (h : getN (bs.drop p) = some (n, j)) :
    Calls Try.prog 17 #[v, .int .i64 p] w fun e w' => e = .returned (.tuple #[.int .i64 n, .int .i64 ((p + j : Nat) : Int), .bool true]) ∧ Ext w w' := by
  have e : numAt bs p = .tuple #[.int .i64 n, .int .i64 ((p + j : Nat) : Int), .bool true] := by rw [numAt, h]
  rw [← e]
  exact RefGetNum_at bs v p w hr hp63
theorem RefGetNum_none (bs : List UInt8) (v : Value) (p : Nat) (w : World) (hr : Rd w v (bs.map B)) (hp63 : p < 9223372036854775808) (h : getN (bs.drop p) = none) :
    Calls Try.prog 17 #[v, .int .i64 p] w fun e w' => e = .returned (.tuple #[.int .i64 0, .int .i64 0, .bool false]) ∧ Ext w w' := by
  have e : numAt bs p = .tuple #[.int .i64 0, .int .i64 0, .bool false] := by rw [numAt, h]
  rw [← e]
  exact RefGetNum_at bs v p w hr hp63

end Go.Proofs.Ytidaipbjhhcjhaa
