/- Layer 1, plain mathematics: what is put is read again. -/
import Derived.Test.YticgpldpbbfklaaP01
namespace Go.Proofs.Yticgpldpbbfklaa

theorem split128 (i m : Nat) : 128 ^ i * (m % 128) + 128 ^ (i + 1) * (m / 128) = 128 ^ i * m := by
  rw [Nat.pow_succ, Nat.mul_assoc, ← Nat.mul_add]
  congr 1
  omega

theorem scanN_put : ∀ (k i acc m : Nat) (rest : List UInt8), i + k = 8 → acc + 128 ^ i * m < 9007199254740992 → (0 < m ∨ i = 0) →
    scanN k (numB m ++ rest) i acc = some (acc + 128 ^ i * m, i + (numB m).length)
  | 0, i, acc, m, rest, hk, hlt, hm => by
    obtain rfl : i = 8 := by omega
    have : (128 : Nat) ^ 8 = 72057594037927936 := by decide
    rw [this] at hlt
    omega
  | k + 1, i, acc, m, rest, hk, hlt, hm => by
    by_cases h : m < 128
    · rw [numB_lo h, List.cons_append, List.nil_append, scanN, u8_toNat, Nat.mod_eq_of_lt (show m < 256 by omega), if_neg (by omega), Nat.mod_eq_of_lt h, if_neg (by omega)]
      rfl
    · rw [numB_hi h, List.cons_append, scanN, u8_toNat, Nat.mod_eq_of_lt (show m % 128 + 128 < 256 by omega), if_pos (by omega), show (m % 128 + 128) % 128 = m % 128 by omega]
      have e := split128 i m
      rw [scanN_put k (i + 1) _ (m / 128) rest (by omega) (by omega) (by omega)]
      simp only [List.length_cons]
      congr 2
      · omega
      · omega

theorem getN_put {n : Nat} (h : n < 9007199254740992) (rest : List UInt8) : getN (numB n ++ rest) = some (n, (numB n).length) := by
  rw [getN, scanN_put 8 0 0 n rest (by omega) (by simpa using h) (.inr rfl)]
  simp

theorem scanN_get : ∀ (k : Nat) (l : List UInt8) (i acc n j : Nat), scanN k l i acc = some (n, j) → ∃ m, n = acc + 128 ^ i * m ∧ numB m = l.take (j - i) ∧ (0 < m ∨ i = 0)
  | 0, _, _, _, _, _, h => by simp [scanN] at h
  | k + 1, [], _, _, _, _, h => by simp [scanN] at h
  | k + 1, c :: r, i, acc, n, j, h => by
    have hc := c.toNat_lt
    rw [scanN] at h
    split at h
    · rename_i hge
      have hle := scanN_le k r (i + 1) _ n j h
      obtain ⟨m, h1, h2, h3⟩ := scanN_get k r (i + 1) _ n j h
      have hm : 0 < m := by omega
      refine ⟨c.toNat % 128 + 128 * m, ?_, ?_, .inl (by omega)⟩
      · have e := split128 i (c.toNat % 128 + 128 * m)
        rw [show (c.toNat % 128 + 128 * m) % 128 = c.toNat % 128 by omega, show (c.toNat % 128 + 128 * m) / 128 = m by omega] at e
        omega
      · rw [numB_hi (by omega), show (c.toNat % 128 + 128 * m) % 128 + 128 = c.toNat by omega, show (c.toNat % 128 + 128 * m) / 128 = m by omega, h2, show j - i = (j - (i + 1)) + 1 by omega, List.take_succ_cons]
        simp
    · split at h
      · cases h
      · rename_i hge hn
        simp only [Option.some.injEq, Prod.mk.injEq] at h
        obtain ⟨h1, h2⟩ := h
        refine ⟨c.toNat, by rw [← h1, Nat.mod_eq_of_lt (by omega)], ?_, by omega⟩
        rw [numB_lo (by omega), show j - i = 1 by omega]
        simp

theorem getN_get {l : List UInt8} {n j : Nat} (h : getN l = some (n, j)) : numB n = l.take j := by
  obtain ⟨m, h1, h2, _⟩ := scanN_get 8 l 0 0 n j h
  have : n = m := by omega
  rw [this, h2]
  simp

theorem readK_put : ∀ (l : List Int) (pre rest : List UInt8), l.all isNumB = true → readK l.length (pre ++ (numsB l ++ rest)) pre.length = some (l.map Int.toNat, pre.length + (numsB l).length)
  | [], pre, rest, _ => by simp [readK, numsB]
  | n :: l, pre, rest, h => by
    simp only [List.all_cons, Bool.and_eq_true] at h
    have h1 := isNumB_iff.1 h.1
    have e : numsB (n :: l) = numB n.toNat ++ numsB l := by simp [numsB]
    rw [List.length_cons, readK, List.drop_left, e, List.append_assoc, getN_put (by omega)]
    have ih := readK_put l (pre ++ numB n.toNat) rest h.2
    rw [List.length_append, List.append_assoc] at ih
    simp only [ih]
    simp [Nat.add_assoc]

theorem listAt_put (l : List Int) (pre rest : List UInt8) (most : Int) (h : l.all isNumB = true) (hl : l.length < 9007199254740992) (hm : (l.length : Int) ≤ most) :
    listAt (pre ++ (listB l ++ rest)) pre.length most = some (l.map Int.toNat, pre.length + (listB l).length) := by
  rw [listAt, List.drop_left, listB, List.append_assoc, getN_put hl]
  simp only [hm, if_true]
  have := readK_put l (pre ++ numB l.length) rest h
  rw [List.length_append, List.append_assoc] at this
  rw [this]
  simp [Nat.add_assoc]
theorem listAt_less (l : List Int) (pre rest : List UInt8) (most : Int) (hl : l.length < 9007199254740992) (hm : ¬ (l.length : Int) ≤ most) : listAt (pre ++ (listB l ++ rest)) pre.length most = none := by
  rw [listAt, List.drop_left, listB, List.append_assoc, getN_put hl]
  simp only [hm, if_false]
theorem textAt_put (s pre rest : List UInt8) (h : s.length < 9007199254740992) : textAt (pre ++ (numB s.length ++ s ++ rest)) pre.length = some (s, pre.length + (numB s.length ++ s).length) := by
  rw [textAt, List.drop_left, List.append_assoc, getN_put h]
  simp only [List.length_append]
  rw [if_pos (by omega)]
  have e : (pre ++ (numB s.length ++ (s ++ rest))).drop (pre.length + (numB s.length).length) = s ++ rest := by
    rw [← List.append_assoc, ← List.length_append, List.drop_left]
  rw [e, List.take_left, Nat.add_assoc]

theorem toNat_back (l : List Int) (h : l.all isNumB = true) : (l.map Int.toNat).map (fun (n : Nat) => (n : Int)) = l := by
  rw [List.map_map]
  conv => rhs; rw [← List.map_id l]
  refine List.map_congr_left fun n hn => ?_
  have := isNumB_iff.1 (List.all_eq_true.1 h n hn)
  simp
  omega

theorem listB_pos (l : List Int) : 0 < (listB l).length := by
  have := numB_pos l.length
  simp only [listB, List.length_append]
  omega
theorem listB_le (l : List Int) (h : l.all isNumB = true) (hl : l.length ≤ 17592186043904) : (listB l).length ≤ 8 + 8 * l.length := by
  have h1 := numB_len8 (n := l.length) (by omega)
  have h2 := numsB_len l h
  simp only [listB, List.length_append]
  omega

theorem numB_len_ge : ∀ (k n : Nat), 128 ^ k ≤ n → k + 1 ≤ (numB n).length
  | 0, n, _ => by have := numB_pos n; omega
  | k + 1, n, h => by
    rw [Nat.pow_succ] at h
    have h1 : 0 < 128 ^ k := Nat.pow_pos (by omega)
    rw [numB_hi (by omega), List.length_cons]
    have := numB_len_ge k (n / 128) (by rw [Nat.le_div_iff_mul_le (by omega)]; exact h)
    omega
theorem numB_group_len {i acc c : Nat} (hacc : acc < 128 ^ i) (hc : c < 128) : ((numB (acc + 128 ^ i * (c % 128))).length = i + 1) ↔ ¬ (c = 0 ∧ 0 < i) := by
  rw [Nat.mod_eq_of_lt hc]
  rcases Nat.eq_zero_or_pos c with h0 | h0
  · subst h0
    rw [Nat.mul_zero, Nat.add_zero]
    rcases Nat.eq_zero_or_pos i with hi | hi
    · subst hi
      have : acc = 0 := by simpa using hacc
      subst this
      rw [numB_lo (by omega)]
      simp
    · have := numB_len_le (i - 1) acc (by rw [show i - 1 + 1 = i by omega]; exact hacc)
      constructor
      · intro h
        omega
      · intro h
        exact absurd ⟨rfl, hi⟩ h
  · have h1 : 128 ^ i ≤ 128 ^ i * c := Nat.le_mul_of_pos_right _ h0
    have h2 : 128 ^ i * c ≤ 128 ^ i * 127 := Nat.mul_le_mul_left _ (by omega)
    have h3 := numB_len_ge i (acc + 128 ^ i * c) (by omega)
    have h4 := numB_len_le i (acc + 128 ^ i * c) (by rw [Nat.pow_succ]; omega)
    constructor
    · intro _ h
      omega
    · intro _
      omega

end Go.Proofs.Yticgpldpbbfklaa
