/- Texts that the proof of X rests on, one behind the other. -/
import Derived.WalkKit

/- Layer 1, plain mathematics: the bytes of a number, by its groups of seven bits; no program is named here. -/
namespace Go.Proofs.Ytgjidkhfnnghiaa

/-- A number's bytes. -/
def numB (n : Nat) : List UInt8 := if h : n < 128 then [UInt8.ofNat n] else UInt8.ofNat (n % 128 + 128) :: numB (n / 128)

theorem numB_lo {n : Nat} (h : n < 128) : numB n = [UInt8.ofNat n] := by rw [numB, dif_pos h]
theorem numB_hi {n : Nat} (h : ¬ n < 128) : numB n = UInt8.ofNat (n % 128 + 128) :: numB (n / 128) := by rw [numB, dif_neg h]

theorem u8_toNat (n : Nat) : (UInt8.ofNat n).toNat = n % 256 := by simp

theorem numB_len_le (k : Nat) : ∀ n, n < 128 ^ (k + 1) → (numB n).length ≤ k + 1 := by
  induction k with
  | zero => intro n h; rw [numB_lo (by simpa using h)]; simp
  | succ k ih =>
    intro n h
    by_cases hn : n < 128
    · rw [numB_lo hn]; simp
    · rw [numB_hi hn, List.length_cons]
      have := ih (n / 128) (by rw [Nat.div_lt_iff_lt_mul (by omega)]; rw [Nat.pow_succ] at h; exact h)
      omega
theorem numB_pos (n : Nat) : 0 < (numB n).length := by
  by_cases hn : n < 128
  · rw [numB_lo hn]; simp
  · rw [numB_hi hn]; simp
theorem numB_len8 {n : Nat} (h : n < 9007199254740992) : (numB n).length ≤ 8 := numB_len_le 7 n (by omega)
theorem numB_len10 {n : Nat} (h : n < 9223372036854775808) : (numB n).length ≤ 9 := numB_len_le 8 n (by omega)

/-- What stands at the head of the bytes l: the groups up to the i-th have been read, they come to acc. -/
def scanN : Nat → List UInt8 → Nat → Nat → Option (Nat × Nat)
  | 0, _, _, _ => none
  | _ + 1, [], _, _ => none
  | k + 1, c :: r, i, acc => if 128 ≤ c.toNat then scanN k r (i + 1) (acc + 128 ^ i * (c.toNat % 128)) else
      if 9007199254740992 ≤ acc + 128 ^ i * (c.toNat % 128) ∨ (c.toNat = 0 ∧ 0 < i) then none else some (acc + 128 ^ i * (c.toNat % 128), i + 1)
def getN (l : List UInt8) : Option (Nat × Nat) := scanN 8 l 0 0

theorem or128_all : ∀ x : Fin 256, bits .or .u8 ((x.val : Nat) : Int) 128 = ((x.val % 128 + 128 : Nat) : Int) := by decide +kernel
theorem or128 (m : Nat) : bits .or .u8 ((m : Int) % 256) 128 = ((UInt8.ofNat (m % 128 + 128)).toNat : Int) := by
  have h := or128_all ⟨m % 256, by omega⟩
  simp only at h
  rw [u8_toNat]
  rw [show ((m : Int) % 256) = ((m % 256 : Nat) : Int) by omega, h]
  omega

theorem pow128 (i : Nat) : 128 ^ i = 2 ^ (7 * i) := by rw [Nat.pow_mul]
theorem pow128_le {i j : Nat} (h : i ≤ j) : 128 ^ i ≤ 128 ^ j := Nat.pow_le_pow_right (by omega) h

theorem ofInt64_toNat (a : Nat) (ha : a < 9223372036854775808) : (BitVec.ofInt 64 (a : Int)).toNat = a := by
  rw [BitVec.ofInt_natCast, BitVec.toNat_ofNat]; exact Nat.mod_eq_of_lt (by omega)
theorem i64_or_nat (a b : Nat) (ha : a < 9223372036854775808) (hb : b < 9223372036854775808) : bits .or .i64 (a : Int) (b : Int) = ((a ||| b : Nat) : Int) := by
  have hx : a ||| b < 2 ^ 63 := Nat.or_lt_two_pow (by omega) (by omega)
  show IntKind.i64.wrap ((BitVec.ofInt 64 (a : Int) ||| BitVec.ofInt 64 (b : Int)).toNat : Int) = _
  rw [BitVec.toNat_or, ofInt64_toNat a ha, ofInt64_toNat b hb, IntKind.wrap_i64]
  omega

theorem group_lt (i acc c : Nat) (_hi : i < 8) (hacc : acc < 128 ^ i) : acc + 128 ^ i * (c % 128) < 128 ^ (i + 1) := by
  rw [Nat.pow_succ]
  have : 128 ^ i * (c % 128) ≤ 128 ^ i * 127 := Nat.mul_le_mul_left _ (by omega)
  omega
theorem or_group (i acc c : Nat) (hi : i < 8) (hacc : acc < 128 ^ i) :
    bits .or .i64 (acc : Int) (RowKit.wrap64 ((c : Int) % 128 * 2 ^ (7 * i))) = ((acc + 128 ^ i * (c % 128) : Nat) : Int) := by
  have h1 := group_lt i acc c hi hacc
  have h2 := pow128_le (show i + 1 ≤ 8 by omega)
  have e : ((c : Int) % 128 * 2 ^ (7 * i)) = ((128 ^ i * (c % 128) : Nat) : Int) := by
    rw [pow128]
    simp [Int.mul_comm]
  rw [e, IntWalk.wrap64_in _ (by omega), i64_or_nat _ _ (by omega) (by omega)]
  congr 1
  rw [Nat.add_comm, pow128, Nat.two_pow_add_eq_or_of_lt (by rw [← pow128]; exact hacc), Nat.or_comm]

theorem scanN_step {k : Nat} {l r : List UInt8} {c : UInt8} (i acc : Nat) (h : l = c :: r) : scanN (k + 1) l i acc = if 128 ≤ c.toNat then scanN k r (i + 1) (acc + 128 ^ i * (c.toNat % 128)) else
      if 9007199254740992 ≤ acc + 128 ^ i * (c.toNat % 128) ∨ (c.toNat = 0 ∧ 0 < i) then none else some (acc + 128 ^ i * (c.toNat % 128), i + 1) := by rw [h, scanN]
theorem drop_cons {bs : List UInt8} {p : Nat} (h : p < bs.length) : bs.drop p = bs[p] :: bs.drop (p + 1) := List.drop_eq_getElem_cons h

/-! ### Lists of numbers -/
def isNumB (n : Int) : Bool := decide (0 ≤ n) && decide (n < 9007199254740992)
theorem isNumB_iff {n : Int} : isNumB n = true ↔ (0 ≤ n ∧ n < 9007199254740992) := by simp [isNumB]
theorem isNumB_not {n : Int} (h : isNumB n = false) : ¬ (0 ≤ n ∧ n < 9007199254740992) := by
  rw [← isNumB_iff, h]; simp
def numsB (l : List Int) : List UInt8 := l.flatMap fun n => numB n.toNat
def listB (l : List Int) : List UInt8 := numB l.length ++ numsB l

theorem numsB_snoc (l : List Int) (n : Int) : numsB (l ++ [n]) = numsB l ++ numB n.toNat := by simp [numsB, List.flatMap_append]
theorem numsB_len (l : List Int) (h : l.all isNumB = true) : (numsB l).length ≤ 8 * l.length := by
  induction l with
  | nil => simp [numsB]
  | cons n l ih =>
    simp only [List.all_cons, Bool.and_eq_true] at h
    have h1 := isNumB_iff.1 h.1
    have h2 := numB_len8 (n := n.toNat) (by omega)
    have h3 := ih h.2
    simp only [numsB, List.flatMap_cons, List.length_append, List.length_cons] at *
    omega
theorem take_snoc {α : Type} (l : List α) (k : Nat) (h : k < l.length) : l.take (k + 1) = l.take k ++ [l[k]] := by
  rw [List.take_succ_eq_append_getElem h]
theorem all_take_snoc {p : Int → Bool} {l : List Int} {k : Nat} (h : k < l.length) (hl : (l.take k).all p = true) (hk : p l[k] = true) : (l.take (k + 1)).all p = true := by
  rw [take_snoc l k h, List.all_append, hl]
  simp [hk]
theorem all_false_at {p : Int → Bool} {l : List Int} {k : Nat} (h : k < l.length) (hk : p l[k] = false) : l.all p = false := by
  rw [List.all_eq_false]
  exact ⟨l[k], List.getElem_mem h, by simp [hk]⟩

/-! ### Reading -/
theorem scanN_le : ∀ (k : Nat) (l : List UInt8) (i acc n j : Nat), scanN k l i acc = some (n, j) → i < j ∧ j - i ≤ l.length ∧ j ≤ i + k ∧ n < 9007199254740992
  | 0, _, _, _, _, _, h => by simp [scanN] at h
  | k + 1, [], _, _, _, _, h => by simp [scanN] at h
  | k + 1, c :: r, i, acc, n, j, h => by
    rw [scanN] at h
    split at h
    · have := scanN_le k r (i + 1) _ n j h
      simp only [List.length_cons]
      omega
    · split at h
      · cases h
      · rename_i hn
        simp only [Option.some.injEq, Prod.mk.injEq] at h
        obtain ⟨h1, h2⟩ := h
        simp only [List.length_cons]
        omega
theorem getN_le {l : List UInt8} {n j : Nat} (h : getN l = some (n, j)) : 0 < j ∧ j ≤ l.length ∧ j ≤ 8 ∧ n < 9007199254740992 := by
  have := scanN_le 8 l 0 0 n j h
  omega

/-- So many numbers, from a place on: they, and the place behind them. -/
def readK : Nat → List UInt8 → Nat → Option (List Nat × Nat)
  | 0, _, p => some ([], p)
  | k + 1, bs, p => match getN (bs.drop p) with
    | none => none
    | some (n, j) => match readK k bs (p + j) with
      | none => none
      | some (l, q) => some (n :: l, q)
theorem readK_le : ∀ (k : Nat) (bs : List UInt8) (p : Nat) (l : List Nat) (q : Nat), p ≤ bs.length → readK k bs p = some (l, q) → p + k ≤ q ∧ q ≤ bs.length ∧ l.length = k ∧ ∀ n ∈ l, n < 9007199254740992
  | 0, bs, p, l, q, hp, h => by
    simp only [readK, Option.some.injEq, Prod.mk.injEq] at h
    obtain ⟨rfl, rfl⟩ := h
    simp
    exact hp
  | k + 1, bs, p, l, q, hp, h => by
    rw [readK] at h
    split at h
    · cases h
    · rename_i n j hg
      split at h
      · cases h
      · rename_i l' q' hr
        simp only [Option.some.injEq, Prod.mk.injEq] at h
        obtain ⟨rfl, rfl⟩ := h
        have h1 := getN_le hg
        rw [List.length_drop] at h1
        have h2 := readK_le k bs (p + j) l' q' (by omega) hr
        refine ⟨by omega, h2.2.1, by simp [h2.2.2.1], fun m hm => ?_⟩
        rcases List.mem_cons.1 hm with rfl | hm
        · omega
        · exact h2.2.2.2 m hm
/-- The text, the list, that stands at a place, and the place behind it. -/
def textAt (bs : List UInt8) (p : Nat) : Option (List UInt8 × Nat) := match getN (bs.drop p) with
  | none => none
  | some (n, j) => if n ≤ bs.length - (p + j) then some ((bs.drop (p + j)).take n, p + j + n) else none
def listAt (bs : List UInt8) (p : Nat) (most : Int) : Option (List Nat × Nat) := match getN (bs.drop p) with
  | none => none
  | some (c, j) => if (c : Int) ≤ most then readK c bs (p + j) else none

theorem isNum_some {n : Int} (h : 0 ≤ n ∧ n < 9007199254740992) : ∃ m : Nat, n = m ∧ m < 9007199254740992 := ⟨n.toNat, by omega, by omega⟩

end Go.Proofs.Ytgjidkhfnnghiaa

/- Layer 1, plain mathematics: what is put is read again. -/
namespace Go.Proofs.Ytgjidkhfnnghiaa

theorem split128 (i m : Nat) : 128 ^ i * (m % 128) + 128 ^ (i + 1) * (m / 128) = 128 ^ i * m := by
  rw [Nat.pow_succ, Nat.mul_assoc, ← Nat.mul_add]
  congr 1
  omega

theorem scanN_put : ∀ (k i acc m : Nat) (rest : List UInt8), i + k = 8 → acc + 128 ^ i * m < 9007199254740992 → (0 < m ∨ i = 0) →
    scanN k (numB m ++ rest) i acc = some (acc + 128 ^ i * m, i + (numB m).length)
  | 0, i, acc, m, rest, hk, hlt, hm => by
    obtain rfl : i = 8 := by omega
    have : (128 : Nat) ^ 8 = 72057594037927936 := by decide
    rw [this] at hlt
    omega
  | k + 1, i, acc, m, rest, hk, hlt, hm => by
    by_cases h : m < 128
    · rw [numB_lo h, List.cons_append, List.nil_append, scanN, u8_toNat, Nat.mod_eq_of_lt (show m < 256 by omega), if_neg (by omega), Nat.mod_eq_of_lt h, if_neg (by omega)]
      rfl
    · rw [numB_hi h, List.cons_append, scanN, u8_toNat, Nat.mod_eq_of_lt (show m % 128 + 128 < 256 by omega), if_pos (by omega), show (m % 128 + 128) % 128 = m % 128 by omega]
      have e := split128 i m
      rw [scanN_put k (i + 1) _ (m / 128) rest (by omega) (by omega) (by omega)]
      simp only [List.length_cons]
      congr 2
      · omega
      · omega

theorem getN_put {n : Nat} (h : n < 9007199254740992) (rest : List UInt8) : getN (numB n ++ rest) = some (n, (numB n).length) := by
  rw [getN, scanN_put 8 0 0 n rest (by omega) (by simpa using h) (.inr rfl)]
  simp

theorem scanN_get : ∀ (k : Nat) (l : List UInt8) (i acc n j : Nat), scanN k l i acc = some (n, j) → ∃ m, n = acc + 128 ^ i * m ∧ numB m = l.take (j - i) ∧ (0 < m ∨ i = 0)
  | 0, _, _, _, _, _, h => by simp [scanN] at h
  | k + 1, [], _, _, _, _, h => by simp [scanN] at h
  | k + 1, c :: r, i, acc, n, j, h => by
    have hc := c.toNat_lt
    rw [scanN] at h
    split at h
    · rename_i hge
      have hle := scanN_le k r (i + 1) _ n j h
      obtain ⟨m, h1, h2, h3⟩ := scanN_get k r (i + 1) _ n j h
      have hm : 0 < m := by omega
      refine ⟨c.toNat % 128 + 128 * m, ?_, ?_, .inl (by omega)⟩
      · have e := split128 i (c.toNat % 128 + 128 * m)
        rw [show (c.toNat % 128 + 128 * m) % 128 = c.toNat % 128 by omega, show (c.toNat % 128 + 128 * m) / 128 = m by omega] at e
        omega
      · rw [numB_hi (by omega), show (c.toNat % 128 + 128 * m) % 128 + 128 = c.toNat by omega, show (c.toNat % 128 + 128 * m) / 128 = m by omega, h2, show j - i = (j - (i + 1)) + 1 by omega, List.take_succ_cons]
        simp
    · split at h
      · cases h
      · rename_i hge hn
        simp only [Option.some.injEq, Prod.mk.injEq] at h
        obtain ⟨h1, h2⟩ := h
        refine ⟨c.toNat, by rw [← h1, Nat.mod_eq_of_lt (by omega)], ?_, by omega⟩
        rw [numB_lo (by omega), show j - i = 1 by omega]
        simp

theorem getN_get {l : List UInt8} {n j : Nat} (h : getN l = some (n, j)) : numB n = l.take j := by
  obtain ⟨m, h1, h2, _⟩ := scanN_get 8 l 0 0 n j h
  have : n = m := by omega
  rw [this, h2]
  simp

theorem readK_put : ∀ (l : List Int) (pre rest : List UInt8), l.all isNumB = true → readK l.length (pre ++ (numsB l ++ rest)) pre.length = some (l.map Int.toNat, pre.length + (numsB l).length)
  | [], pre, rest, _ => by simp [readK, numsB]
  | n :: l, pre, rest, h => by
    simp only [List.all_cons, Bool.and_eq_true] at h
    have h1 := isNumB_iff.1 h.1
    have e : numsB (n :: l) = numB n.toNat ++ numsB l := by simp [numsB]
    rw [List.length_cons, readK, List.drop_left, e, List.append_assoc, getN_put (by omega)]
    have ih := readK_put l (pre ++ numB n.toNat) rest h.2
    rw [List.length_append, List.append_assoc] at ih
    simp only [ih]
    simp [Nat.add_assoc]

theorem listAt_put (l : List Int) (pre rest : List UInt8) (most : Int) (h : l.all isNumB = true) (hl : l.length < 9007199254740992) (hm : (l.length : Int) ≤ most) :
    listAt (pre ++ (listB l ++ rest)) pre.length most = some (l.map Int.toNat, pre.length + (listB l).length) := by
  rw [listAt, List.drop_left, listB, List.append_assoc, getN_put hl]
  simp only [hm, if_true]
  have := readK_put l (pre ++ numB l.length) rest h
  rw [List.length_append, List.append_assoc] at this
  rw [this]
  simp [Nat.add_assoc]
theorem listAt_less (l : List Int) (pre rest : List UInt8) (most : Int) (hl : l.length < 9007199254740992) (hm : ¬ (l.length : Int) ≤ most) : listAt (pre ++ (listB l ++ rest)) pre.length most = none := by
  rw [listAt, List.drop_left, listB, List.append_assoc, getN_put hl]
  simp only [hm, if_false]
theorem textAt_put (s pre rest : List UInt8) (h : s.length < 9007199254740992) : textAt (pre ++ (numB s.length ++ s ++ rest)) pre.length = some (s, pre.length + (numB s.length ++ s).length) := by
  rw [textAt, List.drop_left, List.append_assoc, getN_put h]
  simp only [List.length_append]
  rw [if_pos (by omega)]
  have e : (pre ++ (numB s.length ++ (s ++ rest))).drop (pre.length + (numB s.length).length) = s ++ rest := by
    rw [← List.append_assoc, ← List.length_append, List.drop_left]
  rw [e, List.take_left, Nat.add_assoc]

theorem toNat_back (l : List Int) (h : l.all isNumB = true) : (l.map Int.toNat).map (fun (n : Nat) => (n : Int)) = l := by
  rw [List.map_map]
  conv => rhs; rw [← List.map_id l]
  refine List.map_congr_left fun n hn => ?_
  have := isNumB_iff.1 (List.all_eq_true.1 h n hn)
  simp
  omega

theorem listB_pos (l : List Int) : 0 < (listB l).length := by
  have := numB_pos l.length
  simp only [listB, List.length_append]
  omega
theorem listB_le (l : List Int) (h : l.all isNumB = true) (hl : l.length ≤ 17592186043904) : (listB l).length ≤ 8 + 8 * l.length := by
  have h1 := numB_len8 (n := l.length) (by omega)
  have h2 := numsB_len l h
  simp only [listB, List.length_append]
  omega

theorem numB_len_ge : ∀ (k n : Nat), 128 ^ k ≤ n → k + 1 ≤ (numB n).length
  | 0, n, _ => by have := numB_pos n; omega
  | k + 1, n, h => by
    rw [Nat.pow_succ] at h
    have h1 : 0 < 128 ^ k := Nat.pow_pos (by omega)
    rw [numB_hi (by omega), List.length_cons]
    have := numB_len_ge k (n / 128) (by rw [Nat.le_div_iff_mul_le (by omega)]; exact h)
    omega
theorem numB_group_len {i acc c : Nat} (hacc : acc < 128 ^ i) (hc : c < 128) : ((numB (acc + 128 ^ i * (c % 128))).length = i + 1) ↔ ¬ (c = 0 ∧ 0 < i) := by
  rw [Nat.mod_eq_of_lt hc]
  rcases Nat.eq_zero_or_pos c with h0 | h0
  · subst h0
    rw [Nat.mul_zero, Nat.add_zero]
    rcases Nat.eq_zero_or_pos i with hi | hi
    · subst hi
      have : acc = 0 := by simpa using hacc
      subst this
      rw [numB_lo (by omega)]
      simp
    · have := numB_len_le (i - 1) acc (by rw [show i - 1 + 1 = i by omega]; exact hacc)
      constructor
      · intro h
        omega
      · intro h
        exact absurd ⟨rfl, hi⟩ h
  · have h1 : 128 ^ i ≤ 128 ^ i * c := Nat.le_mul_of_pos_right _ h0
    have h2 : 128 ^ i * c ≤ 128 ^ i * 127 := Nat.mul_le_mul_left _ (by omega)
    have h3 := numB_len_ge i (acc + 128 ^ i * c) (by omega)
    have h4 := numB_len_le i (acc + 128 ^ i * c) (by rw [Nat.pow_succ]; omega)
    constructor
    · intro _ h
      omega
    · intro _
      omega

end Go.Proofs.Ytgjidkhfnnghiaa

/- Layer 8, plain mathematics: ops, their numbers, bytes and words. -/
namespace Go.Proofs.Ytgjidkhfnnghiaa

/-- An op: its kind, its six numbers. -/
abbrev OpN : Type := Int × Int × Int × Int × Int × Int × Int
def numsO (o : OpN) : List Int := [o.2.1, o.2.2.1, o.2.2.2.1, o.2.2.2.2.1, o.2.2.2.2.2.1, o.2.2.2.2.2.2]
/-- How many numbers a kind has. -/
def manyK (k : Int) : Nat := if k = 1 then 6 else if k = 4 ∨ k = 5 ∨ k = 6 ∨ k = 21 then 0 else if k = 8 ∨ k = 9 ∨ k = 10 ∨ k = 12 ∨ k = 13 ∨ k = 19 ∨ k = 20 then 2 else 1
/-- Its own numbers. -/
def argsO (o : OpN) : List Int := (numsO o).take (manyK o.1)
def inO (n : Int) : Bool := decide (0 ≤ n ∧ n ≤ 1000000)
def rightO (o : OpN) : Bool := decide (1 ≤ o.1 ∧ o.1 ≤ 21) && ((numsO o).all inO && ((numsO o).drop (manyK o.1)).all (fun n => n == 0))
def zeroO : OpN := (0, 0, 0, 0, 0, 0, 0)
/-- An op of a kind and numbers. -/
def opOf (k : Int) (l : List Int) : OpN := (k, l.getD 0 0, l.getD 1 0, l.getD 2 0, l.getD 3 0, l.getD 4 0, l.getD 5 0)
/-- Its bytes. -/
def putO (o : OpN) : List UInt8 := if rightO o = true then listB (o.1 :: argsO o) else []

theorem manyK_le (k : Int) : manyK k ≤ 6 := by
  unfold manyK
  split
  · omega
  · split
    · omega
    · split <;> omega
theorem numsO_len (o : OpN) : (numsO o).length = 6 := rfl
theorem argsO_len (o : OpN) : (argsO o).length = manyK o.1 := by
  have := manyK_le o.1
  rw [argsO, List.length_take, numsO_len]
  omega
theorem rightO_iff {o : OpN} : rightO o = true ↔ (1 ≤ o.1 ∧ o.1 ≤ 21) ∧ (∀ n ∈ numsO o, 0 ≤ n ∧ n ≤ 1000000) ∧ ∀ n ∈ (numsO o).drop (manyK o.1), n = 0 := by
  unfold rightO inO
  simp only [Bool.and_eq_true, decide_eq_true_eq, List.all_eq_true, beq_iff_eq]
theorem args_in {o : OpN} (h : rightO o = true) : ∀ n ∈ argsO o, 0 ≤ n ∧ n ≤ 1000000 := fun n hn => (rightO_iff.1 h).2.1 n (List.mem_of_mem_take hn)
theorem args_isNum {o : OpN} (h : rightO o = true) : (o.1 :: argsO o).all isNumB = true := by
  rw [List.all_eq_true]
  intro n hn
  rw [isNumB_iff]
  rcases List.mem_cons.1 hn with hn | hn
  · have := (rightO_iff.1 h).1
    rw [hn]
    omega
  · have := args_in h n hn
    omega
/-- A right op is that of its kind and its own numbers. -/
theorem opOf_args {o : OpN} (h : rightO o = true) : opOf o.1 (argsO o) = o := by
  obtain ⟨-, -, h0⟩ := rightO_iff.1 h
  have hall : argsO o ++ (numsO o).drop (manyK o.1) = numsO o := List.take_append_drop _ _
  have hz : ∀ (i : Nat), i < 6 → (argsO o).getD i 0 = (numsO o).getD i 0 := by
    intro i hi
    have hl := argsO_len o
    by_cases hlt : i < (argsO o).length
    · rw [← hall, List.getD_eq_getElem?_getD, List.getD_eq_getElem?_getD, List.getElem?_append_left hlt]
    · have hm : (numsO o).getD i 0 ∈ (numsO o).drop (manyK o.1) := by
        rw [List.getD_eq_getElem?_getD, List.getElem?_eq_getElem (by rw [numsO_len]; exact hi), Option.getD_some, List.mem_drop_iff_getElem]
        exact ⟨i - manyK o.1, by rw [numsO_len]; omega, by congr 1; omega⟩
      rw [h0 _ hm, List.getD_eq_getElem?_getD, List.getElem?_eq_none (by omega), Option.getD_none]
  unfold opOf
  rw [hz 0 (by decide), hz 1 (by decide), hz 2 (by decide), hz 3 (by decide), hz 4 (by decide), hz 5 (by decide)]
  rfl
theorem args_toNat {o : OpN} (h : rightO o = true) : ((o.1 :: argsO o).map Int.toNat).map (fun (n : Nat) => (n : Int)) = o.1 :: argsO o := toNat_back _ (args_isNum h)
/-- Its bytes are read as a list. -/
theorem putO_list {o : OpN} (h : rightO o = true) : listAt (putO o) 0 7 = some ((o.1 :: argsO o).map Int.toNat, (putO o).length) := by
  have hl := argsO_len o
  have hm := manyK_le o.1
  have := listAt_put (o.1 :: argsO o) [] [] 7 (args_isNum h) (by rw [List.length_cons]; omega) (by rw [List.length_cons]; omega)
  rw [putO, if_pos h]
  simpa using this
theorem putO_pos {o : OpN} (h : rightO o = true) : 0 < (putO o).length := by
  rw [putO, if_pos h]
  exact listB_pos _
/-- Two right ops of the same bytes are one. -/
theorem putO_inj {o x : OpN} (h : rightO o = true) (g : rightO x = true) (e : putO o = putO x) : o = x := by
  have h1 := putO_list h
  have h2 := putO_list g
  rw [e, h2] at h1
  injection h1 with h1
  have h3 := congrArg (fun (y : List Nat × Nat) => y.1.map (fun (n : Nat) => (n : Int))) h1
  simp only [args_toNat h, args_toNat g] at h3
  injection h3 with h4 h5
  rw [← opOf_args h, ← opOf_args g, h4, h5]
/-- The op of bytes is this one: none has these bytes. -/
def GetO (b : List UInt8) (o : OpN) (ok : Bool) : Prop := (ok = true ∧ rightO o = true ∧ putO o = b) ∨ (ok = false ∧ o = zeroO ∧ ∀ x, rightO x = true → putO x ≠ b)
theorem GetO.one {b : List UInt8} {o x : OpN} {ok is : Bool} (h : GetO b o ok) (g : GetO b x is) : o = x ∧ ok = is := by
  rcases h with ⟨h1, h2, h3⟩ | ⟨h1, h2, h3⟩ <;> rcases g with ⟨g1, g2, g3⟩ | ⟨g1, g2, g3⟩
  · exact ⟨putO_inj h2 g2 (h3.trans g3.symm), by rw [h1, g1]⟩
  · exact absurd h3 (g3 o h2)
  · exact absurd g3 (h3 x g2)
  · exact ⟨by rw [h2, g2], by rw [h1, g1]⟩

/-! ### Words -/
def namesL : List (List UInt8) := [
    [115, 117, 98, 109, 105, 116],
    [99, 97, 110, 99, 101, 108],
    [116, 97, 114, 103, 101, 116],
    [112, 97, 117, 115, 101],
    [114, 101, 115, 117, 109, 101],
    [97, 98, 111, 114, 116],
    [100, 111, 119, 110],
    [117, 112],
    [104, 111, 108, 100],
    [115, 116, 97, 114, 116],
    [117, 110, 104, 111, 108, 100],
    [100, 114, 97, 105, 110],
    [115, 97, 118, 101, 100],
    [101, 118, 105, 99, 116],
    [100, 111, 110, 101],
    [99, 111, 114, 100, 111, 110],
    [117, 110, 99, 111, 114, 100, 111, 110],
    [109, 111, 118, 101],
    [109, 111, 118, 101, 100],
    [115, 104, 114, 105, 110, 107],
    [110, 101, 119, 116, 101, 114, 109]]
def nameK (k : Int) : List UInt8 := if 1 ≤ k ∧ k ≤ 21 then namesL.getD (k - 1).toNat [] else []
def digB (n : Nat) : List UInt8 := if h : n < 10 then [UInt8.ofNat (48 + n)] else digB (n / 10) ++ [UInt8.ofNat (48 + n % 10)]
theorem digB_lo {n : Nat} (h : n < 10) : digB n = [UInt8.ofNat (48 + n)] := by rw [digB, dif_pos h]
theorem digB_hi {n : Nat} (h : ¬ n < 10) : digB n = digB (n / 10) ++ [UInt8.ofNat (48 + n % 10)] := by rw [digB, dif_neg h]
def wordsB (l : List Int) : List UInt8 := l.flatMap fun n => 32 :: digB n.toNat
theorem wordsB_snoc (l : List Int) (n : Int) : wordsB (l ++ [n]) = wordsB l ++ 32 :: digB n.toNat := by simp [wordsB, List.flatMap_append]
def textO (o : OpN) : List UInt8 := if rightO o = true then nameK o.1 ++ wordsB (argsO o) else []

theorem names_len : namesL.length = 21 := rfl
theorem names_ok : ∀ s ∈ namesL, s ≠ [] ∧ ∀ c ∈ s, 97 ≤ c ∧ c ≤ 122 := by decide +kernel
theorem names_inj : ∀ i j : Fin 21, namesL.getD i.val [] = namesL.getD j.val [] → i = j := by decide +kernel
theorem nameK_mem {k : Int} (h : 1 ≤ k ∧ k ≤ 21) : nameK k ∈ namesL := by
  rw [nameK, if_pos h, List.getD_eq_getElem?_getD, List.getElem?_eq_getElem (by rw [names_len]; omega), Option.getD_some]
  exact List.getElem_mem _
theorem nameK_no {k : Int} (h : ¬ (1 ≤ k ∧ k ≤ 21)) : nameK k = [] := by rw [nameK, if_neg h]
theorem nameK_ne {k : Int} (h : 1 ≤ k ∧ k ≤ 21) : nameK k ≠ [] := (names_ok _ (nameK_mem h)).1
theorem nameK_inj {k j : Int} (h : 1 ≤ k ∧ k ≤ 21) (g : 1 ≤ j ∧ j ≤ 21) (e : nameK k = nameK j) : k = j := by
  rw [nameK, nameK, if_pos h, if_pos g] at e
  have := congrArg Fin.val (names_inj ⟨(k - 1).toNat, by omega⟩ ⟨(j - 1).toNat, by omega⟩ e)
  simp only at this
  omega

/-! ### Numbers out of digits -/
theorem dig_toNat {d : Nat} (h : d < 10) : (UInt8.ofNat (48 + d)).toNat = 48 + d := by rw [u8_toNat]; omega
/-- How the numbers are read, byte by byte. -/
def stepP (l : List Int) (c : UInt8) : List Int :=
  if c = 32 then l ++ [0] else if 48 ≤ c.toNat ∧ c.toNat ≤ 57 ∧ l ≠ [] ∧ l.getLastD 0 < 1000000 then l.dropLast ++ [l.getLastD 0 * 10 + (c.toNat : Int) - 48] else l
theorem stepP_blank (l : List Int) : stepP l 32 = l ++ [0] := by rw [stepP, if_pos rfl]
theorem stepP_dig (l : List Int) (m : Int) {d : Nat} (h : d < 10) (hm : m < 1000000) : stepP (l ++ [m]) (UInt8.ofNat (48 + d)) = l ++ [m * 10 + d] := by
  have ht := dig_toNat h
  have hne : ¬ UInt8.ofNat (48 + d) = 32 := fun e => by
    have := congrArg UInt8.toNat e
    rw [ht] at this
    simp at this
    omega
  have hlast : (l ++ [m]).getLastD 0 = m := by simp
  have hdrop : (l ++ [m]).dropLast = l := by simp
  rw [stepP, if_neg hne, ht, hlast, hdrop, if_pos ⟨by omega, by omega, by simp, hm⟩]
  congr 2
  omega
theorem fold_dig : ∀ (n : Nat) (l : List Int), n ≤ 1000000 → (digB n).foldl stepP (l ++ [0]) = l ++ [(n : Int)]
  | n, l, hn => by
    by_cases h : n < 10
    · rw [digB_lo h, List.foldl_cons, List.foldl_nil, stepP_dig l 0 h (by decide)]
      congr 2
      omega
    · have hd : n / 10 < n := by omega
      rw [digB_hi h, List.foldl_append, fold_dig (n / 10) l (by omega), List.foldl_cons, List.foldl_nil, stepP_dig l _ (by omega) (by omega)]
      congr 2
      omega
theorem fold_words : ∀ (a l : List Int), (∀ n ∈ a, 0 ≤ n ∧ n ≤ 1000000) → (wordsB a).foldl stepP l = l ++ a
  | [], l, _ => by simp [wordsB]
  | n :: a, l, h => by
    have hn := h n List.mem_cons_self
    have : wordsB (n :: a) = 32 :: (digB n.toNat ++ wordsB a) := by simp [wordsB]
    rw [this, List.foldl_cons, stepP_blank, List.foldl_append, fold_dig _ _ (by omega), fold_words a _ (fun x hx => h x (List.mem_cons_of_mem _ hx))]
    rw [show ((n.toNat : Nat) : Int) = n by omega, List.append_assoc]
    rfl
theorem wordsB_head {a : List Int} {c : UInt8} {r : List UInt8} (h : wordsB a = c :: r) : c = 32 := by
  cases a with
  | nil => simp [wordsB] at h
  | cons n a =>
    simp [wordsB] at h
    exact h.1.symm
/-- A name, and numbers behind it: both are told by the text. -/
theorem words_cut {s t a b : List UInt8} (hs : ∀ c ∈ s, c ≠ 32) (ht : ∀ c ∈ t, c ≠ 32) (ha : ∀ c r, a = c :: r → c = 32) (hb : ∀ c r, b = c :: r → c = 32) (h : s ++ a = t ++ b) : s = t ∧ a = b := by
  induction s generalizing t with
  | nil =>
    cases t with
    | nil => exact ⟨rfl, h⟩
    | cons c t => exact absurd (ha c _ h) (ht c List.mem_cons_self)
  | cons c s ih =>
    cases t with
    | nil => exact absurd (hb c _ h.symm) (hs c List.mem_cons_self)
    | cons d t =>
      injection h with h1 h2
      obtain ⟨e1, e2⟩ := ih (fun x hx => hs x (List.mem_cons_of_mem _ hx)) (fun x hx => ht x (List.mem_cons_of_mem _ hx)) h2
      exact ⟨by rw [h1, e1], e2⟩
theorem nameK_blank {k : Int} (h : 1 ≤ k ∧ k ≤ 21) : ∀ c ∈ nameK k, c ≠ 32 := fun c hc e => by
  have := ((names_ok _ (nameK_mem h)).2 c hc).1
  rw [e] at this
  exact absurd this (by decide)
theorem textO_inj {o x : OpN} (h : rightO o = true) (g : rightO x = true) (e : textO o = textO x) : o = x := by
  obtain ⟨h1, h2, h3⟩ := rightO_iff.1 h
  obtain ⟨g1, g2, g3⟩ := rightO_iff.1 g
  rw [textO, textO, if_pos h, if_pos g] at e
  obtain ⟨e1, e2⟩ := words_cut (nameK_blank h1) (nameK_blank g1) (fun c r => wordsB_head) (fun c r => wordsB_head) e
  have hk := nameK_inj h1 g1 e1
  have ha : argsO o = argsO x := by
    have p1 := fold_words (argsO o) [] (args_in h)
    have p2 := fold_words (argsO x) [] (args_in g)
    rw [e2, p2] at p1
    simpa using p1.symm
  rw [← opOf_args h, ← opOf_args g, hk, ha]
/-- The op of words is this one: none has these words. -/
def ParseO (s : List UInt8) (o : OpN) (ok : Bool) : Prop := (ok = true ∧ rightO o = true ∧ textO o = s) ∨ (ok = false ∧ o = zeroO ∧ ∀ x, rightO x = true → textO x ≠ s)
theorem ParseO.one {s : List UInt8} {o x : OpN} {ok is : Bool} (h : ParseO s o ok) (g : ParseO s x is) : o = x ∧ ok = is := by
  rcases h with ⟨h1, h2, h3⟩ | ⟨h1, h2, h3⟩ <;> rcases g with ⟨g1, g2, g3⟩ | ⟨g1, g2, g3⟩
  · exact ⟨textO_inj h2 g2 (h3.trans g3.symm), by rw [h1, g1]⟩
  · exact absurd h3 (g3 o h2)
  · exact absurd g3 (h3 x g2)
  · exact ⟨by rw [h2, g2], by rw [h1, g1]⟩

end Go.Proofs.Ytgjidkhfnnghiaa

/- Layer 9, plain mathematics: fleets, states, and what may be. No program is named here. -/
namespace Go.Proofs.Ytgjidkhfnnghiaa

/-- A fleet. -/
structure Cf where
  nodes : Int
  queues : Int
  quota : Int
  wave : Int
  lease : Int
  retry : Int
  deadline : Int
  room : Int
  disk : Int

/-- A job. -/
structure Jb where
  queue : Int
  prio : Int
  least : Int
  most : Int
  work : Int
  pin : Int
  phase : Int
  inc : Int
  nodes : Int
  since : Int
  til : Int
  epoch : Int

/-- A node. -/
structure Nd where
  up : Bool
  cordon : Bool
  moving : Bool
  version : Int
  job : Int

/-- A state. -/
structure St where
  nodes : List Nd
  jobs : List Jb
  goal : Int
  prior : Int
  mode : Int
  term : Int

def inR (n lo hi : Int) : Bool := decide (lo ≤ n ∧ n ≤ hi)
theorem inR_iff {n lo hi : Int} : inR n lo hi = true ↔ lo ≤ n ∧ n ≤ hi := by unfold inR; simp

def mayC (c : Cf) : Bool := inR c.nodes 1 6 && inR c.queues 1 3 && inR c.quota 0 4 && inR c.wave 1 6 && inR c.lease 2 30 && inR c.retry 1 20 && inR c.deadline 1 60 && inR c.room 0 5000 && inR c.disk 2000 40000

/-- Is the node i in the set? -/
def hasS (set : Int) (i : Nat) : Bool := decide (set / 2 ^ i % 2 = 1)
/-- How many of six are. -/
def manyS (set : Int) : Nat := ((List.range 6).filter (hasS set)).length

def newN : Nd := ⟨true, false, false, 1, 0⟩
def newS (n : Nat) : St := ⟨List.replicate n newN, [], 1, 1, 0, 0⟩
def zeroS : St := ⟨[], [], 0, 0, 0, 0⟩
def meantS (s : St) : Int := if s.mode = 2 then s.prior else s.goal
def freeN (n : Nd) : Bool := n.up && !n.cordon && !n.moving && decide (n.job = 0)
def drainsS (s : St) (q : Int) : Nat := (s.jobs.filter fun j => decide (j.queue = q ∧ j.phase = 3)).length

/-- A job's numbers are such as may be submitted. -/
def askedJ (c : Cf) (j : Jb) : Bool := inR j.queue 0 (c.queues - 1) && inR j.prio 0 9 && inR j.least 1 j.most && decide (j.most ≤ c.nodes) && inR j.work 1 1000 && inR j.pin 0 9

/-- Nodes are as many as a job may have, and all of one version that it may have. -/
structure FitsP (s : St) (j : Jb) (set : Int) : Prop where
  low : 0 ≤ set
  high : set < 2 ^ s.nodes.length
  least : j.least ≤ (manyS set : Int)
  most : (manyS set : Int) ≤ j.most
  pin : ∀ i n, s.nodes[i]? = some n → hasS set i = true → j.pin ≠ 0 → n.version = j.pin
  one : ∀ i n k m, s.nodes[i]? = some n → hasS set i = true → s.nodes[k]? = some m → hasS set k = true → n.version = m.version

structure NodeP (s : St) (n : Nd) : Prop where
  v1 : 1 ≤ n.version
  v9 : n.version ≤ 9
  j0 : 0 ≤ n.job
  jl : n.job ≤ s.jobs.length
  mv : n.moving = true → n.up = true ∧ n.cordon = true ∧ n.job = 0

structure JobP (c : Cf) (s : St) (k : Nat) (j : Jb) : Prop where
  asked : askedJ c j = true
  p0 : 0 ≤ j.phase
  p4 : j.phase ≤ 4
  i0 : 0 ≤ j.inc
  i9 : j.inc ≤ 1000000
  s0 : 0 ≤ j.since
  s9 : j.since ≤ 1000000
  t0 : 0 ≤ j.til
  t9 : j.til ≤ 1000000
  e0 : 0 ≤ j.epoch
  e9 : j.epoch ≤ j.inc
  fits : 1 ≤ j.phase → j.phase ≤ 3 → FitsP s j j.nodes
  none_ : ¬ (1 ≤ j.phase ∧ j.phase ≤ 3) → j.nodes = 0
  own : ∀ i n, s.nodes[i]? = some n → (n.job = (k : Int) + 1 ↔ hasS j.nodes i = true)
  host : ∀ (i : Nat) n, s.nodes[i]? = some n → n.job = (k : Int) + 1 → n.up = true ∧ n.moving = false

/-- A state may be. -/
structure RightP (c : Cf) (s : St) : Prop where
  may : mayC c = true
  nn : (s.nodes.length : Int) = c.nodes
  nj : s.jobs.length ≤ 24
  g1 : 1 ≤ s.goal
  g9 : s.goal ≤ 9
  p1 : 1 ≤ s.prior
  p9 : s.prior ≤ 9
  m0 : 0 ≤ s.mode
  m2 : s.mode ≤ 2
  t0 : 0 ≤ s.term
  t9 : s.term ≤ 1000000
  node : ∀ (i : Nat) n, s.nodes[i]? = some n → NodeP s n
  job : ∀ k j, s.jobs[k]? = some j → JobP c s k j
  drains : ∀ q : Nat, (q : Int) < c.queues → (drainsS s q : Int) ≤ c.quota

theorem hasS_zero (i : Nat) : hasS 0 i = false := by simp [hasS]
theorem hasS_nat (m i : Nat) : hasS (m : Int) i = m.testBit i := by
  rw [hasS, Nat.testBit_eq_decide_div_mod_eq]
  congr 1
  rw [eq_iff_iff]
  have h : ((2 : Int) ^ i) = ((2 ^ i : Nat) : Int) := by simp
  rw [h]
  omega
theorem RightP.len {c : Cf} {s : St} (h : RightP c s) : 1 ≤ s.nodes.length ∧ s.nodes.length ≤ 6 := by
  have h1 := h.may
  have h2 := h.nn
  simp only [mayC, Bool.and_eq_true, inR_iff] at h1
  omega
theorem FitsP.lt64 {s : St} {j : Jb} {set : Int} (h : FitsP s j set) (hn : s.nodes.length ≤ 6) : 0 ≤ set ∧ set < 64 := by
  refine ⟨h.low, Int.lt_of_lt_of_le h.high ?_⟩
  have : 2 ^ s.nodes.length ≤ 2 ^ 6 := Nat.pow_le_pow_right (by decide) hn
  have h2 : ((2 ^ s.nodes.length : Nat) : Int) = (2 : Int) ^ s.nodes.length := by simp
  omega
theorem JobP.lt64 {c : Cf} {s : St} {k : Nat} {j : Jb} (h : JobP c s k j) (hn : s.nodes.length ≤ 6) : 0 ≤ j.nodes ∧ j.nodes < 64 := by
  by_cases hp : 1 ≤ j.phase ∧ j.phase ≤ 3
  · exact (h.fits hp.1 hp.2).lt64 hn
  · rw [h.none_ hp]
    omega

/-! ### As the program asks it -/
/-- A node, as the program asks it. -/
def NodeL (s : St) (i : Nat) (n : Nd) : Prop :=
  (1 ≤ n.version ∧ n.version ≤ 9) ∧ (n.moving = true → n.up = true ∧ n.cordon = true ∧ n.job = 0) ∧ (n.job = 0 ∨ ∃ k j, n.job = (k : Nat) + 1 ∧ s.jobs[k]? = some j ∧ hasS j.nodes i = true)
def CarriedL (s : St) (k : Nat) (j : Jb) : Prop := ∀ i n, s.nodes[i]? = some n → hasS j.nodes i = true → n.up = true ∧ n.moving = false ∧ n.job = (k : Int) + 1
def JobL (c : Cf) (s : St) (k : Nat) (j : Jb) : Prop :=
  askedJ c j = true ∧ (0 ≤ j.inc ∧ j.inc ≤ 1000000) ∧ (0 ≤ j.epoch ∧ j.epoch ≤ j.inc) ∧ (0 ≤ j.since ∧ j.since ≤ 1000000) ∧ (0 ≤ j.til ∧ j.til ≤ 1000000) ∧
    (((j.phase = 0 ∨ j.phase = 4) ∧ j.nodes = 0) ∨ ((1 ≤ j.phase ∧ j.phase ≤ 3) ∧ FitsP s j j.nodes ∧ CarriedL s k j))

theorem JobL.iff {c : Cf} {s : St} (hn : ∀ i n, s.nodes[i]? = some n → NodeL s i n) :
    (∀ k j, s.jobs[k]? = some j → JobP c s k j) ↔ (∀ k j, s.jobs[k]? = some j → JobL c s k j) := by
  constructor
  · intro h k j hj
    have h1 := h k j hj
    refine ⟨h1.asked, ⟨h1.i0, h1.i9⟩, ⟨h1.e0, h1.e9⟩, ⟨h1.s0, h1.s9⟩, ⟨h1.t0, h1.t9⟩, ?_⟩
    by_cases hp : 1 ≤ j.phase ∧ j.phase ≤ 3
    · refine .inr ⟨hp, h1.fits hp.1 hp.2, fun i n hi hh => ?_⟩
      have h2 := (h1.own i n hi).2 hh
      exact ⟨(h1.host i n hi h2).1, (h1.host i n hi h2).2, h2⟩
    · have := h1.p0
      have := h1.p4
      exact .inl ⟨by omega, h1.none_ hp⟩
  · intro h k j hj
    obtain ⟨a, b, c', d, e, f⟩ := h k j hj
    have own : ∀ i n, s.nodes[i]? = some n → (n.job = (k : Int) + 1 ↔ hasS j.nodes i = true) := by
      intro i n hi
      constructor
      · intro hk
        rcases (hn i n hi).2.2 with h0 | ⟨k', j', e1, e2, e3⟩
        · omega
        · have : k' = k := by omega
          subst this
          rw [hj] at e2
          cases e2
          exact e3
      · intro hh
        rcases f with ⟨_, f⟩ | ⟨_, _, f⟩
        · rw [f, hasS_zero] at hh
          cases hh
        · exact (f i n hi hh).2.2
    refine ⟨a, ?_, ?_, b.1, b.2, d.1, d.2, e.1, e.2, c'.1, c'.2, ?_, ?_, own, ?_⟩
    · rcases f with ⟨f, _⟩ | ⟨f, _⟩ <;> omega
    · rcases f with ⟨f, _⟩ | ⟨f, _⟩ <;> omega
    · intro h1 h3
      rcases f with ⟨f, _⟩ | ⟨_, f, _⟩
      · omega
      · exact f
    · intro hp
      rcases f with ⟨_, f⟩ | ⟨f, _⟩
      · exact f
      · exact absurd f hp
    · intro i n hi hk
      have hh := (own i n hi).1 hk
      rcases f with ⟨_, f⟩ | ⟨_, _, f⟩
      · rw [f, hasS_zero] at hh
        cases hh
      · exact ⟨(f i n hi hh).1, (f i n hi hh).2.1⟩

/-- May the state be, as the program asks it. -/
structure RightL (c : Cf) (s : St) : Prop where
  may : mayC c = true
  nn : (s.nodes.length : Int) = c.nodes
  nj : s.jobs.length ≤ 24
  g : 1 ≤ s.goal ∧ s.goal ≤ 9
  p : 1 ≤ s.prior ∧ s.prior ≤ 9
  m : 0 ≤ s.mode ∧ s.mode ≤ 2
  t : 0 ≤ s.term ∧ s.term ≤ 1000000
  node : ∀ (i : Nat) n, s.nodes[i]? = some n → NodeL s i n
  job : ∀ k j, s.jobs[k]? = some j → JobL c s k j
  drains : ∀ q : Nat, (q : Int) < c.queues → (drainsS s q : Int) ≤ c.quota

theorem RightL_iff {c : Cf} {s : St} : RightL c s ↔ RightP c s := by
  constructor
  · intro h
    refine ⟨h.may, h.nn, h.nj, h.g.1, h.g.2, h.p.1, h.p.2, h.m.1, h.m.2, h.t.1, h.t.2, fun i n hi => ?_, (JobL.iff h.node).2 h.job, h.drains⟩
    obtain ⟨a, b, d⟩ := h.node i n hi
    refine ⟨a.1, a.2, ?_, ?_, b⟩
    · rcases d with d | ⟨k, j, d, _⟩ <;> omega
    · rcases d with d | ⟨k, j, d, d2, _⟩
      · omega
      · have := (List.getElem?_eq_some_iff.1 d2).1
        omega
  · intro h
    have hnode : ∀ (i : Nat) n, s.nodes[i]? = some n → NodeL s i n := by
      intro i n hi
      have h1 := h.node i n hi
      refine ⟨⟨h1.v1, h1.v9⟩, h1.mv, ?_⟩
      by_cases h0 : n.job = 0
      · exact .inl h0
      · have := h1.j0
        have := h1.jl
        have hk : (n.job - 1).toNat < s.jobs.length := by omega
        have hj : s.jobs[(n.job - 1).toNat]? = some s.jobs[(n.job - 1).toNat] := List.getElem?_eq_getElem hk
        refine .inr ⟨(n.job - 1).toNat, _, by omega, hj, ?_⟩
        exact ((h.job _ _ hj).own i n hi).1 (by omega)
    exact ⟨h.may, h.nn, h.nj, ⟨h.g1, h.g9⟩, ⟨h.p1, h.p9⟩, ⟨h.m0, h.m2⟩, ⟨h.t0, h.t9⟩, hnode, (JobL.iff hnode).1 h.job, h.drains⟩

end Go.Proofs.Ytgjidkhfnnghiaa

/- Layer 14, plain mathematics: the line. No program is named here. -/
namespace Go.Proofs.Ytgjidkhfnnghiaa

/-- Is the job at position i (from 0) queued? -/
def queuedL (l : List Jb) (i : Nat) : Bool := match l[i]? with
  | some x => decide (x.phase = 0)
  | none => false
/-- Does the job at i come ahead of that at k? -/
def aheadL (l : List Jb) (i k : Nat) : Bool := match l[i]?, l[k]? with
  | some x, some y => decide (y.prio < x.prio ∨ x.prio = y.prio ∧ i < k)
  | _, _ => false
/-- How many of the first q jobs are queued and come ahead of it. -/
def placeTo (l : List Jb) (i q : Nat) : Nat := ((List.range q).filter fun k => queuedL l k && aheadL l k i).length
def placeL (l : List Jb) (i : Nat) : Nat := placeTo l i l.length
/-- Those of the first q jobs that have the place a. -/
def atTo (l : List Jb) (a q : Nat) : List Nat := (List.range q).filter fun i => queuedL l i && decide (placeL l i = a)
/-- The line's jobs of the places below a. -/
def lineTo (l : List Jb) (a : Nat) : List Nat := (List.range a).flatMap fun b => atTo l b l.length
def lineL (l : List Jb) : List Nat := lineTo l l.length

theorem queuedL_at {l : List Jb} {i : Nat} {x : Jb} (h : l[i]? = some x) : queuedL l i = decide (x.phase = 0) := by unfold queuedL; rw [h]
theorem aheadL_at {l : List Jb} {i k : Nat} {x y : Jb} (h : l[i]? = some x) (h' : l[k]? = some y) : aheadL l i k = decide (y.prio < x.prio ∨ x.prio = y.prio ∧ i < k) := by unfold aheadL; rw [h, h']
theorem queuedL_lt {l : List Jb} {i : Nat} (h : queuedL l i = true) : i < l.length := by
  unfold queuedL at h
  cases e : l[i]? with
  | none => rw [e] at h; cases h
  | some x => exact (List.getElem?_eq_some_iff.1 e).1

theorem range_filter_step (p : Nat → Bool) (q : Nat) : (List.range (q + 1)).filter p = (List.range q).filter p ++ (if p q = true then [q] else []) := by
  rw [List.range_succ, List.filter_append]
  congr 1
  cases h : p q with
  | false => rw [List.filter_cons_of_neg (by rw [h]; simp)]; simp
  | true => rw [List.filter_cons_of_pos h]; simp

theorem placeTo_zero (l : List Jb) (i : Nat) : placeTo l i 0 = 0 := rfl
theorem placeTo_step (l : List Jb) (i q : Nat) : placeTo l i (q + 1) = placeTo l i q + (if (queuedL l q && aheadL l q i) = true then 1 else 0) := by
  unfold placeTo
  rw [range_filter_step, List.length_append]
  congr 1
  split <;> rfl
theorem placeTo_le (l : List Jb) (i q : Nat) : placeTo l i q ≤ q := Nat.le_trans (List.length_filter_le _ _) (by simp)
theorem atTo_zero (l : List Jb) (a : Nat) : atTo l a 0 = [] := rfl
theorem atTo_step (l : List Jb) (a q : Nat) : atTo l a (q + 1) = atTo l a q ++ (if (queuedL l q && decide (placeL l q = a)) = true then [q] else []) := range_filter_step _ _
theorem atTo_len (l : List Jb) (a q : Nat) : (atTo l a q).length ≤ q := Nat.le_trans (List.length_filter_le _ _) (by simp)
theorem lineTo_zero (l : List Jb) : lineTo l 0 = [] := rfl
theorem lineTo_step (l : List Jb) (a : Nat) : lineTo l (a + 1) = lineTo l a ++ atTo l a l.length := by
  unfold lineTo
  rw [List.range_succ, List.flatMap_append]
  simp
theorem lineTo_len (l : List Jb) (a : Nat) : (lineTo l a).length ≤ a * l.length := by
  induction a with
  | zero => simp [lineTo_zero]
  | succ a ih =>
    rw [lineTo_step, List.length_append, Nat.succ_mul]
    have := atTo_len l a l.length
    omega

/-! The order: it is strict and total on the queued jobs. -/
theorem aheadL_irrefl (l : List Jb) (i : Nat) : aheadL l i i = false := by
  unfold aheadL
  cases l[i]? with
  | none => rfl
  | some x => simp
theorem aheadL_trans {l : List Jb} {i j k : Nat} (h1 : aheadL l i j = true) (h2 : aheadL l j k = true) : aheadL l i k = true := by
  unfold aheadL at *
  cases hi : l[i]? <;> cases hj : l[j]? <;> cases hk : l[k]? <;> simp_all <;> omega
theorem aheadL_total {l : List Jb} {i k : Nat} (hi : i < l.length) (hk : k < l.length) (hn : i ≠ k) : aheadL l i k = true ∨ aheadL l k i = true := by
  rw [aheadL_at (List.getElem?_eq_getElem hi) (List.getElem?_eq_getElem hk), aheadL_at (List.getElem?_eq_getElem hk) (List.getElem?_eq_getElem hi)]
  simp only [decide_eq_true_eq]
  omega

/-- A list of all queued jobs, each ahead of those behind it, is the line. -/
theorem line_of_sorted {l : List Jb} {L : List Nat} (hs : L.Pairwise fun i k => aheadL l i k = true) (hp : L.Perm ((List.range l.length).filter (queuedL l))) : L = lineL l := by
  have hmem : ∀ i, i ∈ L ↔ queuedL l i = true := fun i => by
    rw [hp.mem_iff, List.mem_filter, List.mem_range]
    exact ⟨fun h => h.2, fun h => ⟨queuedL_lt h, h⟩⟩
  have hlen : L.length ≤ l.length := by rw [hp.length_eq]; exact Nat.le_trans (List.length_filter_le _ _) (by simp)
  have hplace : ∀ (M : List Nat) (i : Nat), ((List.range l.length).filter fun k => queuedL l k && aheadL l k i).length = (L.filter fun k => aheadL l k i).length := fun _ i => by
    rw [(hp.filter _).length_eq, List.filter_filter]
    congr 1
    apply List.filter_congr
    intro k _
    rw [Bool.and_comm]
  -- the place of the q-th is q
  have hpl : ∀ q (hq : q < L.length), placeL l L[q] = q := fun q hq => by
    unfold placeL placeTo
    rw [hplace L]
    have e : L = L.take q ++ L[q] :: L.drop (q + 1) := by rw [List.getElem_cons_drop, List.take_append_drop]
    generalize L[q] = x at e ⊢
    have hpw := hs
    rw [e] at hpw
    have h2 := List.pairwise_append.1 hpw
    have h3 := List.pairwise_cons.1 h2.2.1
    have f1 : (L.take q).filter (fun k => aheadL l k x) = L.take q := List.filter_eq_self.2 fun k hk => h2.2.2 k hk _ (List.mem_cons_self ..)
    have f2 : (L.drop (q + 1)).filter (fun k => aheadL l k x) = [] := List.filter_eq_nil_iff.2 fun k hk h => by
      have := aheadL_trans h (h3.1 k hk)
      rw [aheadL_irrefl] at this
      cases this
    have f3 : L.filter (fun k => aheadL l k x) = L.take q := by
      refine (congrArg (List.filter fun k => aheadL l k x) e).trans ?_
      rw [List.filter_append, f1, List.filter_cons_of_neg (by rw [aheadL_irrefl]; simp), f2, List.append_nil]
    rw [f3, List.length_take]
    omega
  -- so the place a holds the a-th alone
  have hat : ∀ a, atTo l a l.length = if h : a < L.length then [L[a]] else [] := fun a => by
    have hnd : (atTo l a l.length).Nodup := List.nodup_range.filter _
    have hm : ∀ i, i ∈ atTo l a l.length ↔ ∃ h : a < L.length, i = L[a] := fun i => by
      unfold atTo
      rw [List.mem_filter, List.mem_range, Bool.and_eq_true, decide_eq_true_eq]
      constructor
      · rintro ⟨-, h1, h2⟩
        obtain ⟨q, hq, rfl⟩ := List.mem_iff_getElem.1 ((hmem i).2 h1)
        rw [hpl q hq] at h2
        subst h2
        exact ⟨hq, rfl⟩
      · rintro ⟨h, rfl⟩
        have hq := (hmem L[a]).1 (List.getElem_mem h)
        exact ⟨queuedL_lt hq, hq, hpl a h⟩
    split
    · rename_i h
      match hX : atTo l a l.length with
      | [] => have := (hm L[a]).2 ⟨h, rfl⟩; rw [hX] at this; cases this
      | [x] =>
        obtain ⟨_, e⟩ := (hm x).1 (by rw [hX]; exact List.mem_cons_self ..)
        rw [e]
      | x :: y :: t =>
        obtain ⟨_, e1⟩ := (hm x).1 (by rw [hX]; exact List.mem_cons_self ..)
        obtain ⟨_, e2⟩ := (hm y).1 (by rw [hX]; exact List.mem_cons_of_mem _ (List.mem_cons_self ..))
        rw [hX] at hnd
        exact absurd (List.mem_cons.2 (.inl (e1.trans e2.symm))) (List.nodup_cons.1 hnd).1
    · rename_i h
      match hX : atTo l a l.length with
      | [] => rfl
      | x :: t =>
        obtain ⟨h', _⟩ := (hm x).1 (by rw [hX]; exact List.mem_cons_self ..)
        exact absurd h' h
  have hto : ∀ a, lineTo l a = L.take a := fun a => by
    induction a with
    | zero => simp [lineTo_zero]
    | succ a ih =>
      rw [lineTo_step, ih, hat a]
      split
      · rename_i h
        rw [List.take_add_one, List.getElem?_eq_getElem h]
        rfl
      · rename_i h
        rw [List.take_of_length_le (by omega), List.take_of_length_le (by omega), List.append_nil]
  unfold lineL
  rw [hto, List.take_of_length_le hlen]

/-- The place of a number. -/
def placeI (l : List Jb) (job : Int) : Int := if 1 ≤ job ∧ queuedL l (job - 1).toNat = true then (placeL l (job - 1).toNat : Int) else -1

theorem placeL_lt {l : List Jb} {i : Nat} (h : i < l.length) : placeL l i < l.length := by
  unfold placeL placeTo
  have := (List.length_filter_lt_length_iff_exists (p := fun k => queuedL l k && aheadL l k i) (l := List.range l.length)).2 ⟨i, List.mem_range.2 h, by simp [aheadL_irrefl]⟩
  simpa using this
theorem lineL_mem {l : List Jb} {i : Nat} (h : queuedL l i = true) : i ∈ lineL l := by
  have hi := queuedL_lt h
  unfold lineL lineTo
  rw [List.mem_flatMap]
  refine ⟨placeL l i, List.mem_range.2 (placeL_lt hi), ?_⟩
  unfold atTo
  rw [List.mem_filter]
  exact ⟨List.mem_range.2 hi, by rw [h]; simp⟩
theorem lineL_queued {l : List Jb} {i : Nat} (h : i ∈ lineL l) : queuedL l i = true := by
  unfold lineL lineTo at h
  rw [List.mem_flatMap] at h
  obtain ⟨a, -, h⟩ := h
  unfold atTo at h
  rw [List.mem_filter, Bool.and_eq_true] at h
  exact h.2.1
/-- A job of the line: it is queued, and there is a first. -/
theorem placeI_some {l : List Jb} {job : Int} (h : ¬ placeI l job < 1) : ∃ (i k : Nat) (x : Jb) (t : List Nat), job = (i : Int) + 1 ∧ l[i]? = some x ∧ x.phase = 0 ∧ lineL l = k :: t := by
  unfold placeI at h
  split at h
  · rename_i h1
    have hq := h1.2
    have hlt := queuedL_lt hq
    have hx := List.getElem?_eq_getElem hlt
    have hp : (l[(job - 1).toNat]).phase = 0 := by
      have := queuedL_at hx
      rw [hq] at this
      exact of_decide_eq_true this.symm
    have hm := lineL_mem hq
    cases hL : lineL l with
    | nil => rw [hL] at hm; cases hm
    | cons k t => exact ⟨_, k, _, t, by omega, hx, hp, rfl⟩
  · omega

end Go.Proofs.Ytgjidkhfnnghiaa

/- Layer 15, plain mathematics: which nodes a job gets. No program is named here. -/
namespace Go.Proofs.Ytgjidkhfnnghiaa

/-- The set of those below n of which f holds. -/
def bitsF (f : Nat → Bool) : Nat → Nat
  | 0 => 0
  | k + 1 => bitsF f k + (if f k = true then 2 ^ k else 0)
theorem bitsF_lt (f : Nat → Bool) (n : Nat) : bitsF f n < 2 ^ n := by
  induction n with
  | zero => simp [bitsF]
  | succ n ih =>
    unfold bitsF
    rw [Nat.pow_succ]
    split <;> omega
theorem bitsF_bit (f : Nat → Bool) (n i : Nat) : (bitsF f n).testBit i = (decide (i < n) && f i) := by
  induction n with
  | zero => simp [bitsF]
  | succ n ih =>
    unfold bitsF
    cases h : f n with
    | false =>
      rw [if_neg (by simp), Nat.add_zero, ih]
      by_cases hi : i = n
      · subst hi; simp [h]
      · rw [show decide (i < n + 1) = decide (i < n) by rw [decide_eq_decide]; omega]
    | true =>
      rw [if_pos rfl, Nat.add_comm]
      have e := Nat.two_pow_add_eq_or_of_lt (bitsF_lt f n) 1
      rw [Nat.mul_one] at e
      rw [e, Nat.testBit_or, ih, Nat.testBit_two_pow]
      by_cases hi : i = n
      · subst hi; simp [h]
      · rw [show decide (i < n + 1) = decide (i < n) by rw [decide_eq_decide]; omega]
        have : decide (n = i) = false := decide_eq_false (fun e => hi e.symm)
        rw [this, Bool.false_or]
theorem bitsF_has (f : Nat → Bool) (n i : Nat) : hasS (bitsF f n : Int) i = (decide (i < n) && f i) := by rw [hasS_nat, bitsF_bit]
theorem bitsF_congr {f g : Nat → Bool} {n : Nat} (h : ∀ i, i < n → f i = g i) : bitsF f n = bitsF g n := by
  induction n with
  | zero => rfl
  | succ n ih =>
    unfold bitsF
    rw [ih fun i hi => h i (by omega), h n (by omega)]
/-- A number is the set of its bits. -/
theorem bitsF_of {m n : Nat} (h : m < 2 ^ n) : bitsF (fun i => m.testBit i) n = m := by
  apply Nat.eq_of_testBit_eq
  intro i
  rw [bitsF_bit]
  by_cases hi : i < n
  · simp [hi]
  · have : m < 2 ^ i := Nat.lt_of_lt_of_le h (Nat.pow_le_pow_right (by decide) (by omega))
    rw [Nat.testBit_lt_two_pow this]
    simp

def hostN (n : Nd) : Bool := n.up && !n.cordon && !n.moving
/-- Does p hold of the node i? -/
def nodeIs (l : List Nd) (p : Nd → Bool) (i : Nat) : Bool := match l[i]? with
  | some n => p n
  | none => false
theorem nodeIs_at {l : List Nd} {p : Nd → Bool} {i : Nat} {n : Nd} (h : l[i]? = some n) : nodeIs l p i = p n := by unfold nodeIs; rw [h]
def openN (s : St) : Nat := bitsF (nodeIs s.nodes freeN) s.nodes.length
/-- Those of a set that can have a job, of a version. -/
def ofTo (s : St) (set v : Int) (q : Nat) : Nat := bitsF (fun i => hasS set i && nodeIs s.nodes (fun n => hostN n && decide (n.version = v)) i) q
def ofN (s : St) (set v : Int) : Nat := ofTo s set v s.nodes.length
/-- The lowest m of a set, of the first nodes. -/
def lowN (of m : Int) : Nat → Nat
  | 0 => 0
  | k + 1 => lowN of m k + (if (hasS of k && decide ((manyS (lowN of m k : Int) : Int) < m)) = true then 2 ^ k else 0)
theorem lowN_lt (of m : Int) (n : Nat) : lowN of m n < 2 ^ n := by
  induction n with
  | zero => simp [lowN]
  | succ n ih =>
    unfold lowN
    rw [Nat.pow_succ]
    split <;> omega
/-- How many a job gets of n, and of which version: the best so far. -/
def pickStep (s : St) (j : Jb) (b : Int × Int) (n v : Int) : Int × Int :=
  if n < j.least ∨ (0 < j.pin ∧ j.pin ≠ v) then b
  else if b.1 < (if j.most < n then j.most else n) ∨ ((if j.most < n then j.most else n) = b.1 ∧ v = meantS s) then (if j.most < n then j.most else n, v) else b
section
variable {s : St} {j : Jb} {b : Int × Int} {n v K : Int}
theorem pickStep_few (h : n < j.least) : pickStep s j b n v = b := by unfold pickStep; rw [if_pos (.inl h)]
theorem pickStep_pin (h : 0 < j.pin) (h' : j.pin ≠ v) : pickStep s j b n v = b := by unfold pickStep; rw [if_pos (.inr ⟨h, h'⟩)]
theorem pickStep_more (h1 : ¬ n < j.least) (h2 : ¬ (0 < j.pin ∧ j.pin ≠ v)) (hK : K = if j.most < n then j.most else n) (h3 : b.1 < K ∨ (K = b.1 ∧ v = meantS s)) : pickStep s j b n v = (K, v) := by
  unfold pickStep
  rw [if_neg (fun h => h.elim h1 h2), ← hK, if_pos h3]
theorem pickStep_less (h1 : ¬ n < j.least) (h2 : ¬ (0 < j.pin ∧ j.pin ≠ v)) (hK : K = if j.most < n then j.most else n) (h3 : ¬ (b.1 < K ∨ (K = b.1 ∧ v = meantS s))) : pickStep s j b n v = b := by
  unfold pickStep
  rw [if_neg (fun h => h.elim h1 h2), ← hK, if_neg h3]
end
def pickTo (s : St) (j : Jb) (set : Int) : Nat → Int × Int
  | 0 => (-1, 0)
  | k + 1 => pickStep s j (pickTo s j set k) (manyS (ofN s set ((k : Int) + 1) : Int)) ((k : Int) + 1)
def pickS (s : St) (j : Jb) (set : Int) : Int × Bool :=
  if (pickTo s j set 9).1 < 0 then (0, false) else ((lowN (ofN s set (pickTo s j set 9).2 : Int) j.most 6 : Int), true)
def nowS (s : St) (job : Int) : Int × Bool := match s.jobs[(job - 1).toNat]? with
  | some j => if 1 ≤ job ∧ j.phase = 0 then pickS s j (openN s) else (0, false)
  | none => (0, false)
theorem nowS_none {s : St} {job : Int} (h : job < 1 ∨ (s.jobs.length : Int) < job) : nowS s job = (0, false) := by
  unfold nowS
  split
  · rename_i j hj
    have := (List.getElem?_eq_some_iff.1 hj).1
    rw [if_neg (by omega)]
  · rfl
theorem nowS_at {s : St} {job : Int} {i : Nat} {x : Jb} (hi : job = (i : Int) + 1) (hx : s.jobs[i]? = some x) : nowS s job = if x.phase = 0 then pickS s x (openN s) else (0, false) := by
  unfold nowS
  rw [show (job - 1).toNat = i by omega, hx]
  show (if 1 ≤ job ∧ x.phase = 0 then _ else _) = _
  by_cases h : x.phase = 0
  · rw [if_pos h, if_pos ⟨by omega, h⟩]
  · rw [if_neg h, if_neg (fun h' => h h'.2)]

end Go.Proofs.Ytgjidkhfnnghiaa

/- Layer 16, plain mathematics: who starts, and who may start out of turn. No program is named here. -/
namespace Go.Proofs.Ytgjidkhfnnghiaa

/-- When a job's end is, if its phase has one: before it is looked at whether that is behind. -/
def endE (x : Jb) (now : Int) : Int := if x.phase = 1 then now + x.work else if x.phase = 2 then x.since + x.work else if x.phase = 3 then x.til else -1
def endJ (x : Jb) (now : Int) : Int := if 0 ≤ endE x now ∧ endE x now < now then now else endE x now
/-- A job's end, by its number. -/
def endS (s : St) (job now : Int) : Int := match s.jobs[(job - 1).toNat]? with
  | some x => if 1 ≤ job then endJ x now else -1
  | none => -1
theorem endS_none {s : St} {job now : Int} (h : job < 1 ∨ (s.jobs.length : Int) < job) : endS s job now = -1 := by
  unfold endS
  split
  · rename_i j hj
    have := (List.getElem?_eq_some_iff.1 hj).1
    rw [if_neg (by omega)]
  · rfl
theorem endS_at {s : St} {job now : Int} {i : Nat} {x : Jb} (hi : job = (i : Int) + 1) (hx : s.jobs[i]? = some x) : endS s job now = endJ x now := by
  unfold endS
  rw [show (job - 1).toNat = i by omega, hx]
  show (if 1 ≤ job then _ else _) = _
  rw [if_pos (by omega)]
/-- Is a node there at a time? -/
def thenN (s : St) (now time : Int) (n : Nd) : Bool := freeN n || (decide (0 ≤ endS s n.job now) && decide (endS s n.job now ≤ time))
/-- The nodes at a time. -/
def atN (s : St) (now time : Int) : Nat := bitsF (nodeIs s.nodes (thenN s now time)) s.nodes.length
/-- The k-th time that is looked at. -/
def timeK (s : St) (now : Int) (k : Nat) : Int := if k = 0 then now else endS s k now
/-- The best reservation so far: time, nodes, whether there is one. -/
structure Rv where
  t : Int
  n : Int
  ok : Bool
def resStep (s : St) (x : Jb) (now : Int) (b : Rv) (t : Int) : Rv :=
  if t < 0 ∨ (b.ok = true ∧ b.t ≤ t) then b
  else if (pickS s x (atN s now t)).2 = true then ⟨t, (pickS s x (atN s now t)).1, true⟩ else b
def resTo (s : St) (x : Jb) (now : Int) : Nat → Rv
  | 0 => ⟨0, 0, false⟩
  | k + 1 => resStep s x now (resTo s x now k) (timeK s now k)
def reserveS (s : St) (job now : Int) : Rv := match s.jobs[(job - 1).toNat]? with
  | some x => if 1 ≤ job ∧ x.phase = 0 then resTo s x now (s.jobs.length + 1) else ⟨0, 0, false⟩
  | none => ⟨0, 0, false⟩
theorem reserveS_none {s : St} {job now : Int} (h : job < 1 ∨ (s.jobs.length : Int) < job) : reserveS s job now = ⟨0, 0, false⟩ := by
  unfold reserveS
  split
  · rename_i j hj
    have := (List.getElem?_eq_some_iff.1 hj).1
    rw [if_neg (by omega)]
  · rfl
theorem reserveS_at {s : St} {job now : Int} {i : Nat} {x : Jb} (hi : job = (i : Int) + 1) (hx : s.jobs[i]? = some x) : reserveS s job now = if x.phase = 0 then resTo s x now (s.jobs.length + 1) else ⟨0, 0, false⟩ := by
  unfold reserveS
  rw [show (job - 1).toNat = i by omega, hx]
  show (if 1 ≤ job ∧ x.phase = 0 then _ else _) = _
  by_cases h : x.phase = 0
  · rw [if_pos h, if_pos ⟨by omega, h⟩]
  · rw [if_neg h, if_neg (fun h' => h h'.2)]
section
variable {s : St} {x : Jb} {now t : Int} {b : Rv}
theorem resStep_skip (h : (decide (t < 0) || (b.ok && decide (b.t ≤ t))) = true) : resStep s x now b t = b := by
  unfold resStep
  rw [if_pos (by simpa using h)]
theorem resStep_yes' (h0 : (decide (t < 0) || (b.ok && decide (b.t ≤ t))) = false) (h : (pickS s x (atN s now t)).2 = true) : resStep s x now b t = ⟨t, (pickS s x (atN s now t)).1, true⟩ := by
  unfold resStep
  have h1 : ¬ (t < 0 ∨ (b.ok = true ∧ b.t ≤ t)) := by
    intro h2
    have : (decide (t < 0) || (b.ok && decide (b.t ≤ t))) = true := by simpa using h2
    rw [h0] at this
    cases this
  rw [if_neg h1, if_pos h]
theorem resStep_no' (h0 : (decide (t < 0) || (b.ok && decide (b.t ≤ t))) = false) (h : (pickS s x (atN s now t)).2 = false) : resStep s x now b t = b := by
  unfold resStep
  have h1 : ¬ (t < 0 ∨ (b.ok = true ∧ b.t ≤ t)) := by
    intro h2
    have : (decide (t < 0) || (b.ok && decide (b.t ≤ t))) = true := by simpa using h2
    rw [h0] at this
    cases this
  rw [if_neg h1, if_neg (by rw [h]; simp)]
theorem resStep_none (h : t < 0) : resStep s x now b t = b := by unfold resStep; rw [if_pos (.inl h)]
theorem resStep_late (h : b.ok = true) (h' : b.t ≤ t) : resStep s x now b t = b := by unfold resStep; rw [if_pos (.inr ⟨h, h'⟩)]
theorem resStep_yes (h1 : ¬ t < 0) (h2 : ¬ (b.ok = true ∧ b.t ≤ t)) (h : (pickS s x (atN s now t)).2 = true) : resStep s x now b t = ⟨t, (pickS s x (atN s now t)).1, true⟩ := by unfold resStep; rw [if_neg (fun h => h.elim h1 h2), if_pos h]
theorem resStep_no (h1 : ¬ t < 0) (h2 : ¬ (b.ok = true ∧ b.t ≤ t)) (h : (pickS s x (atN s now t)).2 = false) : resStep s x now b t = b := by unfold resStep; rw [if_neg (fun h => h.elim h1 h2), if_neg (by rw [h]; simp)]
end
/-- The number of the line's first. -/
def headS (s : St) : Int := match lineL s.jobs with
  | i :: _ => (i : Int) + 1
  | [] => 0
/-- All free nodes that a reservation doesn't keep. -/
def restN (s : St) (r : Rv) (q : Nat) : Nat := bitsF (fun i => nodeIs s.nodes freeN i && !(r.ok && hasS r.n i)) q
def fillS (s : St) (job now : Int) : Int × Bool := match s.jobs[(job - 1).toNat]? with
  | some x => if placeI s.jobs job < 1 then (0, false)
    else if (pickS s x (restN s (reserveS s (headS s) now) s.nodes.length)).2 = true then ((pickS s x (restN s (reserveS s (headS s) now) s.nodes.length)).1, true)
    else if (reserveS s (headS s) now).ok = true ∧ (nowS s job).2 = true ∧ now + x.work ≤ (reserveS s (headS s) now).t then ((nowS s job).1, true) else (0, false)
  | none => (0, false)
theorem fillS_none {s : St} {job now : Int} (h : placeI s.jobs job < 1) : fillS s job now = (0, false) := by
  unfold fillS
  split
  · rw [if_pos h]
  · rfl
theorem headS_at {s : St} {k : Nat} {t : List Nat} (h : lineL s.jobs = k :: t) : headS s = (k : Int) + 1 := by unfold headS; rw [h]
theorem fillS_at {s : St} {job now : Int} {i : Nat} {x : Jb} {r : Rv} {D : Nat} (hp : ¬ placeI s.jobs job < 1) (hi : job = (i : Int) + 1) (hx : s.jobs[i]? = some x) (hr : r = reserveS s (headS s) now) (hD : D = restN s r s.nodes.length) :
    fillS s job now = if (pickS s x (D : Int)).2 = true then ((pickS s x (D : Int)).1, true) else if r.ok = true ∧ (nowS s job).2 = true ∧ now + x.work ≤ r.t then ((nowS s job).1, true) else (0, false) := by
  unfold fillS
  rw [show (job - 1).toNat = i by omega, hx]
  show (if placeI s.jobs job < 1 then _ else _) = _
  rw [if_neg hp, ← hr, ← hD]
/-- Who starts, of those from the place i on. -/
def nextF (s : St) (now : Int) : Nat → List Nat → Rv
  | _, [] => ⟨0, 0, false⟩
  | i, p :: l => if (if i = 0 then nowS s ((p : Int) + 1) else fillS s ((p : Int) + 1) now).2 = true then ⟨(p : Int) + 1, (if i = 0 then nowS s ((p : Int) + 1) else fillS s ((p : Int) + 1) now).1, true⟩ else nextF s now (i + 1) l
def nextS (s : St) (now : Int) : Rv := nextF s now 0 (lineL s.jobs)

/-- What the numbers of a state must be for its times to be reckoned. -/
structure OkS (s : St) : Prop where
  nn : s.nodes.length ≤ 6
  nj : s.jobs.length ≤ 24
  jobs : ∀ (i : Nat) (x : Jb), s.jobs[i]? = some x → 0 ≤ x.work ∧ x.work ≤ 1000 ∧ 0 ≤ x.since ∧ x.since ≤ 1000000

end Go.Proofs.Ytgjidkhfnnghiaa

/- Layer 9, plain mathematics: what ops do. No program is named here. -/
namespace Go.Proofs.Ytgjidkhfnnghiaa

def newJ (o : OpN) : Jb := ⟨o.2.1, o.2.2.1, o.2.2.2.1, o.2.2.2.2.1, o.2.2.2.2.2.1, o.2.2.2.2.2.2, 0, 0, 0, 0, 0, 0⟩
def setN (s : St) (i : Nat) (n : Nd) : St := { s with nodes := s.nodes.set i n }
def setJ (s : St) (k : Nat) (j : Jb) : St := { s with jobs := s.jobs.set k j }
/-- All nodes of a set get a job, or none. -/
def giveL (l : List Nd) (set job : Int) : List Nd := l.mapIdx fun i n => if hasS set i = true then { n with job := job } else n
def giveS (s : St) (set job : Int) : St := { s with nodes := giveL s.nodes set job }
/-- The job k, which is j, is let go. -/
def gone (j : Jb) (phase : Int) : Jb := { j with phase := phase, nodes := 0, since := 0, til := 0 }
def letGoS (s : St) (k : Nat) (j : Jb) (phase : Int) : St := setJ (giveS s j.nodes 0) k (gone j phase)
/-- All nodes of the set are free. -/
def allFree (l : List Nd) (set : Int) : Bool := ((List.range l.length).all fun i => !hasS set i || (match l[i]? with | some n => freeN n | none => true))

abbrev Res9 : Type := St × Int
def submitS (c : Cf) (s : St) (o : OpN) : Res9 := if askedJ c (newJ o) = false then (s, 1) else if s.jobs.length = 24 then (s, 3) else ({ s with jobs := s.jobs ++ [newJ o] }, 0)
def targetS (s : St) (v : Int) : Res9 := if inR v 1 9 = false then (s, 1) else ({ s with prior := meantS s, goal := v, mode := 0 }, 0)
def pauseS (s : St) : Res9 := if s.mode = 0 then ({ s with mode := 1 }, 0) else (s, 5)
def resumeS (s : St) : Res9 := if s.mode = 1 then ({ s with mode := 0 }, 0) else (s, 5)
def abortS (s : St) : Res9 := if s.mode = 2 then (s, 5) else ({ s with mode := 2 }, 0)
def newtermS (s : St) : Res9 := if s.term = 1000000 then (s, 3) else ({ s with term := s.term + 1 }, 0)
def jobOf (s : St) (a : Int) : Option Jb := if 1 ≤ a then s.jobs[(a - 1).toNat]? else none
/-- A node's job, if it has one, is let go. -/
def dropS (s : St) (n : Nd) : St := match jobOf s n.job with | some j => letGoS s (n.job - 1).toNat j 0 | none => s
def downS (s : St) (i : Nat) (n : Nd) : Res9 := if n.up = true then (setN (dropS s n) i { n with up := false, moving := false, job := 0 }, 0) else (s, 5)
def upS (s : St) (i : Nat) (n : Nd) (v : Int) : Res9 := if inR v 1 9 = false then (s, 1) else if n.up = true then (s, 5) else (setN s i { n with up := true, version := v }, 0)
def cordonS (s : St) (i : Nat) (n : Nd) : Res9 := if n.up = true ∧ n.cordon = false then (setN s i { n with cordon := true }, 0) else (s, 5)
def uncordonS (s : St) (i : Nat) (n : Nd) : Res9 := if n.cordon = true ∧ n.moving = false then (setN s i { n with cordon := false }, 0) else (s, 5)
def moveS (s : St) (i : Nat) (n : Nd) : Res9 := if n.up = true ∧ n.cordon = true ∧ n.moving = false ∧ n.job = 0 then (setN s i { n with moving := true }, 0) else (s, 5)
def movedS (s : St) (i : Nat) (n : Nd) (v : Int) : Res9 := if inR v 1 9 = false then (s, 1) else if n.moving = true then (setN s i { n with version := v, moving := false, cordon := false }, 0) else (s, 5)
def cancelS (s : St) (k : Nat) (j : Jb) : Res9 := if j.phase = 4 then (s, 5) else (letGoS s k j 4, 0)
open Classical in
noncomputable def holdS (s : St) (k : Nat) (j : Jb) (set : Int) : Res9 :=
  if j.phase = 0 then (if FitsP s j set ∧ allFree s.nodes set = true ∧ j.inc ≠ 1000000 then (setJ (giveS s set ((k : Int) + 1)) k { j with phase := 1, nodes := set, inc := j.inc + 1 }, 0) else (s, 8)) else (s, 5)
def startS (s : St) (k : Nat) (j : Jb) (now : Int) : Res9 := if j.phase = 1 then (setJ s k { j with phase := 2, since := now }, 0) else (s, 5)
def unholdS (s : St) (k : Nat) (j : Jb) : Res9 := if j.phase = 1 then (letGoS s k j 0, 0) else (s, 5)
def drainS (c : Cf) (s : St) (k : Nat) (j : Jb) (til : Int) : Res9 := if j.phase = 2 then (if (drainsS s j.queue : Int) = c.quota then (s, 7) else (setJ s k { j with phase := 3, til := til }, 0)) else (s, 5)
def savedS (s : St) (k : Nat) (j : Jb) (ep : Int) : Res9 := if j.phase = 2 ∨ j.phase = 3 then (if ep = j.inc ∧ j.epoch < ep then (setJ s k { j with epoch := ep }, 0) else (s, 6)) else (s, 5)
def evictS (s : St) (k : Nat) (j : Jb) : Res9 := if j.phase = 3 then (letGoS s k j 0, 0) else (s, 5)
def doneS (s : St) (k : Nat) (j : Jb) : Res9 := if j.phase = 2 ∨ j.phase = 3 then (letGoS s k j 4, 0) else (s, 5)
/-- A set without one of its nodes. -/
def lessS (set : Int) (i : Nat) : Int := set - 2 ^ i
def shrinkS (s : St) (k : Nat) (j : Jb) (i : Nat) (n : Nd) : Res9 := if j.phase = 2 then (if hasS j.nodes i = true ∧ j.least < (manyS j.nodes : Int) then (setN (setJ s k { j with nodes := lessS j.nodes i }) i { n with job := 0 }, 0) else (s, 8)) else (s, 5)

/-- An op of a node that there is. -/
def nodeOp (s : St) (k : Int) (i : Nat) (n : Nd) (b : Int) : Res9 :=
  if k = 7 then downS s i n else if k = 8 then upS s i n b else if k = 16 then cordonS s i n else if k = 17 then uncordonS s i n else if k = 18 then moveS s i n else movedS s i n b
/-- An op of a job that there is. -/
noncomputable def jobOp (c : Cf) (s : St) (kd : Int) (k : Nat) (j : Jb) (b : Int) : Res9 :=
  if kd = 2 then cancelS s k j else if kd = 9 then holdS s k j b else if kd = 10 then startS s k j b else if kd = 11 then unholdS s k j else if kd = 12 then drainS c s k j b
  else if kd = 13 then savedS s k j b else if kd = 14 then evictS s k j else if kd = 15 then doneS s k j
  else (match s.nodes[b.toNat]? with | some n => shrinkS s k j b.toNat n | none => (s, 4))
noncomputable def doS (c : Cf) (s : St) (o : OpN) : Res9 :=
  if o.1 = 1 then submitS c s o else if o.1 = 3 then targetS s o.2.1 else if o.1 = 4 then pauseS s else if o.1 = 5 then resumeS s else if o.1 = 6 then abortS s else if o.1 = 21 then newtermS s
  else if o.1 = 7 ∨ o.1 = 8 ∨ o.1 = 16 ∨ o.1 = 17 ∨ o.1 = 18 ∨ o.1 = 19 then (match s.nodes[o.2.1.toNat]? with | some n => nodeOp s o.1 o.2.1.toNat n o.2.2.1 | none => (s, 4))
  else (match jobOf s o.2.1 with | some j => jobOp c s o.1 (o.2.1 - 1).toNat j o.2.2.1 | none => (s, 4))
/-- What an op leaves of a state that may be, and its error. -/
noncomputable def applyS (c : Cf) (s : St) (o : OpN) : Res9 := if rightO o = false then (s, 1) else doS c s o

end Go.Proofs.Ytgjidkhfnnghiaa
