/- Texts that the proof of OpsW rests on, one behind the other. -/
import Derived.WalkKit

/- Layer 1, plain mathematics: the bytes of a number, by its groups of seven bits; no program is named here. -/
namespace Go.Proofs.YtngenbolpnckhaaDoor

/-- A number's bytes. -/
def numB (n : Nat) : List UInt8 := if h : n < 128 then [UInt8.ofNat n] else UInt8.ofNat (n % 128 + 128) :: numB (n / 128)

theorem numB_lo {n : Nat} (h : n < 128) : numB n = [UInt8.ofNat n] := by rw [numB, dif_pos h]
theorem numB_hi {n : Nat} (h : ¬ n < 128) : numB n = UInt8.ofNat (n % 128 + 128) :: numB (n / 128) := by rw [numB, dif_neg h]

theorem u8_toNat (n : Nat) : (UInt8.ofNat n).toNat = n % 256 := by simp

theorem numB_len_le (k : Nat) : ∀ n, n < 128 ^ (k + 1) → (numB n).length ≤ k + 1 := by
  induction k with
  | zero => intro n h; rw [numB_lo (by simpa using h)]; simp
  | succ k ih =>
    intro n h
    by_cases hn : n < 128
    · rw [numB_lo hn]; simp
    · rw [numB_hi hn, List.length_cons]
      have := ih (n / 128) (by rw [Nat.div_lt_iff_lt_mul (by omega)]; rw [Nat.pow_succ] at h; exact h)
      omega
theorem numB_pos (n : Nat) : 0 < (numB n).length := by
  by_cases hn : n < 128
  · rw [numB_lo hn]; simp
  · rw [numB_hi hn]; simp
theorem numB_len8 {n : Nat} (h : n < 9007199254740992) : (numB n).length ≤ 8 := numB_len_le 7 n (by omega)
theorem numB_len10 {n : Nat} (h : n < 9223372036854775808) : (numB n).length ≤ 9 := numB_len_le 8 n (by omega)

/-- What stands at the head of the bytes l: the groups up to the i-th have been read, they come to acc. -/
def scanN : Nat → List UInt8 → Nat → Nat → Option (Nat × Nat)
  | 0, _, _, _ => none
  | _ + 1, [], _, _ => none
  | k + 1, c :: r, i, acc => if 128 ≤ c.toNat then scanN k r (i + 1) (acc + 128 ^ i * (c.toNat % 128)) else
      if 9007199254740992 ≤ acc + 128 ^ i * (c.toNat % 128) ∨ (c.toNat = 0 ∧ 0 < i) then none else some (acc + 128 ^ i * (c.toNat % 128), i + 1)
def getN (l : List UInt8) : Option (Nat × Nat) := scanN 8 l 0 0

theorem or128_all : ∀ x : Fin 256, bits .or .u8 ((x.val : Nat) : Int) 128 = ((x.val % 128 + 128 : Nat) : Int) := by decide +kernel
theorem or128 (m : Nat) : bits .or .u8 ((m : Int) % 256) 128 = ((UInt8.ofNat (m % 128 + 128)).toNat : Int) := by
  have h := or128_all ⟨m % 256, by omega⟩
  simp only at h
  rw [u8_toNat]
  rw [show ((m : Int) % 256) = ((m % 256 : Nat) : Int) by omega, h]
  omega

theorem pow128 (i : Nat) : 128 ^ i = 2 ^ (7 * i) := by rw [Nat.pow_mul]
theorem pow128_le {i j : Nat} (h : i ≤ j) : 128 ^ i ≤ 128 ^ j := Nat.pow_le_pow_right (by omega) h

theorem ofInt64_toNat (a : Nat) (ha : a < 9223372036854775808) : (BitVec.ofInt 64 (a : Int)).toNat = a := by
  rw [BitVec.ofInt_natCast, BitVec.toNat_ofNat]; exact Nat.mod_eq_of_lt (by omega)
theorem i64_or_nat (a b : Nat) (ha : a < 9223372036854775808) (hb : b < 9223372036854775808) : bits .or .i64 (a : Int) (b : Int) = ((a ||| b : Nat) : Int) := by
  have hx : a ||| b < 2 ^ 63 := Nat.or_lt_two_pow (by omega) (by omega)
  show IntKind.i64.wrap ((BitVec.ofInt 64 (a : Int) ||| BitVec.ofInt 64 (b : Int)).toNat : Int) = _
  rw [BitVec.toNat_or, ofInt64_toNat a ha, ofInt64_toNat b hb, IntKind.wrap_i64]
  omega

theorem group_lt (i acc c : Nat) (_hi : i < 8) (hacc : acc < 128 ^ i) : acc + 128 ^ i * (c % 128) < 128 ^ (i + 1) := by
  rw [Nat.pow_succ]
  have : 128 ^ i * (c % 128) ≤ 128 ^ i * 127 := Nat.mul_le_mul_left _ (by omega)
  omega
theorem or_group (i acc c : Nat) (hi : i < 8) (hacc : acc < 128 ^ i) :
    bits .or .i64 (acc : Int) (RowKit.wrap64 ((c : Int) % 128 * 2 ^ (7 * i))) = ((acc + 128 ^ i * (c % 128) : Nat) : Int) := by
  have h1 := group_lt i acc c hi hacc
  have h2 := pow128_le (show i + 1 ≤ 8 by omega)
  have e : ((c : Int) % 128 * 2 ^ (7 * i)) = ((128 ^ i * (c % 128) : Nat) : Int) := by
    rw [pow128]
    simp [Int.mul_comm]
  rw [e, IntWalk.wrap64_in _ (by omega), i64_or_nat _ _ (by omega) (by omega)]
  congr 1
  rw [Nat.add_comm, pow128, Nat.two_pow_add_eq_or_of_lt (by rw [← pow128]; exact hacc), Nat.or_comm]

theorem scanN_step {k : Nat} {l r : List UInt8} {c : UInt8} (i acc : Nat) (h : l = c :: r) : scanN (k + 1) l i acc = if 128 ≤ c.toNat then scanN k r (i + 1) (acc + 128 ^ i * (c.toNat % 128)) else
      if 9007199254740992 ≤ acc + 128 ^ i * (c.toNat % 128) ∨ (c.toNat = 0 ∧ 0 < i) then none else some (acc + 128 ^ i * (c.toNat % 128), i + 1) := by rw [h, scanN]
theorem drop_cons {bs : List UInt8} {p : Nat} (h : p < bs.length) : bs.drop p = bs[p] :: bs.drop (p + 1) := List.drop_eq_getElem_cons h

/-! ### Lists of numbers -/
def isNumB (n : Int) : Bool := decide (0 ≤ n) && decide (n < 9007199254740992)
theorem isNumB_iff {n : Int} : isNumB n = true ↔ (0 ≤ n ∧ n < 9007199254740992) := by simp [isNumB]
theorem isNumB_not {n : Int} (h : isNumB n = false) : ¬ (0 ≤ n ∧ n < 9007199254740992) := by
  rw [← isNumB_iff, h]; simp
def numsB (l : List Int) : List UInt8 := l.flatMap fun n => numB n.toNat
def listB (l : List Int) : List UInt8 := numB l.length ++ numsB l

theorem numsB_snoc (l : List Int) (n : Int) : numsB (l ++ [n]) = numsB l ++ numB n.toNat := by simp [numsB, List.flatMap_append]
theorem numsB_len (l : List Int) (h : l.all isNumB = true) : (numsB l).length ≤ 8 * l.length := by
  induction l with
  | nil => simp [numsB]
  | cons n l ih =>
    simp only [List.all_cons, Bool.and_eq_true] at h
    have h1 := isNumB_iff.1 h.1
    have h2 := numB_len8 (n := n.toNat) (by omega)
    have h3 := ih h.2
    simp only [numsB, List.flatMap_cons, List.length_append, List.length_cons] at *
    omega
theorem take_snoc {α : Type} (l : List α) (k : Nat) (h : k < l.length) : l.take (k + 1) = l.take k ++ [l[k]] := by
  rw [List.take_succ_eq_append_getElem h]
theorem all_take_snoc {p : Int → Bool} {l : List Int} {k : Nat} (h : k < l.length) (hl : (l.take k).all p = true) (hk : p l[k] = true) : (l.take (k + 1)).all p = true := by
  rw [take_snoc l k h, List.all_append, hl]
  simp [hk]
theorem all_false_at {p : Int → Bool} {l : List Int} {k : Nat} (h : k < l.length) (hk : p l[k] = false) : l.all p = false := by
  rw [List.all_eq_false]
  exact ⟨l[k], List.getElem_mem h, by simp [hk]⟩

/-! ### Reading -/
theorem scanN_le : ∀ (k : Nat) (l : List UInt8) (i acc n j : Nat), scanN k l i acc = some (n, j) → i < j ∧ j - i ≤ l.length ∧ j ≤ i + k ∧ n < 9007199254740992
  | 0, _, _, _, _, _, h => by simp [scanN] at h
  | k + 1, [], _, _, _, _, h => by simp [scanN] at h
  | k + 1, c :: r, i, acc, n, j, h => by
    rw [scanN] at h
    split at h
    · have := scanN_le k r (i + 1) _ n j h
      simp only [List.length_cons]
      omega
    · split at h
      · cases h
      · rename_i hn
        simp only [Option.some.injEq, Prod.mk.injEq] at h
        obtain ⟨h1, h2⟩ := h
        simp only [List.length_cons]
        omega
theorem getN_le {l : List UInt8} {n j : Nat} (h : getN l = some (n, j)) : 0 < j ∧ j ≤ l.length ∧ j ≤ 8 ∧ n < 9007199254740992 := by
  have := scanN_le 8 l 0 0 n j h
  omega

/-- So many numbers, from a place on: they, and the place behind them. -/
def readK : Nat → List UInt8 → Nat → Option (List Nat × Nat)
  | 0, _, p => some ([], p)
  | k + 1, bs, p => match getN (bs.drop p) with
    | none => none
    | some (n, j) => match readK k bs (p + j) with
      | none => none
      | some (l, q) => some (n :: l, q)
theorem readK_le : ∀ (k : Nat) (bs : List UInt8) (p : Nat) (l : List Nat) (q : Nat), p ≤ bs.length → readK k bs p = some (l, q) → p + k ≤ q ∧ q ≤ bs.length ∧ l.length = k ∧ ∀ n ∈ l, n < 9007199254740992
  | 0, bs, p, l, q, hp, h => by
    simp only [readK, Option.some.injEq, Prod.mk.injEq] at h
    obtain ⟨rfl, rfl⟩ := h
    simp
    exact hp
  | k + 1, bs, p, l, q, hp, h => by
    rw [readK] at h
    split at h
    · cases h
    · rename_i n j hg
      split at h
      · cases h
      · rename_i l' q' hr
        simp only [Option.some.injEq, Prod.mk.injEq] at h
        obtain ⟨rfl, rfl⟩ := h
        have h1 := getN_le hg
        rw [List.length_drop] at h1
        have h2 := readK_le k bs (p + j) l' q' (by omega) hr
        refine ⟨by omega, h2.2.1, by simp [h2.2.2.1], fun m hm => ?_⟩
        rcases List.mem_cons.1 hm with rfl | hm
        · omega
        · exact h2.2.2.2 m hm
/-- The text, the list, that stands at a place, and the place behind it. -/
def textAt (bs : List UInt8) (p : Nat) : Option (List UInt8 × Nat) := match getN (bs.drop p) with
  | none => none
  | some (n, j) => if n ≤ bs.length - (p + j) then some ((bs.drop (p + j)).take n, p + j + n) else none
def listAt (bs : List UInt8) (p : Nat) (most : Int) : Option (List Nat × Nat) := match getN (bs.drop p) with
  | none => none
  | some (c, j) => if (c : Int) ≤ most then readK c bs (p + j) else none

theorem isNum_some {n : Int} (h : 0 ≤ n ∧ n < 9007199254740992) : ∃ m : Nat, n = m ∧ m < 9007199254740992 := ⟨n.toNat, by omega, by omega⟩

end Go.Proofs.YtngenbolpnckhaaDoor

/- Layer 1, plain mathematics: what is put is read again. -/
namespace Go.Proofs.YtngenbolpnckhaaDoor

theorem split128 (i m : Nat) : 128 ^ i * (m % 128) + 128 ^ (i + 1) * (m / 128) = 128 ^ i * m := by
  rw [Nat.pow_succ, Nat.mul_assoc, ← Nat.mul_add]
  congr 1
  omega

theorem scanN_put : ∀ (k i acc m : Nat) (rest : List UInt8), i + k = 8 → acc + 128 ^ i * m < 9007199254740992 → (0 < m ∨ i = 0) →
    scanN k (numB m ++ rest) i acc = some (acc + 128 ^ i * m, i + (numB m).length)
  | 0, i, acc, m, rest, hk, hlt, hm => by
    obtain rfl : i = 8 := by omega
    have : (128 : Nat) ^ 8 = 72057594037927936 := by decide
    rw [this] at hlt
    omega
  | k + 1, i, acc, m, rest, hk, hlt, hm => by
    by_cases h : m < 128
    · rw [numB_lo h, List.cons_append, List.nil_append, scanN, u8_toNat, Nat.mod_eq_of_lt (show m < 256 by omega), if_neg (by omega), Nat.mod_eq_of_lt h, if_neg (by omega)]
      rfl
    · rw [numB_hi h, List.cons_append, scanN, u8_toNat, Nat.mod_eq_of_lt (show m % 128 + 128 < 256 by omega), if_pos (by omega), show (m % 128 + 128) % 128 = m % 128 by omega]
      have e := split128 i m
      rw [scanN_put k (i + 1) _ (m / 128) rest (by omega) (by omega) (by omega)]
      simp only [List.length_cons]
      congr 2
      · omega
      · omega

theorem getN_put {n : Nat} (h : n < 9007199254740992) (rest : List UInt8) : getN (numB n ++ rest) = some (n, (numB n).length) := by
  rw [getN, scanN_put 8 0 0 n rest (by omega) (by simpa using h) (.inr rfl)]
  simp

theorem scanN_get : ∀ (k : Nat) (l : List UInt8) (i acc n j : Nat), scanN k l i acc = some (n, j) → ∃ m, n = acc + 128 ^ i * m ∧ numB m = l.take (j - i) ∧ (0 < m ∨ i = 0)
  | 0, _, _, _, _, _, h => by simp [scanN] at h
  | k + 1, [], _, _, _, _, h => by simp [scanN] at h
  | k + 1, c :: r, i, acc, n, j, h => by
    have hc := c.toNat_lt
    rw [scanN] at h
    split at h
    · rename_i hge
      have hle := scanN_le k r (i + 1) _ n j h
      obtain ⟨m, h1, h2, h3⟩ := scanN_get k r (i + 1) _ n j h
      have hm : 0 < m := by omega
      refine ⟨c.toNat % 128 + 128 * m, ?_, ?_, .inl (by omega)⟩
      · have e := split128 i (c.toNat % 128 + 128 * m)
        rw [show (c.toNat % 128 + 128 * m) % 128 = c.toNat % 128 by omega, show (c.toNat % 128 + 128 * m) / 128 = m by omega] at e
        omega
      · rw [numB_hi (by omega), show (c.toNat % 128 + 128 * m) % 128 + 128 = c.toNat by omega, show (c.toNat % 128 + 128 * m) / 128 = m by omega, h2, show j - i = (j - (i + 1)) + 1 by omega, List.take_succ_cons]
        simp
    · split at h
      · cases h
      · rename_i hge hn
        simp only [Option.some.injEq, Prod.mk.injEq] at h
        obtain ⟨h1, h2⟩ := h
        refine ⟨c.toNat, by rw [← h1, Nat.mod_eq_of_lt (by omega)], ?_, by omega⟩
        rw [numB_lo (by omega), show j - i = 1 by omega]
        simp

theorem getN_get {l : List UInt8} {n j : Nat} (h : getN l = some (n, j)) : numB n = l.take j := by
  obtain ⟨m, h1, h2, _⟩ := scanN_get 8 l 0 0 n j h
  have : n = m := by omega
  rw [this, h2]
  simp

theorem readK_put : ∀ (l : List Int) (pre rest : List UInt8), l.all isNumB = true → readK l.length (pre ++ (numsB l ++ rest)) pre.length = some (l.map Int.toNat, pre.length + (numsB l).length)
  | [], pre, rest, _ => by simp [readK, numsB]
  | n :: l, pre, rest, h => by
    simp only [List.all_cons, Bool.and_eq_true] at h
    have h1 := isNumB_iff.1 h.1
    have e : numsB (n :: l) = numB n.toNat ++ numsB l := by simp [numsB]
    rw [List.length_cons, readK, List.drop_left, e, List.append_assoc, getN_put (by omega)]
    have ih := readK_put l (pre ++ numB n.toNat) rest h.2
    rw [List.length_append, List.append_assoc] at ih
    simp only [ih]
    simp [Nat.add_assoc]

theorem listAt_put (l : List Int) (pre rest : List UInt8) (most : Int) (h : l.all isNumB = true) (hl : l.length < 9007199254740992) (hm : (l.length : Int) ≤ most) :
    listAt (pre ++ (listB l ++ rest)) pre.length most = some (l.map Int.toNat, pre.length + (listB l).length) := by
  rw [listAt, List.drop_left, listB, List.append_assoc, getN_put hl]
  simp only [hm, if_true]
  have := readK_put l (pre ++ numB l.length) rest h
  rw [List.length_append, List.append_assoc] at this
  rw [this]
  simp [Nat.add_assoc]
theorem listAt_less (l : List Int) (pre rest : List UInt8) (most : Int) (hl : l.length < 9007199254740992) (hm : ¬ (l.length : Int) ≤ most) : listAt (pre ++ (listB l ++ rest)) pre.length most = none := by
  rw [listAt, List.drop_left, listB, List.append_assoc, getN_put hl]
  simp only [hm, if_false]
theorem textAt_put (s pre rest : List UInt8) (h : s.length < 9007199254740992) : textAt (pre ++ (numB s.length ++ s ++ rest)) pre.length = some (s, pre.length + (numB s.length ++ s).length) := by
  rw [textAt, List.drop_left, List.append_assoc, getN_put h]
  simp only [List.length_append]
  rw [if_pos (by omega)]
  have e : (pre ++ (numB s.length ++ (s ++ rest))).drop (pre.length + (numB s.length).length) = s ++ rest := by
    rw [← List.append_assoc, ← List.length_append, List.drop_left]
  rw [e, List.take_left, Nat.add_assoc]

theorem toNat_back (l : List Int) (h : l.all isNumB = true) : (l.map Int.toNat).map (fun (n : Nat) => (n : Int)) = l := by
  rw [List.map_map]
  conv => rhs; rw [← List.map_id l]
  refine List.map_congr_left fun n hn => ?_
  have := isNumB_iff.1 (List.all_eq_true.1 h n hn)
  simp
  omega

theorem listB_pos (l : List Int) : 0 < (listB l).length := by
  have := numB_pos l.length
  simp only [listB, List.length_append]
  omega
theorem listB_le (l : List Int) (h : l.all isNumB = true) (hl : l.length ≤ 17592186043904) : (listB l).length ≤ 8 + 8 * l.length := by
  have h1 := numB_len8 (n := l.length) (by omega)
  have h2 := numsB_len l h
  simp only [listB, List.length_append]
  omega

theorem numB_len_ge : ∀ (k n : Nat), 128 ^ k ≤ n → k + 1 ≤ (numB n).length
  | 0, n, _ => by have := numB_pos n; omega
  | k + 1, n, h => by
    rw [Nat.pow_succ] at h
    have h1 : 0 < 128 ^ k := Nat.pow_pos (by omega)
    rw [numB_hi (by omega), List.length_cons]
    have := numB_len_ge k (n / 128) (by rw [Nat.le_div_iff_mul_le (by omega)]; exact h)
    omega
theorem numB_group_len {i acc c : Nat} (hacc : acc < 128 ^ i) (hc : c < 128) : ((numB (acc + 128 ^ i * (c % 128))).length = i + 1) ↔ ¬ (c = 0 ∧ 0 < i) := by
  rw [Nat.mod_eq_of_lt hc]
  rcases Nat.eq_zero_or_pos c with h0 | h0
  · subst h0
    rw [Nat.mul_zero, Nat.add_zero]
    rcases Nat.eq_zero_or_pos i with hi | hi
    · subst hi
      have : acc = 0 := by simpa using hacc
      subst this
      rw [numB_lo (by omega)]
      simp
    · have := numB_len_le (i - 1) acc (by rw [show i - 1 + 1 = i by omega]; exact hacc)
      constructor
      · intro h
        omega
      · intro h
        exact absurd ⟨rfl, hi⟩ h
  · have h1 : 128 ^ i ≤ 128 ^ i * c := Nat.le_mul_of_pos_right _ h0
    have h2 : 128 ^ i * c ≤ 128 ^ i * 127 := Nat.mul_le_mul_left _ (by omega)
    have h3 := numB_len_ge i (acc + 128 ^ i * c) (by omega)
    have h4 := numB_len_le i (acc + 128 ^ i * c) (by rw [Nat.pow_succ]; omega)
    constructor
    · intro _ h
      omega
    · intro _
      omega

end Go.Proofs.YtngenbolpnckhaaDoor

/- Layer 8, plain mathematics: ops, their numbers, bytes and words. -/
namespace Go.Proofs.YtngenbolpnckhaaDoor

/-- An op: its kind, its six numbers. -/
abbrev OpN : Type := Int × Int × Int × Int × Int × Int × Int
def numsO (o : OpN) : List Int := [o.2.1, o.2.2.1, o.2.2.2.1, o.2.2.2.2.1, o.2.2.2.2.2.1, o.2.2.2.2.2.2]
/-- How many numbers a kind has. -/
def manyK (k : Int) : Nat := if k = 1 then 6 else if k = 4 ∨ k = 5 ∨ k = 6 ∨ k = 21 then 0 else if k = 8 ∨ k = 9 ∨ k = 10 ∨ k = 12 ∨ k = 13 ∨ k = 19 ∨ k = 20 then 2 else 1
/-- Its own numbers. -/
def argsO (o : OpN) : List Int := (numsO o).take (manyK o.1)
def inO (n : Int) : Bool := decide (0 ≤ n ∧ n ≤ 1000000)
def rightO (o : OpN) : Bool := decide (1 ≤ o.1 ∧ o.1 ≤ 21) && ((numsO o).all inO && ((numsO o).drop (manyK o.1)).all (fun n => n == 0))
def zeroO : OpN := (0, 0, 0, 0, 0, 0, 0)
/-- An op of a kind and numbers. -/
def opOf (k : Int) (l : List Int) : OpN := (k, l.getD 0 0, l.getD 1 0, l.getD 2 0, l.getD 3 0, l.getD 4 0, l.getD 5 0)
/-- Its bytes. -/
def putO (o : OpN) : List UInt8 := if rightO o = true then listB (o.1 :: argsO o) else []

theorem manyK_le (k : Int) : manyK k ≤ 6 := by
  unfold manyK
  split
  · omega
  · split
    · omega
    · split <;> omega
theorem numsO_len (o : OpN) : (numsO o).length = 6 := rfl
theorem argsO_len (o : OpN) : (argsO o).length = manyK o.1 := by
  have := manyK_le o.1
  rw [argsO, List.length_take, numsO_len]
  omega
theorem rightO_iff {o : OpN} : rightO o = true ↔ (1 ≤ o.1 ∧ o.1 ≤ 21) ∧ (∀ n ∈ numsO o, 0 ≤ n ∧ n ≤ 1000000) ∧ ∀ n ∈ (numsO o).drop (manyK o.1), n = 0 := by
  unfold rightO inO
  simp only [Bool.and_eq_true, decide_eq_true_eq, List.all_eq_true, beq_iff_eq]
theorem args_in {o : OpN} (h : rightO o = true) : ∀ n ∈ argsO o, 0 ≤ n ∧ n ≤ 1000000 := fun n hn => (rightO_iff.1 h).2.1 n (List.mem_of_mem_take hn)
theorem args_isNum {o : OpN} (h : rightO o = true) : (o.1 :: argsO o).all isNumB = true := by
  rw [List.all_eq_true]
  intro n hn
  rw [isNumB_iff]
  rcases List.mem_cons.1 hn with hn | hn
  · have := (rightO_iff.1 h).1
    rw [hn]
    omega
  · have := args_in h n hn
    omega
/-- A right op is that of its kind and its own numbers. -/
theorem opOf_args {o : OpN} (h : rightO o = true) : opOf o.1 (argsO o) = o := by
  obtain ⟨-, -, h0⟩ := rightO_iff.1 h
  have hall : argsO o ++ (numsO o).drop (manyK o.1) = numsO o := List.take_append_drop _ _
  have hz : ∀ (i : Nat), i < 6 → (argsO o).getD i 0 = (numsO o).getD i 0 := by
    intro i hi
    have hl := argsO_len o
    by_cases hlt : i < (argsO o).length
    · rw [← hall, List.getD_eq_getElem?_getD, List.getD_eq_getElem?_getD, List.getElem?_append_left hlt]
    · have hm : (numsO o).getD i 0 ∈ (numsO o).drop (manyK o.1) := by
        rw [List.getD_eq_getElem?_getD, List.getElem?_eq_getElem (by rw [numsO_len]; exact hi), Option.getD_some, List.mem_drop_iff_getElem]
        exact ⟨i - manyK o.1, by rw [numsO_len]; omega, by congr 1; omega⟩
      rw [h0 _ hm, List.getD_eq_getElem?_getD, List.getElem?_eq_none (by omega), Option.getD_none]
  unfold opOf
  rw [hz 0 (by decide), hz 1 (by decide), hz 2 (by decide), hz 3 (by decide), hz 4 (by decide), hz 5 (by decide)]
  rfl
theorem args_toNat {o : OpN} (h : rightO o = true) : ((o.1 :: argsO o).map Int.toNat).map (fun (n : Nat) => (n : Int)) = o.1 :: argsO o := toNat_back _ (args_isNum h)
/-- Its bytes are read as a list. -/
theorem putO_list {o : OpN} (h : rightO o = true) : listAt (putO o) 0 7 = some ((o.1 :: argsO o).map Int.toNat, (putO o).length) := by
  have hl := argsO_len o
  have hm := manyK_le o.1
  have := listAt_put (o.1 :: argsO o) [] [] 7 (args_isNum h) (by rw [List.length_cons]; omega) (by rw [List.length_cons]; omega)
  rw [putO, if_pos h]
  simpa using this
theorem putO_pos {o : OpN} (h : rightO o = true) : 0 < (putO o).length := by
  rw [putO, if_pos h]
  exact listB_pos _
/-- Two right ops of the same bytes are one. -/
theorem putO_inj {o x : OpN} (h : rightO o = true) (g : rightO x = true) (e : putO o = putO x) : o = x := by
  have h1 := putO_list h
  have h2 := putO_list g
  rw [e, h2] at h1
  injection h1 with h1
  have h3 := congrArg (fun (y : List Nat × Nat) => y.1.map (fun (n : Nat) => (n : Int))) h1
  simp only [args_toNat h, args_toNat g] at h3
  injection h3 with h4 h5
  rw [← opOf_args h, ← opOf_args g, h4, h5]
/-- The op of bytes is this one: none has these bytes. -/
def GetO (b : List UInt8) (o : OpN) (ok : Bool) : Prop := (ok = true ∧ rightO o = true ∧ putO o = b) ∨ (ok = false ∧ o = zeroO ∧ ∀ x, rightO x = true → putO x ≠ b)
theorem GetO.one {b : List UInt8} {o x : OpN} {ok is : Bool} (h : GetO b o ok) (g : GetO b x is) : o = x ∧ ok = is := by
  rcases h with ⟨h1, h2, h3⟩ | ⟨h1, h2, h3⟩ <;> rcases g with ⟨g1, g2, g3⟩ | ⟨g1, g2, g3⟩
  · exact ⟨putO_inj h2 g2 (h3.trans g3.symm), by rw [h1, g1]⟩
  · exact absurd h3 (g3 o h2)
  · exact absurd g3 (h3 x g2)
  · exact ⟨by rw [h2, g2], by rw [h1, g1]⟩

/-! ### Words -/
def namesL : List (List UInt8) := [
    [115, 117, 98, 109, 105, 116],
    [99, 97, 110, 99, 101, 108],
    [116, 97, 114, 103, 101, 116],
    [112, 97, 117, 115, 101],
    [114, 101, 115, 117, 109, 101],
    [97, 98, 111, 114, 116],
    [100, 111, 119, 110],
    [117, 112],
    [104, 111, 108, 100],
    [115, 116, 97, 114, 116],
    [117, 110, 104, 111, 108, 100],
    [100, 114, 97, 105, 110],
    [115, 97, 118, 101, 100],
    [101, 118, 105, 99, 116],
    [100, 111, 110, 101],
    [99, 111, 114, 100, 111, 110],
    [117, 110, 99, 111, 114, 100, 111, 110],
    [109, 111, 118, 101],
    [109, 111, 118, 101, 100],
    [115, 104, 114, 105, 110, 107],
    [110, 101, 119, 116, 101, 114, 109]]
def nameK (k : Int) : List UInt8 := if 1 ≤ k ∧ k ≤ 21 then namesL.getD (k - 1).toNat [] else []
def digB (n : Nat) : List UInt8 := if h : n < 10 then [UInt8.ofNat (48 + n)] else digB (n / 10) ++ [UInt8.ofNat (48 + n % 10)]
theorem digB_lo {n : Nat} (h : n < 10) : digB n = [UInt8.ofNat (48 + n)] := by rw [digB, dif_pos h]
theorem digB_hi {n : Nat} (h : ¬ n < 10) : digB n = digB (n / 10) ++ [UInt8.ofNat (48 + n % 10)] := by rw [digB, dif_neg h]
def wordsB (l : List Int) : List UInt8 := l.flatMap fun n => 32 :: digB n.toNat
theorem wordsB_snoc (l : List Int) (n : Int) : wordsB (l ++ [n]) = wordsB l ++ 32 :: digB n.toNat := by simp [wordsB, List.flatMap_append]
def textO (o : OpN) : List UInt8 := if rightO o = true then nameK o.1 ++ wordsB (argsO o) else []

theorem names_len : namesL.length = 21 := rfl
theorem names_ok : ∀ s ∈ namesL, s ≠ [] ∧ ∀ c ∈ s, 97 ≤ c ∧ c ≤ 122 := by decide +kernel
theorem names_inj : ∀ i j : Fin 21, namesL.getD i.val [] = namesL.getD j.val [] → i = j := by decide +kernel
theorem nameK_mem {k : Int} (h : 1 ≤ k ∧ k ≤ 21) : nameK k ∈ namesL := by
  rw [nameK, if_pos h, List.getD_eq_getElem?_getD, List.getElem?_eq_getElem (by rw [names_len]; omega), Option.getD_some]
  exact List.getElem_mem _
theorem nameK_no {k : Int} (h : ¬ (1 ≤ k ∧ k ≤ 21)) : nameK k = [] := by rw [nameK, if_neg h]
theorem nameK_ne {k : Int} (h : 1 ≤ k ∧ k ≤ 21) : nameK k ≠ [] := (names_ok _ (nameK_mem h)).1
theorem nameK_inj {k j : Int} (h : 1 ≤ k ∧ k ≤ 21) (g : 1 ≤ j ∧ j ≤ 21) (e : nameK k = nameK j) : k = j := by
  rw [nameK, nameK, if_pos h, if_pos g] at e
  have := congrArg Fin.val (names_inj ⟨(k - 1).toNat, by omega⟩ ⟨(j - 1).toNat, by omega⟩ e)
  simp only at this
  omega

/-! ### Numbers out of digits -/
theorem dig_toNat {d : Nat} (h : d < 10) : (UInt8.ofNat (48 + d)).toNat = 48 + d := by rw [u8_toNat]; omega
/-- How the numbers are read, byte by byte. -/
def stepP (l : List Int) (c : UInt8) : List Int :=
  if c = 32 then l ++ [0] else if 48 ≤ c.toNat ∧ c.toNat ≤ 57 ∧ l ≠ [] ∧ l.getLastD 0 < 1000000 then l.dropLast ++ [l.getLastD 0 * 10 + (c.toNat : Int) - 48] else l
theorem stepP_blank (l : List Int) : stepP l 32 = l ++ [0] := by rw [stepP, if_pos rfl]
theorem stepP_dig (l : List Int) (m : Int) {d : Nat} (h : d < 10) (hm : m < 1000000) : stepP (l ++ [m]) (UInt8.ofNat (48 + d)) = l ++ [m * 10 + d] := by
  have ht := dig_toNat h
  have hne : ¬ UInt8.ofNat (48 + d) = 32 := fun e => by
    have := congrArg UInt8.toNat e
    rw [ht] at this
    simp at this
    omega
  have hlast : (l ++ [m]).getLastD 0 = m := by simp
  have hdrop : (l ++ [m]).dropLast = l := by simp
  rw [stepP, if_neg hne, ht, hlast, hdrop, if_pos ⟨by omega, by omega, by simp, hm⟩]
  congr 2
  omega
theorem fold_dig : ∀ (n : Nat) (l : List Int), n ≤ 1000000 → (digB n).foldl stepP (l ++ [0]) = l ++ [(n : Int)]
  | n, l, hn => by
    by_cases h : n < 10
    · rw [digB_lo h, List.foldl_cons, List.foldl_nil, stepP_dig l 0 h (by decide)]
      congr 2
      omega
    · have hd : n / 10 < n := by omega
      rw [digB_hi h, List.foldl_append, fold_dig (n / 10) l (by omega), List.foldl_cons, List.foldl_nil, stepP_dig l _ (by omega) (by omega)]
      congr 2
      omega
theorem fold_words : ∀ (a l : List Int), (∀ n ∈ a, 0 ≤ n ∧ n ≤ 1000000) → (wordsB a).foldl stepP l = l ++ a
  | [], l, _ => by simp [wordsB]
  | n :: a, l, h => by
    have hn := h n List.mem_cons_self
    have : wordsB (n :: a) = 32 :: (digB n.toNat ++ wordsB a) := by simp [wordsB]
    rw [this, List.foldl_cons, stepP_blank, List.foldl_append, fold_dig _ _ (by omega), fold_words a _ (fun x hx => h x (List.mem_cons_of_mem _ hx))]
    rw [show ((n.toNat : Nat) : Int) = n by omega, List.append_assoc]
    rfl
theorem wordsB_head {a : List Int} {c : UInt8} {r : List UInt8} (h : wordsB a = c :: r) : c = 32 := by
  cases a with
  | nil => simp [wordsB] at h
  | cons n a =>
    simp [wordsB] at h
    exact h.1.symm
/-- A name, and numbers behind it: both are told by the text. -/
theorem words_cut {s t a b : List UInt8} (hs : ∀ c ∈ s, c ≠ 32) (ht : ∀ c ∈ t, c ≠ 32) (ha : ∀ c r, a = c :: r → c = 32) (hb : ∀ c r, b = c :: r → c = 32) (h : s ++ a = t ++ b) : s = t ∧ a = b := by
  induction s generalizing t with
  | nil =>
    cases t with
    | nil => exact ⟨rfl, h⟩
    | cons c t => exact absurd (ha c _ h) (ht c List.mem_cons_self)
  | cons c s ih =>
    cases t with
    | nil => exact absurd (hb c _ h.symm) (hs c List.mem_cons_self)
    | cons d t =>
      injection h with h1 h2
      obtain ⟨e1, e2⟩ := ih (fun x hx => hs x (List.mem_cons_of_mem _ hx)) (fun x hx => ht x (List.mem_cons_of_mem _ hx)) h2
      exact ⟨by rw [h1, e1], e2⟩
theorem nameK_blank {k : Int} (h : 1 ≤ k ∧ k ≤ 21) : ∀ c ∈ nameK k, c ≠ 32 := fun c hc e => by
  have := ((names_ok _ (nameK_mem h)).2 c hc).1
  rw [e] at this
  exact absurd this (by decide)
theorem textO_inj {o x : OpN} (h : rightO o = true) (g : rightO x = true) (e : textO o = textO x) : o = x := by
  obtain ⟨h1, h2, h3⟩ := rightO_iff.1 h
  obtain ⟨g1, g2, g3⟩ := rightO_iff.1 g
  rw [textO, textO, if_pos h, if_pos g] at e
  obtain ⟨e1, e2⟩ := words_cut (nameK_blank h1) (nameK_blank g1) (fun c r => wordsB_head) (fun c r => wordsB_head) e
  have hk := nameK_inj h1 g1 e1
  have ha : argsO o = argsO x := by
    have p1 := fold_words (argsO o) [] (args_in h)
    have p2 := fold_words (argsO x) [] (args_in g)
    rw [e2, p2] at p1
    simpa using p1.symm
  rw [← opOf_args h, ← opOf_args g, hk, ha]
/-- The op of words is this one: none has these words. -/
def ParseO (s : List UInt8) (o : OpN) (ok : Bool) : Prop := (ok = true ∧ rightO o = true ∧ textO o = s) ∨ (ok = false ∧ o = zeroO ∧ ∀ x, rightO x = true → textO x ≠ s)
theorem ParseO.one {s : List UInt8} {o x : OpN} {ok is : Bool} (h : ParseO s o ok) (g : ParseO s x is) : o = x ∧ ok = is := by
  rcases h with ⟨h1, h2, h3⟩ | ⟨h1, h2, h3⟩ <;> rcases g with ⟨g1, g2, g3⟩ | ⟨g1, g2, g3⟩
  · exact ⟨textO_inj h2 g2 (h3.trans g3.symm), by rw [h1, g1]⟩
  · exact absurd h3 (g3 o h2)
  · exact absurd g3 (h3 x g2)
  · exact ⟨by rw [h2, g2], by rw [h1, g1]⟩

end Go.Proofs.YtngenbolpnckhaaDoor

/- Layer 8, plain mathematics: what bytes are read as. -/
namespace Go.Proofs.YtngenbolpnckhaaDoor

theorem get_back {bs : List UInt8} {x : OpN} (h : rightO x = true) (e : putO x = bs) : ∃ q, listAt bs 0 7 = some ((x.1 :: argsO x).map Int.toNat, q) := by
  rw [← e]
  exact ⟨_, putO_list h⟩
theorem get_none {bs : List UInt8} (h : listAt bs 0 7 = none) : GetO bs zeroO false := .inr ⟨rfl, rfl, fun x hx e => by
  obtain ⟨q, hq⟩ := get_back hx e
  rw [h] at hq
  cases hq⟩
theorem get_nil {bs : List UInt8} {q : Nat} (h : listAt bs 0 7 = some ([], q)) : GetO bs zeroO false := .inr ⟨rfl, rfl, fun x hx e => by
  obtain ⟨q', hq⟩ := get_back hx e
  rw [h] at hq
  cases hq⟩
theorem get_cons {bs : List UInt8} {k : Nat} {l : List Nat} {q : Nat} (h : listAt bs 0 7 = some (k :: l, q)) {x : OpN} (hx : rightO x = true) (e : putO x = bs) : opOf (k : Int) (l.map fun (n : Nat) => (n : Int)) = x := by
  obtain ⟨q', hq⟩ := get_back hx e
  rw [h] at hq
  injection hq with hq
  have h3 : (k :: l).map (fun (n : Nat) => (n : Int)) = x.1 :: argsO x := by
    rw [← args_toNat hx]
    exact congrArg (fun (y : List Nat × Nat) => y.1.map (fun (n : Nat) => (n : Int))) hq
  rw [List.map_cons] at h3
  injection h3 with h4 h5
  rw [h4, h5, opOf_args hx]
theorem put_wrong {o : OpN} (h : rightO o = false) : putO o = [] := by rw [putO, if_neg (by rw [h]; decide)]
theorem put_right {o : OpN} (h : putO o ≠ []) : rightO o = true := by
  cases hr : rightO o
  · exact absurd (put_wrong hr) h
  · rfl
theorem get_empty {bs : List UInt8} {k : Nat} {l : List Nat} {q : Nat} (h : listAt bs 0 7 = some (k :: l, q)) (hp : putO (opOf (k : Int) (l.map fun (n : Nat) => (n : Int))) = []) : GetO bs zeroO false := .inr ⟨rfl, rfl, fun x hx e => by
  rw [get_cons h hx e] at hp
  have := putO_pos hx
  rw [hp] at this
  cases this⟩
theorem get_other {bs : List UInt8} {k : Nat} {l : List Nat} {q : Nat} (h : listAt bs 0 7 = some (k :: l, q)) (hp : putO (opOf (k : Int) (l.map fun (n : Nat) => (n : Int))) ≠ bs) : GetO bs zeroO false := .inr ⟨rfl, rfl, fun x hx e => by
  rw [get_cons h hx e] at hp
  exact hp e⟩
theorem get_same {bs : List UInt8} {o : OpN} (hn : putO o ≠ []) (hp : putO o = bs) : GetO bs o true := .inl ⟨rfl, put_right hn, hp⟩

end Go.Proofs.YtngenbolpnckhaaDoor

/- Layer 8, plain mathematics: bytes that are read whole; an op that is made of what was read. -/
namespace Go.Proofs.YtngenbolpnckhaaDoor

theorem readK_get : ∀ (k : Nat) (bs : List UInt8) (p : Nat) (l : List Nat) (q : Nat), p ≤ bs.length → readK k bs p = some (l, q) → p ≤ q ∧ q ≤ bs.length ∧ numsB (l.map fun (n : Nat) => (n : Int)) = (bs.drop p).take (q - p)
  | 0, bs, p, l, q, hp, h => by
    rw [readK] at h
    injection h with h
    injection h with h1 h2
    subst h1 h2
    exact ⟨Nat.le_refl _, hp, by simp [numsB]⟩
  | k + 1, bs, p, l, q, hp, h => by
    rw [readK] at h
    rcases hg : getN (bs.drop p) with _ | ⟨n, j⟩
    · rw [hg] at h
      cases h
    · rw [hg] at h
      have hj := getN_le hg
      rw [List.length_drop] at hj
      simp only at h
      rcases hr : readK k bs (p + j) with _ | ⟨l', q'⟩
      · rw [hr] at h
        cases h
      · rw [hr] at h
        simp only [Option.some.injEq, Prod.mk.injEq] at h
        obtain ⟨h1, h2⟩ := h
        subst h1 h2
        obtain ⟨i1, i2, i3⟩ := readK_get k bs (p + j) l' q' (by omega) hr
        refine ⟨by omega, i2, ?_⟩
        have hn := getN_get hg
        have e1 : numsB ((n :: l').map fun (n : Nat) => (n : Int)) = numB n ++ numsB (l'.map fun (n : Nat) => (n : Int)) := by simp [numsB]
        rw [e1, i3, hn, ← List.drop_drop]
        have : q' - p = j + (q' - (p + j)) := by omega
        rw [this, List.take_add]
theorem listAt_get {bs : List UInt8} {most : Int} {l : List Nat} {q : Nat} (h : listAt bs 0 most = some (l, q)) : q ≤ bs.length ∧ listB (l.map fun (n : Nat) => (n : Int)) = bs.take q := by
  unfold listAt at h
  rcases hg : getN (bs.drop 0) with _ | ⟨c, j⟩
  · rw [hg] at h
    cases h
  · rw [hg] at h
    have hj := getN_le hg
    simp only at h
    split at h
    · obtain ⟨i1, i2, i3⟩ := readK_get c bs (0 + j) l q (by simpa using hj.2.1) h
      have hl := (readK_le c bs (0 + j) l q (by simpa using hj.2.1) h).2.2.1
      have hn := getN_get hg
      rw [List.drop_zero] at hn
      rw [Nat.zero_add] at i1 i3
      refine ⟨i2, ?_⟩
      rw [listB, i3, List.length_map, hl, hn]
      have : q = j + (q - j) := by omega
      rw [this, List.take_add]
      congr 2
      omega
    · cases h

theorem numsB_len_ge : ∀ (l : List Int), l.length ≤ (numsB l).length
  | [] => by simp
  | n :: l => by
    have h1 := numsB_len_ge l
    have h2 := numB_pos n.toNat
    have e : numsB (n :: l) = numB n.toNat ++ numsB l := by simp [numsB]
    rw [e, List.length_append, List.length_cons]
    omega
theorem listB_len_ge (l : List Int) : l.length ≤ (listB l).length := by
  have := numsB_len_ge l
  rw [listB, List.length_append]
  omega
theorem args_opOf {k : Int} {l : List Int} (h : l.length = manyK k) : argsO (opOf k l) = l := by
  have hm := manyK_le k
  have e : (opOf k l).1 = k := rfl
  rw [argsO, e, ← h]
  match l, (show l.length ≤ 6 by omega) with
  | [], _ => rfl
  | [_], _ => rfl
  | [_, _], _ => rfl
  | [_, _, _], _ => rfl
  | [_, _, _, _], _ => rfl
  | [_, _, _, _, _], _ => rfl
  | [_, _, _, _, _, _], _ => rfl
  | _ :: _ :: _ :: _ :: _ :: _ :: _ :: _, h => exact absurd h (by simp)

/-- The op that is made. -/
def madeOk (k : Int) (l : List Int) : Bool := decide ((1 ≤ k ∧ k ≤ 21) ∧ l.length = manyK k) && rightO (opOf k l)
def madeO (k : Int) (l : List Int) : OpN := if madeOk k l = true then opOf k l else zeroO
theorem madeOk_right {k : Int} {l : List Int} (h : madeOk k l = true) : rightO (opOf k l) = true ∧ l.length = manyK k ∧ madeO k l = opOf k l := by
  have h' := h
  rw [madeOk, Bool.and_eq_true, decide_eq_true_eq] at h'
  exact ⟨h'.2, h'.1.2, by rw [madeO, if_pos h]⟩
theorem madeOk_args {x : OpN} (h : rightO x = true) : madeOk x.1 (argsO x) = true := by
  rw [madeOk, opOf_args h, h, Bool.and_true, decide_eq_true_eq]
  exact ⟨(rightO_iff.1 h).1, argsO_len x⟩
theorem madeO_zero {k : Int} {l : List Int} (h : madeOk k l = false) : madeO k l = zeroO := by rw [madeO, if_neg (by rw [h]; decide)]

/-- The kind of a name; 0 if there is none. -/
def KindIs (s : List UInt8) (kd : Nat) : Prop := (1 ≤ kd ∧ kd ≤ 21 ∧ nameK (kd : Int) = s) ∨ (kd = 0 ∧ ∀ k : Int, 1 ≤ k ∧ k ≤ 21 → nameK k ≠ s)

theorem get_part {bs : List UInt8} {l : List Nat} {q : Nat} (h : listAt bs 0 7 = some (l, q)) (hq : q ≠ bs.length) : GetO bs zeroO false := .inr ⟨rfl, rfl, fun x hx e => by
  have h2 := putO_list hx
  rw [e, h] at h2
  injection h2 with h2
  injection h2 with _ h2
  exact hq h2⟩
theorem get_made {bs : List UInt8} {k : Nat} {l : List Nat} (h : listAt bs 0 7 = some (k :: l, bs.length)) : GetO bs (madeO (k : Int) (l.map fun (n : Nat) => (n : Int))) (madeOk (k : Int) (l.map fun (n : Nat) => (n : Int))) := by
  cases hm : madeOk (k : Int) (l.map fun (n : Nat) => (n : Int)) with
  | true =>
    obtain ⟨h1, h2, h3⟩ := madeOk_right hm
    rw [h3]
    refine .inl ⟨rfl, h1, ?_⟩
    rw [putO, if_pos h1, args_opOf h2]
    have := (listAt_get h).2
    rw [List.take_length] at this
    exact this
  | false =>
    rw [madeO_zero hm]
    refine .inr ⟨rfl, rfl, fun x hx e => ?_⟩
    obtain ⟨q', hq⟩ := get_back hx e
    rw [h] at hq
    injection hq with hq
    have h3 : (k :: l).map (fun (n : Nat) => (n : Int)) = x.1 :: argsO x := by
      rw [← args_toNat hx]
      exact congrArg (fun (y : List Nat × Nat) => y.1.map (fun (n : Nat) => (n : Int))) hq
    rw [List.map_cons] at h3
    injection h3 with h4 h5
    rw [h4, h5, madeOk_args hx] at hm
    cases hm

end Go.Proofs.YtngenbolpnckhaaDoor
