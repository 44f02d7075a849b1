/- Texts that the proof of B rests on, one behind the other. -/
import Derived.WalkKit

/- Layer 1, plain mathematics: the bytes of a number, by its groups of seven bits; no program is named here. -/
namespace Go.Proofs.YtkpcjdhnbjkaaaaDoor

/-- A number's bytes. -/
def numB (n : Nat) : List UInt8 := if h : n < 128 then [UInt8.ofNat n] else UInt8.ofNat (n % 128 + 128) :: numB (n / 128)

theorem numB_lo {n : Nat} (h : n < 128) : numB n = [UInt8.ofNat n] := by rw [numB, dif_pos h]
theorem numB_hi {n : Nat} (h : ¬ n < 128) : numB n = UInt8.ofNat (n % 128 + 128) :: numB (n / 128) := by rw [numB, dif_neg h]

theorem u8_toNat (n : Nat) : (UInt8.ofNat n).toNat = n % 256 := by simp

theorem numB_len_le (k : Nat) : ∀ n, n < 128 ^ (k + 1) → (numB n).length ≤ k + 1 := by
  induction k with
  | zero => intro n h; rw [numB_lo (by simpa using h)]; simp
  | succ k ih =>
    intro n h
    by_cases hn : n < 128
    · rw [numB_lo hn]; simp
    · rw [numB_hi hn, List.length_cons]
      have := ih (n / 128) (by rw [Nat.div_lt_iff_lt_mul (by omega)]; rw [Nat.pow_succ] at h; exact h)
      omega
theorem numB_pos (n : Nat) : 0 < (numB n).length := by
  by_cases hn : n < 128
  · rw [numB_lo hn]; simp
  · rw [numB_hi hn]; simp
theorem numB_len8 {n : Nat} (h : n < 9007199254740992) : (numB n).length ≤ 8 := numB_len_le 7 n (by omega)
theorem numB_len10 {n : Nat} (h : n < 9223372036854775808) : (numB n).length ≤ 9 := numB_len_le 8 n (by omega)

/-- What stands at the head of the bytes l: the groups up to the i-th have been read, they come to acc. -/
def scanN : Nat → List UInt8 → Nat → Nat → Option (Nat × Nat)
  | 0, _, _, _ => none
  | _ + 1, [], _, _ => none
  | k + 1, c :: r, i, acc => if 128 ≤ c.toNat then scanN k r (i + 1) (acc + 128 ^ i * (c.toNat % 128)) else
      if 9007199254740992 ≤ acc + 128 ^ i * (c.toNat % 128) ∨ (c.toNat = 0 ∧ 0 < i) then none else some (acc + 128 ^ i * (c.toNat % 128), i + 1)
def getN (l : List UInt8) : Option (Nat × Nat) := scanN 8 l 0 0

theorem or128_all : ∀ x : Fin 256, bits .or .u8 ((x.val : Nat) : Int) 128 = ((x.val % 128 + 128 : Nat) : Int) := by decide +kernel
theorem or128 (m : Nat) : bits .or .u8 ((m : Int) % 256) 128 = ((UInt8.ofNat (m % 128 + 128)).toNat : Int) := by
  have h := or128_all ⟨m % 256, by omega⟩
  simp only at h
  rw [u8_toNat]
  rw [show ((m : Int) % 256) = ((m % 256 : Nat) : Int) by omega, h]
  omega

theorem pow128 (i : Nat) : 128 ^ i = 2 ^ (7 * i) := by rw [Nat.pow_mul]
theorem pow128_le {i j : Nat} (h : i ≤ j) : 128 ^ i ≤ 128 ^ j := Nat.pow_le_pow_right (by omega) h

theorem ofInt64_toNat (a : Nat) (ha : a < 9223372036854775808) : (BitVec.ofInt 64 (a : Int)).toNat = a := by
  rw [BitVec.ofInt_natCast, BitVec.toNat_ofNat]; exact Nat.mod_eq_of_lt (by omega)
theorem i64_or_nat (a b : Nat) (ha : a < 9223372036854775808) (hb : b < 9223372036854775808) : bits .or .i64 (a : Int) (b : Int) = ((a ||| b : Nat) : Int) := by
  have hx : a ||| b < 2 ^ 63 := Nat.or_lt_two_pow (by omega) (by omega)
  show IntKind.i64.wrap ((BitVec.ofInt 64 (a : Int) ||| BitVec.ofInt 64 (b : Int)).toNat : Int) = _
  rw [BitVec.toNat_or, ofInt64_toNat a ha, ofInt64_toNat b hb, IntKind.wrap_i64]
  omega

theorem group_lt (i acc c : Nat) (_hi : i < 8) (hacc : acc < 128 ^ i) : acc + 128 ^ i * (c % 128) < 128 ^ (i + 1) := by
  rw [Nat.pow_succ]
  have : 128 ^ i * (c % 128) ≤ 128 ^ i * 127 := Nat.mul_le_mul_left _ (by omega)
  omega
theorem or_group (i acc c : Nat) (hi : i < 8) (hacc : acc < 128 ^ i) :
    bits .or .i64 (acc : Int) (RowKit.wrap64 ((c : Int) % 128 * 2 ^ (7 * i))) = ((acc + 128 ^ i * (c % 128) : Nat) : Int) := by
  have h1 := group_lt i acc c hi hacc
  have h2 := pow128_le (show i + 1 ≤ 8 by omega)
  have e : ((c : Int) % 128 * 2 ^ (7 * i)) = ((128 ^ i * (c % 128) : Nat) : Int) := by
    rw [pow128]
    simp [Int.mul_comm]
  rw [e, IntWalk.wrap64_in _ (by omega), i64_or_nat _ _ (by omega) (by omega)]
  congr 1
  rw [Nat.add_comm, pow128, Nat.two_pow_add_eq_or_of_lt (by rw [← pow128]; exact hacc), Nat.or_comm]

theorem scanN_step {k : Nat} {l r : List UInt8} {c : UInt8} (i acc : Nat) (h : l = c :: r) : scanN (k + 1) l i acc = if 128 ≤ c.toNat then scanN k r (i + 1) (acc + 128 ^ i * (c.toNat % 128)) else
      if 9007199254740992 ≤ acc + 128 ^ i * (c.toNat % 128) ∨ (c.toNat = 0 ∧ 0 < i) then none else some (acc + 128 ^ i * (c.toNat % 128), i + 1) := by rw [h, scanN]
theorem drop_cons {bs : List UInt8} {p : Nat} (h : p < bs.length) : bs.drop p = bs[p] :: bs.drop (p + 1) := List.drop_eq_getElem_cons h

/-! ### Lists of numbers -/
def isNumB (n : Int) : Bool := decide (0 ≤ n) && decide (n < 9007199254740992)
theorem isNumB_iff {n : Int} : isNumB n = true ↔ (0 ≤ n ∧ n < 9007199254740992) := by simp [isNumB]
theorem isNumB_not {n : Int} (h : isNumB n = false) : ¬ (0 ≤ n ∧ n < 9007199254740992) := by
  rw [← isNumB_iff, h]; simp
def numsB (l : List Int) : List UInt8 := l.flatMap fun n => numB n.toNat
def listB (l : List Int) : List UInt8 := numB l.length ++ numsB l

theorem numsB_snoc (l : List Int) (n : Int) : numsB (l ++ [n]) = numsB l ++ numB n.toNat := by simp [numsB, List.flatMap_append]
theorem numsB_len (l : List Int) (h : l.all isNumB = true) : (numsB l).length ≤ 8 * l.length := by
  induction l with
  | nil => simp [numsB]
  | cons n l ih =>
    simp only [List.all_cons, Bool.and_eq_true] at h
    have h1 := isNumB_iff.1 h.1
    have h2 := numB_len8 (n := n.toNat) (by omega)
    have h3 := ih h.2
    simp only [numsB, List.flatMap_cons, List.length_append, List.length_cons] at *
    omega
theorem take_snoc {α : Type} (l : List α) (k : Nat) (h : k < l.length) : l.take (k + 1) = l.take k ++ [l[k]] := by
  rw [List.take_succ_eq_append_getElem h]
theorem all_take_snoc {p : Int → Bool} {l : List Int} {k : Nat} (h : k < l.length) (hl : (l.take k).all p = true) (hk : p l[k] = true) : (l.take (k + 1)).all p = true := by
  rw [take_snoc l k h, List.all_append, hl]
  simp [hk]
theorem all_false_at {p : Int → Bool} {l : List Int} {k : Nat} (h : k < l.length) (hk : p l[k] = false) : l.all p = false := by
  rw [List.all_eq_false]
  exact ⟨l[k], List.getElem_mem h, by simp [hk]⟩

/-! ### Reading -/
theorem scanN_le : ∀ (k : Nat) (l : List UInt8) (i acc n j : Nat), scanN k l i acc = some (n, j) → i < j ∧ j - i ≤ l.length ∧ j ≤ i + k ∧ n < 9007199254740992
  | 0, _, _, _, _, _, h => by simp [scanN] at h
  | k + 1, [], _, _, _, _, h => by simp [scanN] at h
  | k + 1, c :: r, i, acc, n, j, h => by
    rw [scanN] at h
    split at h
    · have := scanN_le k r (i + 1) _ n j h
      simp only [List.length_cons]
      omega
    · split at h
      · cases h
      · rename_i hn
        simp only [Option.some.injEq, Prod.mk.injEq] at h
        obtain ⟨h1, h2⟩ := h
        simp only [List.length_cons]
        omega
theorem getN_le {l : List UInt8} {n j : Nat} (h : getN l = some (n, j)) : 0 < j ∧ j ≤ l.length ∧ j ≤ 8 ∧ n < 9007199254740992 := by
  have := scanN_le 8 l 0 0 n j h
  omega

/-- So many numbers, from a place on: they, and the place behind them. -/
def readK : Nat → List UInt8 → Nat → Option (List Nat × Nat)
  | 0, _, p => some ([], p)
  | k + 1, bs, p => match getN (bs.drop p) with
    | none => none
    | some (n, j) => match readK k bs (p + j) with
      | none => none
      | some (l, q) => some (n :: l, q)
theorem readK_le : ∀ (k : Nat) (bs : List UInt8) (p : Nat) (l : List Nat) (q : Nat), p ≤ bs.length → readK k bs p = some (l, q) → p + k ≤ q ∧ q ≤ bs.length ∧ l.length = k ∧ ∀ n ∈ l, n < 9007199254740992
  | 0, bs, p, l, q, hp, h => by
    simp only [readK, Option.some.injEq, Prod.mk.injEq] at h
    obtain ⟨rfl, rfl⟩ := h
    simp
    exact hp
  | k + 1, bs, p, l, q, hp, h => by
    rw [readK] at h
    split at h
    · cases h
    · rename_i n j hg
      split at h
      · cases h
      · rename_i l' q' hr
        simp only [Option.some.injEq, Prod.mk.injEq] at h
        obtain ⟨rfl, rfl⟩ := h
        have h1 := getN_le hg
        rw [List.length_drop] at h1
        have h2 := readK_le k bs (p + j) l' q' (by omega) hr
        refine ⟨by omega, h2.2.1, by simp [h2.2.2.1], fun m hm => ?_⟩
        rcases List.mem_cons.1 hm with rfl | hm
        · omega
        · exact h2.2.2.2 m hm
/-- The text, the list, that stands at a place, and the place behind it. -/
def textAt (bs : List UInt8) (p : Nat) : Option (List UInt8 × Nat) := match getN (bs.drop p) with
  | none => none
  | some (n, j) => if n ≤ bs.length - (p + j) then some ((bs.drop (p + j)).take n, p + j + n) else none
def listAt (bs : List UInt8) (p : Nat) (most : Int) : Option (List Nat × Nat) := match getN (bs.drop p) with
  | none => none
  | some (c, j) => if (c : Int) ≤ most then readK c bs (p + j) else none

theorem isNum_some {n : Int} (h : 0 ≤ n ∧ n < 9007199254740992) : ∃ m : Nat, n = m ∧ m < 9007199254740992 := ⟨n.toNat, by omega, by omega⟩

end Go.Proofs.YtkpcjdhnbjkaaaaDoor

/- Layer 1, plain mathematics: what is put is read again. -/
namespace Go.Proofs.YtkpcjdhnbjkaaaaDoor

theorem split128 (i m : Nat) : 128 ^ i * (m % 128) + 128 ^ (i + 1) * (m / 128) = 128 ^ i * m := by
  rw [Nat.pow_succ, Nat.mul_assoc, ← Nat.mul_add]
  congr 1
  omega

theorem scanN_put : ∀ (k i acc m : Nat) (rest : List UInt8), i + k = 8 → acc + 128 ^ i * m < 9007199254740992 → (0 < m ∨ i = 0) →
    scanN k (numB m ++ rest) i acc = some (acc + 128 ^ i * m, i + (numB m).length)
  | 0, i, acc, m, rest, hk, hlt, hm => by
    obtain rfl : i = 8 := by omega
    have : (128 : Nat) ^ 8 = 72057594037927936 := by decide
    rw [this] at hlt
    omega
  | k + 1, i, acc, m, rest, hk, hlt, hm => by
    by_cases h : m < 128
    · rw [numB_lo h, List.cons_append, List.nil_append, scanN, u8_toNat, Nat.mod_eq_of_lt (show m < 256 by omega), if_neg (by omega), Nat.mod_eq_of_lt h, if_neg (by omega)]
      rfl
    · rw [numB_hi h, List.cons_append, scanN, u8_toNat, Nat.mod_eq_of_lt (show m % 128 + 128 < 256 by omega), if_pos (by omega), show (m % 128 + 128) % 128 = m % 128 by omega]
      have e := split128 i m
      rw [scanN_put k (i + 1) _ (m / 128) rest (by omega) (by omega) (by omega)]
      simp only [List.length_cons]
      congr 2
      · omega
      · omega

theorem getN_put {n : Nat} (h : n < 9007199254740992) (rest : List UInt8) : getN (numB n ++ rest) = some (n, (numB n).length) := by
  rw [getN, scanN_put 8 0 0 n rest (by omega) (by simpa using h) (.inr rfl)]
  simp

theorem scanN_get : ∀ (k : Nat) (l : List UInt8) (i acc n j : Nat), scanN k l i acc = some (n, j) → ∃ m, n = acc + 128 ^ i * m ∧ numB m = l.take (j - i) ∧ (0 < m ∨ i = 0)
  | 0, _, _, _, _, _, h => by simp [scanN] at h
  | k + 1, [], _, _, _, _, h => by simp [scanN] at h
  | k + 1, c :: r, i, acc, n, j, h => by
    have hc := c.toNat_lt
    rw [scanN] at h
    split at h
    · rename_i hge
      have hle := scanN_le k r (i + 1) _ n j h
      obtain ⟨m, h1, h2, h3⟩ := scanN_get k r (i + 1) _ n j h
      have hm : 0 < m := by omega
      refine ⟨c.toNat % 128 + 128 * m, ?_, ?_, .inl (by omega)⟩
      · have e := split128 i (c.toNat % 128 + 128 * m)
        rw [show (c.toNat % 128 + 128 * m) % 128 = c.toNat % 128 by omega, show (c.toNat % 128 + 128 * m) / 128 = m by omega] at e
        omega
      · rw [numB_hi (by omega), show (c.toNat % 128 + 128 * m) % 128 + 128 = c.toNat by omega, show (c.toNat % 128 + 128 * m) / 128 = m by omega, h2, show j - i = (j - (i + 1)) + 1 by omega, List.take_succ_cons]
        simp
    · split at h
      · cases h
      · rename_i hge hn
        simp only [Option.some.injEq, Prod.mk.injEq] at h
        obtain ⟨h1, h2⟩ := h
        refine ⟨c.toNat, by rw [← h1, Nat.mod_eq_of_lt (by omega)], ?_, by omega⟩
        rw [numB_lo (by omega), show j - i = 1 by omega]
        simp

theorem getN_get {l : List UInt8} {n j : Nat} (h : getN l = some (n, j)) : numB n = l.take j := by
  obtain ⟨m, h1, h2, _⟩ := scanN_get 8 l 0 0 n j h
  have : n = m := by omega
  rw [this, h2]
  simp

theorem readK_put : ∀ (l : List Int) (pre rest : List UInt8), l.all isNumB = true → readK l.length (pre ++ (numsB l ++ rest)) pre.length = some (l.map Int.toNat, pre.length + (numsB l).length)
  | [], pre, rest, _ => by simp [readK, numsB]
  | n :: l, pre, rest, h => by
    simp only [List.all_cons, Bool.and_eq_true] at h
    have h1 := isNumB_iff.1 h.1
    have e : numsB (n :: l) = numB n.toNat ++ numsB l := by simp [numsB]
    rw [List.length_cons, readK, List.drop_left, e, List.append_assoc, getN_put (by omega)]
    have ih := readK_put l (pre ++ numB n.toNat) rest h.2
    rw [List.length_append, List.append_assoc] at ih
    simp only [ih]
    simp [Nat.add_assoc]

theorem listAt_put (l : List Int) (pre rest : List UInt8) (most : Int) (h : l.all isNumB = true) (hl : l.length < 9007199254740992) (hm : (l.length : Int) ≤ most) :
    listAt (pre ++ (listB l ++ rest)) pre.length most = some (l.map Int.toNat, pre.length + (listB l).length) := by
  rw [listAt, List.drop_left, listB, List.append_assoc, getN_put hl]
  simp only [hm, if_true]
  have := readK_put l (pre ++ numB l.length) rest h
  rw [List.length_append, List.append_assoc] at this
  rw [this]
  simp [Nat.add_assoc]
theorem listAt_less (l : List Int) (pre rest : List UInt8) (most : Int) (hl : l.length < 9007199254740992) (hm : ¬ (l.length : Int) ≤ most) : listAt (pre ++ (listB l ++ rest)) pre.length most = none := by
  rw [listAt, List.drop_left, listB, List.append_assoc, getN_put hl]
  simp only [hm, if_false]
theorem textAt_put (s pre rest : List UInt8) (h : s.length < 9007199254740992) : textAt (pre ++ (numB s.length ++ s ++ rest)) pre.length = some (s, pre.length + (numB s.length ++ s).length) := by
  rw [textAt, List.drop_left, List.append_assoc, getN_put h]
  simp only [List.length_append]
  rw [if_pos (by omega)]
  have e : (pre ++ (numB s.length ++ (s ++ rest))).drop (pre.length + (numB s.length).length) = s ++ rest := by
    rw [← List.append_assoc, ← List.length_append, List.drop_left]
  rw [e, List.take_left, Nat.add_assoc]

theorem toNat_back (l : List Int) (h : l.all isNumB = true) : (l.map Int.toNat).map (fun (n : Nat) => (n : Int)) = l := by
  rw [List.map_map]
  conv => rhs; rw [← List.map_id l]
  refine List.map_congr_left fun n hn => ?_
  have := isNumB_iff.1 (List.all_eq_true.1 h n hn)
  simp
  omega

theorem listB_pos (l : List Int) : 0 < (listB l).length := by
  have := numB_pos l.length
  simp only [listB, List.length_append]
  omega
theorem listB_le (l : List Int) (h : l.all isNumB = true) (hl : l.length ≤ 17592186043904) : (listB l).length ≤ 8 + 8 * l.length := by
  have h1 := numB_len8 (n := l.length) (by omega)
  have h2 := numsB_len l h
  simp only [listB, List.length_append]
  omega

theorem numB_len_ge : ∀ (k n : Nat), 128 ^ k ≤ n → k + 1 ≤ (numB n).length
  | 0, n, _ => by have := numB_pos n; omega
  | k + 1, n, h => by
    rw [Nat.pow_succ] at h
    have h1 : 0 < 128 ^ k := Nat.pow_pos (by omega)
    rw [numB_hi (by omega), List.length_cons]
    have := numB_len_ge k (n / 128) (by rw [Nat.le_div_iff_mul_le (by omega)]; exact h)
    omega
theorem numB_group_len {i acc c : Nat} (hacc : acc < 128 ^ i) (hc : c < 128) : ((numB (acc + 128 ^ i * (c % 128))).length = i + 1) ↔ ¬ (c = 0 ∧ 0 < i) := by
  rw [Nat.mod_eq_of_lt hc]
  rcases Nat.eq_zero_or_pos c with h0 | h0
  · subst h0
    rw [Nat.mul_zero, Nat.add_zero]
    rcases Nat.eq_zero_or_pos i with hi | hi
    · subst hi
      have : acc = 0 := by simpa using hacc
      subst this
      rw [numB_lo (by omega)]
      simp
    · have := numB_len_le (i - 1) acc (by rw [show i - 1 + 1 = i by omega]; exact hacc)
      constructor
      · intro h
        omega
      · intro h
        exact absurd ⟨rfl, hi⟩ h
  · have h1 : 128 ^ i ≤ 128 ^ i * c := Nat.le_mul_of_pos_right _ h0
    have h2 : 128 ^ i * c ≤ 128 ^ i * 127 := Nat.mul_le_mul_left _ (by omega)
    have h3 := numB_len_ge i (acc + 128 ^ i * c) (by omega)
    have h4 := numB_len_le i (acc + 128 ^ i * c) (by rw [Nat.pow_succ]; omega)
    constructor
    · intro _ h
      omega
    · intro _
      omega

end Go.Proofs.YtkpcjdhnbjkaaaaDoor

/- Layer 8, plain mathematics: ops, their numbers, bytes and words. -/
namespace Go.Proofs.YtkpcjdhnbjkaaaaDoor

/-- An op: its kind, its six numbers. -/
abbrev OpN : Type := Int × Int × Int × Int × Int × Int × Int
def numsO (o : OpN) : List Int := [o.2.1, o.2.2.1, o.2.2.2.1, o.2.2.2.2.1, o.2.2.2.2.2.1, o.2.2.2.2.2.2]
/-- How many numbers a kind has. -/
def manyK (k : Int) : Nat := if k = 1 then 6 else if k = 4 ∨ k = 5 ∨ k = 6 ∨ k = 21 then 0 else if k = 8 ∨ k = 9 ∨ k = 10 ∨ k = 12 ∨ k = 13 ∨ k = 19 ∨ k = 20 then 2 else 1
/-- Its own numbers. -/
def argsO (o : OpN) : List Int := (numsO o).take (manyK o.1)
def inO (n : Int) : Bool := decide (0 ≤ n ∧ n ≤ 1000000)
def rightO (o : OpN) : Bool := decide (1 ≤ o.1 ∧ o.1 ≤ 21) && ((numsO o).all inO && ((numsO o).drop (manyK o.1)).all (fun n => n == 0))
def zeroO : OpN := (0, 0, 0, 0, 0, 0, 0)
/-- An op of a kind and numbers. -/
def opOf (k : Int) (l : List Int) : OpN := (k, l.getD 0 0, l.getD 1 0, l.getD 2 0, l.getD 3 0, l.getD 4 0, l.getD 5 0)
/-- Its bytes. -/
def putO (o : OpN) : List UInt8 := if rightO o = true then listB (o.1 :: argsO o) else []

theorem manyK_le (k : Int) : manyK k ≤ 6 := by
  unfold manyK
  split
  · omega
  · split
    · omega
    · split <;> omega
theorem numsO_len (o : OpN) : (numsO o).length = 6 := rfl
theorem argsO_len (o : OpN) : (argsO o).length = manyK o.1 := by
  have := manyK_le o.1
  rw [argsO, List.length_take, numsO_len]
  omega
theorem rightO_iff {o : OpN} : rightO o = true ↔ (1 ≤ o.1 ∧ o.1 ≤ 21) ∧ (∀ n ∈ numsO o, 0 ≤ n ∧ n ≤ 1000000) ∧ ∀ n ∈ (numsO o).drop (manyK o.1), n = 0 := by
  unfold rightO inO
  simp only [Bool.and_eq_true, decide_eq_true_eq, List.all_eq_true, beq_iff_eq]
theorem args_in {o : OpN} (h : rightO o = true) : ∀ n ∈ argsO o, 0 ≤ n ∧ n ≤ 1000000 := fun n hn => (rightO_iff.1 h).2.1 n (List.mem_of_mem_take hn)
theorem args_isNum {o : OpN} (h : rightO o = true) : (o.1 :: argsO o).all isNumB = true := by
  rw [List.all_eq_true]
  intro n hn
  rw [isNumB_iff]
  rcases List.mem_cons.1 hn with hn | hn
  · have := (rightO_iff.1 h).1
    rw [hn]
    omega
  · have := args_in h n hn
    omega
/-- A right op is that of its kind and its own numbers. -/
theorem opOf_args {o : OpN} (h : rightO o = true) : opOf o.1 (argsO o) = o := by
  obtain ⟨-, -, h0⟩ := rightO_iff.1 h
  have hall : argsO o ++ (numsO o).drop (manyK o.1) = numsO o := List.take_append_drop _ _
  have hz : ∀ (i : Nat), i < 6 → (argsO o).getD i 0 = (numsO o).getD i 0 := by
    intro i hi
    have hl := argsO_len o
    by_cases hlt : i < (argsO o).length
    · rw [← hall, List.getD_eq_getElem?_getD, List.getD_eq_getElem?_getD, List.getElem?_append_left hlt]
    · have hm : (numsO o).getD i 0 ∈ (numsO o).drop (manyK o.1) := by
        rw [List.getD_eq_getElem?_getD, List.getElem?_eq_getElem (by rw [numsO_len]; exact hi), Option.getD_some, List.mem_drop_iff_getElem]
        exact ⟨i - manyK o.1, by rw [numsO_len]; omega, by congr 1; omega⟩
      rw [h0 _ hm, List.getD_eq_getElem?_getD, List.getElem?_eq_none (by omega), Option.getD_none]
  unfold opOf
  rw [hz 0 (by decide), hz 1 (by decide), hz 2 (by decide), hz 3 (by decide), hz 4 (by decide), hz 5 (by decide)]
  rfl
theorem args_toNat {o : OpN} (h : rightO o = true) : ((o.1 :: argsO o).map Int.toNat).map (fun (n : Nat) => (n : Int)) = o.1 :: argsO o := toNat_back _ (args_isNum h)
/-- Its bytes are read as a list. -/
theorem putO_list {o : OpN} (h : rightO o = true) : listAt (putO o) 0 7 = some ((o.1 :: argsO o).map Int.toNat, (putO o).length) := by
  have hl := argsO_len o
  have hm := manyK_le o.1
  have := listAt_put (o.1 :: argsO o) [] [] 7 (args_isNum h) (by rw [List.length_cons]; omega) (by rw [List.length_cons]; omega)
  rw [putO, if_pos h]
  simpa using this
theorem putO_pos {o : OpN} (h : rightO o = true) : 0 < (putO o).length := by
  rw [putO, if_pos h]
  exact listB_pos _
/-- Two right ops of the same bytes are one. -/
theorem putO_inj {o x : OpN} (h : rightO o = true) (g : rightO x = true) (e : putO o = putO x) : o = x := by
  have h1 := putO_list h
  have h2 := putO_list g
  rw [e, h2] at h1
  injection h1 with h1
  have h3 := congrArg (fun (y : List Nat × Nat) => y.1.map (fun (n : Nat) => (n : Int))) h1
  simp only [args_toNat h, args_toNat g] at h3
  injection h3 with h4 h5
  rw [← opOf_args h, ← opOf_args g, h4, h5]
/-- The op of bytes is this one: none has these bytes. -/
def GetO (b : List UInt8) (o : OpN) (ok : Bool) : Prop := (ok = true ∧ rightO o = true ∧ putO o = b) ∨ (ok = false ∧ o = zeroO ∧ ∀ x, rightO x = true → putO x ≠ b)
theorem GetO.one {b : List UInt8} {o x : OpN} {ok is : Bool} (h : GetO b o ok) (g : GetO b x is) : o = x ∧ ok = is := by
  rcases h with ⟨h1, h2, h3⟩ | ⟨h1, h2, h3⟩ <;> rcases g with ⟨g1, g2, g3⟩ | ⟨g1, g2, g3⟩
  · exact ⟨putO_inj h2 g2 (h3.trans g3.symm), by rw [h1, g1]⟩
  · exact absurd h3 (g3 o h2)
  · exact absurd g3 (h3 x g2)
  · exact ⟨by rw [h2, g2], by rw [h1, g1]⟩

/-! ### Words -/
def namesL : List (List UInt8) := [
    [115, 117, 98, 109, 105, 116],
    [99, 97, 110, 99, 101, 108],
    [116, 97, 114, 103, 101, 116],
    [112, 97, 117, 115, 101],
    [114, 101, 115, 117, 109, 101],
    [97, 98, 111, 114, 116],
    [100, 111, 119, 110],
    [117, 112],
    [104, 111, 108, 100],
    [115, 116, 97, 114, 116],
    [117, 110, 104, 111, 108, 100],
    [100, 114, 97, 105, 110],
    [115, 97, 118, 101, 100],
    [101, 118, 105, 99, 116],
    [100, 111, 110, 101],
    [99, 111, 114, 100, 111, 110],
    [117, 110, 99, 111, 114, 100, 111, 110],
    [109, 111, 118, 101],
    [109, 111, 118, 101, 100],
    [115, 104, 114, 105, 110, 107],
    [110, 101, 119, 116, 101, 114, 109]]
def nameK (k : Int) : List UInt8 := if 1 ≤ k ∧ k ≤ 21 then namesL.getD (k - 1).toNat [] else []
def digB (n : Nat) : List UInt8 := if h : n < 10 then [UInt8.ofNat (48 + n)] else digB (n / 10) ++ [UInt8.ofNat (48 + n % 10)]
theorem digB_lo {n : Nat} (h : n < 10) : digB n = [UInt8.ofNat (48 + n)] := by rw [digB, dif_pos h]
theorem digB_hi {n : Nat} (h : ¬ n < 10) : digB n = digB (n / 10) ++ [UInt8.ofNat (48 + n % 10)] := by rw [digB, dif_neg h]
def wordsB (l : List Int) : List UInt8 := l.flatMap fun n => 32 :: digB n.toNat
theorem wordsB_snoc (l : List Int) (n : Int) : wordsB (l ++ [n]) = wordsB l ++ 32 :: digB n.toNat := by simp [wordsB, List.flatMap_append]
def textO (o : OpN) : List UInt8 := if rightO o = true then nameK o.1 ++ wordsB (argsO o) else []

theorem names_len : namesL.length = 21 := rfl
theorem names_ok : ∀ s ∈ namesL, s ≠ [] ∧ ∀ c ∈ s, 97 ≤ c ∧ c ≤ 122 := by decide +kernel
theorem names_inj : ∀ i j : Fin 21, namesL.getD i.val [] = namesL.getD j.val [] → i = j := by decide +kernel
theorem nameK_mem {k : Int} (h : 1 ≤ k ∧ k ≤ 21) : nameK k ∈ namesL := by
  rw [nameK, if_pos h, List.getD_eq_getElem?_getD, List.getElem?_eq_getElem (by rw [names_len]; omega), Option.getD_some]
  exact List.getElem_mem _
theorem nameK_no {k : Int} (h : ¬ (1 ≤ k ∧ k ≤ 21)) : nameK k = [] := by rw [nameK, if_neg h]
theorem nameK_ne {k : Int} (h : 1 ≤ k ∧ k ≤ 21) : nameK k ≠ [] := (names_ok _ (nameK_mem h)).1
theorem nameK_inj {k j : Int} (h : 1 ≤ k ∧ k ≤ 21) (g : 1 ≤ j ∧ j ≤ 21) (e : nameK k = nameK j) : k = j := by
  rw [nameK, nameK, if_pos h, if_pos g] at e
  have := congrArg Fin.val (names_inj ⟨(k - 1).toNat, by omega⟩ ⟨(j - 1).toNat, by omega⟩ e)
  simp only at this
  omega

/-! ### Numbers out of digits -/
theorem dig_toNat {d : Nat} (h : d < 10) : (UInt8.ofNat (48 + d)).toNat = 48 + d := by rw [u8_toNat]; omega
/-- How the numbers are read, byte by byte. -/
def stepP (l : List Int) (c : UInt8) : List Int :=
  if c = 32 then l ++ [0] else if 48 ≤ c.toNat ∧ c.toNat ≤ 57 ∧ l ≠ [] ∧ l.getLastD 0 < 1000000 then l.dropLast ++ [l.getLastD 0 * 10 + (c.toNat : Int) - 48] else l
theorem stepP_blank (l : List Int) : stepP l 32 = l ++ [0] := by rw [stepP, if_pos rfl]
theorem stepP_dig (l : List Int) (m : Int) {d : Nat} (h : d < 10) (hm : m < 1000000) : stepP (l ++ [m]) (UInt8.ofNat (48 + d)) = l ++ [m * 10 + d] := by
  have ht := dig_toNat h
  have hne : ¬ UInt8.ofNat (48 + d) = 32 := fun e => by
    have := congrArg UInt8.toNat e
    rw [ht] at this
    simp at this
    omega
  have hlast : (l ++ [m]).getLastD 0 = m := by simp
  have hdrop : (l ++ [m]).dropLast = l := by simp
  rw [stepP, if_neg hne, ht, hlast, hdrop, if_pos ⟨by omega, by omega, by simp, hm⟩]
  congr 2
  omega
theorem fold_dig : ∀ (n : Nat) (l : List Int), n ≤ 1000000 → (digB n).foldl stepP (l ++ [0]) = l ++ [(n : Int)]
  | n, l, hn => by
    by_cases h : n < 10
    · rw [digB_lo h, List.foldl_cons, List.foldl_nil, stepP_dig l 0 h (by decide)]
      congr 2
      omega
    · have hd : n / 10 < n := by omega
      rw [digB_hi h, List.foldl_append, fold_dig (n / 10) l (by omega), List.foldl_cons, List.foldl_nil, stepP_dig l _ (by omega) (by omega)]
      congr 2
      omega
theorem fold_words : ∀ (a l : List Int), (∀ n ∈ a, 0 ≤ n ∧ n ≤ 1000000) → (wordsB a).foldl stepP l = l ++ a
  | [], l, _ => by simp [wordsB]
  | n :: a, l, h => by
    have hn := h n List.mem_cons_self
    have : wordsB (n :: a) = 32 :: (digB n.toNat ++ wordsB a) := by simp [wordsB]
    rw [this, List.foldl_cons, stepP_blank, List.foldl_append, fold_dig _ _ (by omega), fold_words a _ (fun x hx => h x (List.mem_cons_of_mem _ hx))]
    rw [show ((n.toNat : Nat) : Int) = n by omega, List.append_assoc]
    rfl
theorem wordsB_head {a : List Int} {c : UInt8} {r : List UInt8} (h : wordsB a = c :: r) : c = 32 := by
  cases a with
  | nil => simp [wordsB] at h
  | cons n a =>
    simp [wordsB] at h
    exact h.1.symm
/-- A name, and numbers behind it: both are told by the text. -/
theorem words_cut {s t a b : List UInt8} (hs : ∀ c ∈ s, c ≠ 32) (ht : ∀ c ∈ t, c ≠ 32) (ha : ∀ c r, a = c :: r → c = 32) (hb : ∀ c r, b = c :: r → c = 32) (h : s ++ a = t ++ b) : s = t ∧ a = b := by
  induction s generalizing t with
  | nil =>
    cases t with
    | nil => exact ⟨rfl, h⟩
    | cons c t => exact absurd (ha c _ h) (ht c List.mem_cons_self)
  | cons c s ih =>
    cases t with
    | nil => exact absurd (hb c _ h.symm) (hs c List.mem_cons_self)
    | cons d t =>
      injection h with h1 h2
      obtain ⟨e1, e2⟩ := ih (fun x hx => hs x (List.mem_cons_of_mem _ hx)) (fun x hx => ht x (List.mem_cons_of_mem _ hx)) h2
      exact ⟨by rw [h1, e1], e2⟩
theorem nameK_blank {k : Int} (h : 1 ≤ k ∧ k ≤ 21) : ∀ c ∈ nameK k, c ≠ 32 := fun c hc e => by
  have := ((names_ok _ (nameK_mem h)).2 c hc).1
  rw [e] at this
  exact absurd this (by decide)
theorem textO_inj {o x : OpN} (h : rightO o = true) (g : rightO x = true) (e : textO o = textO x) : o = x := by
  obtain ⟨h1, h2, h3⟩ := rightO_iff.1 h
  obtain ⟨g1, g2, g3⟩ := rightO_iff.1 g
  rw [textO, textO, if_pos h, if_pos g] at e
  obtain ⟨e1, e2⟩ := words_cut (nameK_blank h1) (nameK_blank g1) (fun c r => wordsB_head) (fun c r => wordsB_head) e
  have hk := nameK_inj h1 g1 e1
  have ha : argsO o = argsO x := by
    have p1 := fold_words (argsO o) [] (args_in h)
    have p2 := fold_words (argsO x) [] (args_in g)
    rw [e2, p2] at p1
    simpa using p1.symm
  rw [← opOf_args h, ← opOf_args g, hk, ha]
/-- The op of words is this one: none has these words. -/
def ParseO (s : List UInt8) (o : OpN) (ok : Bool) : Prop := (ok = true ∧ rightO o = true ∧ textO o = s) ∨ (ok = false ∧ o = zeroO ∧ ∀ x, rightO x = true → textO x ≠ s)
theorem ParseO.one {s : List UInt8} {o x : OpN} {ok is : Bool} (h : ParseO s o ok) (g : ParseO s x is) : o = x ∧ ok = is := by
  rcases h with ⟨h1, h2, h3⟩ | ⟨h1, h2, h3⟩ <;> rcases g with ⟨g1, g2, g3⟩ | ⟨g1, g2, g3⟩
  · exact ⟨textO_inj h2 g2 (h3.trans g3.symm), by rw [h1, g1]⟩
  · exact absurd h3 (g3 o h2)
  · exact absurd g3 (h3 x g2)
  · exact ⟨by rw [h2, g2], by rw [h1, g1]⟩

end Go.Proofs.YtkpcjdhnbjkaaaaDoor

/- Layer 9, plain mathematics: fleets, states, and what may be. No program is named here. -/
namespace Go.Proofs.YtkpcjdhnbjkaaaaDoor

/-- A fleet. -/
structure Cf where
  nodes : Int
  queues : Int
  quota : Int
  wave : Int
  lease : Int
  retry : Int
  deadline : Int
  room : Int
  disk : Int

/-- A job. -/
structure Jb where
  queue : Int
  prio : Int
  least : Int
  most : Int
  work : Int
  pin : Int
  phase : Int
  inc : Int
  nodes : Int
  since : Int
  til : Int
  epoch : Int

/-- A node. -/
structure Nd where
  up : Bool
  cordon : Bool
  moving : Bool
  version : Int
  job : Int

/-- A state. -/
structure St where
  nodes : List Nd
  jobs : List Jb
  goal : Int
  prior : Int
  mode : Int
  term : Int

def inR (n lo hi : Int) : Bool := decide (lo ≤ n ∧ n ≤ hi)
theorem inR_iff {n lo hi : Int} : inR n lo hi = true ↔ lo ≤ n ∧ n ≤ hi := by unfold inR; simp

def mayC (c : Cf) : Bool := inR c.nodes 1 6 && inR c.queues 1 3 && inR c.quota 0 4 && inR c.wave 1 6 && inR c.lease 2 30 && inR c.retry 1 20 && inR c.deadline 1 60 && inR c.room 0 5000 && inR c.disk 2000 40000

/-- Is the node i in the set? -/
def hasS (set : Int) (i : Nat) : Bool := decide (set / 2 ^ i % 2 = 1)
/-- How many of six are. -/
def manyS (set : Int) : Nat := ((List.range 6).filter (hasS set)).length

def newN : Nd := ⟨true, false, false, 1, 0⟩
def newS (n : Nat) : St := ⟨List.replicate n newN, [], 1, 1, 0, 0⟩
def zeroS : St := ⟨[], [], 0, 0, 0, 0⟩
def meantS (s : St) : Int := if s.mode = 2 then s.prior else s.goal
def freeN (n : Nd) : Bool := n.up && !n.cordon && !n.moving && decide (n.job = 0)
def drainsS (s : St) (q : Int) : Nat := (s.jobs.filter fun j => decide (j.queue = q ∧ j.phase = 3)).length

/-- A job's numbers are such as may be submitted. -/
def askedJ (c : Cf) (j : Jb) : Bool := inR j.queue 0 (c.queues - 1) && inR j.prio 0 9 && inR j.least 1 j.most && decide (j.most ≤ c.nodes) && inR j.work 1 1000 && inR j.pin 0 9

/-- Nodes are as many as a job may have, and all of one version that it may have. -/
structure FitsP (s : St) (j : Jb) (set : Int) : Prop where
  low : 0 ≤ set
  high : set < 2 ^ s.nodes.length
  least : j.least ≤ (manyS set : Int)
  most : (manyS set : Int) ≤ j.most
  pin : ∀ i n, s.nodes[i]? = some n → hasS set i = true → j.pin ≠ 0 → n.version = j.pin
  one : ∀ i n k m, s.nodes[i]? = some n → hasS set i = true → s.nodes[k]? = some m → hasS set k = true → n.version = m.version

structure NodeP (s : St) (n : Nd) : Prop where
  v1 : 1 ≤ n.version
  v9 : n.version ≤ 9
  j0 : 0 ≤ n.job
  jl : n.job ≤ s.jobs.length
  mv : n.moving = true → n.up = true ∧ n.cordon = true ∧ n.job = 0

structure JobP (c : Cf) (s : St) (k : Nat) (j : Jb) : Prop where
  asked : askedJ c j = true
  p0 : 0 ≤ j.phase
  p4 : j.phase ≤ 4
  i0 : 0 ≤ j.inc
  i9 : j.inc ≤ 1000000
  s0 : 0 ≤ j.since
  s9 : j.since ≤ 1000000
  t0 : 0 ≤ j.til
  t9 : j.til ≤ 1000000
  e0 : 0 ≤ j.epoch
  e9 : j.epoch ≤ j.inc
  fits : 1 ≤ j.phase → j.phase ≤ 3 → FitsP s j j.nodes
  none_ : ¬ (1 ≤ j.phase ∧ j.phase ≤ 3) → j.nodes = 0
  own : ∀ i n, s.nodes[i]? = some n → (n.job = (k : Int) + 1 ↔ hasS j.nodes i = true)
  host : ∀ (i : Nat) n, s.nodes[i]? = some n → n.job = (k : Int) + 1 → n.up = true ∧ n.moving = false

/-- A state may be. -/
structure RightP (c : Cf) (s : St) : Prop where
  may : mayC c = true
  nn : (s.nodes.length : Int) = c.nodes
  nj : s.jobs.length ≤ 24
  g1 : 1 ≤ s.goal
  g9 : s.goal ≤ 9
  p1 : 1 ≤ s.prior
  p9 : s.prior ≤ 9
  m0 : 0 ≤ s.mode
  m2 : s.mode ≤ 2
  t0 : 0 ≤ s.term
  t9 : s.term ≤ 1000000
  node : ∀ (i : Nat) n, s.nodes[i]? = some n → NodeP s n
  job : ∀ k j, s.jobs[k]? = some j → JobP c s k j
  drains : ∀ q : Nat, (q : Int) < c.queues → (drainsS s q : Int) ≤ c.quota

theorem hasS_zero (i : Nat) : hasS 0 i = false := by simp [hasS]
theorem hasS_nat (m i : Nat) : hasS (m : Int) i = m.testBit i := by
  rw [hasS, Nat.testBit_eq_decide_div_mod_eq]
  congr 1
  rw [eq_iff_iff]
  have h : ((2 : Int) ^ i) = ((2 ^ i : Nat) : Int) := by simp
  rw [h]
  omega
theorem RightP.len {c : Cf} {s : St} (h : RightP c s) : 1 ≤ s.nodes.length ∧ s.nodes.length ≤ 6 := by
  have h1 := h.may
  have h2 := h.nn
  simp only [mayC, Bool.and_eq_true, inR_iff] at h1
  omega
theorem FitsP.lt64 {s : St} {j : Jb} {set : Int} (h : FitsP s j set) (hn : s.nodes.length ≤ 6) : 0 ≤ set ∧ set < 64 := by
  refine ⟨h.low, Int.lt_of_lt_of_le h.high ?_⟩
  have : 2 ^ s.nodes.length ≤ 2 ^ 6 := Nat.pow_le_pow_right (by decide) hn
  have h2 : ((2 ^ s.nodes.length : Nat) : Int) = (2 : Int) ^ s.nodes.length := by simp
  omega
theorem JobP.lt64 {c : Cf} {s : St} {k : Nat} {j : Jb} (h : JobP c s k j) (hn : s.nodes.length ≤ 6) : 0 ≤ j.nodes ∧ j.nodes < 64 := by
  by_cases hp : 1 ≤ j.phase ∧ j.phase ≤ 3
  · exact (h.fits hp.1 hp.2).lt64 hn
  · rw [h.none_ hp]
    omega

/-! ### As the program asks it -/
/-- A node, as the program asks it. -/
def NodeL (s : St) (i : Nat) (n : Nd) : Prop :=
  (1 ≤ n.version ∧ n.version ≤ 9) ∧ (n.moving = true → n.up = true ∧ n.cordon = true ∧ n.job = 0) ∧ (n.job = 0 ∨ ∃ k j, n.job = (k : Nat) + 1 ∧ s.jobs[k]? = some j ∧ hasS j.nodes i = true)
def CarriedL (s : St) (k : Nat) (j : Jb) : Prop := ∀ i n, s.nodes[i]? = some n → hasS j.nodes i = true → n.up = true ∧ n.moving = false ∧ n.job = (k : Int) + 1
def JobL (c : Cf) (s : St) (k : Nat) (j : Jb) : Prop :=
  askedJ c j = true ∧ (0 ≤ j.inc ∧ j.inc ≤ 1000000) ∧ (0 ≤ j.epoch ∧ j.epoch ≤ j.inc) ∧ (0 ≤ j.since ∧ j.since ≤ 1000000) ∧ (0 ≤ j.til ∧ j.til ≤ 1000000) ∧
    (((j.phase = 0 ∨ j.phase = 4) ∧ j.nodes = 0) ∨ ((1 ≤ j.phase ∧ j.phase ≤ 3) ∧ FitsP s j j.nodes ∧ CarriedL s k j))

theorem JobL.iff {c : Cf} {s : St} (hn : ∀ i n, s.nodes[i]? = some n → NodeL s i n) :
    (∀ k j, s.jobs[k]? = some j → JobP c s k j) ↔ (∀ k j, s.jobs[k]? = some j → JobL c s k j) := by
  constructor
  · intro h k j hj
    have h1 := h k j hj
    refine ⟨h1.asked, ⟨h1.i0, h1.i9⟩, ⟨h1.e0, h1.e9⟩, ⟨h1.s0, h1.s9⟩, ⟨h1.t0, h1.t9⟩, ?_⟩
    by_cases hp : 1 ≤ j.phase ∧ j.phase ≤ 3
    · refine .inr ⟨hp, h1.fits hp.1 hp.2, fun i n hi hh => ?_⟩
      have h2 := (h1.own i n hi).2 hh
      exact ⟨(h1.host i n hi h2).1, (h1.host i n hi h2).2, h2⟩
    · have := h1.p0
      have := h1.p4
      exact .inl ⟨by omega, h1.none_ hp⟩
  · intro h k j hj
    obtain ⟨a, b, c', d, e, f⟩ := h k j hj
    have own : ∀ i n, s.nodes[i]? = some n → (n.job = (k : Int) + 1 ↔ hasS j.nodes i = true) := by
      intro i n hi
      constructor
      · intro hk
        rcases (hn i n hi).2.2 with h0 | ⟨k', j', e1, e2, e3⟩
        · omega
        · have : k' = k := by omega
          subst this
          rw [hj] at e2
          cases e2
          exact e3
      · intro hh
        rcases f with ⟨_, f⟩ | ⟨_, _, f⟩
        · rw [f, hasS_zero] at hh
          cases hh
        · exact (f i n hi hh).2.2
    refine ⟨a, ?_, ?_, b.1, b.2, d.1, d.2, e.1, e.2, c'.1, c'.2, ?_, ?_, own, ?_⟩
    · rcases f with ⟨f, _⟩ | ⟨f, _⟩ <;> omega
    · rcases f with ⟨f, _⟩ | ⟨f, _⟩ <;> omega
    · intro h1 h3
      rcases f with ⟨f, _⟩ | ⟨_, f, _⟩
      · omega
      · exact f
    · intro hp
      rcases f with ⟨_, f⟩ | ⟨f, _⟩
      · exact f
      · exact absurd f hp
    · intro i n hi hk
      have hh := (own i n hi).1 hk
      rcases f with ⟨_, f⟩ | ⟨_, _, f⟩
      · rw [f, hasS_zero] at hh
        cases hh
      · exact ⟨(f i n hi hh).1, (f i n hi hh).2.1⟩

/-- May the state be, as the program asks it. -/
structure RightL (c : Cf) (s : St) : Prop where
  may : mayC c = true
  nn : (s.nodes.length : Int) = c.nodes
  nj : s.jobs.length ≤ 24
  g : 1 ≤ s.goal ∧ s.goal ≤ 9
  p : 1 ≤ s.prior ∧ s.prior ≤ 9
  m : 0 ≤ s.mode ∧ s.mode ≤ 2
  t : 0 ≤ s.term ∧ s.term ≤ 1000000
  node : ∀ (i : Nat) n, s.nodes[i]? = some n → NodeL s i n
  job : ∀ k j, s.jobs[k]? = some j → JobL c s k j
  drains : ∀ q : Nat, (q : Int) < c.queues → (drainsS s q : Int) ≤ c.quota

theorem RightL_iff {c : Cf} {s : St} : RightL c s ↔ RightP c s := by
  constructor
  · intro h
    refine ⟨h.may, h.nn, h.nj, h.g.1, h.g.2, h.p.1, h.p.2, h.m.1, h.m.2, h.t.1, h.t.2, fun i n hi => ?_, (JobL.iff h.node).2 h.job, h.drains⟩
    obtain ⟨a, b, d⟩ := h.node i n hi
    refine ⟨a.1, a.2, ?_, ?_, b⟩
    · rcases d with d | ⟨k, j, d, _⟩ <;> omega
    · rcases d with d | ⟨k, j, d, d2, _⟩
      · omega
      · have := (List.getElem?_eq_some_iff.1 d2).1
        omega
  · intro h
    have hnode : ∀ (i : Nat) n, s.nodes[i]? = some n → NodeL s i n := by
      intro i n hi
      have h1 := h.node i n hi
      refine ⟨⟨h1.v1, h1.v9⟩, h1.mv, ?_⟩
      by_cases h0 : n.job = 0
      · exact .inl h0
      · have := h1.j0
        have := h1.jl
        have hk : (n.job - 1).toNat < s.jobs.length := by omega
        have hj : s.jobs[(n.job - 1).toNat]? = some s.jobs[(n.job - 1).toNat] := List.getElem?_eq_getElem hk
        refine .inr ⟨(n.job - 1).toNat, _, by omega, hj, ?_⟩
        exact ((h.job _ _ hj).own i n hi).1 (by omega)
    exact ⟨h.may, h.nn, h.nj, ⟨h.g1, h.g9⟩, ⟨h.p1, h.p9⟩, ⟨h.m0, h.m2⟩, ⟨h.t0, h.t9⟩, hnode, (JobL.iff hnode).1 h.job, h.drains⟩

end Go.Proofs.YtkpcjdhnbjkaaaaDoor

/- Layer 9, plain mathematics: what ops do. No program is named here. -/
namespace Go.Proofs.YtkpcjdhnbjkaaaaDoor

def newJ (o : OpN) : Jb := ⟨o.2.1, o.2.2.1, o.2.2.2.1, o.2.2.2.2.1, o.2.2.2.2.2.1, o.2.2.2.2.2.2, 0, 0, 0, 0, 0, 0⟩
def setN (s : St) (i : Nat) (n : Nd) : St := { s with nodes := s.nodes.set i n }
def setJ (s : St) (k : Nat) (j : Jb) : St := { s with jobs := s.jobs.set k j }
/-- All nodes of a set get a job, or none. -/
def giveL (l : List Nd) (set job : Int) : List Nd := l.mapIdx fun i n => if hasS set i = true then { n with job := job } else n
def giveS (s : St) (set job : Int) : St := { s with nodes := giveL s.nodes set job }
/-- The job k, which is j, is let go. -/
def gone (j : Jb) (phase : Int) : Jb := { j with phase := phase, nodes := 0, since := 0, til := 0 }
def letGoS (s : St) (k : Nat) (j : Jb) (phase : Int) : St := setJ (giveS s j.nodes 0) k (gone j phase)
/-- All nodes of the set are free. -/
def allFree (l : List Nd) (set : Int) : Bool := ((List.range l.length).all fun i => !hasS set i || (match l[i]? with | some n => freeN n | none => true))

abbrev Res9 : Type := St × Int
def submitS (c : Cf) (s : St) (o : OpN) : Res9 := if askedJ c (newJ o) = false then (s, 1) else if s.jobs.length = 24 then (s, 3) else ({ s with jobs := s.jobs ++ [newJ o] }, 0)
def targetS (s : St) (v : Int) : Res9 := if inR v 1 9 = false then (s, 1) else ({ s with prior := meantS s, goal := v, mode := 0 }, 0)
def pauseS (s : St) : Res9 := if s.mode = 0 then ({ s with mode := 1 }, 0) else (s, 5)
def resumeS (s : St) : Res9 := if s.mode = 1 then ({ s with mode := 0 }, 0) else (s, 5)
def abortS (s : St) : Res9 := if s.mode = 2 then (s, 5) else ({ s with mode := 2 }, 0)
def newtermS (s : St) : Res9 := if s.term = 1000000 then (s, 3) else ({ s with term := s.term + 1 }, 0)
def jobOf (s : St) (a : Int) : Option Jb := if 1 ≤ a then s.jobs[(a - 1).toNat]? else none
/-- A node's job, if it has one, is let go. -/
def dropS (s : St) (n : Nd) : St := match jobOf s n.job with | some j => letGoS s (n.job - 1).toNat j 0 | none => s
def downS (s : St) (i : Nat) (n : Nd) : Res9 := if n.up = true then (setN (dropS s n) i { n with up := false, moving := false, job := 0 }, 0) else (s, 5)
def upS (s : St) (i : Nat) (n : Nd) (v : Int) : Res9 := if inR v 1 9 = false then (s, 1) else if n.up = true then (s, 5) else (setN s i { n with up := true, version := v }, 0)
def cordonS (s : St) (i : Nat) (n : Nd) : Res9 := if n.up = true ∧ n.cordon = false then (setN s i { n with cordon := true }, 0) else (s, 5)
def uncordonS (s : St) (i : Nat) (n : Nd) : Res9 := if n.cordon = true ∧ n.moving = false then (setN s i { n with cordon := false }, 0) else (s, 5)
def moveS (s : St) (i : Nat) (n : Nd) : Res9 := if n.up = true ∧ n.cordon = true ∧ n.moving = false ∧ n.job = 0 then (setN s i { n with moving := true }, 0) else (s, 5)
def movedS (s : St) (i : Nat) (n : Nd) (v : Int) : Res9 := if inR v 1 9 = false then (s, 1) else if n.moving = true then (setN s i { n with version := v, moving := false, cordon := false }, 0) else (s, 5)
def cancelS (s : St) (k : Nat) (j : Jb) : Res9 := if j.phase = 4 then (s, 5) else (letGoS s k j 4, 0)
open Classical in
noncomputable def holdS (s : St) (k : Nat) (j : Jb) (set : Int) : Res9 :=
  if j.phase = 0 then (if FitsP s j set ∧ allFree s.nodes set = true ∧ j.inc ≠ 1000000 then (setJ (giveS s set ((k : Int) + 1)) k { j with phase := 1, nodes := set, inc := j.inc + 1 }, 0) else (s, 8)) else (s, 5)
def startS (s : St) (k : Nat) (j : Jb) (now : Int) : Res9 := if j.phase = 1 then (setJ s k { j with phase := 2, since := now }, 0) else (s, 5)
def unholdS (s : St) (k : Nat) (j : Jb) : Res9 := if j.phase = 1 then (letGoS s k j 0, 0) else (s, 5)
def drainS (c : Cf) (s : St) (k : Nat) (j : Jb) (til : Int) : Res9 := if j.phase = 2 then (if (drainsS s j.queue : Int) = c.quota then (s, 7) else (setJ s k { j with phase := 3, til := til }, 0)) else (s, 5)
def savedS (s : St) (k : Nat) (j : Jb) (ep : Int) : Res9 := if j.phase = 2 ∨ j.phase = 3 then (if ep = j.inc ∧ j.epoch < ep then (setJ s k { j with epoch := ep }, 0) else (s, 6)) else (s, 5)
def evictS (s : St) (k : Nat) (j : Jb) : Res9 := if j.phase = 3 then (letGoS s k j 0, 0) else (s, 5)
def doneS (s : St) (k : Nat) (j : Jb) : Res9 := if j.phase = 2 ∨ j.phase = 3 then (letGoS s k j 4, 0) else (s, 5)
/-- A set without one of its nodes. -/
def lessS (set : Int) (i : Nat) : Int := set - 2 ^ i
def shrinkS (s : St) (k : Nat) (j : Jb) (i : Nat) (n : Nd) : Res9 := if j.phase = 2 then (if hasS j.nodes i = true ∧ j.least < (manyS j.nodes : Int) then (setN (setJ s k { j with nodes := lessS j.nodes i }) i { n with job := 0 }, 0) else (s, 8)) else (s, 5)

/-- An op of a node that there is. -/
def nodeOp (s : St) (k : Int) (i : Nat) (n : Nd) (b : Int) : Res9 :=
  if k = 7 then downS s i n else if k = 8 then upS s i n b else if k = 16 then cordonS s i n else if k = 17 then uncordonS s i n else if k = 18 then moveS s i n else movedS s i n b
/-- An op of a job that there is. -/
noncomputable def jobOp (c : Cf) (s : St) (kd : Int) (k : Nat) (j : Jb) (b : Int) : Res9 :=
  if kd = 2 then cancelS s k j else if kd = 9 then holdS s k j b else if kd = 10 then startS s k j b else if kd = 11 then unholdS s k j else if kd = 12 then drainS c s k j b
  else if kd = 13 then savedS s k j b else if kd = 14 then evictS s k j else if kd = 15 then doneS s k j
  else (match s.nodes[b.toNat]? with | some n => shrinkS s k j b.toNat n | none => (s, 4))
noncomputable def doS (c : Cf) (s : St) (o : OpN) : Res9 :=
  if o.1 = 1 then submitS c s o else if o.1 = 3 then targetS s o.2.1 else if o.1 = 4 then pauseS s else if o.1 = 5 then resumeS s else if o.1 = 6 then abortS s else if o.1 = 21 then newtermS s
  else if o.1 = 7 ∨ o.1 = 8 ∨ o.1 = 16 ∨ o.1 = 17 ∨ o.1 = 18 ∨ o.1 = 19 then (match s.nodes[o.2.1.toNat]? with | some n => nodeOp s o.1 o.2.1.toNat n o.2.2.1 | none => (s, 4))
  else (match jobOf s o.2.1 with | some j => jobOp c s o.1 (o.2.1 - 1).toNat j o.2.2.1 | none => (s, 4))
/-- What an op leaves of a state that may be, and its error. -/
noncomputable def applyS (c : Cf) (s : St) (o : OpN) : Res9 := if rightO o = false then (s, 1) else doS c s o

end Go.Proofs.YtkpcjdhnbjkaaaaDoor

/- Layer 9, plain mathematics: behind an op a state that may be may be: what is written of one node, or of one job. No program is named here. -/
namespace Go.Proofs.YtkpcjdhnbjkaaaaDoor

theorem get_set {α : Type} {l : List α} {i k : Nat} {x y : α} (h : (l.set i x)[k]? = some y) : (k = i ∧ y = x) ∨ (k ≠ i ∧ l[k]? = some y) := by
  rw [List.getElem?_set] at h
  by_cases he : i = k
  · rw [if_pos he] at h
    by_cases hl : i < l.length
    · rw [if_pos hl] at h
      exact .inl ⟨he.symm, (Option.some.inj h).symm⟩
    · rw [if_neg hl] at h
      cases h
  · rw [if_neg he] at h
    exact .inr ⟨fun e => he e.symm, h⟩
theorem FitsP.of_same {s s' : St} {j : Jb} {set : Int} (h : FitsP s j set) (hn : s'.nodes.length = s.nodes.length) (hv : ∀ i n, s'.nodes[i]? = some n → hasS set i = true → ∃ m, s.nodes[i]? = some m ∧ n.version = m.version) : FitsP s' j set := by
  refine ⟨h.low, by rw [hn]; exact h.high, h.least, h.most, fun i n hi hh hp => ?_, fun i n k m hi hh hk hm => ?_⟩
  · obtain ⟨x, hx, e⟩ := hv i n hi hh
    rw [e]
    exact h.pin i x hx hh hp
  · obtain ⟨x, hx, e⟩ := hv i n hi hh
    obtain ⟨y, hy, e2⟩ := hv k m hk hm
    rw [e, e2]
    exact h.one i x k y hx hh hy hm

/-- A node's marks and version are written, its job stays. -/
theorem RightP.nodeSet {c : Cf} {s : St} {i : Nat} {n n' : Nd} (h : RightP c s) (hi : s.nodes[i]? = some n) (hjob : n'.job = n.job) (hv : 1 ≤ n'.version ∧ n'.version ≤ 9) (hm : n'.moving = true → n'.up = true ∧ n'.cordon = true ∧ n'.job = 0)
    (hown : n.job ≠ 0 → n'.version = n.version ∧ n'.up = n.up ∧ n'.moving = n.moving) : RightP c (setN s i n') := by
  have hlen : (setN s i n').nodes.length = s.nodes.length := by simp [setN]
  refine ⟨h.may, by rw [hlen]; exact h.nn, h.nj, h.g1, h.g9, h.p1, h.p9, h.m0, h.m2, h.t0, h.t9, fun k m hk => ?_, fun k j hk => ?_, h.drains⟩
  · rcases get_set hk with ⟨rfl, rfl⟩ | ⟨_, hk⟩
    · have := h.node _ _ hi
      exact ⟨hv.1, hv.2, by rw [hjob]; exact this.j0, by rw [hjob]; exact this.jl, hm⟩
    · have := h.node _ _ hk
      exact ⟨this.v1, this.v9, this.j0, this.jl, this.mv⟩
  · have hj := h.job k j hk
    refine ⟨hj.asked, hj.p0, hj.p4, hj.i0, hj.i9, hj.s0, hj.s9, hj.t0, hj.t9, hj.e0, hj.e9, fun h1 h3 => ?_, hj.none_, fun q m hq => ?_, fun q m hq hqk => ?_⟩
    · refine (hj.fits h1 h3).of_same hlen fun q m hq hh => ?_
      rcases get_set hq with ⟨rfl, rfl⟩ | ⟨_, hq⟩
      · have := (hj.own _ _ hi).2 hh
        exact ⟨n, hi, (hown (by omega)).1⟩
      · exact ⟨m, hq, rfl⟩
    · rcases get_set hq with ⟨rfl, rfl⟩ | ⟨_, hq⟩
      · rw [hjob]
        exact hj.own _ _ hi
      · exact hj.own _ _ hq
    · rcases get_set hq with ⟨rfl, rfl⟩ | ⟨_, hq⟩
      · rw [hjob] at hqk
        obtain ⟨_, e2, e3⟩ := hown (by omega)
        rw [e2, e3]
        exact hj.host _ _ hi hqk
      · exact hj.host _ _ hq hqk

theorem filter_set_len {l : List Jb} {k : Nat} {j j' : Jb} (hk : l[k]? = some j) (p : Jb → Bool) : ((l.set k j').filter p).length + (if p j then 1 else 0) = (l.filter p).length + (if p j' then 1 else 0) := by
  induction l generalizing k with
  | nil => simp at hk
  | cons x l ih =>
    cases k with
    | zero =>
      simp only [List.getElem?_cons_zero, Option.some.injEq] at hk
      subst hk
      simp only [List.set_cons_zero, List.filter_cons]
      cases p x <;> cases p j' <;> simp
    | succ k =>
      rw [List.getElem?_cons_succ] at hk
      have := ih hk
      simp only [List.set_cons_succ, List.filter_cons]
      cases p x <;> simp <;> omega

/-- A job's counts are written, its phase moves among those with nodes, or stays; its nodes stay. -/
theorem RightP.jobSet {c : Cf} {s : St} {k : Nat} {j j' : Jb} (h : RightP c s) (hk : s.jobs[k]? = some j) (hn : j'.nodes = j.nodes) (hq : j'.queue = j.queue) (hl : j'.least = j.least) (hm : j'.most = j.most) (hp : j'.pin = j.pin) (ha : askedJ c j' = askedJ c j)
    (hph : (1 ≤ j.phase ∧ j.phase ≤ 3) ↔ (1 ≤ j'.phase ∧ j'.phase ≤ 3)) (hp0 : 0 ≤ j'.phase ∧ j'.phase ≤ 4) (hi : 0 ≤ j'.inc ∧ j'.inc ≤ 1000000) (hs : 0 ≤ j'.since ∧ j'.since ≤ 1000000) (ht : 0 ≤ j'.til ∧ j'.til ≤ 1000000) (he : 0 ≤ j'.epoch ∧ j'.epoch ≤ j'.inc)
    (hd : j'.phase = 3 → j.phase ≠ 3 → (drainsS s j.queue : Int) < c.quota) : RightP c (setJ s k j') := by
  have hlen : (setJ s k j').jobs.length = s.jobs.length := by simp [setJ]
  refine ⟨h.may, h.nn, by rw [hlen]; exact h.nj, h.g1, h.g9, h.p1, h.p9, h.m0, h.m2, h.t0, h.t9, fun i n hi => ?_, fun q x hq' => ?_, fun q hq' => ?_⟩
  · have := h.node i n hi
    exact ⟨this.v1, this.v9, this.j0, by rw [hlen]; exact this.jl, this.mv⟩
  · rcases get_set hq' with ⟨rfl, rfl⟩ | ⟨_, hq'⟩
    · have hj := h.job _ _ hk
      refine ⟨by rw [ha]; exact hj.asked, hp0.1, hp0.2, hi.1, hi.2, hs.1, hs.2, ht.1, ht.2, he.1, he.2, fun h1 h3 => ?_, fun hx => ?_, fun i n hi => ?_, hj.host⟩
      · have hf := hj.fits (hph.2 ⟨h1, h3⟩).1 (hph.2 ⟨h1, h3⟩).2
        rw [hn]
        exact ⟨hf.low, hf.high, by rw [hl]; exact hf.least, by rw [hm]; exact hf.most, by rw [hp]; exact hf.pin, hf.one⟩
      · rw [hn]
        exact hj.none_ fun h' => hx (hph.1 h')
      · rw [hn]
        exact hj.own i n hi
    · exact ⟨(h.job _ _ hq').asked, (h.job _ _ hq').p0, (h.job _ _ hq').p4, (h.job _ _ hq').i0, (h.job _ _ hq').i9, (h.job _ _ hq').s0, (h.job _ _ hq').s9, (h.job _ _ hq').t0, (h.job _ _ hq').t9, (h.job _ _ hq').e0, (h.job _ _ hq').e9, fun h1 h3 => by
        have hf := (h.job _ _ hq').fits h1 h3
        exact ⟨hf.low, hf.high, hf.least, hf.most, hf.pin, hf.one⟩, (h.job _ _ hq').none_, (h.job _ _ hq').own, (h.job _ _ hq').host⟩
  · have := h.drains q hq'
    have hf := filter_set_len hk (fun x => decide (x.queue = (q : Int) ∧ x.phase = 3)) (j' := j')
    unfold drainsS setJ at *
    dsimp only at *
    by_cases h3 : j'.queue = (q : Int) ∧ j'.phase = 3
    · by_cases h4 : j.phase = 3
      · simp only [h3, decide_true, if_true, and_self] at hf
        have e : decide (j.queue = (q : Int) ∧ j.phase = 3) = true := decide_eq_true ⟨by rw [← hq]; exact h3.1, h4⟩
        simp only [e, if_true] at hf
        omega
      · have := hd h3.2 h4
        rw [← hq, h3.1] at this
        simp only [h3, decide_true, if_true, and_self] at hf
        omega
    · have e : decide (j'.queue = (q : Int) ∧ j'.phase = 3) = false := decide_eq_false h3
      rw [e] at hf
      simp only [Bool.false_eq_true, if_false] at hf
      split at hf <;> omega

end Go.Proofs.YtkpcjdhnbjkaaaaDoor

/- Layer 9, plain mathematics: behind an op a state that may be may be: jobs that are let go, held, shrunk. No program is named here. -/
namespace Go.Proofs.YtkpcjdhnbjkaaaaDoor

theorem allFree_iff (l : List Nd) (set : Int) : allFree l set = true ↔ ∀ i n, l[i]? = some n → hasS set i = true → freeN n = true := by
  unfold allFree
  rw [List.all_eq_true]
  constructor
  · intro h i n hi hh
    have := h i (List.mem_range.2 (List.getElem?_eq_some_iff.1 hi).1)
    rw [hi, hh] at this
    simpa using this
  · intro h i hi
    have hl := List.mem_range.1 hi
    cases hh : hasS set i with
    | false => rfl
    | true =>
      rw [List.getElem?_eq_getElem hl]
      simpa using h i _ (List.getElem?_eq_getElem hl) hh
theorem freeN_iff {n : Nd} : freeN n = true ↔ n.up = true ∧ n.cordon = false ∧ n.moving = false ∧ n.job = 0 := by
  unfold freeN
  cases n.up <;> cases n.cordon <;> cases n.moving <;> simp
theorem give_get {l : List Nd} {set job : Int} {i : Nat} {n' : Nd} (h : (giveL l set job)[i]? = some n') : ∃ n, l[i]? = some n ∧ n' = if hasS set i = true then { n with job := job } else n := by
  unfold giveL at h
  rw [List.getElem?_mapIdx] at h
  obtain ⟨n, hn, e⟩ := Option.map_eq_some_iff.1 h
  exact ⟨n, hn, e.symm⟩
theorem give_len (l : List Nd) (set job : Int) : (giveL l set job).length = l.length := by unfold giveL; simp

theorem RightP.letGo {c : Cf} {s : St} {k : Nat} {j : Jb} {ph : Int} (h : RightP c s) (hk : s.jobs[k]? = some j) (hp : ph = 0 ∨ ph = 4) : RightP c (letGoS s k j ph) := by
  have hlen : (letGoS s k j ph).nodes.length = s.nodes.length := give_len _ _ _
  have hjl : (letGoS s k j ph).jobs.length = s.jobs.length := by simp [letGoS, setJ, giveS]
  have hj := h.job k j hk
  have key : ∀ (i : Nat) (n' : Nd), (letGoS s k j ph).nodes[i]? = some n' → ∃ n : Nd, s.nodes[i]? = some n ∧ n'.up = n.up ∧ n'.cordon = n.cordon ∧ n'.moving = n.moving ∧ n'.version = n.version ∧ ((n.job = (k : Int) + 1 ∧ n'.job = 0) ∨ (n.job ≠ (k : Int) + 1 ∧ n'.job = n.job)) := fun i n' hn' => by
    obtain ⟨n, hn, e⟩ := give_get hn'
    refine ⟨n, hn, ?_⟩
    have ho := hj.own i n hn
    by_cases hh : hasS j.nodes i = true
    · rw [if_pos hh] at e
      subst e
      exact ⟨rfl, rfl, rfl, rfl, .inl ⟨ho.2 hh, rfl⟩⟩
    · rw [if_neg hh] at e
      subst e
      exact ⟨rfl, rfl, rfl, rfl, .inr ⟨fun e => hh (ho.1 e), rfl⟩⟩
  refine ⟨h.may, by rw [hlen]; exact h.nn, by rw [hjl]; exact h.nj, h.g1, h.g9, h.p1, h.p9, h.m0, h.m2, h.t0, h.t9, fun i n' hi => ?_, fun q x hq => ?_, fun q hq => ?_⟩
  · obtain ⟨n, hn, e1, e2, e3, e4, e5⟩ := key i n' hi
    have hN := h.node i n hn
    have := hN.j0
    have := hN.jl
    refine ⟨by rw [e4]; exact hN.v1, by rw [e4]; exact hN.v9, by rcases e5 with ⟨_, e⟩ | ⟨_, e⟩ <;> omega, by rw [hjl]; rcases e5 with ⟨_, e⟩ | ⟨_, e⟩ <;> omega, fun hm => ?_⟩
    rw [e3] at hm
    obtain ⟨u1, u2, u3⟩ := hN.mv hm
    exact ⟨by rw [e1]; exact u1, by rw [e2]; exact u2, by rcases e5 with ⟨_, e⟩ | ⟨_, e⟩ <;> omega⟩
  · rcases get_set hq with ⟨rfl, rfl⟩ | ⟨hne, hq⟩
    · refine ⟨hj.asked, ?_, ?_, hj.i0, hj.i9, by show (0 : Int) ≤ 0; omega, by show (0 : Int) ≤ 1000000; omega, by show (0 : Int) ≤ 0; omega, by show (0 : Int) ≤ 1000000; omega, hj.e0, hj.e9, fun h1 h3 => ?_, fun _ => rfl, fun i n' hi => ?_, fun i n' hi hqk => ?_⟩
      · show 0 ≤ ph
        omega
      · show ph ≤ 4
        omega
      · have h1' : 1 ≤ ph := h1
        have h3' : ph ≤ 3 := h3
        omega
      · obtain ⟨n, hn, _, _, _, _, e5⟩ := key i n' hi
        show n'.job = _ ↔ hasS 0 i = true
        rw [hasS_zero]
        constructor
        · intro e
          rcases e5 with ⟨_, e'⟩ | ⟨e', e''⟩
          · omega
          · exact absurd (e''.symm.trans e) e'
        · intro e
          cases e
      · obtain ⟨n, hn, _, _, _, _, e5⟩ := key i n' hi
        rcases e5 with ⟨_, e'⟩ | ⟨e', e''⟩
        · omega
        · exact absurd (e''.symm.trans hqk) e'
    · have hx := h.job q x hq
      refine ⟨hx.asked, hx.p0, hx.p4, hx.i0, hx.i9, hx.s0, hx.s9, hx.t0, hx.t9, hx.e0, hx.e9, fun h1 h3 => ?_, hx.none_, fun i n' hi => ?_, fun i n' hi hqk => ?_⟩
      · refine (hx.fits h1 h3).of_same hlen fun i n' hi _ => ?_
        obtain ⟨n, hn, _, _, _, e4, _⟩ := key i n' hi
        exact ⟨n, hn, e4⟩
      · obtain ⟨n, hn, _, _, _, _, e5⟩ := key i n' hi
        have ho := hx.own i n hn
        rcases e5 with ⟨e, e'⟩ | ⟨_, e'⟩
        · constructor
          · intro e2
            omega
          · intro hh
            have := ho.2 hh
            omega
        · rw [e']
          exact ho
      · obtain ⟨n, hn, e1, _, e3, _, e5⟩ := key i n' hi
        rcases e5 with ⟨_, e'⟩ | ⟨_, e'⟩
        · omega
        · have := hx.host i n hn (by omega)
          rw [e1, e3]
          exact this
  · have h1 := h.drains q hq
    have hf := filter_set_len hk (fun x => decide (x.queue = (q : Int) ∧ x.phase = 3)) (j' := gone j ph)
    have e : decide ((gone j ph).queue = (q : Int) ∧ (gone j ph).phase = 3) = false := decide_eq_false fun h' => by
      have : ph = 3 := h'.2
      omega
    rw [e] at hf
    simp only [Bool.false_eq_true, if_false] at hf
    have hd : drainsS (letGoS s k j ph) q = ((s.jobs.set k (gone j ph)).filter fun x => decide (x.queue = (q : Int) ∧ x.phase = 3)).length := rfl
    have hd2 : drainsS s q = (s.jobs.filter fun x => decide (x.queue = (q : Int) ∧ x.phase = 3)).length := rfl
    rw [hd]
    rw [hd2] at h1
    split at hf <;> omega

theorem RightP.held {c : Cf} {s : St} {k : Nat} {j : Jb} {set : Int} (h : RightP c s) (hk : s.jobs[k]? = some j) (hp : j.phase = 0) (hf : FitsP s j set) (ha : allFree s.nodes set = true) (hi9 : j.inc ≠ 1000000) :
    RightP c (setJ (giveS s set ((k : Int) + 1)) k { j with phase := 1, nodes := set, inc := j.inc + 1 }) := by
  generalize hS : setJ (giveS s set ((k : Int) + 1)) k { j with phase := 1, nodes := set, inc := j.inc + 1 } = S
  have hnodes : S.nodes = giveL s.nodes set ((k : Int) + 1) := by rw [← hS]; rfl
  have hjobs : S.jobs = s.jobs.set k { j with phase := 1, nodes := set, inc := j.inc + 1 } := by rw [← hS]; rfl
  have hrest : S.goal = s.goal ∧ S.prior = s.prior ∧ S.mode = s.mode ∧ S.term = s.term := by rw [← hS]; exact ⟨rfl, rfl, rfl, rfl⟩
  have hlen : S.nodes.length = s.nodes.length := by rw [hnodes]; exact give_len _ _ _
  have hjl : S.jobs.length = s.jobs.length := by rw [hjobs]; simp
  have hj := h.job k j hk
  have hkl := (List.getElem?_eq_some_iff.1 hk).1
  have hz : j.nodes = 0 := hj.none_ (by omega)
  have key : ∀ (i : Nat) (n' : Nd), S.nodes[i]? = some n' → ∃ n : Nd, s.nodes[i]? = some n ∧ n'.up = n.up ∧ n'.cordon = n.cordon ∧ n'.moving = n.moving ∧ n'.version = n.version ∧ ((hasS set i = true ∧ n'.job = (k : Int) + 1 ∧ n.job = 0 ∧ n.up = true ∧ n.moving = false) ∨ (hasS set i = false ∧ n'.job = n.job ∧ n.job ≠ (k : Int) + 1)) := fun i n' hn' => by
    rw [hnodes] at hn'
    obtain ⟨n, hn, e⟩ := give_get hn'
    refine ⟨n, hn, ?_⟩
    cases hh : hasS set i with
    | true =>
      rw [if_pos hh] at e
      subst e
      obtain ⟨f1, _, f3, f4⟩ := freeN_iff.1 ((allFree_iff _ _).1 ha i n hn hh)
      exact ⟨rfl, rfl, rfl, rfl, .inl ⟨rfl, rfl, f4, f1, f3⟩⟩
    | false =>
      rw [if_neg (by rw [hh]; simp)] at e
      subst e
      refine ⟨rfl, rfl, rfl, rfl, .inr ⟨rfl, rfl, fun e => ?_⟩⟩
      have := (hj.own i n' hn).1 e
      rw [hz, hasS_zero] at this
      cases this
  refine ⟨h.may, by rw [hlen]; exact h.nn, by rw [hjl]; exact h.nj, by rw [hrest.1]; exact h.g1, by rw [hrest.1]; exact h.g9, by rw [hrest.2.1]; exact h.p1, by rw [hrest.2.1]; exact h.p9, by rw [hrest.2.2.1]; exact h.m0, by rw [hrest.2.2.1]; exact h.m2, by rw [hrest.2.2.2]; exact h.t0, by rw [hrest.2.2.2]; exact h.t9, fun i n' hi => ?_, fun q x hq => ?_, fun q hq => ?_⟩
  · obtain ⟨n, hn, e1, e2, e3, e4, e5⟩ := key i n' hi
    have hN := h.node i n hn
    have := hN.j0
    have := hN.jl
    refine ⟨by rw [e4]; exact hN.v1, by rw [e4]; exact hN.v9, by rcases e5 with ⟨_, e, _⟩ | ⟨_, e, _⟩ <;> omega, by rw [hjl]; rcases e5 with ⟨_, e, _⟩ | ⟨_, e, _⟩ <;> omega, fun hm => ?_⟩
    rw [e3] at hm
    obtain ⟨u1, u2, u3⟩ := hN.mv hm
    rcases e5 with ⟨_, _, _, _, e⟩ | ⟨_, e, _⟩
    · rw [e] at hm
      cases hm
    · exact ⟨by rw [e1]; exact u1, by rw [e2]; exact u2, by omega⟩
  · rw [hjobs] at hq
    rcases get_set hq with ⟨rfl, rfl⟩ | ⟨hne, hq⟩
    · have := hj.i0
      have := hj.i9
      have := hj.e0
      have := hj.e9
      refine ⟨hj.asked, by show (0 : Int) ≤ 1; omega, by show (1 : Int) ≤ 4; omega, by show 0 ≤ j.inc + 1; omega, by show j.inc + 1 ≤ 1000000; omega, hj.s0, hj.s9, hj.t0, hj.t9, hj.e0, by show j.epoch ≤ j.inc + 1; omega, fun _ _ => ?_, fun hx => ?_, fun i n' hi => ?_, fun i n' hi hqk => ?_⟩
      · have hf' : FitsP s { j with phase := 1, nodes := set, inc := j.inc + 1 } set := ⟨hf.low, hf.high, hf.least, hf.most, hf.pin, hf.one⟩
        refine hf'.of_same hlen fun i n' hi _ => ?_
        obtain ⟨n, hn, _, _, _, e4, _⟩ := key i n' hi
        exact ⟨n, hn, e4⟩
      · exact absurd ⟨by show (1 : Int) ≤ 1; omega, by show (1 : Int) ≤ 3; omega⟩ hx
      · obtain ⟨n, hn, _, _, _, _, e5⟩ := key i n' hi
        show n'.job = _ ↔ hasS set i = true
        rcases e5 with ⟨e, e', _⟩ | ⟨e, e', e''⟩
        · exact ⟨fun _ => e, fun _ => e'⟩
        · constructor
          · intro h'
            exact absurd (e'.symm.trans h') e''
          · intro h'
            rw [e] at h'
            cases h'
      · obtain ⟨n, hn, e1, _, e3, _, e5⟩ := key i n' hi
        rcases e5 with ⟨_, _, _, f1, f2⟩ | ⟨_, e', e''⟩
        · exact ⟨by rw [e1]; exact f1, by rw [e3]; exact f2⟩
        · exact absurd (e'.symm.trans hqk) e''
    · have hx := h.job q x hq
      refine ⟨hx.asked, hx.p0, hx.p4, hx.i0, hx.i9, hx.s0, hx.s9, hx.t0, hx.t9, hx.e0, hx.e9, fun h1 h3 => ?_, hx.none_, fun i n' hi => ?_, fun i n' hi hqk => ?_⟩
      · refine (hx.fits h1 h3).of_same hlen fun i n' hi _ => ?_
        obtain ⟨n, hn, _, _, _, e4, _⟩ := key i n' hi
        exact ⟨n, hn, e4⟩
      · obtain ⟨n, hn, _, _, _, _, e5⟩ := key i n' hi
        have ho := hx.own i n hn
        rcases e5 with ⟨_, e', e'', _⟩ | ⟨_, e', _⟩
        · constructor
          · intro e2
            omega
          · intro hh
            have := ho.2 hh
            omega
        · rw [e']
          exact ho
      · obtain ⟨n, hn, e1, _, e3, _, e5⟩ := key i n' hi
        rcases e5 with ⟨_, e', _⟩ | ⟨_, e', _⟩
        · omega
        · have := hx.host i n hn (by omega)
          rw [e1, e3]
          exact this
  · have h1 := h.drains q hq
    have hf := filter_set_len hk (fun x => decide (x.queue = (q : Int) ∧ x.phase = 3)) (j' := { j with phase := 1, nodes := set, inc := j.inc + 1 })
    have e : decide (({ j with phase := 1, nodes := set, inc := j.inc + 1 } : Jb).queue = (q : Int) ∧ ({ j with phase := 1, nodes := set, inc := j.inc + 1 } : Jb).phase = 3) = false := decide_eq_false fun h' => by
      have : (1 : Int) = 3 := h'.2
      omega
    rw [e] at hf
    simp only [Bool.false_eq_true, if_false] at hf
    have hd2 : drainsS s q = (s.jobs.filter fun x => decide (x.queue = (q : Int) ∧ x.phase = 3)).length := rfl
    rw [hd2] at h1
    unfold drainsS
    rw [hjobs]
    split at hf <;> omega

end Go.Proofs.YtkpcjdhnbjkaaaaDoor

/- Layer 9, plain mathematics: behind each op a state that may be may be (P9.4). No program is named here. -/
namespace Go.Proofs.YtkpcjdhnbjkaaaaDoor

theorem less_has : ∀ m : Nat, m < 64 → ∀ i : Nat, i < 6 → hasS (m : Int) i = true → 0 ≤ (m : Int) - 2 ^ i ∧ (manyS ((m : Int) - 2 ^ i) : Int) + 1 = manyS (m : Int) ∧ ∀ q : Nat, q < 6 → hasS ((m : Int) - 2 ^ i) q = (hasS (m : Int) q && decide (q ≠ i)) := by decide +kernel

theorem RightP.shrunk {c : Cf} {s : St} {k i : Nat} {j : Jb} {n : Nd} (h : RightP c s) (hk : s.jobs[k]? = some j) (hi : s.nodes[i]? = some n) (hp : j.phase = 2) (hh : hasS j.nodes i = true) (hl : j.least < (manyS j.nodes : Int)) :
    RightP c (setN (setJ s k { j with nodes := lessS j.nodes i }) i { n with job := 0 }) := by
  have h6 := h.len.2
  have hj := h.job k j hk
  have hil := (List.getElem?_eq_some_iff.1 hi).1
  obtain ⟨m, hm⟩ : ∃ m : Nat, j.nodes = (m : Int) := ⟨j.nodes.toNat, by have := (hj.lt64 h6).1; omega⟩
  have hm6 : m < 64 := by have := (hj.lt64 h6).2; omega
  obtain ⟨l0, l1, l2⟩ := less_has m hm6 i (by omega) (by rw [← hm]; exact hh)
  have hL : lessS j.nodes i = (m : Int) - 2 ^ i := by rw [hm]; rfl
  have hpow : (0 : Int) < 2 ^ i := Int.pow_pos (by decide)
  have hown := (hj.own i n hi).2 hh
  have hf := hj.fits (by omega) (by omega)
  generalize hS : setN (setJ s k { j with nodes := lessS j.nodes i }) i { n with job := 0 } = S
  have hnodes : S.nodes = s.nodes.set i { n with job := 0 } := by rw [← hS]; rfl
  have hjobs : S.jobs = s.jobs.set k { j with nodes := lessS j.nodes i } := by rw [← hS]; rfl
  have hrest : S.goal = s.goal ∧ S.prior = s.prior ∧ S.mode = s.mode ∧ S.term = s.term := by rw [← hS]; exact ⟨rfl, rfl, rfl, rfl⟩
  have hlen : S.nodes.length = s.nodes.length := by rw [hnodes]; simp
  have hjl : S.jobs.length = s.jobs.length := by rw [hjobs]; simp
  refine ⟨h.may, by rw [hlen]; exact h.nn, by rw [hjl]; exact h.nj, by rw [hrest.1]; exact h.g1, by rw [hrest.1]; exact h.g9, by rw [hrest.2.1]; exact h.p1, by rw [hrest.2.1]; exact h.p9, by rw [hrest.2.2.1]; exact h.m0, by rw [hrest.2.2.1]; exact h.m2, by rw [hrest.2.2.2]; exact h.t0, by rw [hrest.2.2.2]; exact h.t9, fun q x hq => ?_, fun q x hq => ?_, fun q hq => ?_⟩
  · rw [hnodes] at hq
    rcases get_set hq with ⟨rfl, rfl⟩ | ⟨_, hq⟩
    · have hN := h.node _ _ hi
      exact ⟨hN.v1, hN.v9, by show (0 : Int) ≤ 0; omega, by show (0 : Int) ≤ _; omega, fun hmv => ⟨(hN.mv hmv).1, (hN.mv hmv).2.1, rfl⟩⟩
    · have hN := h.node _ _ hq
      exact ⟨hN.v1, hN.v9, hN.j0, by rw [hjl]; exact hN.jl, hN.mv⟩
  · rw [hjobs] at hq
    rcases get_set hq with ⟨rfl, rfl⟩ | ⟨hne, hq⟩
    · refine ⟨hj.asked, hj.p0, hj.p4, hj.i0, hj.i9, hj.s0, hj.s9, hj.t0, hj.t9, hj.e0, hj.e9, fun _ _ => ?_, fun hx => absurd ⟨by show 1 ≤ j.phase; omega, by show j.phase ≤ 3; omega⟩ hx, fun p y hy => ?_, fun p y hy hyk => ?_⟩
      · show FitsP S _ (lessS j.nodes i)
        have hless := hf.least
        have hmost := hf.most
        have hhi := hf.high
        rw [hm] at hless hmost hl hhi
        rw [hL]
        refine ⟨l0, by rw [hlen]; omega, by show j.least ≤ _; omega, by show _ ≤ j.most; omega, fun p y hy hp' hpin => ?_, fun p y r z hy hp' hz hr' => ?_⟩
        · rw [hnodes] at hy
          rcases get_set hy with ⟨rfl, rfl⟩ | ⟨hne, hy⟩
          · rw [l2 _ (by omega)] at hp'
            simp at hp'
          · have hpl := (List.getElem?_eq_some_iff.1 hy).1
            rw [l2 p (by omega), ← hm] at hp'
            rw [Bool.and_eq_true] at hp'
            exact hf.pin p y hy hp'.1 hpin
        · rw [hnodes] at hy hz
          rcases get_set hy with ⟨rfl, rfl⟩ | ⟨_, hy⟩
          · rw [l2 _ (by omega)] at hp'
            simp at hp'
          rcases get_set hz with ⟨rfl, rfl⟩ | ⟨_, hz⟩
          · rw [l2 _ (by omega)] at hr'
            simp at hr'
          have hpl := (List.getElem?_eq_some_iff.1 hy).1
          have hrl := (List.getElem?_eq_some_iff.1 hz).1
          rw [l2 p (by omega), ← hm, Bool.and_eq_true] at hp'
          rw [l2 r (by omega), ← hm, Bool.and_eq_true] at hr'
          exact hf.one p y r z hy hp'.1 hz hr'.1
      · show y.job = _ ↔ hasS (lessS j.nodes i) p = true
        rw [hL]
        rw [hnodes] at hy
        rcases get_set hy with ⟨rfl, rfl⟩ | ⟨hne, hy⟩
        · rw [l2 _ (by omega)]
          constructor
          · intro e
            have e : (0 : Int) = _ := e
            omega
          · intro e
            simp at e
        · have hpl := (List.getElem?_eq_some_iff.1 hy).1
          rw [l2 p (by omega), ← hm, hj.own p y hy]
          simp [hne]
      · rw [hnodes] at hy
        rcases get_set hy with ⟨rfl, rfl⟩ | ⟨hne, hy⟩
        · have e : (0 : Int) = _ := hyk
          omega
        · exact hj.host p y hy hyk
    · have hx := h.job q x hq
      refine ⟨hx.asked, hx.p0, hx.p4, hx.i0, hx.i9, hx.s0, hx.s9, hx.t0, hx.t9, hx.e0, hx.e9, fun h1 h3 => ?_, hx.none_, fun p y hy => ?_, fun p y hy hyk => ?_⟩
      · refine (hx.fits h1 h3).of_same hlen fun p y hy _ => ?_
        rw [hnodes] at hy
        rcases get_set hy with ⟨rfl, rfl⟩ | ⟨_, hy⟩
        · exact ⟨n, hi, rfl⟩
        · exact ⟨y, hy, rfl⟩
      · rw [hnodes] at hy
        rcases get_set hy with ⟨rfl, rfl⟩ | ⟨_, hy⟩
        · have ho := hx.own _ n hi
          constructor
          · intro e
            have e : (0 : Int) = _ := e
            omega
          · intro e
            have := ho.2 e
            omega
        · exact hx.own p y hy
      · rw [hnodes] at hy
        rcases get_set hy with ⟨rfl, rfl⟩ | ⟨_, hy⟩
        · have e : (0 : Int) = _ := hyk
          omega
        · exact hx.host p y hy hyk
  · have h1 := h.drains q hq
    have hf' := filter_set_len hk (fun x => decide (x.queue = (q : Int) ∧ x.phase = 3)) (j' := { j with nodes := lessS j.nodes i })
    have e : decide (({ j with nodes := lessS j.nodes i } : Jb).queue = (q : Int) ∧ ({ j with nodes := lessS j.nodes i } : Jb).phase = 3) = decide (j.queue = (q : Int) ∧ j.phase = 3) := rfl
    rw [e] at hf'
    have hd2 : drainsS s q = (s.jobs.filter fun x => decide (x.queue = (q : Int) ∧ x.phase = 3)).length := rfl
    rw [hd2] at h1
    unfold drainsS
    rw [hjobs]
    omega

end Go.Proofs.YtkpcjdhnbjkaaaaDoor

/- Layer 9, plain mathematics: behind each op a state that may be may be (P9.4). No program is named here. -/
namespace Go.Proofs.YtkpcjdhnbjkaaaaDoor

theorem RightP.submitted {c : Cf} {s : St} {o : OpN} (h : RightP c s) (ha : askedJ c (newJ o) = true) (hl : s.jobs.length ≠ 24) : RightP c { s with jobs := s.jobs ++ [newJ o] } := by
  have h24 := h.nj
  have hget : ∀ (k : Nat) (j : Jb), (s.jobs ++ [newJ o])[k]? = some j → s.jobs[k]? = some j ∨ (k = s.jobs.length ∧ j = newJ o) := fun k j hk => by
    rw [List.getElem?_append] at hk
    split at hk
    · exact .inl hk
    · obtain ⟨h1, h2⟩ := List.getElem?_eq_some_iff.1 hk
      simp at h1
      refine .inr ⟨by omega, ?_⟩
      have : k - s.jobs.length = 0 := by omega
      simp [this] at h2
      exact h2.symm
  refine ⟨h.may, h.nn, by show (s.jobs ++ [newJ o]).length ≤ 24; simp; omega, h.g1, h.g9, h.p1, h.p9, h.m0, h.m2, h.t0, h.t9, fun i n hi => ?_, fun k j hk => ?_, fun q hq => ?_⟩
  · have hN := h.node i n hi
    refine ⟨hN.v1, hN.v9, hN.j0, ?_, hN.mv⟩
    have := hN.jl
    show n.job ≤ ((s.jobs ++ [newJ o]).length : Int)
    simp
    omega
  · rcases hget k j hk with hk | ⟨rfl, rfl⟩
    · have hx := h.job k j hk
      exact ⟨hx.asked, hx.p0, hx.p4, hx.i0, hx.i9, hx.s0, hx.s9, hx.t0, hx.t9, hx.e0, hx.e9, fun h1 h3 => by
        have hf := hx.fits h1 h3
        exact ⟨hf.low, hf.high, hf.least, hf.most, hf.pin, hf.one⟩, hx.none_, hx.own, hx.host⟩
    · refine ⟨ha, ?_, ?_, ?_, ?_, ?_, ?_, ?_, ?_, ?_, ?_, fun h1 h3 => ?_, fun _ => rfl, fun i n hi => ?_, fun i n hi he => ?_⟩
      · show (0 : Int) ≤ 0; omega
      · show (0 : Int) ≤ 4; omega
      · show (0 : Int) ≤ 0; omega
      · show (0 : Int) ≤ 1000000; omega
      · show (0 : Int) ≤ 0; omega
      · show (0 : Int) ≤ 1000000; omega
      · show (0 : Int) ≤ 0; omega
      · show (0 : Int) ≤ 1000000; omega
      · show (0 : Int) ≤ 0; omega
      · show (0 : Int) ≤ 0; omega
      · have : (1 : Int) ≤ 0 := h1
        omega
      · show n.job = _ ↔ hasS 0 i = true
        rw [hasS_zero]
        have := (h.node i n hi).jl
        constructor
        · intro e; omega
        · intro e; cases e
      · have := (h.node i n hi).jl
        omega
  · have h1 := h.drains q hq
    have hd : drainsS { s with jobs := s.jobs ++ [newJ o] } q = ((s.jobs ++ [newJ o]).filter fun x => decide (x.queue = (q : Int) ∧ x.phase = 3)).length := rfl
    have hd2 : drainsS s q = (s.jobs.filter fun x => decide (x.queue = (q : Int) ∧ x.phase = 3)).length := rfl
    rw [hd, List.filter_append, List.length_append]
    have e : ([newJ o].filter fun x => decide (x.queue = (q : Int) ∧ x.phase = 3)) = [] := by
      rw [List.filter_cons_of_neg]
      · rfl
      · simp [newJ]
    rw [e, List.length_nil, Nat.add_zero]
    exact h1

theorem RightP.global {c : Cf} {s s' : St} (h : RightP c s) (hn : s'.nodes = s.nodes) (hj : s'.jobs = s.jobs) (hg : 1 ≤ s'.goal ∧ s'.goal ≤ 9) (hp : 1 ≤ s'.prior ∧ s'.prior ≤ 9) (hm : 0 ≤ s'.mode ∧ s'.mode ≤ 2) (ht : 0 ≤ s'.term ∧ s'.term ≤ 1000000) : RightP c s' := by
  obtain ⟨nodes, jobs, goal, prior, mode, term⟩ := s
  obtain ⟨nodes', jobs', goal', prior', mode', term'⟩ := s'
  dsimp only at *
  subst hn hj
  refine ⟨h.may, h.nn, h.nj, hg.1, hg.2, hp.1, hp.2, hm.1, hm.2, ht.1, ht.2, fun i n hi => ?_, fun k j hk => ?_, h.drains⟩
  · have hN := h.node i n hi
    exact ⟨hN.v1, hN.v9, hN.j0, hN.jl, hN.mv⟩
  · have hx := h.job k j hk
    exact ⟨hx.asked, hx.p0, hx.p4, hx.i0, hx.i9, hx.s0, hx.s9, hx.t0, hx.t9, hx.e0, hx.e9, fun h1 h3 => by
      have hf := hx.fits h1 h3
      exact ⟨hf.low, hf.high, hf.least, hf.most, hf.pin, hf.one⟩, hx.none_, hx.own, hx.host⟩

theorem jobOf_some {s : St} {a : Int} {j : Jb} (h : jobOf s a = some j) : s.jobs[(a - 1).toNat]? = some j ∧ a = ((a - 1).toNat : Int) + 1 := by
  unfold jobOf at h
  split at h
  · exact ⟨h, by omega⟩
  · cases h

/-- What an op of a node leaves may be. -/
theorem RightP.node_ops {c : Cf} {s : St} {i : Nat} {n : Nd} {kd b : Int} (h : RightP c s) (hi : s.nodes[i]? = some n) : RightP c (nodeOp s kd i n b).1 := by
  have hN := h.node i n hi
  unfold nodeOp
  split
  · unfold downS
    split
    · -- its job is let go first
      have hd : RightP c (dropS s n) ∧ (dropS s n).nodes[i]? = some { n with job := 0 } := by
        unfold dropS
        split
        · rename_i j hj
          obtain ⟨hk, ha⟩ := jobOf_some hj
          refine ⟨h.letGo hk (.inl rfl), ?_⟩
          have hh := ((h.job _ j hk).own i n hi).1 ha
          show (giveL s.nodes j.nodes 0)[i]? = _
          unfold giveL
          rw [List.getElem?_mapIdx, hi]
          simp [hh]
        · rename_i hj
          refine ⟨h, ?_⟩
          have h0 : n.job = 0 := by
            have := hN.j0
            have := hN.jl
            unfold jobOf at hj
            split at hj
            · rw [List.getElem?_eq_none_iff] at hj
              omega
            · omega
          rw [hi]
          congr 1
          obtain ⟨u, cd, mv, v, jb⟩ := n
          dsimp only at h0
          rw [h0]
      exact hd.1.nodeSet hd.2 rfl ⟨hN.v1, hN.v9⟩ (fun e => by cases e) (fun e => absurd rfl e)
    · exact h
  split
  · unfold upS
    split
    · exact h
    · rename_i hv
      split
      · exact h
      · rename_i hu
        have hv' := inR_iff.1 (by simpa using hv)
        refine h.nodeSet hi rfl hv' (fun hm => ?_) (fun hj => ?_)
        · have := (hN.mv hm).1
          exact absurd this hu
        · exfalso
          have := hN.j0
          have := hN.jl
          have hk : (n.job - 1).toNat < s.jobs.length := by omega
          have := ((h.job _ _ (List.getElem?_eq_getElem hk)).host i n hi (by omega)).1
          exact hu this
  split
  · unfold cordonS
    split
    · rename_i hc
      exact h.nodeSet hi rfl ⟨hN.v1, hN.v9⟩ (fun hm => ⟨(hN.mv hm).1, rfl, (hN.mv hm).2.2⟩) (fun _ => ⟨rfl, rfl, rfl⟩)
    · exact h
  split
  · unfold uncordonS
    split
    · rename_i hc
      exact h.nodeSet hi rfl ⟨hN.v1, hN.v9⟩ (fun hm => by
        have hm : n.moving = true := hm
        rw [hc.2] at hm
        cases hm) (fun _ => ⟨rfl, rfl, rfl⟩)
    · exact h
  split
  · unfold moveS
    split
    · rename_i hc
      exact h.nodeSet hi rfl ⟨hN.v1, hN.v9⟩ (fun _ => ⟨hc.1, hc.2.1, hc.2.2.2⟩) (fun hj => absurd hc.2.2.2 hj)
    · exact h
  · unfold movedS
    split
    · exact h
    · rename_i hv
      split
      · rename_i hm
        have hv' := inR_iff.1 (by simpa using hv)
        exact h.nodeSet hi rfl hv' (fun e => by cases e) (fun hj => absurd (hN.mv hm).2.2 hj)
      · exact h

/-- What an op of a job leaves may be. -/
theorem RightP.job_ops {c : Cf} {s : St} {k : Nat} {j : Jb} {kd b : Int} (h : RightP c s) (hk : s.jobs[k]? = some j) (hb : 0 ≤ b ∧ b ≤ 1000000) : RightP c (jobOp c s kd k j b).1 := by
  have hJ := h.job k j hk
  have := hJ.p0
  have := hJ.p4
  have := hJ.i0
  have := hJ.i9
  have := hJ.s0
  have := hJ.s9
  have := hJ.t0
  have := hJ.t9
  have := hJ.e0
  have := hJ.e9
  unfold jobOp
  split
  · unfold cancelS
    split
    · exact h
    · exact h.letGo hk (.inr rfl)
  split
  · unfold holdS
    split
    · rename_i hp
      split
      · rename_i hf
        exact h.held hk hp hf.1 hf.2.1 hf.2.2
      · exact h
    · exact h
  split
  · unfold startS
    split
    · rename_i hp
      exact h.jobSet hk rfl rfl rfl rfl rfl rfl (by dsimp only; omega) (by dsimp only; omega) (by dsimp only; omega) (by dsimp only; omega) (by dsimp only; omega) (by dsimp only; omega) (fun e => by dsimp only at e; omega)
    · exact h
  split
  · unfold unholdS
    split
    · exact h.letGo hk (.inl rfl)
    · exact h
  split
  · unfold drainS
    split
    · rename_i hp
      split
      · exact h
      · rename_i hq
        have hask := hJ.asked
        simp only [askedJ, Bool.and_eq_true, inR_iff] at hask
        have hle := h.drains j.queue.toNat (by omega)
        have e : ((j.queue.toNat : Nat) : Int) = j.queue := by omega
        rw [e] at hle
        exact h.jobSet hk rfl rfl rfl rfl rfl rfl (by dsimp only; omega) (by dsimp only; omega) (by dsimp only; omega) (by dsimp only; omega) (by dsimp only; omega) (by dsimp only; omega) (fun _ _ => by omega)
    · exact h
  split
  · unfold savedS
    split
    · rename_i hp
      split
      · rename_i he
        exact h.jobSet hk rfl rfl rfl rfl rfl rfl (by dsimp only; omega) (by dsimp only; omega) (by dsimp only; omega) (by dsimp only; omega) (by dsimp only; omega) (by dsimp only; omega) (fun e1 e2 => absurd e1 e2)
      · exact h
    · exact h
  split
  · unfold evictS
    split
    · exact h.letGo hk (.inl rfl)
    · exact h
  split
  · unfold doneS
    split
    · exact h.letGo hk (.inr rfl)
    · exact h
  split
  · rename_i n hn
    unfold shrinkS
    split
    · rename_i hp
      split
      · rename_i hh
        exact h.shrunk hk hn hp hh.1 hh.2
      · exact h
    · exact h
  · exact h

/-- P9.4. -/
theorem RightP.apply {c : Cf} {s : St} (h : RightP c s) (o : OpN) : RightP c (applyS c s o).1 := by
  unfold applyS
  split
  · exact h
  rename_i hr
  have hr' : rightO o = true := by simpa using hr
  have hin := (rightO_iff.1 hr').2.1
  have h1 : 0 ≤ o.2.1 ∧ o.2.1 ≤ 1000000 := hin _ (by simp [numsO])
  have h2 : 0 ≤ o.2.2.1 ∧ o.2.2.1 ≤ 1000000 := hin _ (by simp [numsO])
  have g := And.intro h.g1 h.g9
  have p := And.intro h.p1 h.p9
  have m := And.intro h.m0 h.m2
  have t := And.intro h.t0 h.t9
  unfold doS
  split
  · unfold submitS
    split
    · exact h
    · rename_i ha
      split
      · exact h
      · rename_i hl
        exact h.submitted (by simpa using ha) hl
  split
  · unfold targetS
    split
    · exact h
    · rename_i hv
      refine h.global rfl rfl (inR_iff.1 (by simpa using hv)) ?_ ⟨by show (0 : Int) ≤ 0; omega, by show (0 : Int) ≤ 2; omega⟩ t
      show 1 ≤ meantS s ∧ meantS s ≤ 9
      unfold meantS
      split <;> assumption
  split
  · unfold pauseS
    split
    · exact h.global rfl rfl g p ⟨by show (0 : Int) ≤ 1; omega, by show (1 : Int) ≤ 2; omega⟩ t
    · exact h
  split
  · unfold resumeS
    split
    · exact h.global rfl rfl g p ⟨by show (0 : Int) ≤ 0; omega, by show (0 : Int) ≤ 2; omega⟩ t
    · exact h
  split
  · unfold abortS
    split
    · exact h
    · exact h.global rfl rfl g p ⟨by show (0 : Int) ≤ 2; omega, by show (2 : Int) ≤ 2; omega⟩ t
  split
  · unfold newtermS
    split
    · exact h
    · exact h.global rfl rfl g p m ⟨by show (0 : Int) ≤ s.term + 1; omega, by show s.term + 1 ≤ 1000000; omega⟩
  split
  · split
    · rename_i n hn
      exact h.node_ops hn
    · exact h
  · split
    · rename_i j hj
      exact h.job_ops (jobOf_some hj).1 h2
    · exact h

/-- An error leaves all as it was. -/
def ErrK (s : St) (r : Res9) : Prop := r.2 ≠ 0 → r.1 = s
theorem errK_ite {s : St} {p : Prop} [Decidable p] {a b : Res9} (ha : ErrK s a) (hb : ErrK s b) : ErrK s (if p then a else b) := by
  split
  · exact ha
  · exact hb
theorem errK_same (s : St) (n : Int) : ErrK s (s, n) := fun _ => rfl
theorem errK_ok (s x : St) : ErrK s (x, 0) := fun h => absurd rfl h
theorem apply_err {c : Cf} {s : St} {o : OpN} : ErrK s (applyS c s o) := by
  unfold applyS doS submitS targetS pauseS resumeS abortS newtermS
  repeat' (first | exact errK_same _ _ | exact errK_ok _ _ | apply errK_ite)
  · split
    · unfold nodeOp downS upS cordonS uncordonS moveS movedS
      repeat' (first | exact errK_same _ _ | exact errK_ok _ _ | apply errK_ite)
    · exact errK_same _ _
  · split
    · unfold jobOp cancelS holdS startS unholdS drainS savedS evictS doneS
      repeat' (first | exact errK_same _ _ | exact errK_ok _ _ | apply errK_ite)
      · split
        · exact fun h => absurd rfl h
        · exact fun _ => rfl
      split
      · unfold shrinkS
        repeat' (first | exact errK_same _ _ | exact errK_ok _ _ | apply errK_ite)
      · exact errK_same _ _
    · exact errK_same _ _

end Go.Proofs.YtkpcjdhnbjkaaaaDoor

/- Layer 9, plain mathematics: a job that is held, and let go again, leaves all as it was, but how often it was held; so does one that is started, drained and evicted (P9.5). No program is named here. -/
namespace Go.Proofs.YtkpcjdhnbjkaaaaDoor

theorem setJ_setJ (s : St) (k : Nat) (a b : Jb) : setJ (setJ s k a) k b = setJ s k b := by simp [setJ]
theorem give_back {l : List Nd} {set job : Int} (h : ∀ i n, l[i]? = some n → hasS set i = true → n.job = 0) : giveL (giveL l set job) set 0 = l := by
  apply List.ext_getElem?
  intro i
  unfold giveL
  rw [List.getElem?_mapIdx, List.getElem?_mapIdx]
  cases hi : l[i]? with
  | none => rfl
  | some n =>
    simp only [Option.map_some]
    cases hh : hasS set i with
    | false => simp
    | true =>
      have := h i n hi hh
      obtain ⟨u, cd, mv, v, jb⟩ := n
      simp at this ⊢
      exact this.symm
/-- An op of a job, that is right. -/
theorem apply_job {c : Cf} {s : St} {kd a b : Int} {k : Nat} {j : Jb} (hk : s.jobs[k]? = some j) (ha : a = (k : Int) + 1) (hr : rightO (kd, a, b, 0, 0, 0, 0) = true) (h1 : kd ≠ 1 ∧ kd ≠ 3 ∧ kd ≠ 4 ∧ kd ≠ 5 ∧ kd ≠ 6 ∧ kd ≠ 21) (h2 : ¬ (kd = 7 ∨ kd = 8 ∨ kd = 16 ∨ kd = 17 ∨ kd = 18 ∨ kd = 19)) :
    applyS c s (kd, a, b, 0, 0, 0, 0) = jobOp c s kd k j b := by
  have hj : jobOf s a = some j := by
    unfold jobOf
    rw [if_pos (by omega)]
    have : (a - 1).toNat = k := by omega
    rw [this, hk]
  have hk' : (a - 1).toNat = k := by omega
  unfold applyS
  rw [if_neg (by rw [hr]; simp)]
  unfold doS
  dsimp only
  rw [if_neg h1.1, if_neg h1.2.1, if_neg h1.2.2.1, if_neg h1.2.2.2.1, if_neg h1.2.2.2.2.1, if_neg h1.2.2.2.2.2, if_neg h2, hj]
  dsimp only
  rw [hk']
theorem hold_ok {c : Cf} {s t : St} {a b : Int} (h : applyS c s (9, a, b, 0, 0, 0, 0) = (t, 0)) :
    ∃ (k : Nat) (j : Jb), s.jobs[k]? = some j ∧ a = (k : Int) + 1 ∧ a ≤ 1000000 ∧ j.phase = 0 ∧ FitsP s j b ∧ allFree s.nodes b = true ∧ j.inc ≠ 1000000 ∧ t = setJ (giveS s b ((k : Int) + 1)) k { j with phase := 1, nodes := b, inc := j.inc + 1 } := by
  unfold applyS at h
  split at h
  · exact absurd (show _ = (0 : Int) from congrArg Prod.snd h) (by dsimp only; decide)
  rename_i hr
  have hr' : rightO (9, a, b, 0, 0, 0, 0) = true := by simpa using hr
  have hin := (rightO_iff.1 hr').2.1 a (by simp [numsO])
  unfold doS at h
  dsimp only at h
  rw [if_neg (by decide), if_neg (by decide), if_neg (by decide), if_neg (by decide), if_neg (by decide), if_neg (by decide), if_neg (by decide)] at h
  split at h
  · rename_i j hj
    obtain ⟨hk, ha⟩ := jobOf_some hj
    unfold jobOp at h
    rw [if_neg (by decide), if_pos (by rfl)] at h
    unfold holdS at h
    split at h
    · rename_i hp
      split at h
      · rename_i hf
        rw [← ha] at h
        exact ⟨(a - 1).toNat, j, hk, ha, hin.2, hp, hf.1, hf.2.1, hf.2.2, by rw [← ha]; exact (congrArg Prod.fst h).symm⟩
      · exact absurd (show _ = (0 : Int) from congrArg Prod.snd h) (by dsimp only; decide)
    · exact absurd (show _ = (0 : Int) from congrArg Prod.snd h) (by dsimp only; decide)
  · exact absurd (show _ = (0 : Int) from congrArg Prod.snd h) (by dsimp only; decide)

theorem right2 {kd a b : Int} (hk : 1 ≤ kd ∧ kd ≤ 21) (hm : manyK kd = 2) (ha : 0 ≤ a ∧ a ≤ 1000000) (hb : 0 ≤ b ∧ b ≤ 1000000) : rightO (kd, a, b, 0, 0, 0, 0) = true := by
  rw [rightO_iff]
  refine ⟨hk, fun n hn => ?_, fun n hn => ?_⟩
  · simp only [numsO, List.mem_cons, List.not_mem_nil, or_false] at hn
    rcases hn with rfl | rfl | rfl | rfl | rfl | rfl <;> omega
  · rw [hm] at hn
    simpa [numsO] using hn
theorem right1 {kd a : Int} (hk : 1 ≤ kd ∧ kd ≤ 21) (hm : manyK kd = 1) (ha : 0 ≤ a ∧ a ≤ 1000000) : rightO (kd, a, 0, 0, 0, 0, 0) = true := by
  rw [rightO_iff]
  refine ⟨hk, fun n hn => ?_, fun n hn => ?_⟩
  · simp only [numsO, List.mem_cons, List.not_mem_nil, or_false] at hn
    rcases hn with rfl | rfl | rfl | rfl | rfl | rfl <;> omega
  · rw [hm] at hn
    simpa [numsO] using hn

/-- What is wanted: as it was, but how often it was held. -/
def wantJ (j : Jb) : Jb := { j with inc := j.inc + 1, since := 0, til := 0 }
structure BackP (c : Cf) (s t : St) (a now : Int) (k : Nat) (j : Jb) : Prop where
  hk : s.jobs[k]? = some j
  ha : a = (k : Int) + 1
  un : applyS c t (11, a, 0, 0, 0, 0, 0) = (setJ s k (wantJ j), 0)
  st : ∃ v1, applyS c t (10, a, now, 0, 0, 0, 0) = (v1, 0) ∧ ∃ v2 g, applyS c v1 (12, a, now, 0, 0, 0, 0) = (v2, g) ∧ (g = 0 → (applyS c v2 (14, a, 0, 0, 0, 0, 0)).1 = setJ s k (wantJ j))
theorem RightP.back {c : Cf} {s t : St} {a b now : Int} (h : RightP c s) (h0 : 0 ≤ now) (h1 : now ≤ 1000000) (he : applyS c s (9, a, b, 0, 0, 0, 0) = (t, 0)) : ∃ (k : Nat) (j : Jb), BackP c s t a now k j := by
  obtain ⟨k, j, hk, ha, ha9, hp, hf, hfree, hi9, ht⟩ := hold_ok he
  have hz : j.nodes = 0 := (h.job k j hk).none_ (by omega)
  have hkl := (List.getElem?_eq_some_iff.1 hk).1
  have hgb : giveL (giveL s.nodes b ((k : Int) + 1)) b 0 = s.nodes := give_back fun i n hi hh => (freeN_iff.1 ((allFree_iff _ _).1 hfree i n hi hh)).2.2.2
  have hgo : ∀ j2 : Jb, j2.nodes = b → gone j2 0 = wantJ j → letGoS (setJ (giveS s b ((k : Int) + 1)) k j2) k j2 0 = setJ s k (wantJ j) := fun j2 h1 h2 => by
    unfold letGoS
    rw [h2, h1]
    simp only [setJ, giveS, List.set_set, hgb]
  have hget : ∀ j2 : Jb, (setJ (giveS s b ((k : Int) + 1)) k j2).jobs[k]? = some j2 := fun j2 => by
    simp only [setJ, giveS]
    rw [List.getElem?_set_self hkl]
  have haR : 0 ≤ a ∧ a ≤ 1000000 := by omega
  subst ht
  have hw : ∀ ph si ti, gone { j with phase := ph, nodes := b, inc := j.inc + 1, since := si, til := ti } 0 = wantJ j := fun ph si ti => by
    unfold gone wantJ
    obtain ⟨q, p, l, m, w, pn, phs, ic, nds, sn, tl, ep⟩ := j
    dsimp only at hp hz
    subst hp hz
    rfl
  refine ⟨k, j, hk, ha, ?_, ?_⟩
  · rw [apply_job (hget _) ha (right1 (by decide) (by decide) haR) (by decide) (by decide)]
    unfold jobOp
    rw [if_neg (by decide), if_neg (by decide), if_neg (by decide), if_pos (by rfl)]
    unfold unholdS
    rw [if_pos rfl, hgo _ rfl (hw 1 j.since j.til)]
  · refine ⟨setJ (giveS s b ((k : Int) + 1)) k { j with phase := 2, nodes := b, inc := j.inc + 1, since := now }, ?_, ?_⟩
    · rw [apply_job (hget _) ha (right2 (by decide) (by decide) haR ⟨h0, h1⟩) (by decide) (by decide)]
      unfold jobOp
      rw [if_neg (by decide), if_neg (by decide), if_pos (by rfl)]
      unfold startS
      rw [if_pos rfl, setJ_setJ]
    · rw [apply_job (hget _) ha (right2 (by decide) (by decide) haR ⟨h0, h1⟩) (by decide) (by decide)]
      unfold jobOp
      rw [if_neg (by decide), if_neg (by decide), if_neg (by decide), if_neg (by decide), if_pos (by rfl)]
      unfold drainS
      rw [if_pos rfl]
      split
      · exact ⟨_, 7, rfl, fun h => absurd h (by decide)⟩
      · rw [setJ_setJ]
        refine ⟨_, 0, rfl, fun _ => ?_⟩
        rw [apply_job (hget _) ha (right1 (by decide) (by decide) haR) (by decide) (by decide)]
        unfold jobOp
        rw [if_neg (by decide), if_neg (by decide), if_neg (by decide), if_neg (by decide), if_neg (by decide), if_neg (by decide), if_pos (by rfl)]
        unfold evictS
        rw [if_pos rfl, hgo _ rfl (hw 3 now now)]

end Go.Proofs.YtkpcjdhnbjkaaaaDoor
