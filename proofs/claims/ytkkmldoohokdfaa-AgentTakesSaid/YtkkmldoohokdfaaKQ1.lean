/- Texts that the proof of K rests on, one behind the other. -/
import Derived.WalkKit
import Derived.Laws.BitsAllLaws

/- Layer 1, plain mathematics: the bytes of a number, by its groups of seven bits; no program is named here. -/
namespace Go.Proofs.Ytkkmldoohokdfaa

/-- A number's bytes. -/
def numB (n : Nat) : List UInt8 := if h : n < 128 then [UInt8.ofNat n] else UInt8.ofNat (n % 128 + 128) :: numB (n / 128)

theorem numB_lo {n : Nat} (h : n < 128) : numB n = [UInt8.ofNat n] := by rw [numB, dif_pos h]
theorem numB_hi {n : Nat} (h : ¬ n < 128) : numB n = UInt8.ofNat (n % 128 + 128) :: numB (n / 128) := by rw [numB, dif_neg h]

theorem u8_toNat (n : Nat) : (UInt8.ofNat n).toNat = n % 256 := by simp

theorem numB_len_le (k : Nat) : ∀ n, n < 128 ^ (k + 1) → (numB n).length ≤ k + 1 := by
  induction k with
  | zero => intro n h; rw [numB_lo (by simpa using h)]; simp
  | succ k ih =>
    intro n h
    by_cases hn : n < 128
    · rw [numB_lo hn]; simp
    · rw [numB_hi hn, List.length_cons]
      have := ih (n / 128) (by rw [Nat.div_lt_iff_lt_mul (by omega)]; rw [Nat.pow_succ] at h; exact h)
      omega
theorem numB_pos (n : Nat) : 0 < (numB n).length := by
  by_cases hn : n < 128
  · rw [numB_lo hn]; simp
  · rw [numB_hi hn]; simp
theorem numB_len8 {n : Nat} (h : n < 9007199254740992) : (numB n).length ≤ 8 := numB_len_le 7 n (by omega)
theorem numB_len10 {n : Nat} (h : n < 9223372036854775808) : (numB n).length ≤ 9 := numB_len_le 8 n (by omega)

/-- What stands at the head of the bytes l: the groups up to the i-th have been read, they come to acc. -/
def scanN : Nat → List UInt8 → Nat → Nat → Option (Nat × Nat)
  | 0, _, _, _ => none
  | _ + 1, [], _, _ => none
  | k + 1, c :: r, i, acc => if 128 ≤ c.toNat then scanN k r (i + 1) (acc + 128 ^ i * (c.toNat % 128)) else
      if 9007199254740992 ≤ acc + 128 ^ i * (c.toNat % 128) ∨ (c.toNat = 0 ∧ 0 < i) then none else some (acc + 128 ^ i * (c.toNat % 128), i + 1)
def getN (l : List UInt8) : Option (Nat × Nat) := scanN 8 l 0 0

theorem or128_all : ∀ x : Fin 256, bits .or .u8 ((x.val : Nat) : Int) 128 = ((x.val % 128 + 128 : Nat) : Int) := by decide +kernel
theorem or128 (m : Nat) : bits .or .u8 ((m : Int) % 256) 128 = ((UInt8.ofNat (m % 128 + 128)).toNat : Int) := by
  have h := or128_all ⟨m % 256, by omega⟩
  simp only at h
  rw [u8_toNat]
  rw [show ((m : Int) % 256) = ((m % 256 : Nat) : Int) by omega, h]
  omega

theorem pow128 (i : Nat) : 128 ^ i = 2 ^ (7 * i) := by rw [Nat.pow_mul]
theorem pow128_le {i j : Nat} (h : i ≤ j) : 128 ^ i ≤ 128 ^ j := Nat.pow_le_pow_right (by omega) h

theorem ofInt64_toNat (a : Nat) (ha : a < 9223372036854775808) : (BitVec.ofInt 64 (a : Int)).toNat = a := by
  rw [BitVec.ofInt_natCast, BitVec.toNat_ofNat]; exact Nat.mod_eq_of_lt (by omega)
theorem i64_or_nat (a b : Nat) (ha : a < 9223372036854775808) (hb : b < 9223372036854775808) : bits .or .i64 (a : Int) (b : Int) = ((a ||| b : Nat) : Int) := by
  have hx : a ||| b < 2 ^ 63 := Nat.or_lt_two_pow (by omega) (by omega)
  show IntKind.i64.wrap ((BitVec.ofInt 64 (a : Int) ||| BitVec.ofInt 64 (b : Int)).toNat : Int) = _
  rw [BitVec.toNat_or, ofInt64_toNat a ha, ofInt64_toNat b hb, IntKind.wrap_i64]
  omega

theorem group_lt (i acc c : Nat) (_hi : i < 8) (hacc : acc < 128 ^ i) : acc + 128 ^ i * (c % 128) < 128 ^ (i + 1) := by
  rw [Nat.pow_succ]
  have : 128 ^ i * (c % 128) ≤ 128 ^ i * 127 := Nat.mul_le_mul_left _ (by omega)
  omega
theorem or_group (i acc c : Nat) (hi : i < 8) (hacc : acc < 128 ^ i) :
    bits .or .i64 (acc : Int) (RowKit.wrap64 ((c : Int) % 128 * 2 ^ (7 * i))) = ((acc + 128 ^ i * (c % 128) : Nat) : Int) := by
  have h1 := group_lt i acc c hi hacc
  have h2 := pow128_le (show i + 1 ≤ 8 by omega)
  have e : ((c : Int) % 128 * 2 ^ (7 * i)) = ((128 ^ i * (c % 128) : Nat) : Int) := by
    rw [pow128]
    simp [Int.mul_comm]
  rw [e, IntWalk.wrap64_in _ (by omega), i64_or_nat _ _ (by omega) (by omega)]
  congr 1
  rw [Nat.add_comm, pow128, Nat.two_pow_add_eq_or_of_lt (by rw [← pow128]; exact hacc), Nat.or_comm]

theorem scanN_step {k : Nat} {l r : List UInt8} {c : UInt8} (i acc : Nat) (h : l = c :: r) : scanN (k + 1) l i acc = if 128 ≤ c.toNat then scanN k r (i + 1) (acc + 128 ^ i * (c.toNat % 128)) else
      if 9007199254740992 ≤ acc + 128 ^ i * (c.toNat % 128) ∨ (c.toNat = 0 ∧ 0 < i) then none else some (acc + 128 ^ i * (c.toNat % 128), i + 1) := by rw [h, scanN]
theorem drop_cons {bs : List UInt8} {p : Nat} (h : p < bs.length) : bs.drop p = bs[p] :: bs.drop (p + 1) := List.drop_eq_getElem_cons h

/-! ### Lists of numbers -/
def isNumB (n : Int) : Bool := decide (0 ≤ n) && decide (n < 9007199254740992)
theorem isNumB_iff {n : Int} : isNumB n = true ↔ (0 ≤ n ∧ n < 9007199254740992) := by simp [isNumB]
theorem isNumB_not {n : Int} (h : isNumB n = false) : ¬ (0 ≤ n ∧ n < 9007199254740992) := by
  rw [← isNumB_iff, h]; simp
def numsB (l : List Int) : List UInt8 := l.flatMap fun n => numB n.toNat
def listB (l : List Int) : List UInt8 := numB l.length ++ numsB l

theorem numsB_snoc (l : List Int) (n : Int) : numsB (l ++ [n]) = numsB l ++ numB n.toNat := by simp [numsB, List.flatMap_append]
theorem numsB_len (l : List Int) (h : l.all isNumB = true) : (numsB l).length ≤ 8 * l.length := by
  induction l with
  | nil => simp [numsB]
  | cons n l ih =>
    simp only [List.all_cons, Bool.and_eq_true] at h
    have h1 := isNumB_iff.1 h.1
    have h2 := numB_len8 (n := n.toNat) (by omega)
    have h3 := ih h.2
    simp only [numsB, List.flatMap_cons, List.length_append, List.length_cons] at *
    omega
theorem take_snoc {α : Type} (l : List α) (k : Nat) (h : k < l.length) : l.take (k + 1) = l.take k ++ [l[k]] := by
  rw [List.take_succ_eq_append_getElem h]
theorem all_take_snoc {p : Int → Bool} {l : List Int} {k : Nat} (h : k < l.length) (hl : (l.take k).all p = true) (hk : p l[k] = true) : (l.take (k + 1)).all p = true := by
  rw [take_snoc l k h, List.all_append, hl]
  simp [hk]
theorem all_false_at {p : Int → Bool} {l : List Int} {k : Nat} (h : k < l.length) (hk : p l[k] = false) : l.all p = false := by
  rw [List.all_eq_false]
  exact ⟨l[k], List.getElem_mem h, by simp [hk]⟩

/-! ### Reading -/
theorem scanN_le : ∀ (k : Nat) (l : List UInt8) (i acc n j : Nat), scanN k l i acc = some (n, j) → i < j ∧ j - i ≤ l.length ∧ j ≤ i + k ∧ n < 9007199254740992
  | 0, _, _, _, _, _, h => by simp [scanN] at h
  | k + 1, [], _, _, _, _, h => by simp [scanN] at h
  | k + 1, c :: r, i, acc, n, j, h => by
    rw [scanN] at h
    split at h
    · have := scanN_le k r (i + 1) _ n j h
      simp only [List.length_cons]
      omega
    · split at h
      · cases h
      · rename_i hn
        simp only [Option.some.injEq, Prod.mk.injEq] at h
        obtain ⟨h1, h2⟩ := h
        simp only [List.length_cons]
        omega
theorem getN_le {l : List UInt8} {n j : Nat} (h : getN l = some (n, j)) : 0 < j ∧ j ≤ l.length ∧ j ≤ 8 ∧ n < 9007199254740992 := by
  have := scanN_le 8 l 0 0 n j h
  omega

/-- So many numbers, from a place on: they, and the place behind them. -/
def readK : Nat → List UInt8 → Nat → Option (List Nat × Nat)
  | 0, _, p => some ([], p)
  | k + 1, bs, p => match getN (bs.drop p) with
    | none => none
    | some (n, j) => match readK k bs (p + j) with
      | none => none
      | some (l, q) => some (n :: l, q)
theorem readK_le : ∀ (k : Nat) (bs : List UInt8) (p : Nat) (l : List Nat) (q : Nat), p ≤ bs.length → readK k bs p = some (l, q) → p + k ≤ q ∧ q ≤ bs.length ∧ l.length = k ∧ ∀ n ∈ l, n < 9007199254740992
  | 0, bs, p, l, q, hp, h => by
    simp only [readK, Option.some.injEq, Prod.mk.injEq] at h
    obtain ⟨rfl, rfl⟩ := h
    simp
    exact hp
  | k + 1, bs, p, l, q, hp, h => by
    rw [readK] at h
    split at h
    · cases h
    · rename_i n j hg
      split at h
      · cases h
      · rename_i l' q' hr
        simp only [Option.some.injEq, Prod.mk.injEq] at h
        obtain ⟨rfl, rfl⟩ := h
        have h1 := getN_le hg
        rw [List.length_drop] at h1
        have h2 := readK_le k bs (p + j) l' q' (by omega) hr
        refine ⟨by omega, h2.2.1, by simp [h2.2.2.1], fun m hm => ?_⟩
        rcases List.mem_cons.1 hm with rfl | hm
        · omega
        · exact h2.2.2.2 m hm
/-- The text, the list, that stands at a place, and the place behind it. -/
def textAt (bs : List UInt8) (p : Nat) : Option (List UInt8 × Nat) := match getN (bs.drop p) with
  | none => none
  | some (n, j) => if n ≤ bs.length - (p + j) then some ((bs.drop (p + j)).take n, p + j + n) else none
def listAt (bs : List UInt8) (p : Nat) (most : Int) : Option (List Nat × Nat) := match getN (bs.drop p) with
  | none => none
  | some (c, j) => if (c : Int) ≤ most then readK c bs (p + j) else none

theorem isNum_some {n : Int} (h : 0 ≤ n ∧ n < 9007199254740992) : ∃ m : Nat, n = m ∧ m < 9007199254740992 := ⟨n.toNat, by omega, by omega⟩

end Go.Proofs.Ytkkmldoohokdfaa

/- Layer 1, plain mathematics: what is put is read again. -/
namespace Go.Proofs.Ytkkmldoohokdfaa

theorem split128 (i m : Nat) : 128 ^ i * (m % 128) + 128 ^ (i + 1) * (m / 128) = 128 ^ i * m := by
  rw [Nat.pow_succ, Nat.mul_assoc, ← Nat.mul_add]
  congr 1
  omega

theorem scanN_put : ∀ (k i acc m : Nat) (rest : List UInt8), i + k = 8 → acc + 128 ^ i * m < 9007199254740992 → (0 < m ∨ i = 0) →
    scanN k (numB m ++ rest) i acc = some (acc + 128 ^ i * m, i + (numB m).length)
  | 0, i, acc, m, rest, hk, hlt, hm => by
    obtain rfl : i = 8 := by omega
    have : (128 : Nat) ^ 8 = 72057594037927936 := by decide
    rw [this] at hlt
    omega
  | k + 1, i, acc, m, rest, hk, hlt, hm => by
    by_cases h : m < 128
    · rw [numB_lo h, List.cons_append, List.nil_append, scanN, u8_toNat, Nat.mod_eq_of_lt (show m < 256 by omega), if_neg (by omega), Nat.mod_eq_of_lt h, if_neg (by omega)]
      rfl
    · rw [numB_hi h, List.cons_append, scanN, u8_toNat, Nat.mod_eq_of_lt (show m % 128 + 128 < 256 by omega), if_pos (by omega), show (m % 128 + 128) % 128 = m % 128 by omega]
      have e := split128 i m
      rw [scanN_put k (i + 1) _ (m / 128) rest (by omega) (by omega) (by omega)]
      simp only [List.length_cons]
      congr 2
      · omega
      · omega

theorem getN_put {n : Nat} (h : n < 9007199254740992) (rest : List UInt8) : getN (numB n ++ rest) = some (n, (numB n).length) := by
  rw [getN, scanN_put 8 0 0 n rest (by omega) (by simpa using h) (.inr rfl)]
  simp

theorem scanN_get : ∀ (k : Nat) (l : List UInt8) (i acc n j : Nat), scanN k l i acc = some (n, j) → ∃ m, n = acc + 128 ^ i * m ∧ numB m = l.take (j - i) ∧ (0 < m ∨ i = 0)
  | 0, _, _, _, _, _, h => by simp [scanN] at h
  | k + 1, [], _, _, _, _, h => by simp [scanN] at h
  | k + 1, c :: r, i, acc, n, j, h => by
    have hc := c.toNat_lt
    rw [scanN] at h
    split at h
    · rename_i hge
      have hle := scanN_le k r (i + 1) _ n j h
      obtain ⟨m, h1, h2, h3⟩ := scanN_get k r (i + 1) _ n j h
      have hm : 0 < m := by omega
      refine ⟨c.toNat % 128 + 128 * m, ?_, ?_, .inl (by omega)⟩
      · have e := split128 i (c.toNat % 128 + 128 * m)
        rw [show (c.toNat % 128 + 128 * m) % 128 = c.toNat % 128 by omega, show (c.toNat % 128 + 128 * m) / 128 = m by omega] at e
        omega
      · rw [numB_hi (by omega), show (c.toNat % 128 + 128 * m) % 128 + 128 = c.toNat by omega, show (c.toNat % 128 + 128 * m) / 128 = m by omega, h2, show j - i = (j - (i + 1)) + 1 by omega, List.take_succ_cons]
        simp
    · split at h
      · cases h
      · rename_i hge hn
        simp only [Option.some.injEq, Prod.mk.injEq] at h
        obtain ⟨h1, h2⟩ := h
        refine ⟨c.toNat, by rw [← h1, Nat.mod_eq_of_lt (by omega)], ?_, by omega⟩
        rw [numB_lo (by omega), show j - i = 1 by omega]
        simp

theorem getN_get {l : List UInt8} {n j : Nat} (h : getN l = some (n, j)) : numB n = l.take j := by
  obtain ⟨m, h1, h2, _⟩ := scanN_get 8 l 0 0 n j h
  have : n = m := by omega
  rw [this, h2]
  simp

theorem readK_put : ∀ (l : List Int) (pre rest : List UInt8), l.all isNumB = true → readK l.length (pre ++ (numsB l ++ rest)) pre.length = some (l.map Int.toNat, pre.length + (numsB l).length)
  | [], pre, rest, _ => by simp [readK, numsB]
  | n :: l, pre, rest, h => by
    simp only [List.all_cons, Bool.and_eq_true] at h
    have h1 := isNumB_iff.1 h.1
    have e : numsB (n :: l) = numB n.toNat ++ numsB l := by simp [numsB]
    rw [List.length_cons, readK, List.drop_left, e, List.append_assoc, getN_put (by omega)]
    have ih := readK_put l (pre ++ numB n.toNat) rest h.2
    rw [List.length_append, List.append_assoc] at ih
    simp only [ih]
    simp [Nat.add_assoc]

theorem listAt_put (l : List Int) (pre rest : List UInt8) (most : Int) (h : l.all isNumB = true) (hl : l.length < 9007199254740992) (hm : (l.length : Int) ≤ most) :
    listAt (pre ++ (listB l ++ rest)) pre.length most = some (l.map Int.toNat, pre.length + (listB l).length) := by
  rw [listAt, List.drop_left, listB, List.append_assoc, getN_put hl]
  simp only [hm, if_true]
  have := readK_put l (pre ++ numB l.length) rest h
  rw [List.length_append, List.append_assoc] at this
  rw [this]
  simp [Nat.add_assoc]
theorem listAt_less (l : List Int) (pre rest : List UInt8) (most : Int) (hl : l.length < 9007199254740992) (hm : ¬ (l.length : Int) ≤ most) : listAt (pre ++ (listB l ++ rest)) pre.length most = none := by
  rw [listAt, List.drop_left, listB, List.append_assoc, getN_put hl]
  simp only [hm, if_false]
theorem textAt_put (s pre rest : List UInt8) (h : s.length < 9007199254740992) : textAt (pre ++ (numB s.length ++ s ++ rest)) pre.length = some (s, pre.length + (numB s.length ++ s).length) := by
  rw [textAt, List.drop_left, List.append_assoc, getN_put h]
  simp only [List.length_append]
  rw [if_pos (by omega)]
  have e : (pre ++ (numB s.length ++ (s ++ rest))).drop (pre.length + (numB s.length).length) = s ++ rest := by
    rw [← List.append_assoc, ← List.length_append, List.drop_left]
  rw [e, List.take_left, Nat.add_assoc]

theorem toNat_back (l : List Int) (h : l.all isNumB = true) : (l.map Int.toNat).map (fun (n : Nat) => (n : Int)) = l := by
  rw [List.map_map]
  conv => rhs; rw [← List.map_id l]
  refine List.map_congr_left fun n hn => ?_
  have := isNumB_iff.1 (List.all_eq_true.1 h n hn)
  simp
  omega

theorem listB_pos (l : List Int) : 0 < (listB l).length := by
  have := numB_pos l.length
  simp only [listB, List.length_append]
  omega
theorem listB_le (l : List Int) (h : l.all isNumB = true) (hl : l.length ≤ 17592186043904) : (listB l).length ≤ 8 + 8 * l.length := by
  have h1 := numB_len8 (n := l.length) (by omega)
  have h2 := numsB_len l h
  simp only [listB, List.length_append]
  omega

theorem numB_len_ge : ∀ (k n : Nat), 128 ^ k ≤ n → k + 1 ≤ (numB n).length
  | 0, n, _ => by have := numB_pos n; omega
  | k + 1, n, h => by
    rw [Nat.pow_succ] at h
    have h1 : 0 < 128 ^ k := Nat.pow_pos (by omega)
    rw [numB_hi (by omega), List.length_cons]
    have := numB_len_ge k (n / 128) (by rw [Nat.le_div_iff_mul_le (by omega)]; exact h)
    omega
theorem numB_group_len {i acc c : Nat} (hacc : acc < 128 ^ i) (hc : c < 128) : ((numB (acc + 128 ^ i * (c % 128))).length = i + 1) ↔ ¬ (c = 0 ∧ 0 < i) := by
  rw [Nat.mod_eq_of_lt hc]
  rcases Nat.eq_zero_or_pos c with h0 | h0
  · subst h0
    rw [Nat.mul_zero, Nat.add_zero]
    rcases Nat.eq_zero_or_pos i with hi | hi
    · subst hi
      have : acc = 0 := by simpa using hacc
      subst this
      rw [numB_lo (by omega)]
      simp
    · have := numB_len_le (i - 1) acc (by rw [show i - 1 + 1 = i by omega]; exact hacc)
      constructor
      · intro h
        omega
      · intro h
        exact absurd ⟨rfl, hi⟩ h
  · have h1 : 128 ^ i ≤ 128 ^ i * c := Nat.le_mul_of_pos_right _ h0
    have h2 : 128 ^ i * c ≤ 128 ^ i * 127 := Nat.mul_le_mul_left _ (by omega)
    have h3 := numB_len_ge i (acc + 128 ^ i * c) (by omega)
    have h4 := numB_len_le i (acc + 128 ^ i * c) (by rw [Nat.pow_succ]; omega)
    constructor
    · intro _ h
      omega
    · intro _
      omega

end Go.Proofs.Ytkkmldoohokdfaa

/- Layer 2, plain mathematics: the register of the check sum, as 32 bits; no program is named here. -/
namespace Go.Proofs.Ytkkmldoohokdfaa

/-- One bit; one byte; all bytes. -/
def crcBit (r : BitVec 32) : BitVec 32 := if r.getLsbD 0 then (r >>> 1) ^^^ 0xEDB88320#32 else r >>> 1
def crcBits : Nat → BitVec 32 → BitVec 32
  | 0, r => r
  | k + 1, r => crcBits k (crcBit r)
def crcByte (r : BitVec 32) (c : UInt8) : BitVec 32 := crcBits 8 (r ^^^ BitVec.ofNat 32 c.toNat)
def crcAll (r : BitVec 32) (l : List UInt8) : BitVec 32 := l.foldl crcByte r
/-- The sum of bytes. -/
def crcOf (l : List UInt8) : BitVec 32 := ~~~ crcAll (~~~ 0#32) l
def crcMore (s : BitVec 32) (l : List UInt8) : BitVec 32 := ~~~ crcAll (~~~ s) l

theorem crcAll_append (r : BitVec 32) (a b : List UInt8) : crcAll r (a ++ b) = crcAll (crcAll r a) b := List.foldl_append
theorem crcMore_of (a b : List UInt8) : crcMore (crcOf a) b = crcOf (a ++ b) := by
  rw [crcMore, crcOf, crcOf, BitVec.not_not, crcAll_append]
theorem crcMore_more (s : BitVec 32) (a b : List UInt8) : crcMore (crcMore s a) b = crcMore s (a ++ b) := by
  rw [crcMore, crcMore, crcMore, BitVec.not_not, crcAll_append]
theorem crcMore_nil (s : BitVec 32) : crcMore s [] = s := by
  rw [crcMore]
  exact BitVec.not_not
theorem crcBits_succ : ∀ (k : Nat) (r : BitVec 32), crcBits (k + 1) r = crcBit (crcBits k r)
  | 0, _ => rfl
  | k + 1, r => by
    rw [crcBits, crcBits_succ k (crcBit r)]
    rfl

/-! ### It is linear -/
theorem crcBit_xor (a b : BitVec 32) : crcBit (a ^^^ b) = crcBit a ^^^ crcBit b := by
  have e : (a ^^^ b) >>> 1 = (a >>> 1) ^^^ (b >>> 1) := BitVec.ushiftRight_xor_distrib a b 1
  simp only [crcBit, BitVec.getLsbD_xor, e]
  cases a.getLsbD 0 <;> cases b.getLsbD 0 <;> simp only [Bool.false_bne, Bool.true_bne, Bool.not_false, if_true, if_false, Bool.false_eq_true, bne_self_eq_false]
  · rw [BitVec.xor_assoc]
  · rw [BitVec.xor_assoc, BitVec.xor_assoc, BitVec.xor_comm (b >>> 1)]
  · rw [BitVec.xor_assoc, BitVec.xor_comm (0xEDB88320#32) (b >>> 1 ^^^ 0xEDB88320#32), BitVec.xor_assoc, BitVec.xor_self, BitVec.xor_zero]
theorem crcBits_xor : ∀ (k : Nat) (a b : BitVec 32), crcBits k (a ^^^ b) = crcBits k a ^^^ crcBits k b
  | 0, _, _ => rfl
  | k + 1, a, b => by rw [crcBits, crcBits, crcBits, crcBit_xor, crcBits_xor k]

theorem ofNat_xor (a b : Nat) : BitVec.ofNat 32 (a ^^^ b) = BitVec.ofNat 32 a ^^^ BitVec.ofNat 32 b := by
  apply BitVec.eq_of_getLsbD_eq
  intro i hi
  simp [hi]
theorem crcByte_xor (r s : BitVec 32) (c d : UInt8) : crcByte (r ^^^ s) (c ^^^ d) = crcByte r c ^^^ crcByte s d := by
  rw [crcByte, crcByte, crcByte, ← crcBits_xor, UInt8.toNat_xor, ofNat_xor]
  congr 1
  rw [BitVec.xor_assoc, BitVec.xor_assoc]
  congr 1
  rw [← BitVec.xor_assoc, ← BitVec.xor_assoc, BitVec.xor_comm s]
theorem crcAll_xor : ∀ (a b : List UInt8) (r s : BitVec 32), a.length = b.length → crcAll (r ^^^ s) (List.zipWith (· ^^^ ·) a b) = crcAll r a ^^^ crcAll s b
  | [], [], _, _, _ => rfl
  | c :: a, d :: b, r, s, h => by
    simp only [List.zipWith_cons_cons, crcAll, List.foldl_cons]
    rw [crcByte_xor]
    exact crcAll_xor a b _ _ (by simpa using h)
  | [], _ :: _, _, _, h => by simp at h
  | _ :: _, [], _, _, h => by simp at h

theorem not_xor3 (a b c : BitVec 32) : ~~~ (a ^^^ b ^^^ c) = ~~~ a ^^^ ~~~ b ^^^ ~~~ c := by
  apply BitVec.eq_of_getLsbD_eq
  intro i hi
  simp [hi]
theorem crcOf_three (a b c : List UInt8) (h1 : a.length = b.length) (h2 : a.length = c.length) :
    crcOf (List.zipWith (· ^^^ ·) (List.zipWith (· ^^^ ·) a b) c) = crcOf a ^^^ crcOf b ^^^ crcOf c := by
  have e : (~~~ 0#32) = ((~~~ 0#32) ^^^ (~~~ 0#32)) ^^^ (~~~ 0#32) := by decide
  rw [crcOf, crcOf, crcOf, crcOf, ← not_xor3]
  conv => lhs; rw [e]
  rw [crcAll_xor _ _ _ _ (by simp [List.length_zipWith]; omega), crcAll_xor _ _ _ _ h1]

/-! ### It loses nothing -/
theorem crcBit_zero {r : BitVec 32} (h : crcBit r = 0#32) : r = 0#32 := by
  unfold crcBit at h
  split at h
  · exfalso
    have := congrArg (fun x => x.getLsbD 31) h
    simp at this
  · rename_i hl
    apply BitVec.eq_of_getLsbD_eq
    intro i hi
    have := congrArg (fun x => x.getLsbD (i - 1)) h
    simp only [BitVec.getLsbD_ushiftRight, BitVec.getLsbD_zero] at this
    rcases Nat.eq_zero_or_pos i with h0 | h0
    · subst h0
      simpa using hl
    · rw [show 1 + (i - 1) = i by omega] at this
      simpa using this
theorem crcBits_zero : ∀ (k : Nat) {r : BitVec 32}, crcBits k r = 0#32 → r = 0#32
  | 0, _, h => h
  | k + 1, _, h => crcBit_zero (crcBits_zero k h)
theorem xor_eq_zero {a b : BitVec 32} (h : a ^^^ b = 0#32) : a = b := by
  have := congrArg (· ^^^ b) h
  simp only [BitVec.xor_assoc, BitVec.xor_self, BitVec.xor_zero, BitVec.zero_xor] at this
  exact this
theorem crcBits_inj (k : Nat) {a b : BitVec 32} (h : crcBits k a = crcBits k b) : a = b := by
  apply xor_eq_zero
  apply crcBits_zero k
  rw [crcBits_xor, h, BitVec.xor_self]
theorem crcByte_inj {r s : BitVec 32} {c : UInt8} (h : crcByte r c = crcByte s c) : r = s := by
  have := crcBits_inj 8 h
  have := congrArg (· ^^^ BitVec.ofNat 32 c.toNat) this
  simpa only [BitVec.xor_assoc, BitVec.xor_self, BitVec.xor_zero] using this
theorem crcByte_inj2 {r : BitVec 32} {c d : UInt8} (h : crcByte r c = crcByte r d) : c = d := by
  have h1 := crcBits_inj 8 h
  have h2 := congrArg (r ^^^ ·) h1
  simp only [← BitVec.xor_assoc, BitVec.xor_self, BitVec.zero_xor] at h2
  have h3 := congrArg BitVec.toNat h2
  simp only [BitVec.toNat_ofNat] at h3
  have hc := c.toNat_lt
  have hd := d.toNat_lt
  apply UInt8.toNat_inj.1
  omega
theorem crcAll_inj : ∀ (l : List UInt8) {r s : BitVec 32}, crcAll r l = crcAll s l → r = s
  | [], _, _, h => h
  | _ :: l, _, _, h => crcByte_inj (crcAll_inj l h)
/-- One byte turned: another sum. -/
theorem crcOf_turned (pre post : List UInt8) {c d : UInt8} (h : crcOf (pre ++ c :: post) = crcOf (pre ++ d :: post)) : c = d := by
  unfold crcOf at h
  have h1 := BitVec.not_inj.1 h
  rw [crcAll_append, crcAll_append] at h1
  exact crcByte_inj2 (crcAll_inj post h1)

end Go.Proofs.Ytkkmldoohokdfaa

/- Layer 2, plain mathematics: the register's bits as the program's numbers; no function is named here. -/
namespace Go.Proofs.Ytkkmldoohokdfaa

theorem ofNat_u8 (c : UInt8) : (BitVec.ofNat 32 c.toNat).toNat = c.toNat := by
  rw [BitVec.toNat_ofNat]
  have := c.toNat_lt
  omega
theorem xorU32 (r : BitVec 32) (c : UInt8) : bits .xor .u32 (r.toNat : Int) (c.toNat : Int) = ((r ^^^ BitVec.ofNat 32 c.toNat).toNat : Int) := by
  have := c.toNat_lt
  rw [u32_xor_nat _ _ r.isLt (by omega), BitVec.toNat_xor, ofNat_u8]
theorem xorU32m (r : BitVec 32) (c : UInt8) : bits .xor .u32 (r.toNat : Int) ((c.toNat : Int) % 4294967296) = ((r ^^^ BitVec.ofNat 32 c.toNat).toNat : Int) := by
  have := c.toNat_lt
  rw [← xorU32, show ((c.toNat : Int) % 4294967296) = (c.toNat : Int) by omega]
theorem lowU32 (r : BitVec 32) : bits .and .u32 (r.toNat : Int) 1 = ((r.toNat % 2 : Nat) : Int) := by
  have := u32_and_nat r.toNat 1 r.isLt (by omega)
  rw [nat_mask1] at this
  exact this
theorem low_bit (r : BitVec 32) : r.getLsbD 0 = decide (r.toNat % 2 = 1) := by
  rw [BitVec.getLsbD, Nat.testBit_zero]
theorem crcBit_even {r : BitVec 32} (h : r.toNat % 2 = 0) : (r.toNat / 2 : Nat) = (crcBit r).toNat := by
  rw [crcBit, low_bit, if_neg (by rw [h]; decide), BitVec.toNat_ushiftRight, Nat.shiftRight_eq_div_pow]
theorem crcBit_odd {r : BitVec 32} (h : r.toNat % 2 = 1) : (r.toNat / 2) ^^^ 3988292384 = (crcBit r).toNat := by
  rw [crcBit, low_bit, if_pos (by rw [h]; decide), BitVec.toNat_xor, BitVec.toNat_ushiftRight, Nat.shiftRight_eq_div_pow]
  rfl
theorem polyU32 {r : BitVec 32} (h : r.toNat % 2 = 1) : bits .xor .u32 ((r.toNat : Int) / 2) 3988292384 = ((crcBit r).toNat : Int) := by
  have := u32_xor_nat (r.toNat / 2) 3988292384 (by have := r.isLt; omega) (by omega)
  rw [crcBit_odd h] at this
  exact this
theorem i64_xor_nat (a b : Nat) (ha : a < 9223372036854775808) (hb : b < 9223372036854775808) : bits .xor .i64 (a : Int) (b : Int) = ((a ^^^ b : Nat) : Int) := by
  have hx : a ^^^ b < 2 ^ 63 := Nat.xor_lt_two_pow (by omega) (by omega)
  have e : ∀ c : Nat, c < 9223372036854775808 → (BitVec.ofInt 64 (c : Int)).toNat = c := fun c hc => by
    rw [BitVec.ofInt_natCast, BitVec.toNat_ofNat]
    exact Nat.mod_eq_of_lt (by omega)
  show IntKind.i64.wrap ((BitVec.ofInt 64 (a : Int) ^^^ BitVec.ofInt 64 (b : Int)).toNat : Int) = _
  rw [BitVec.toNat_xor, e a ha, e b hb, IntKind.wrap_i64]
  omega
theorem xorI64 (r : BitVec 32) (c : UInt8) : bits .xor .i64 (r.toNat : Int) (c.toNat : Int) = ((r ^^^ BitVec.ofNat 32 c.toNat).toNat : Int) := by
  have := c.toNat_lt
  have := r.isLt
  rw [i64_xor_nat _ _ (by omega) (by omega), BitVec.toNat_xor, ofNat_u8]
theorem polyI64 {r : BitVec 32} (h : r.toNat % 2 = 1) : bits .xor .i64 ((r.toNat : Int) / 2) 3988292384 = ((crcBit r).toNat : Int) := by
  have := i64_xor_nat (r.toNat / 2) 3988292384 (by have := r.isLt; omega) (by omega)
  rw [crcBit_odd h] at this
  exact this
theorem notU32 (r : BitVec 32) : bits .xor .u32 4294967295 (r.toNat : Int) = ((~~~ r).toNat : Int) := by
  have := u32_xor_nat 4294967295 r.toNat (by omega) r.isLt
  have e : (4294967295 ^^^ r.toNat) = (~~~ r).toNat := by
    have : (4294967295 : Nat) = (BitVec.allOnes 32).toNat := by decide
    rw [this, ← BitVec.toNat_xor, BitVec.allOnes_xor]
  rw [← e]
  exact this
theorem notMax (r : BitVec 32) : bits .xor .u32 IntKind.u32.max (r.toNat : Int) = ((~~~ r).toNat : Int) := notU32 r
theorem not_nat (r : BitVec 32) : (~~~ r).toNat = 4294967295 - r.toNat := by
  rw [BitVec.toNat_not]
theorem crcAll_snoc {l : List UInt8} {k : Nat} (h : k < l.length) (r : BitVec 32) : crcAll r (l.take (k + 1)) = crcByte (crcAll r (l.take k)) l[k] := by
  rw [List.take_succ_eq_append_getElem h, crcAll_append]
  rfl

end Go.Proofs.Ytkkmldoohokdfaa

/- Layer 2, plain mathematics: a number's four bytes. -/
namespace Go.Proofs.Ytkkmldoohokdfaa

/-- A number's low 32 bits as four bytes, the highest first. -/
def putB (n : Int) : List UInt8 := [UInt8.ofNat (n / 16777216 % 256).toNat, UInt8.ofNat (n / 65536 % 256).toNat, UInt8.ofNat (n / 256 % 256).toNat, UInt8.ofNat (n % 256).toNat]
theorem putB_len (n : Int) : (putB n).length = 4 := rfl

/-- Do bytes end with their sum? -/
def isB (l : List UInt8) : Bool := decide (4 ≤ l.length) && decide (l.drop (l.length - 4) = putB ((crcOf (l.take (l.length - 4))).toNat : Int))

theorem u8_mod (n : Int) : ((UInt8.ofNat (n % 256).toNat).toNat : Int) = n % 256 := by
  rw [UInt8.toNat_ofNat']
  omega

theorem u8_beq (x y : UInt8) : ((x.toNat : Int) == (y.toNat : Int)) = decide (y = x) := by
  rw [Bool.eq_iff_iff]
  simp only [beq_iff_eq, decide_eq_true_eq]
  constructor
  · intro h
    exact (UInt8.toNat_inj.1 (by omega)).symm
  · rintro rfl
    rfl

/-- The reference's way to the four bytes. -/
theorem ref_put (n : Int) : (IntKind.u64.wrap (((IntKind.u64.wrap n).tmod 4294967296).tdiv 16777216) % 256 = n / 16777216 % 256) ∧ ((IntKind.u64.wrap (((IntKind.u64.wrap n).tmod 4294967296).tdiv 65536)).tmod 256 % 256 = n / 65536 % 256) ∧
    ((IntKind.u64.wrap (((IntKind.u64.wrap n).tmod 4294967296).tdiv 256)).tmod 256 % 256 = n / 256 % 256) ∧ ((IntKind.u64.wrap n).tmod 256 % 256 = n % 256) := by
  have e : ∀ m : Int, IntKind.u64.wrap m = m % 18446744073709551616 := fun m => by simp [IntKind.wrap, IntKind.bits, IntKind.signed]
  simp only [e]
  have h := Int.emod_nonneg n (show (18446744073709551616 : Int) ≠ 0 by omega)
  rw [Int.tmod_eq_emod_of_nonneg h, Int.tmod_eq_emod_of_nonneg h]
  have h2 := Int.emod_nonneg (n % 18446744073709551616) (show (4294967296 : Int) ≠ 0 by omega)
  rw [Int.tdiv_eq_ediv_of_nonneg h2, Int.tdiv_eq_ediv_of_nonneg h2, Int.tdiv_eq_ediv_of_nonneg h2]
  have h3 : ∀ m : Int, 0 ≤ m % 18446744073709551616 := fun m => Int.emod_nonneg m (by omega)
  rw [Int.tmod_eq_emod_of_nonneg (h3 _), Int.tmod_eq_emod_of_nonneg (h3 _)]
  refine ⟨?_, ?_, ?_, ?_⟩ <;> omega

end Go.Proofs.Ytkkmldoohokdfaa

/- Layer 2, plain mathematics: bytes with their sum behind are so; with one byte turned they aren't. -/
namespace Go.Proofs.Ytkkmldoohokdfaa

theorem putB_inj {m n : Nat} (hm : m < 4294967296) (hn : n < 4294967296) (h : putB (m : Int) = putB (n : Int)) : m = n := by
  simp only [putB, List.cons.injEq, and_true] at h
  obtain ⟨h1, h2, h3, h4⟩ := h
  have e1 := congrArg UInt8.toNat h1
  have e2 := congrArg UInt8.toNat h2
  have e3 := congrArg UInt8.toNat h3
  have e4 := congrArg UInt8.toNat h4
  simp only [UInt8.toNat_ofNat'] at e1 e2 e3 e4
  omega

theorem isB_put (l : List UInt8) : isB (l ++ putB ((crcOf l).toNat : Int)) = true := by
  have h4 := putB_len ((crcOf l).toNat : Int)
  rw [isB, List.length_append, h4, Nat.add_sub_cancel, List.drop_left, List.take_left]
  simp

theorem isB_turn (l : List UInt8) (i : Nat) (d : UInt8) (hi : i < l.length + 4) (hd : (l ++ putB ((crcOf l).toNat : Int))[i]? ≠ some d) : isB ((l ++ putB ((crcOf l).toNat : Int)).set i d) = false := by
  have h4 := putB_len ((crcOf l).toNat : Int)
  rw [isB, List.length_set, List.length_append, h4, Nat.add_sub_cancel, Bool.and_eq_false_iff]
  right
  rw [decide_eq_false_iff_not]
  intro h
  by_cases hl : i < l.length
  · rw [List.set_append_left _ _ hl, List.drop_left' (by rw [List.length_set]), List.take_left' (by rw [List.length_set])] at h
    have h2 := putB_inj (crcOf l).isLt (crcOf (l.set i d)).isLt h
    have h3 : crcOf l = crcOf (l.set i d) := BitVec.eq_of_toNat_eq h2
    rw [List.getElem?_append_left hl] at hd
    rw [List.set_eq_take_append_cons_drop, if_pos hl] at h3
    have e : l = l.take i ++ l[i] :: l.drop (i + 1) := by rw [← List.drop_eq_getElem_cons hl, List.take_append_drop]
    have h5 : crcOf (l.take i ++ l[i] :: l.drop (i + 1)) = crcOf (l.take i ++ d :: l.drop (i + 1)) := by rw [← e]; exact h3
    have h6 := crcOf_turned _ _ h5
    exact hd (by rw [List.getElem?_eq_getElem hl, h6])
  · rw [List.set_append_right _ _ (by omega), List.drop_left, List.take_left] at h
    rw [List.getElem?_append_right (by omega)] at hd
    have hlt : i - l.length < (putB ((crcOf l).toNat : Int)).length := by rw [h4]; omega
    have h2 := congrArg (fun x => x[i - l.length]?) h
    simp only [List.getElem?_set_self hlt] at h2
    exact hd h2.symm

theorem xor_ne (x y : UInt8) (h : y ≠ 0) : x ^^^ y ≠ x := by
  intro e
  apply h
  have := congrArg (x ^^^ ·) e
  simpa [← UInt8.xor_assoc] using this
theorem xorU8 (x y : UInt8) : bits .xor .u8 (x.toNat : Int) (y.toNat : Int) = ((x ^^^ y).toNat : Int) := by
  rw [u8_xor_nat _ _ x.toNat_lt y.toNat_lt, UInt8.toNat_xor]

theorem xorI64b (r s : BitVec 32) : bits .xor .i64 (r.toNat : Int) (s.toNat : Int) = ((r ^^^ s).toNat : Int) := by
  have := r.isLt
  have := s.isLt
  rw [i64_xor_nat _ _ (by omega) (by omega), BitVec.toNat_xor]
theorem fill_set {xs : List UInt8} {n k : Nat} {x : UInt8} (hl : xs.length = n) (h : k < n) (hx : xs[k]? = some x) :
    (xs.take k ++ List.replicate (n - k) 0).set k x = xs.take (k + 1) ++ List.replicate (n - (k + 1)) 0 := by
  have hlt : k < xs.length := by omega
  rw [List.getElem?_eq_getElem hlt] at hx
  rw [List.set_append_right _ _ (by rw [List.length_take]; omega), List.length_take, Nat.min_eq_left (by omega), Nat.sub_self, show n - k = (n - (k + 1)) + 1 by omega, List.replicate_succ, List.set_cons_zero, List.take_succ_eq_append_getElem hlt, Option.some.inj hx]
  simp

end Go.Proofs.Ytkkmldoohokdfaa

/- Layer 3, plain mathematics: frames; what stands at the head of bytes; no program is named here. -/
namespace Go.Proofs.Ytkkmldoohokdfaa

/-- A payload's frame; nothing of what is none. -/
def frameB (p : List UInt8) : List UInt8 := if 1 ≤ p.length ∧ p.length ≤ 4000 then numB p.length ++ (p ++ (putB ((crcOf p).toNat : Int) ++ [1])) else []

theorem frameB_yes {p : List UInt8} (h : 1 ≤ p.length ∧ p.length ≤ 4000) : frameB p = numB p.length ++ (p ++ (putB ((crcOf p).toNat : Int) ++ [1])) := by rw [frameB, if_pos h]
theorem frameB_no {p : List UInt8} (h : ¬ (1 ≤ p.length ∧ p.length ≤ 4000)) : frameB p = [] := by rw [frameB, if_neg h]
theorem frameB_len {p : List UInt8} (h : 1 ≤ p.length ∧ p.length ≤ 4000) : (frameB p).length = (numB p.length).length + p.length + 5 := by
  rw [frameB_yes h, List.length_append, List.length_append, List.length_append, putB_len]
  simp
  omega

/-- The frame at the head of bytes, if there is one: its payload, and how long it is. -/
def frameAt (l : List UInt8) : Option (List UInt8 × Nat) := match getN l with
  | none => none
  | some (n, j) => if (1 ≤ n ∧ n ≤ 4000) ∧ j + n + 5 ≤ l.length ∧ l.take (j + n + 5) = frameB ((l.drop j).take n) then some ((l.drop j).take n, j + n + 5) else none

/-- What stands at a place: the payload, the place behind it, and which it is. -/
def getF (b : List UInt8) (i : Int) : List UInt8 × Int × Int :=
  if i < 0 ∨ (b.length : Int) < i then ([], i, 2) else
  if (b.drop i.toNat).head?.getD 0 = 0 then ([], i, 0) else
  match frameAt (b.drop i.toNat) with
  | some (p, k) => (p, i + k, 1)
  | none => ([], i, 2)

/-- All payloads from a place on, and the place behind them. -/
def allF : Nat → List UInt8 → Int → List (List UInt8) × Int
  | 0, _, i => ([], i)
  | k + 1, b, i => if (getF b i).2.2 = 1 then ((getF b i).1 :: (allF k b (getF b i).2.1).1, (allF k b (getF b i).2.1).2) else ([], i)

theorem frameAt_some {l p : List UInt8} {k : Nat} (h : frameAt l = some (p, k)) : (1 ≤ p.length ∧ p.length ≤ 4000) ∧ k = (frameB p).length ∧ k ≤ l.length ∧ l.take k = frameB p := by
  rw [frameAt] at h
  split at h
  · cases h
  · rename_i n j hg
    split at h
    · rename_i hc
      simp only [Option.some.injEq, Prod.mk.injEq] at h
      obtain ⟨h1, h2⟩ := h
      have hl : p.length = n := by rw [← h1, List.length_take, List.length_drop]; omega
      rw [h1] at hc
      have hp : 1 ≤ p.length ∧ p.length ≤ 4000 := by omega
      refine ⟨hp, ?_, by omega, by rw [← h2]; exact hc.2.2⟩
      have := congrArg List.length hc.2.2
      rw [List.length_take] at this
      omega
    · cases h

theorem frameAt_put {p : List UInt8} (h : 1 ≤ p.length ∧ p.length ≤ 4000) (rest : List UInt8) : frameAt (frameB p ++ rest) = some (p, (frameB p).length) := by
  have hl := frameB_len h
  have hg : getN (frameB p ++ rest) = some (p.length, (numB p.length).length) := by
    rw [frameB_yes h, List.append_assoc]
    exact getN_put (by omega) _
  have hd : ((frameB p ++ rest).drop (numB p.length).length).take p.length = p := by
    rw [frameB_yes h, List.append_assoc, List.drop_left, List.append_assoc, List.take_left]
  rw [frameAt, hg]
  simp only [hd]
  rw [if_pos ⟨h, by rw [List.length_append]; omega, by rw [← hl, List.take_left]⟩, hl]

theorem numB_head {n : Nat} (h : 1 ≤ n) : ∃ c r, numB n = c :: r ∧ c ≠ 0 := by
  by_cases hn : n < 128
  · refine ⟨_, _, numB_lo hn, fun e => ?_⟩
    have := congrArg UInt8.toNat e
    rw [u8_toNat] at this
    have : (0 : UInt8).toNat = 0 := rfl
    omega
  · refine ⟨_, _, numB_hi hn, fun e => ?_⟩
    have := congrArg UInt8.toNat e
    rw [u8_toNat] at this
    have : (0 : UInt8).toNat = 0 := rfl
    omega
theorem frameB_head {p : List UInt8} (h : 1 ≤ p.length ∧ p.length ≤ 4000) : ∃ c r, frameB p = c :: r ∧ c ≠ 0 := by
  obtain ⟨c, r, h1, h2⟩ := numB_head h.1
  exact ⟨c, r ++ (p ++ (putB ((crcOf p).toNat : Int) ++ [1])), by rw [frameB_yes h, h1]; rfl, h2⟩

theorem getF_put {p : List UInt8} (h : 1 ≤ p.length ∧ p.length ≤ 4000) (pre rest : List UInt8) : getF (pre ++ (frameB p ++ rest)) pre.length = (p, (pre.length : Int) + (frameB p).length, 1) := by
  obtain ⟨c, r, h1, h2⟩ := frameB_head h
  rw [getF, if_neg (by rw [List.length_append]; omega), Int.toNat_natCast, List.drop_left]
  rw [if_neg (by rw [h1]; simpa using h2), frameAt_put h]

theorem getF_cases (b : List UInt8) (i : Int) : ((getF b i).2.2 = 1 ∧ 0 ≤ i ∧ frameAt (b.drop i.toNat) = some ((getF b i).1, ((getF b i).2.1 - i).toNat) ∧ i ≤ (getF b i).2.1 ∧ (getF b i).2.1 ≤ b.length) ∨
    ((getF b i).1 = [] ∧ (getF b i).2.1 = i ∧ ((getF b i).2.2 = 0 ∨ (getF b i).2.2 = 2)) := by
  rw [getF]
  split
  · exact .inr ⟨rfl, rfl, .inr rfl⟩
  · rename_i hi
    split
    · exact .inr ⟨rfl, rfl, .inl rfl⟩
    · split
      · rename_i p k hf
        have := frameAt_some hf
        rw [List.length_drop] at this
        refine .inl ⟨rfl, by omega, ?_, by simp only; omega, by simp only; omega⟩
        rw [hf]
        simp only [Option.some.injEq, Prod.mk.injEq, true_and]
        omega
      · exact .inr ⟨rfl, rfl, .inr rfl⟩

/-! ### What stands at a place, case by case -/
theorem getF_low {b : List UInt8} {i : Int} (h : i < 0 ∨ (b.length : Int) < i) : getF b i = ([], i, 2) := by rw [getF, if_pos h]
theorem getF_done (b : List UInt8) : getF b (b.length : Int) = ([], (b.length : Int), 0) := by
  rw [getF, if_neg (by omega), Int.toNat_natCast, List.drop_of_length_le (Nat.le_refl _)]
  simp
theorem drop_head {b : List UInt8} {k : Nat} (h : k < b.length) : (b.drop k).head?.getD 0 = b[k] := by
  rw [List.drop_eq_getElem_cons h]
  rfl
theorem getF_nought {b : List UInt8} {k : Nat} (h : k < b.length) (h0 : b[k] = 0) : getF b (k : Int) = ([], (k : Int), 0) := by
  rw [getF, if_neg (by omega), Int.toNat_natCast, drop_head h, if_pos h0]
theorem getF_there {b : List UInt8} {k : Nat} (h : k < b.length) (h0 : b[k] ≠ 0) : getF b (k : Int) = match frameAt (b.drop k) with
    | some (p, m) => (p, (k : Int) + (m : Int), 1)
    | none => ([], (k : Int), 2) := by
  rw [getF, if_neg (by omega), Int.toNat_natCast, drop_head h, if_neg h0]
theorem frameAt_none {l : List UInt8} (h : getN l = none) : frameAt l = none := by rw [frameAt, h]
theorem frameAt_no {l : List UInt8} {n j : Nat} (h : getN l = some (n, j)) (hc : ¬ ((1 ≤ n ∧ n ≤ 4000) ∧ j + n + 5 ≤ l.length ∧ l.take (j + n + 5) = frameB ((l.drop j).take n))) : frameAt l = none := by
  rw [frameAt, h]
  simp only
  rw [if_neg hc]
theorem frameAt_yes {l : List UInt8} {n j : Nat} (h : getN l = some (n, j)) (hc : (1 ≤ n ∧ n ≤ 4000) ∧ j + n + 5 ≤ l.length ∧ l.take (j + n + 5) = frameB ((l.drop j).take n)) : frameAt l = some ((l.drop j).take n, j + n + 5) := by
  rw [frameAt, h]
  simp only
  rw [if_pos hc]
/-- With the sum and the last byte looked at by themselves. -/
theorem frame_parts {l : List UInt8} {n j : Nat} (h : getN l = some (n, j)) (hn : 1 ≤ n ∧ n ≤ 4000) (hl : j + n + 5 ≤ l.length) :
    (l.take (j + n + 5) = frameB ((l.drop j).take n)) ↔ ((l.drop (j + n)).take 4 = putB ((crcOf ((l.drop j).take n)).toNat : Int) ∧ l[j + n + 4]? = some 1) := by
  have hp : ((l.drop j).take n).length = n := by rw [List.length_take, List.length_drop]; omega
  have hj : (l.take j).length = j := by rw [List.length_take]; omega
  rw [frameB_yes (by rw [hp]; exact hn), hp, getN_get h]
  have e : l.take (j + n + 5) = l.take j ++ ((l.drop j).take n ++ ((l.drop (j + n)).take 4 ++ (l.drop (j + n + 4)).take 1)) := by
    rw [show j + n + 5 = j + (n + (4 + 1)) by omega, List.take_add, List.take_add, List.take_add, List.drop_drop, List.drop_drop]
  rw [e, List.append_cancel_left_eq, List.append_cancel_left_eq]
  have h4 : ((l.drop (j + n)).take 4).length = 4 := by rw [List.length_take, List.length_drop]; omega
  have h1 : (l.drop (j + n + 4)).take 1 = [l[j + n + 4]] := by rw [List.drop_eq_getElem_cons (by omega)]; rfl
  rw [h1, List.getElem?_eq_getElem (by omega)]
  constructor
  · intro h
    have := List.append_inj h (by rw [h4, putB_len])
    exact ⟨this.1, by simpa using this.2⟩
  · rintro ⟨h1, h2⟩
    rw [h1]
    simp only [Option.some.injEq] at h2
    rw [h2]

end Go.Proofs.Ytkkmldoohokdfaa

/- Layer 3, plain mathematics: what was torn, or turned, is no frame; frames one behind the other. -/
namespace Go.Proofs.Ytkkmldoohokdfaa

theorem scanN_cut : ∀ (k m i acc keep r : Nat), 1 ≤ keep → keep < (numB m).length → scanN k ((numB m).take keep ++ List.replicate r 0) i acc = none
  | 0, _, _, _, _, _, _, _ => rfl
  | k + 1, m, i, acc, keep, r, h1, h2 => by
    by_cases hm : m < 128
    · rw [numB_lo hm] at h2
      simp at h2
      omega
    · rw [numB_hi hm, List.length_cons] at h2
      obtain ⟨keep, rfl⟩ : ∃ x, keep = x + 1 := ⟨keep - 1, by omega⟩
      rw [numB_hi hm, List.take_succ_cons, List.cons_append, scanN, u8_toNat, if_pos (by omega)]
      rcases Nat.eq_zero_or_pos keep with h0 | h0
      · subst h0
        rw [List.take_zero, List.nil_append]
        cases k with
        | zero => rfl
        | succ k =>
          cases r with
          | zero => rfl
          | succ r =>
            have e : (0 : UInt8).toNat = 0 := rfl
            rw [List.replicate_succ, scanN, e, if_neg (by omega), if_pos (.inr ⟨rfl, by omega⟩)]
      · exact scanN_cut k (m / 128) (i + 1) _ keep r h0 (by omega)

theorem frameAt_getN {l p : List UInt8} {k : Nat} (h : frameAt l = some (p, k)) : getN l = some (p.length, (numB p.length).length) := by
  obtain ⟨h1, h2, h3, h4⟩ := frameAt_some h
  have e : l = numB p.length ++ ((p ++ (putB ((crcOf p).toNat : Int) ++ [1])) ++ l.drop k) := by
    rw [← List.append_assoc, ← frameB_yes h1, ← h4, List.take_append_drop]
  rw [e]
  exact getN_put (by omega) _

theorem frameB_last {p : List UInt8} (h : 1 ≤ p.length ∧ p.length ≤ 4000) : (frameB p)[(frameB p).length - 1]? = some 1 := by
  rw [← List.getLast?_eq_getElem?, frameB_yes h]
  simp

theorem getF_zero (b : List UInt8) : getF b 0 = if b.head?.getD 0 = 0 then (([] : List UInt8), (0 : Int), (0 : Int)) else match frameAt b with
    | some (p, k) => (p, 0 + (k : Int), 1)
    | none => ([], 0, 2) := by
  rw [getF, if_neg (by omega)]
  first | (simp; done) | (simp; rfl)

theorem getF_torn {p : List UInt8} (h : 1 ≤ p.length ∧ p.length ≤ 4000) (k r : Nat) (hk : k < (frameB p).length) : getF ((frameB p).take k ++ List.replicate r 0) 0 = ([], 0, if k = 0 then 0 else 2) := by
  rw [getF_zero]
  rcases Nat.eq_zero_or_pos k with h0 | h0
  · subst h0
    rw [List.take_zero, List.nil_append, if_pos (by cases r <;> simp [List.replicate_succ]), if_pos rfl]
  · obtain ⟨c, t, hc, hne⟩ := frameB_head h
    have hl := frameB_len h
    rw [if_neg (by obtain ⟨k, rfl⟩ : ∃ x, k = x + 1 := ⟨k - 1, by omega⟩; rw [hc, List.take_succ_cons]; simpa using hne), if_neg (by omega)]
    rcases hf : frameAt ((frameB p).take k ++ List.replicate r 0) with _ | ⟨q, m⟩
    · rfl
    · exfalso
      have hg := frameAt_getN hf
      obtain ⟨q1, q2, q3, q4⟩ := frameAt_some hf
      by_cases hj : k < (numB p.length).length
      · rw [frameB_yes h, List.take_append_of_le_length (by omega), getN, scanN_cut 8 _ 0 0 k r h0 hj] at hg
        cases hg
      · have e : (frameB p).take k ++ List.replicate r 0 = numB p.length ++ ((p ++ (putB ((crcOf p).toNat : Int) ++ [1])).take (k - (numB p.length).length) ++ List.replicate r 0) := by
          rw [← List.append_assoc, frameB_yes h, List.take_append, List.take_of_length_le (l := numB p.length) (by omega)]
        rw [e, getN_put (by omega)] at hg
        simp only [Option.some.injEq, Prod.mk.injEq] at hg
        have hq := frameB_len q1
        rw [← hg.1] at hq
        have hlast := frameB_last q1
        rw [← q2, ← q4, List.getElem?_take, if_pos (by omega), List.getElem?_append_right (by rw [List.length_take]; omega), List.getElem?_replicate] at hlast
        split at hlast
        · simp at hlast
        · cases hlast

theorem getF_turned {p : List UInt8} (h : 1 ≤ p.length ∧ p.length ≤ 4000) (i : Nat) (d : UInt8) (hi : (numB p.length).length ≤ i) (hi2 : i < (frameB p).length) (hd : (frameB p)[i]? ≠ some d) : (getF ((frameB p).set i d) 0).2.2 ≠ 1 := by
  intro he
  rcases getF_cases ((frameB p).set i d) 0 with ⟨_, _, hf, _, _⟩ | ⟨_, _, h2⟩
  · generalize (getF ((frameB p).set i d) 0).1 = q at hf
    simp only [Int.toNat_zero, List.drop_zero] at hf
    have hg := frameAt_getN hf
    obtain ⟨q1, q2, q3, q4⟩ := frameAt_some hf
    have hs : (frameB p).set i d = numB p.length ++ (p ++ (putB ((crcOf p).toNat : Int) ++ [1])).set (i - (numB p.length).length) d := by
      rw [frameB_yes h, List.set_append_right _ _ hi]
    rw [hs, getN_put (by omega)] at hg
    simp only [Option.some.injEq, Prod.mk.injEq] at hg
    have hlq : q.length = p.length := hg.1.symm
    have hq := frameB_len q1
    have hp := frameB_len h
    rw [hlq] at hq
    rw [List.take_of_length_le (by rw [List.length_set]; omega), hs, frameB_yes q1, hlq] at q4
    have q5 := List.append_cancel_left q4
    have hd2 : (p ++ (putB ((crcOf p).toNat : Int) ++ [1]))[i - (numB p.length).length]? ≠ some d := by
      rw [frameB_yes h, List.getElem?_append_right hi] at hd
      exact hd
    have hxb : i - (numB p.length).length < p.length + 5 := by omega
    generalize i - (numB p.length).length = x at *
    by_cases hx : x < p.length
    · rw [List.set_append_left _ _ hx] at q5
      have q6 := List.append_inj q5 (by rw [List.length_set]; omega)
      have q7 := List.append_inj q6.2 (by rw [putB_len, putB_len])
      have q8 := putB_inj (crcOf p).isLt (crcOf q).isLt q7.1
      have q9 : crcOf p = crcOf (p.set x d) := by rw [q6.1]; exact BitVec.eq_of_toNat_eq q8
      rw [List.set_eq_take_append_cons_drop, if_pos hx] at q9
      have e : p = p.take x ++ p[x] :: p.drop (x + 1) := by rw [← List.drop_eq_getElem_cons hx, List.take_append_drop]
      have q10 : crcOf (p.take x ++ p[x] :: p.drop (x + 1)) = crcOf (p.take x ++ d :: p.drop (x + 1)) := by rw [← e]; exact q9
      have q11 := crcOf_turned _ _ q10
      exact hd2 (by rw [List.getElem?_append_left hx, List.getElem?_eq_getElem hx, q11])
    · rw [List.set_append_right _ _ (by omega)] at q5
      have q6 := List.append_inj q5 (by omega)
      have hx2 : x < (p ++ (putB ((crcOf p).toNat : Int) ++ [1])).length := by
        rcases Nat.lt_or_ge x (p ++ (putB ((crcOf p).toNat : Int) ++ [1])).length with h | h
        · exact h
        · have h4 := putB_len ((crcOf p).toNat : Int)
          simp only [List.length_append, h4, List.length_cons, List.length_nil] at h
          omega
      have q7 : (p ++ (putB ((crcOf p).toNat : Int) ++ [1])).set x d = p ++ (putB ((crcOf p).toNat : Int) ++ [1]) := by
        rw [List.set_append_right _ _ (by omega), q6.2, q6.1]
      have q8 := congrArg (fun l => l[x]?) q7
      simp only [List.getElem?_set_self hx2] at q8
      exact hd2 q8.symm
  · omega

/-! ### Frames one behind the other -/
def catF (l : List (List UInt8)) : List UInt8 := l.flatMap frameB
theorem allF_cat : ∀ (l : List (List UInt8)) (k : Nat) (pre rest : List UInt8), (∀ p ∈ l, 1 ≤ p.length ∧ p.length ≤ 4000) →
    allF (k + l.length) (pre ++ (catF l ++ rest)) pre.length = (l ++ (allF k (pre ++ (catF l ++ rest)) ((pre ++ catF l).length : Nat)).1, (allF k (pre ++ (catF l ++ rest)) ((pre ++ catF l).length : Nat)).2)
  | [], k, pre, rest, _ => by simp [catF]
  | p :: l, k, pre, rest, h => by
    have hp := h p (List.mem_cons_self ..)
    have e : pre ++ (catF (p :: l) ++ rest) = pre ++ (frameB p ++ (catF l ++ rest)) := by simp [catF]
    have hg := getF_put hp pre (catF l ++ rest)
    have ih := allF_cat l k (pre ++ frameB p) rest (fun q hq => h q (List.mem_cons_of_mem _ hq))
    rw [List.length_cons, ← Nat.add_assoc, allF, e, hg]
    simp only [if_true]
    have e2 : (pre ++ frameB p) ++ (catF l ++ rest) = pre ++ (frameB p ++ (catF l ++ rest)) := by rw [List.append_assoc]
    have e3 : ((pre.length : Int) + ((frameB p).length : Int)) = (((pre ++ frameB p).length : Nat) : Int) := by rw [List.length_append]; omega
    have e4 : (pre ++ catF (p :: l)) = (pre ++ frameB p) ++ catF l := by simp [catF]
    rw [e3, ← e2, ih, e4]
    rfl

theorem allF_step (k : Nat) (b : List UInt8) (i : Int) : allF (k + 1) b i = if (getF b i).2.2 = 1 then ((getF b i).1 :: (allF k b (getF b i).2.1).1, (allF k b (getF b i).2.1).2) else ([], i) := rfl

theorem getF_on {b : List UInt8} {i : Int} (h : (getF b i).2.2 = 1) : 0 ≤ i ∧ i + 6 < (getF b i).2.1 ∧ (getF b i).2.1 ≤ b.length ∧ 1 ≤ (getF b i).1.length ∧ (getF b i).1.length ≤ 4000 := by
  rcases getF_cases b i with ⟨_, h0, hf, h1, h2⟩ | ⟨_, _, h2⟩
  · obtain ⟨q1, q2, q3, _⟩ := frameAt_some hf
    have e1 := frameB_len q1
    have e2 := numB_pos (getF b i).1.length
    have e3 := q1.1
    exact ⟨h0, by omega, h2, q1.1, q1.2⟩
  · omega

theorem allF_more : ∀ (k : Nat) (b : List UInt8) (i : Int), (b.length : Int) - i < k → allF (k + 1) b i = allF k b i
  | 0, b, i, h => by
    rw [allF_step]
    by_cases hw : (getF b i).2.2 = 1
    · have := getF_on hw
      omega
    · rw [if_neg hw]
      rfl
  | k + 1, b, i, h => by
    rw [allF_step (k + 1) b i, allF_step k b i]
    by_cases hw : (getF b i).2.2 = 1
    · have := getF_on hw
      rw [if_pos hw, if_pos hw, allF_more k b _ (by omega)]
    · rw [if_neg hw, if_neg hw]
theorem allF_enough (b : List UInt8) (i : Int) (k : Nat) (h : (b.length : Int) - i < k) : ∀ d, allF (k + d) b i = allF k b i
  | 0 => rfl
  | d + 1 => by rw [← Nat.add_assoc, allF_more (k + d) b i (by omega), allF_enough b i k h d]

theorem allF_end : ∀ (k : Nat) (b : List UInt8) (i : Int), (b.length : Int) - i < k → (getF b (allF k b i).2).2.2 ≠ 1 ∧ i ≤ (allF k b i).2 ∧ (i ≤ b.length → (allF k b i).2 ≤ b.length)
  | 0, b, i, h => by
    refine ⟨fun hw => ?_, Int.le_refl _, fun h => h⟩
    have := getF_on hw
    simp only [allF] at *
    omega
  | k + 1, b, i, h => by
    rw [allF_step]
    by_cases hw : (getF b i).2.2 = 1
    · have ho := getF_on hw
      rw [if_pos hw]
      have ih := allF_end k b (getF b i).2.1 (by omega)
      exact ⟨ih.1, by simp only; omega, fun _ => ih.2.2 (by omega)⟩
    · rw [if_neg hw]
      exact ⟨hw, Int.le_refl _, fun h => h⟩

/-- All payloads from a place on, and the place behind them. -/
def allB (b : List UInt8) (i : Int) : List (List UInt8) × Int := allF (b.length + 1 + (-i).toNat) b i
theorem allB_eq (b : List UInt8) (i : Int) (k : Nat) (h : (b.length : Int) - i < k) : allF k b i = allB b i := by
  rw [allB, ← allF_enough b i k h (b.length + 1 + (-i).toNat), Nat.add_comm, allF_enough b i _ (by omega)]
theorem allB_step (b : List UInt8) (i : Int) : allB b i = if (getF b i).2.2 = 1 then ((getF b i).1 :: (allB b (getF b i).2.1).1, (allB b (getF b i).2.1).2) else ([], i) := by
  rw [← allB_eq b i (b.length + 1 + (-i).toNat + 1) (by omega), allF_step]
  by_cases hw : (getF b i).2.2 = 1
  · have := getF_on hw
    rw [if_pos hw, if_pos hw, allB_eq b _ _ (by omega)]
  · rw [if_neg hw, if_neg hw]
theorem allB_end (b : List UInt8) (i : Int) : (getF b (allB b i).2).2.2 ≠ 1 ∧ i ≤ (allB b i).2 ∧ (i ≤ b.length → (allB b i).2 ≤ b.length) := allF_end _ b i (by omega)
theorem allB_cat (l : List (List UInt8)) (rest : List UInt8) (h : ∀ p ∈ l, 1 ≤ p.length ∧ p.length ≤ 4000) :
    allB (catF l ++ rest) 0 = (l ++ (allB (catF l ++ rest) ((catF l).length : Nat)).1, (allB (catF l ++ rest) ((catF l).length : Nat)).2) := by
  have := allF_cat l ((catF l ++ rest).length + 1) [] rest h
  simp only [List.nil_append, List.length_nil] at this
  rw [← allB_eq _ 0 ((catF l ++ rest).length + 1 + l.length) (by omega), ← allB_eq _ ((catF l).length : Nat) ((catF l ++ rest).length + 1) (by omega)]
  exact this

end Go.Proofs.Ytkkmldoohokdfaa

/- Layer 1, plain mathematics: what is read is what would be put. No program is named here. -/
namespace Go.Proofs.Ytkkmldoohokdfaa

theorem readK_back : ∀ (k : Nat) (bs : List UInt8) (p : Nat) (l : List Nat) (q : Nat), p ≤ bs.length → readK k bs p = some (l, q) → p ≤ q ∧ q ≤ bs.length ∧ numsB (l.map fun (n : Nat) => (n : Int)) = (bs.drop p).take (q - p)
  | 0, bs, p, l, q, hp, h => by
    rw [readK] at h
    injection h with h
    injection h with h1 h2
    subst h1 h2
    exact ⟨Nat.le_refl _, hp, by simp [numsB]⟩
  | k + 1, bs, p, l, q, hp, h => by
    rw [readK] at h
    rcases hg : getN (bs.drop p) with _ | ⟨n, j⟩
    · rw [hg] at h
      cases h
    · rw [hg] at h
      have hj := getN_le hg
      rw [List.length_drop] at hj
      simp only at h
      rcases hr : readK k bs (p + j) with _ | ⟨l', q'⟩
      · rw [hr] at h
        cases h
      · rw [hr] at h
        simp only [Option.some.injEq, Prod.mk.injEq] at h
        obtain ⟨h1, h2⟩ := h
        subst h1 h2
        obtain ⟨i1, i2, i3⟩ := readK_back k bs (p + j) l' q' (by omega) hr
        refine ⟨by omega, i2, ?_⟩
        have hn := getN_get hg
        have e1 : numsB ((n :: l').map fun (n : Nat) => (n : Int)) = numB n ++ numsB (l'.map fun (n : Nat) => (n : Int)) := by simp [numsB]
        rw [e1, i3, hn, ← List.drop_drop]
        have : q' - p = j + (q' - (p + j)) := by omega
        rw [this, List.take_add]
theorem listAt_back {bs : List UInt8} {most : Int} {l : List Nat} {q : Nat} (h : listAt bs 0 most = some (l, q)) : q ≤ bs.length ∧ listB (l.map fun (n : Nat) => (n : Int)) = bs.take q := by
  unfold listAt at h
  rcases hg : getN (bs.drop 0) with _ | ⟨c, j⟩
  · rw [hg] at h
    cases h
  · rw [hg] at h
    have hj := getN_le hg
    simp only at h
    split at h
    · obtain ⟨i1, i2, i3⟩ := readK_back c bs (0 + j) l q (by simpa using hj.2.1) h
      have hl := (readK_le c bs (0 + j) l q (by simpa using hj.2.1) h).2.2.1
      have hn := getN_get hg
      rw [List.drop_zero] at hn
      rw [Nat.zero_add] at i1 i3
      refine ⟨i2, ?_⟩
      rw [listB, i3, List.length_map, hl, hn]
      have : q = j + (q - j) := by omega
      rw [this, List.take_add]
      congr 2
      omega
    · cases h

end Go.Proofs.Ytkkmldoohokdfaa

/- Layer 11, plain mathematics: a store of checkpoints as 24 pairs, and as a list of points. No program is named here. -/
namespace Go.Proofs.Ytkkmldoohokdfaa

/-- A checkpoint: its epoch (0: none), its data. -/
structure CkP where
  ep : Int
  da : List UInt8
/-- A job's: the one that counts, the one that is staged. -/
structure PrP where
  c : CkP
  s : CkP
def zCk : CkP := ⟨0, []⟩
def zPr : PrP := ⟨zCk, zCk⟩
structure StoP where
  room : Int
  term : Int
  jobs : List PrP
  writes : Int
def isJ (job : Int) : Bool := decide (1 ≤ job) && decide (job ≤ 24)
def ofJ (S : StoP) (job : Int) : PrP := if isJ job then S.jobs.getD (job - 1).toNat zPr else zPr
def setJ (S : StoP) (job : Int) (p : PrP) : StoP := if isJ job then { S with jobs := S.jobs.set (job - 1).toNat p } else S
def wtP (p : PrP) : Nat := p.c.da.length + p.s.da.length
def usedJ (l : List PrP) : Nat := (l.map wtP).sum
def newS (room : Int) : StoP := ⟨max room 0, 0, List.replicate 24 zPr, 0⟩
def isC (c : CkP) (e : Int) : Bool := decide (0 < c.ep) && decide (c.ep = e)
def stageS (S : StoP) (term job epoch : Int) (d : List UInt8) : Int × StoP :=
  if term < S.term then (6, S)
  else if ¬ (isJ job = true ∧ 1 ≤ epoch ∧ epoch ≤ 1000000 ∧ 1 ≤ d.length ∧ d.length ≤ 100) then (1, S)
  else if epoch ≤ (ofJ S job).c.ep ∨ epoch < (ofJ S job).s.ep then (6, S)
  else if isC (ofJ S job).s epoch = true then (0, S)
  else if S.room < (usedJ S.jobs : Int) - ((ofJ S job).s.da.length : Int) + (d.length : Int) then (3, S)
  else (0, { setJ S job ⟨(ofJ S job).c, ⟨epoch, d⟩⟩ with writes := S.writes + 1 })
def commitS (S : StoP) (job epoch : Int) : Int × StoP :=
  if isC (ofJ S job).c epoch = true then (0, S)
  else if isC (ofJ S job).s epoch = true then (0, setJ S job ⟨(ofJ S job).s, zCk⟩)
  else (4, S)
def getS (S : StoP) (job epoch : Int) : List UInt8 × Bool :=
  if isC (ofJ S job).c epoch = true then ((ofJ S job).c.da, true)
  else if isC (ofJ S job).s epoch = true then ((ofJ S job).s.da, true)
  else ([], false)
def endS (S : StoP) (job : Int) : StoP := setJ S job zPr
def fenceS (S : StoP) (term : Int) : StoP := { S with term := max S.term term }

structure OkP (p : PrP) : Prop where
  c0 : 0 ≤ p.c.ep
  cd : p.c.ep = 0 ↔ p.c.da = []
  s0 : 0 ≤ p.s.ep
  sd : p.s.ep = 0 ↔ p.s.da = []
  lt : p.s.ep = 0 ∨ p.c.ep < p.s.ep
  cl : p.c.da.length ≤ 100
  sl : p.s.da.length ≤ 100
structure OkS (S : StoP) : Prop where
  len : S.jobs.length = 24
  each : ∀ p ∈ S.jobs, OkP p
  room : (usedJ S.jobs : Int) ≤ S.room
  term : 0 ≤ S.term

theorem okP_zero : OkP zPr := ⟨by decide, by simp [zPr, zCk], by decide, by simp [zPr, zCk], .inl rfl, by decide, by decide⟩
theorem isJ_iff {job : Int} : isJ job = true ↔ 1 ≤ job ∧ job ≤ 24 := by simp [isJ]
theorem isC_iff {c : CkP} {e : Int} : isC c e = true ↔ 0 < c.ep ∧ c.ep = e := by simp [isC]
theorem ofJ_no {S : StoP} {job : Int} (h : isJ job = false) : ofJ S job = zPr := by simp [ofJ, h]
theorem setJ_no {S : StoP} {job : Int} {p : PrP} (h : isJ job = false) : setJ S job p = S := by simp [setJ, h]
theorem OkS.idx {S : StoP} (h : OkS S) {job : Int} (hj : isJ job = true) : (job - 1).toNat < S.jobs.length := by have h1 := isJ_iff.1 hj; have h2 := h.len; omega
theorem OkS.ofJ_mem {S : StoP} (h : OkS S) {job : Int} (hj : isJ job = true) : ofJ S job ∈ S.jobs := by
  have h1 := h.idx hj
  simp only [ofJ, hj, if_true, List.getD_eq_getElem?_getD, List.getElem?_eq_getElem h1, Option.getD_some]
  exact List.getElem_mem h1
theorem OkS.of {S : StoP} (h : OkS S) (job : Int) : OkP (ofJ S job) := by
  cases hj : isJ job with
  | true => exact h.each _ (h.ofJ_mem hj)
  | false => rw [ofJ_no hj]; exact okP_zero
theorem ofJ_setJ {S : StoP} (h : S.jobs.length = 24) {job : Int} (hj : isJ job = true) (p : PrP) (j : Int) : ofJ (setJ S job p) j = if j = job then p else ofJ S j := by
  have h1 := isJ_iff.1 hj
  by_cases hjj : isJ j = true
  · have h2 := isJ_iff.1 hjj
    simp only [ofJ, setJ, hj, hjj, if_true, List.getD_eq_getElem?_getD, List.getElem?_set]
    by_cases e : j = job
    · rw [if_pos e, if_pos (by omega : (job - 1).toNat = (j - 1).toNat), if_pos (by omega)]; rfl
    · rw [if_neg e, if_neg (by omega)]
  · have e : ¬ j = job := fun e => hjj (by rw [e]; exact hj)
    rw [if_neg e, ofJ_no (by simpa using hjj), ofJ_no (by simpa using hjj)]
theorem usedJ_set : ∀ (l : List PrP) (k : Nat) (p : PrP), k < l.length → usedJ (l.set k p) + wtP (l.getD k zPr) = usedJ l + wtP p
  | [], k, p, h => absurd h (by simp)
  | a :: l, 0, p, _ => by simp [usedJ]; omega
  | a :: l, k + 1, p, h => by
    have := usedJ_set l k p (by simpa using h)
    simp only [usedJ, List.set_cons_succ, List.map_cons, List.sum_cons, List.getD_cons_succ] at this ⊢
    omega
theorem OkS.used_set {S : StoP} (h : OkS S) {job : Int} (hj : isJ job = true) (p : PrP) : usedJ (setJ S job p).jobs + wtP (ofJ S job) = usedJ S.jobs + wtP p := by
  have := usedJ_set S.jobs (job - 1).toNat p (h.idx hj)
  simp only [setJ, ofJ, hj, if_true]
  exact this
theorem OkS.set {S : StoP} (h : OkS S) {job : Int} (hj : isJ job = true) (p : PrP) (hp : OkP p) (hr : (usedJ S.jobs : Int) + wtP p ≤ S.room + wtP (ofJ S job)) : OkS (setJ S job p) := by
  have h1 := h.used_set hj p
  have e : setJ S job p = { S with jobs := S.jobs.set (job - 1).toNat p } := by simp [setJ, hj]
  refine ⟨?_, ?_, ?_, ?_⟩
  · rw [e]; show (S.jobs.set _ _).length = 24; rw [List.length_set]; exact h.len
  · rw [e]; intro q hq
    rcases List.mem_or_eq_of_mem_set hq with hq | rfl
    · exact h.each q hq
    · exact hp
  · have e2 : (setJ S job p).room = S.room := by rw [e]
    rw [e2]; omega
  · rw [e]; exact h.term
theorem usedJ_zero : usedJ (List.replicate 24 zPr) = 0 := by decide
theorem okS_new (room : Int) : OkS (newS room) :=
  ⟨by simp [newS], fun p hp => by rw [List.eq_of_mem_replicate hp]; exact okP_zero, by show ((usedJ (List.replicate 24 zPr) : Nat) : Int) ≤ max room 0; rw [usedJ_zero]; omega, Int.le_refl 0⟩
theorem OkS.stage {S : StoP} (h : OkS S) (term job epoch : Int) (d : List UInt8) : OkS (stageS S term job epoch d).2 := by
  have ho := h.of job
  unfold stageS
  split
  · exact h
  split
  · exact h
  next h1 =>
  have h1 := Classical.not_not.1 h1
  split
  · exact h
  next h2 =>
  split
  · exact h
  split
  · exact h
  next h3 =>
  have hs := h.set h1.1 ⟨(ofJ S job).c, ⟨epoch, d⟩⟩ ⟨ho.c0, ho.cd, by show (0 : Int) ≤ epoch; omega, ⟨fun e => by exfalso; have e : epoch = 0 := e; omega, fun e => by exfalso; have e : d = [] := e; have := h1.2.2.2.1; rw [e] at this; exact absurd this (by decide)⟩, .inr (by show (ofJ S job).c.ep < epoch; omega), ho.cl, h1.2.2.2.2⟩ (by simp only [wtP]; omega)
  exact ⟨hs.len, hs.each, hs.room, hs.term⟩
theorem OkS.commit {S : StoP} (h : OkS S) (job epoch : Int) : OkS (commitS S job epoch).2 := by
  have ho := h.of job
  unfold commitS
  split
  · exact h
  split
  next h2 =>
    have h2 := isC_iff.1 h2
    cases hj : isJ job with
    | false => rw [setJ_no hj]; exact h
    | true => exact h.set hj _ ⟨ho.s0, ho.sd, Int.le_refl 0, by simp [zCk], .inl rfl, ho.sl, Nat.zero_le _⟩ (by have := h.room; simp only [wtP, zCk, List.length_nil]; omega)
  · exact h
theorem OkS.end_ {S : StoP} (h : OkS S) (job : Int) : OkS (endS S job) := by
  unfold endS
  cases hj : isJ job with
  | false => rw [setJ_no hj]; exact h
  | true => exact h.set hj _ okP_zero (by have := h.room; simp only [wtP, zPr, zCk, List.length_nil]; omega)
theorem OkS.fence {S : StoP} (h : OkS S) (term : Int) : OkS (fenceS S term) := ⟨h.len, h.each, h.room, by have := h.term; show (0:Int) ≤ max S.term term; omega⟩

/-! The document's list. -/
structure PtP where
  job : Int
  ep : Int
  cnt : Bool
  da : List UInt8
structure RsP where
  room : Int
  term : Int
  L : List PtP
  writes : Int
def hitP (job : Int) (cnt : Bool) (p : PtP) : Bool := decide (p.job = job) && (p.cnt == cnt)
def bytesP (l : List PtP) : Nat := (l.map fun p => p.da.length).sum
def epochR (R : RsP) (job : Int) (cnt : Bool) : Int := match R.L.find? (hitP job cnt) with | some p => p.ep | none => 0
def withoutR (L : List PtP) (job : Int) (cnt : Bool) : List PtP := L.filter fun p => !hitP job cnt p
def stageR (R : RsP) (term job epoch : Int) (d : List UInt8) : Int × RsP :=
  if term < R.term then (6, R)
  else if ¬ (isJ job = true ∧ 1 ≤ epoch ∧ epoch ≤ 1000000 ∧ 1 ≤ d.length ∧ d.length ≤ 100) then (1, R)
  else if epoch ≤ epochR R job true ∨ epoch < epochR R job false then (6, R)
  else if epoch = epochR R job false then (0, R)
  else if R.room < (bytesP (withoutR R.L job false) : Int) + (d.length : Int) then (3, R)
  else (0, { R with L := withoutR R.L job false ++ [⟨job, epoch, false, d⟩], writes := R.writes + 1 })
def endR (R : RsP) (job : Int) : RsP := { R with L := withoutR (withoutR R.L job true) job false }
def commitR (R : RsP) (job epoch : Int) : Int × RsP :=
  if 0 < epoch ∧ epochR R job true = epoch then (0, R)
  else match R.L.find? (hitP job false) with
    | none => (4, R)
    | some p => if p.ep = epoch then (0, { endR R job with L := (endR R job).L ++ [{ p with cnt := true }] }) else (4, R)
def getR (R : RsP) (job epoch : Int) : List UInt8 × Bool :=
  match R.L.find? fun p => decide (p.job = job) && decide (p.ep = epoch) with
  | some p => (p.da, true)
  | none => ([], false)
def fenceR (R : RsP) (term : Int) : RsP := { R with term := max R.term term }
def newR (room : Int) : RsP := ⟨max room 0, 0, [], 0⟩

def ckOf (p : PrP) (cnt : Bool) : CkP := if cnt then p.c else p.s
def ptsOf (S : StoP) (job : Int) (cnt : Bool) : List PtP := if (ckOf (ofJ S job) cnt).ep = 0 then [] else [⟨job, (ckOf (ofJ S job) cnt).ep, cnt, (ckOf (ofJ S job) cnt).da⟩]
structure RelP (S : StoP) (R : RsP) : Prop where
  room : S.room = R.room
  term : S.term = R.term
  writes : S.writes = R.writes
  used : usedJ S.jobs = bytesP R.L
  pts : ∀ job cnt, R.L.filter (hitP job cnt) = ptsOf S job cnt

theorem hitP_iff {job : Int} {cnt : Bool} {p : PtP} : hitP job cnt p = true ↔ p.job = job ∧ p.cnt = cnt := by simp [hitP]
theorem find_filter {α : Type} (q : α → Bool) (l : List α) : l.find? q = (l.filter q).head? := by
  rw [List.head?_filter]
theorem RelP.find {S : StoP} {R : RsP} (h : RelP S R) (job : Int) (cnt : Bool) : R.L.find? (hitP job cnt) = if (ckOf (ofJ S job) cnt).ep = 0 then none else some ⟨job, (ckOf (ofJ S job) cnt).ep, cnt, (ckOf (ofJ S job) cnt).da⟩ := by
  rw [find_filter, h.pts]
  unfold ptsOf
  split <;> rfl
theorem RelP.epoch {S : StoP} {R : RsP} (h : RelP S R) (job : Int) (cnt : Bool) : epochR R job cnt = (ckOf (ofJ S job) cnt).ep := by
  unfold epochR
  rw [h.find]
  by_cases e : (ckOf (ofJ S job) cnt).ep = 0
  · rw [if_pos e, e]
  · rw [if_neg e]
theorem bytes_split (q : PtP → Bool) : ∀ l : List PtP, bytesP (l.filter q) + bytesP (l.filter fun p => !q p) = bytesP l
  | [] => rfl
  | a :: l => by
    have := bytes_split q l
    cases hq : q a <;> simp only [List.filter_cons, hq, bytesP, List.map_cons, List.sum_cons, Bool.not_true, Bool.not_false, if_true, Bool.false_eq_true, if_false] at this ⊢ <;> omega
theorem bytes_app (a b : List PtP) : bytesP (a ++ b) = bytesP a + bytesP b := by simp [bytesP]
theorem bytes_pts (S : StoP) (h : OkS S) (job : Int) (cnt : Bool) : bytesP (ptsOf S job cnt) = (ckOf (ofJ S job) cnt).da.length := by
  unfold ptsOf
  split
  next e =>
    have ho := h.of job
    cases cnt
    · have h1 := ho.sd.1 e; show bytesP [] = (ofJ S job).s.da.length; rw [h1]; rfl
    · have h1 := ho.cd.1 e; show bytesP [] = (ofJ S job).c.da.length; rw [h1]; rfl
  · simp [bytesP]
theorem RelP.without {S : StoP} {R : RsP} (hS : OkS S) (h : RelP S R) (job : Int) (cnt : Bool) : bytesP (withoutR R.L job cnt) + (ckOf (ofJ S job) cnt).da.length = usedJ S.jobs := by
  have h1 := bytes_split (hitP job cnt) R.L
  rw [h.pts, bytes_pts S hS] at h1
  have h2 := h.used
  unfold withoutR
  omega
theorem filter_without (L : List PtP) (job j : Int) (cnt c : Bool) : (withoutR L job cnt).filter (hitP j c) = if j = job ∧ c = cnt then [] else L.filter (hitP j c) := by
  unfold withoutR
  rw [List.filter_filter]
  by_cases e : j = job ∧ c = cnt
  · rw [if_pos e, e.1, e.2]
    apply List.filter_eq_nil_iff.2
    intro p _
    simp
  · rw [if_neg e]
    apply List.filter_congr
    intro p _
    cases hp : hitP j c p with
    | false => simp
    | true =>
      have h1 := hitP_iff.1 hp
      have : hitP job cnt p = false := by
        cases hq : hitP job cnt p with
        | false => rfl
        | true => exact absurd (by have h2 := hitP_iff.1 hq; exact ⟨h1.1.symm.trans h2.1, h1.2.symm.trans h2.2⟩) e
      rw [this]; rfl
theorem pts_set {S : StoP} (h : OkS S) {job : Int} (hj : isJ job = true) (p : PrP) (j : Int) (c : Bool) : ptsOf (setJ S job p) j c = if j = job then (if (ckOf p c).ep = 0 then [] else [⟨job, (ckOf p c).ep, c, (ckOf p c).da⟩]) else ptsOf S j c := by
  unfold ptsOf
  rw [ofJ_setJ h.len hj]
  by_cases e : j = job
  · rw [if_pos e, if_pos e, e]
  · rw [if_neg e, if_neg e]
theorem RelP.stage {S : StoP} {R : RsP} (hS : OkS S) (h : RelP S R) (term job epoch : Int) (d : List UInt8) :
    (stageS S term job epoch d).1 = (stageR R term job epoch d).1 ∧ RelP (stageS S term job epoch d).2 (stageR R term job epoch d).2 := by
  have e1 := h.epoch job true
  have e2 := h.epoch job false
  have hw := h.without hS job false
  have ho := hS.of job
  simp only [ckOf, if_true, Bool.false_eq_true, if_false] at e1 e2 hw
  unfold stageS stageR
  rw [e1, e2, h.term, h.room]
  by_cases c1 : term < R.term
  · rw [if_pos c1, if_pos c1]; exact ⟨rfl, h⟩
  rw [if_neg c1, if_neg c1]
  by_cases c2 : ¬ (isJ job = true ∧ 1 ≤ epoch ∧ epoch ≤ 1000000 ∧ 1 ≤ d.length ∧ d.length ≤ 100)
  · rw [if_pos c2, if_pos c2]; exact ⟨rfl, h⟩
  rw [if_neg c2, if_neg c2]
  have c2 := Classical.not_not.1 c2
  by_cases c3 : epoch ≤ (ofJ S job).c.ep ∨ epoch < (ofJ S job).s.ep
  · rw [if_pos c3, if_pos c3]; exact ⟨rfl, h⟩
  rw [if_neg c3, if_neg c3]
  by_cases c4 : epoch = (ofJ S job).s.ep
  · rw [if_pos (isC_iff.2 ⟨by omega, c4.symm⟩), if_pos c4]; exact ⟨rfl, h⟩
  rw [if_neg (fun e => c4 (isC_iff.1 e).2.symm), if_neg c4]
  have hc5 : (R.room < (usedJ S.jobs : Int) - ((ofJ S job).s.da.length : Int) + (d.length : Int)) ↔ (R.room < (bytesP (withoutR R.L job false) : Int) + (d.length : Int)) := by omega
  by_cases c5 : R.room < (bytesP (withoutR R.L job false) : Int) + (d.length : Int)
  · rw [if_pos (hc5.2 c5), if_pos c5]; exact ⟨rfl, h⟩
  rw [if_neg (fun e => c5 (hc5.1 e)), if_neg c5]
  have hu := hS.used_set c2.1 ⟨(ofJ S job).c, ⟨epoch, d⟩⟩
  have er : (setJ S job ⟨(ofJ S job).c, ⟨epoch, d⟩⟩).room = S.room := by simp [setJ, c2.1]
  have et : (setJ S job ⟨(ofJ S job).c, ⟨epoch, d⟩⟩).term = S.term := by simp [setJ, c2.1]
  refine ⟨rfl, by rw [← h.room, ← er], by rw [← h.term, ← et], by show S.writes + 1 = R.writes + 1; rw [h.writes], ?_, ?_⟩
  · show usedJ (setJ S job _).jobs = bytesP (_ ++ _)
    rw [bytes_app]
    simp only [wtP] at hu
    simp only [bytesP, List.map_cons, List.map_nil, List.sum_cons, List.sum_nil] at hw ⊢
    omega
  · intro j c
    show List.filter _ (_ ++ _) = ptsOf (setJ S job _) j c
    rw [pts_set hS c2.1, List.filter_append, filter_without, h.pts]
    by_cases ej : j = job
    · subst ej
      rw [if_pos rfl]
      cases c
      · rw [if_pos ⟨rfl, rfl⟩, List.filter_cons, if_pos (by rw [hitP_iff]; exact ⟨rfl, rfl⟩)]
        simp only [ckOf, Bool.false_eq_true, if_false]
        rw [if_neg (by omega)]; rfl
      · rw [if_neg (by simp), List.filter_cons, if_neg (by rw [hitP_iff]; simp)]
        simp [ptsOf, ckOf]
    · rw [if_neg ej, if_neg (by simp [ej]), List.filter_cons, if_neg (by rw [hitP_iff]; exact fun e => ej e.1.symm)]
      simp
theorem pts_end (S : StoP) (R : RsP) (hS : OkS S) (h : RelP S R) (job : Int) (p : PrP) (l : List PtP) (hj : isJ job = true) (hb : bytesP l = wtP p) (hl : ∀ j c, l.filter (hitP j c) = if j = job then (if (ckOf p c).ep = 0 then [] else [⟨job, (ckOf p c).ep, c, (ckOf p c).da⟩]) else []) :
    RelP (setJ S job p) { endR R job with L := (endR R job).L ++ l } := by
  have er : (setJ S job p).room = S.room := by simp [setJ, hj]
  have et : (setJ S job p).term = S.term := by simp [setJ, hj]
  have ew : (setJ S job p).writes = S.writes := by simp [setJ, hj]
  have hu := hS.used_set hj p
  have f1 := bytes_split (hitP job true) R.L
  have f2 := bytes_split (hitP job false) (withoutR R.L job true)
  rw [filter_without, if_neg (by simp), h.pts, bytes_pts S hS] at f2
  rw [h.pts, bytes_pts S hS] at f1
  refine ⟨by rw [er]; exact h.room, by rw [et]; exact h.term, by rw [ew]; exact h.writes, ?_, ?_⟩
  · show usedJ (setJ S job p).jobs = bytesP (withoutR (withoutR R.L job true) job false ++ l)
    rw [bytes_app, hb]
    have h3 := h.used
    simp only [ckOf, if_true, Bool.false_eq_true, if_false] at f1 f2
    rw [show wtP (ofJ S job) = (ofJ S job).c.da.length + (ofJ S job).s.da.length from rfl] at hu
    unfold withoutR at f2 ⊢
    omega
  · intro j c
    show List.filter _ (withoutR (withoutR R.L job true) job false ++ l) = _
    rw [pts_set hS hj, List.filter_append, filter_without, filter_without, h.pts, hl]
    by_cases ej : j = job
    · rw [if_pos ej, if_pos ej]
      cases c
      · rw [if_pos ⟨ej, rfl⟩]; rfl
      · rw [if_neg (by simp), if_pos ⟨ej, rfl⟩]; rfl
    · rw [if_neg ej, if_neg ej, if_neg (fun e => ej e.1), if_neg (fun e => ej e.1), List.append_nil]
theorem RelP.none_ {S : StoP} {R : RsP} (h : RelP S R) {job : Int} (hj : isJ job = false) (c : Bool) : ∀ p ∈ R.L, hitP job c p = false := by
  have h1 := h.pts job c
  unfold ptsOf at h1
  rw [ofJ_no hj, if_pos (by cases c <;> rfl)] at h1
  intro p hp
  simpa using List.filter_eq_nil_iff.1 h1 p hp
theorem RelP.end_ {S : StoP} {R : RsP} (hS : OkS S) (h : RelP S R) (job : Int) : RelP (endS S job) (endR R job) := by
  cases hj : isJ job with
  | true =>
    have := pts_end S R hS h job zPr [] hj rfl (fun j c => by
      rw [if_pos (show (ckOf zPr c).ep = 0 by cases c <;> rfl)]; simp)
    rw [List.append_nil] at this
    exact this
  | false =>
    unfold endS
    rw [setJ_no hj]
    have e : endR R job = R := by
      have h1 : withoutR R.L job true = R.L := List.filter_eq_self.2 fun p hp => by rw [h.none_ hj true p hp]; rfl
      have h2 : withoutR R.L job false = R.L := List.filter_eq_self.2 fun p hp => by rw [h.none_ hj false p hp]; rfl
      unfold endR
      rw [h1, h2]
    rw [e]; exact h
theorem RelP.commit {S : StoP} {R : RsP} (hS : OkS S) (h : RelP S R) (job epoch : Int) :
    (commitS S job epoch).1 = (commitR R job epoch).1 ∧ RelP (commitS S job epoch).2 (commitR R job epoch).2 := by
  have e1 := h.epoch job true
  have e2 := h.find job false
  have ho := hS.of job
  simp only [ckOf, if_true, Bool.false_eq_true, if_false] at e1 e2
  unfold commitS commitR
  rw [e1, e2]
  by_cases c1 : isC (ofJ S job).c epoch = true
  · have c1' := isC_iff.1 c1
    rw [if_pos c1, if_pos ⟨by omega, c1'.2⟩]; exact ⟨rfl, h⟩
  rw [if_neg c1, if_neg (show ¬ (0 < epoch ∧ (ofJ S job).c.ep = epoch) from fun e => c1 (isC_iff.2 ⟨by omega, e.2⟩))]
  by_cases c2 : (ofJ S job).s.ep = 0
  · rw [if_pos c2, if_neg (fun e => by have := (isC_iff.1 e).1; omega)]; exact ⟨rfl, h⟩
  rw [if_neg c2]
  by_cases c3 : (ofJ S job).s.ep = epoch
  · rw [if_pos (isC_iff.2 ⟨by have := ho.s0; omega, c3⟩)]
    simp only [c3, if_true]
    refine ⟨trivial, ?_⟩
    have hj : isJ job = true := by
      cases hj : isJ job with
      | true => rfl
      | false => rw [ofJ_no hj] at c2; exact absurd rfl c2
    refine pts_end S R hS h job ⟨(ofJ S job).s, zCk⟩ _ hj (by simp [bytesP, wtP, zCk]) (fun j c => ?_)
    rw [List.filter_cons]
    by_cases ej : j = job
    · subst ej
      rw [if_pos rfl]
      cases c
      · rw [if_neg (by rw [hitP_iff]; simp)]; rfl
      · rw [if_pos (by rw [hitP_iff]; exact ⟨rfl, rfl⟩), if_neg (show ¬ (ckOf ⟨(ofJ S j).s, zCk⟩ true).ep = 0 from c2)]
        simp [ckOf, c3]
    · rw [if_neg ej, if_neg (by rw [hitP_iff]; exact fun e => ej e.1.symm)]; rfl
  · rw [if_neg (fun e => c3 (isC_iff.1 e).2)]
    simp only [c3, if_false]
    exact ⟨trivial, h⟩
theorem RelP.mem {S : StoP} {R : RsP} (h : RelP S R) (p : PtP) : p ∈ R.L ↔ (ckOf (ofJ S p.job) p.cnt).ep ≠ 0 ∧ p.ep = (ckOf (ofJ S p.job) p.cnt).ep ∧ p.da = (ckOf (ofJ S p.job) p.cnt).da := by
  have h1 := h.pts p.job p.cnt
  have h2 : p ∈ R.L ↔ p ∈ R.L.filter (hitP p.job p.cnt) := by rw [List.mem_filter]; exact ⟨fun h => ⟨h, hitP_iff.2 ⟨rfl, rfl⟩⟩, fun h => h.1⟩
  rw [h2, h1]
  unfold ptsOf
  split
  next e => simp [e]
  next e =>
    rw [List.mem_singleton]
    constructor
    · intro hp
      rw [hp] at e ⊢
      exact ⟨e, rfl, rfl⟩
    · rintro ⟨_, h3, h4⟩
      cases p
      simp only at h3 h4 ⊢
      rw [← h3, ← h4]
theorem RelP.get {S : StoP} {R : RsP} (hS : OkS S) (h : RelP S R) (job epoch : Int) : getS S job epoch = getR R job epoch := by
  have ho := hS.of job
  unfold getS getR
  cases hf : R.L.find? (fun p => decide (p.job = job) && decide (p.ep = epoch)) with
  | some p =>
    have h1 := List.find?_some hf
    simp only [Bool.and_eq_true, decide_eq_true_eq] at h1
    have h2 := (h.mem p).1 (List.mem_of_find?_eq_some hf)
    rw [h1.1, h1.2] at h2
    cases hc : p.cnt with
    | true =>
      rw [hc] at h2
      simp only [ckOf, if_true] at h2
      rw [if_pos (isC_iff.2 ⟨by have := ho.c0; omega, h2.2.1.symm⟩), ← h2.2.2]
    | false =>
      rw [hc] at h2
      simp only [ckOf, Bool.false_eq_true, if_false] at h2
      have h3 : isC (ofJ S job).s epoch = true := isC_iff.2 ⟨by have := ho.s0; omega, h2.2.1.symm⟩
      rw [if_neg (fun e => by have := isC_iff.1 e; have := ho.lt; omega), if_pos h3, ← h2.2.2]
  | none =>
    have h1 := List.find?_eq_none.1 hf
    have h2 : ∀ c : Bool, ¬ isC (ckOf (ofJ S job) c) epoch = true := by
      intro c e
      have e := isC_iff.1 e
      have h3 := (h.mem ⟨job, epoch, c, (ckOf (ofJ S job) c).da⟩).2 ⟨by show (ckOf (ofJ S job) c).ep ≠ 0; omega, e.2.symm, rfl⟩
      exact h1 _ h3 (by simp)
    have h3 := h2 true
    have h4 := h2 false
    simp only [ckOf, if_true, Bool.false_eq_true, if_false] at h3 h4
    rw [if_neg h3, if_neg h4]
theorem RelP.fence {S : StoP} {R : RsP} (h : RelP S R) (term : Int) : RelP (fenceS S term) (fenceR R term) :=
  ⟨h.room, by show max S.term term = max R.term term; rw [h.term], h.writes, h.used, h.pts⟩
theorem relP_new (room : Int) : RelP (newS room) (newR room) :=
  ⟨rfl, rfl, rfl, by show usedJ (List.replicate 24 zPr) = 0; exact usedJ_zero, fun job cnt => by
    unfold ptsOf
    have : ofJ (newS room) job = zPr := by
      unfold ofJ newS
      split
      · rw [List.getD_eq_getElem?_getD, List.getElem?_replicate]; split <;> rfl
      · rfl
    rw [this, if_pos (by cases cnt <;> rfl)]; rfl⟩

end Go.Proofs.Ytkkmldoohokdfaa
