/- Layer 1, plain mathematics: the bytes of a number, by its groups of seven bits; no program is named here. -/
import Derived.WalkKit
namespace Go.Proofs.Ytkoppdhmbhgnfaa

/-- A number's bytes. -/
def numB (n : Nat) : List UInt8 := if h : n < 128 then [UInt8.ofNat n] else UInt8.ofNat (n % 128 + 128) :: numB (n / 128)

theorem numB_lo {n : Nat} (h : n < 128) : numB n = [UInt8.ofNat n] := by rw [numB, dif_pos h]
theorem numB_hi {n : Nat} (h : ¬ n < 128) : numB n = UInt8.ofNat (n % 128 + 128) :: numB (n / 128) := by rw [numB, dif_neg h]

theorem u8_toNat (n : Nat) : (UInt8.ofNat n).toNat = n % 256 := by simp

theorem numB_len_le (k : Nat) : ∀ n, n < 128 ^ (k + 1) → (numB n).length ≤ k + 1 := by
  induction k with
  | zero => intro n h; rw [numB_lo (by simpa using h)]; simp
  | succ k ih =>
    intro n h
    by_cases hn : n < 128
    · rw [numB_lo hn]; simp
    · rw [numB_hi hn, List.length_cons]
      have := ih (n / 128) (by rw [Nat.div_lt_iff_lt_mul (by omega)]; rw [Nat.pow_succ] at h; exact h)
      omega
theorem numB_pos (n : Nat) : 0 < (numB n).length := by
  by_cases hn : n < 128
  · rw [numB_lo hn]; simp
  · rw [numB_hi hn]; simp
theorem numB_len8 {n : Nat} (h : n < 9007199254740992) : (numB n).length ≤ 8 := numB_len_le 7 n (by omega)
theorem numB_len10 {n : Nat} (h : n < 9223372036854775808) : (numB n).length ≤ 9 := numB_len_le 8 n (by omega)

/-- What stands at the head of the bytes l: the groups up to the i-th have been read, they come to acc. -/
def scanN : Nat → List UInt8 → Nat → Nat → Option (Nat × Nat)
  | 0, _, _, _ => none
  | _ + 1, [], _, _ => none
  | k + 1, c :: r, i, acc => if 128 ≤ c.toNat then scanN k r (i + 1) (acc + 128 ^ i * (c.toNat % 128)) else
      if 9007199254740992 ≤ acc + 128 ^ i * (c.toNat % 128) ∨ (c.toNat = 0 ∧ 0 < i) then none else some (acc + 128 ^ i * (c.toNat % 128), i + 1)
def getN (l : List UInt8) : Option (Nat × Nat) := scanN 8 l 0 0

theorem or128_all : ∀ x : Fin 256, bits .or .u8 ((x.val : Nat) : Int) 128 = ((x.val % 128 + 128 : Nat) : Int) := by decide +kernel
theorem or128 (m : Nat) : bits .or .u8 ((m : Int) % 256) 128 = ((UInt8.ofNat (m % 128 + 128)).toNat : Int) := by
  have h := or128_all ⟨m % 256, by omega⟩
  simp only at h
  rw [u8_toNat]
  rw [show ((m : Int) % 256) = ((m % 256 : Nat) : Int) by omega, h]
  omega

theorem pow128 (i : Nat) : 128 ^ i = 2 ^ (7 * i) := by rw [Nat.pow_mul]
theorem pow128_le {i j : Nat} (h : i ≤ j) : 128 ^ i ≤ 128 ^ j := Nat.pow_le_pow_right (by omega) h

theorem ofInt64_toNat (a : Nat) (ha : a < 9223372036854775808) : (BitVec.ofInt 64 (a : Int)).toNat = a := by
  rw [BitVec.ofInt_natCast, BitVec.toNat_ofNat]; exact Nat.mod_eq_of_lt (by omega)
theorem i64_or_nat (a b : Nat) (ha : a < 9223372036854775808) (hb : b < 9223372036854775808) : bits .or .i64 (a : Int) (b : Int) = ((a ||| b : Nat) : Int) := by
  have hx : a ||| b < 2 ^ 63 := Nat.or_lt_two_pow (by omega) (by omega)
  show IntKind.i64.wrap ((BitVec.ofInt 64 (a : Int) ||| BitVec.ofInt 64 (b : Int)).toNat : Int) = _
  rw [BitVec.toNat_or, ofInt64_toNat a ha, ofInt64_toNat b hb, IntKind.wrap_i64]
  omega

theorem group_lt (i acc c : Nat) (_hi : i < 8) (hacc : acc < 128 ^ i) : acc + 128 ^ i * (c % 128) < 128 ^ (i + 1) := by
  rw [Nat.pow_succ]
  have : 128 ^ i * (c % 128) ≤ 128 ^ i * 127 := Nat.mul_le_mul_left _ (by omega)
  omega
theorem or_group (i acc c : Nat) (hi : i < 8) (hacc : acc < 128 ^ i) :
    bits .or .i64 (acc : Int) (RowKit.wrap64 ((c : Int) % 128 * 2 ^ (7 * i))) = ((acc + 128 ^ i * (c % 128) : Nat) : Int) := by
  have h1 := group_lt i acc c hi hacc
  have h2 := pow128_le (show i + 1 ≤ 8 by omega)
  have e : ((c : Int) % 128 * 2 ^ (7 * i)) = ((128 ^ i * (c % 128) : Nat) : Int) := by
    rw [pow128]
    simp [Int.mul_comm]
  rw [e, IntWalk.wrap64_in _ (by omega), i64_or_nat _ _ (by omega) (by omega)]
  congr 1
  rw [Nat.add_comm, pow128, Nat.two_pow_add_eq_or_of_lt (by rw [← pow128]; exact hacc), Nat.or_comm]

theorem scanN_step {k : Nat} {l r : List UInt8} {c : UInt8} (i acc : Nat) (h : l = c :: r) : scanN (k + 1) l i acc = if 128 ≤ c.toNat then scanN k r (i + 1) (acc + 128 ^ i * (c.toNat % 128)) else
      if 9007199254740992 ≤ acc + 128 ^ i * (c.toNat % 128) ∨ (c.toNat = 0 ∧ 0 < i) then none else some (acc + 128 ^ i * (c.toNat % 128), i + 1) := by rw [h, scanN]
theorem drop_cons {bs : List UInt8} {p : Nat} (h : p < bs.length) : bs.drop p = bs[p] :: bs.drop (p + 1) := List.drop_eq_getElem_cons h

/-! ### Lists of numbers -/
def isNumB (n : Int) : Bool := decide (0 ≤ n) && decide (n < 9007199254740992)
theorem isNumB_iff {n : Int} : isNumB n = true ↔ (0 ≤ n ∧ n < 9007199254740992) := by simp [isNumB]
theorem isNumB_not {n : Int} (h : isNumB n = false) : ¬ (0 ≤ n ∧ n < 9007199254740992) := by
  rw [← isNumB_iff, h]; simp
def numsB (l : List Int) : List UInt8 := l.flatMap fun n => numB n.toNat
def listB (l : List Int) : List UInt8 := numB l.length ++ numsB l

theorem numsB_snoc (l : List Int) (n : Int) : numsB (l ++ [n]) = numsB l ++ numB n.toNat := by simp [numsB, List.flatMap_append]
theorem numsB_len (l : List Int) (h : l.all isNumB = true) : (numsB l).length ≤ 8 * l.length := by
  induction l with
  | nil => simp [numsB]
  | cons n l ih =>
    simp only [List.all_cons, Bool.and_eq_true] at h
    have h1 := isNumB_iff.1 h.1
    have h2 := numB_len8 (n := n.toNat) (by omega)
    have h3 := ih h.2
    simp only [numsB, List.flatMap_cons, List.length_append, List.length_cons] at *
    omega
theorem take_snoc {α : Type} (l : List α) (k : Nat) (h : k < l.length) : l.take (k + 1) = l.take k ++ [l[k]] := by
  rw [List.take_succ_eq_append_getElem h]
theorem all_take_snoc {p : Int → Bool} {l : List Int} {k : Nat} (h : k < l.length) (hl : (l.take k).all p = true) (hk : p l[k] = true) : (l.take (k + 1)).all p = true := by
  rw [take_snoc l k h, List.all_append, hl]
  simp [hk]
theorem all_false_at {p : Int → Bool} {l : List Int} {k : Nat} (h : k < l.length) (hk : p l[k] = false) : l.all p = false := by
  rw [List.all_eq_false]
  exact ⟨l[k], List.getElem_mem h, by simp [hk]⟩

/-! ### Reading -/
theorem scanN_le : ∀ (k : Nat) (l : List UInt8) (i acc n j : Nat), scanN k l i acc = some (n, j) → i < j ∧ j - i ≤ l.length ∧ j ≤ i + k ∧ n < 9007199254740992
  | 0, _, _, _, _, _, h => by simp [scanN] at h
  | k + 1, [], _, _, _, _, h => by simp [scanN] at h
  | k + 1, c :: r, i, acc, n, j, h => by
    rw [scanN] at h
    split at h
    · have := scanN_le k r (i + 1) _ n j h
      simp only [List.length_cons]
      omega
    · split at h
      · cases h
      · rename_i hn
        simp only [Option.some.injEq, Prod.mk.injEq] at h
        obtain ⟨h1, h2⟩ := h
        simp only [List.length_cons]
        omega
theorem getN_le {l : List UInt8} {n j : Nat} (h : getN l = some (n, j)) : 0 < j ∧ j ≤ l.length ∧ j ≤ 8 ∧ n < 9007199254740992 := by
  have := scanN_le 8 l 0 0 n j h
  omega

/-- So many numbers, from a place on: they, and the place behind them. -/
def readK : Nat → List UInt8 → Nat → Option (List Nat × Nat)
  | 0, _, p => some ([], p)
  | k + 1, bs, p => match getN (bs.drop p) with
    | none => none
    | some (n, j) => match readK k bs (p + j) with
      | none => none
      | some (l, q) => some (n :: l, q)
theorem readK_le : ∀ (k : Nat) (bs : List UInt8) (p : Nat) (l : List Nat) (q : Nat), p ≤ bs.length → readK k bs p = some (l, q) → p + k ≤ q ∧ q ≤ bs.length ∧ l.length = k ∧ ∀ n ∈ l, n < 9007199254740992
  | 0, bs, p, l, q, hp, h => by
    simp only [readK, Option.some.injEq, Prod.mk.injEq] at h
    obtain ⟨rfl, rfl⟩ := h
    simp
    exact hp
  | k + 1, bs, p, l, q, hp, h => by
    rw [readK] at h
    split at h
    · cases h
    · rename_i n j hg
      split at h
      · cases h
      · rename_i l' q' hr
        simp only [Option.some.injEq, Prod.mk.injEq] at h
        obtain ⟨rfl, rfl⟩ := h
        have h1 := getN_le hg
        rw [List.length_drop] at h1
        have h2 := readK_le k bs (p + j) l' q' (by omega) hr
        refine ⟨by omega, h2.2.1, by simp [h2.2.2.1], fun m hm => ?_⟩
        rcases List.mem_cons.1 hm with rfl | hm
        · omega
        · exact h2.2.2.2 m hm
/-- The text, the list, that stands at a place, and the place behind it. -/
def textAt (bs : List UInt8) (p : Nat) : Option (List UInt8 × Nat) := match getN (bs.drop p) with
  | none => none
  | some (n, j) => if n ≤ bs.length - (p + j) then some ((bs.drop (p + j)).take n, p + j + n) else none
def listAt (bs : List UInt8) (p : Nat) (most : Int) : Option (List Nat × Nat) := match getN (bs.drop p) with
  | none => none
  | some (c, j) => if (c : Int) ≤ most then readK c bs (p + j) else none

theorem isNum_some {n : Int} (h : 0 ≤ n ∧ n < 9007199254740992) : ∃ m : Nat, n = m ∧ m < 9007199254740992 := ⟨n.toNat, by omega, by omega⟩

end Go.Proofs.Ytkoppdhmbhgnfaa
