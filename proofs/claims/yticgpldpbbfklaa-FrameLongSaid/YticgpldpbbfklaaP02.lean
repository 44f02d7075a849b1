/- Layer 2, plain mathematics: the register of the check sum, as 32 bits; no program is named here. -/
import Derived.WalkKit
namespace Go.Proofs.Yticgpldpbbfklaa

/-- One bit; one byte; all bytes. -/
def crcBit (r : BitVec 32) : BitVec 32 := if r.getLsbD 0 then (r >>> 1) ^^^ 0xEDB88320#32 else r >>> 1
def crcBits : Nat → BitVec 32 → BitVec 32
  | 0, r => r
  | k + 1, r => crcBits k (crcBit r)
def crcByte (r : BitVec 32) (c : UInt8) : BitVec 32 := crcBits 8 (r ^^^ BitVec.ofNat 32 c.toNat)
def crcAll (r : BitVec 32) (l : List UInt8) : BitVec 32 := l.foldl crcByte r
/-- The sum of bytes. -/
def crcOf (l : List UInt8) : BitVec 32 := ~~~ crcAll (~~~ 0#32) l
def crcMore (s : BitVec 32) (l : List UInt8) : BitVec 32 := ~~~ crcAll (~~~ s) l

theorem crcAll_append (r : BitVec 32) (a b : List UInt8) : crcAll r (a ++ b) = crcAll (crcAll r a) b := List.foldl_append
theorem crcMore_of (a b : List UInt8) : crcMore (crcOf a) b = crcOf (a ++ b) := by
  rw [crcMore, crcOf, crcOf, BitVec.not_not, crcAll_append]
theorem crcMore_more (s : BitVec 32) (a b : List UInt8) : crcMore (crcMore s a) b = crcMore s (a ++ b) := by
  rw [crcMore, crcMore, crcMore, BitVec.not_not, crcAll_append]
theorem crcMore_nil (s : BitVec 32) : crcMore s [] = s := by
  rw [crcMore]
  exact BitVec.not_not
theorem crcBits_succ : ∀ (k : Nat) (r : BitVec 32), crcBits (k + 1) r = crcBit (crcBits k r)
  | 0, _ => rfl
  | k + 1, r => by
    rw [crcBits, crcBits_succ k (crcBit r)]
    rfl

/-! ### It is linear -/
theorem crcBit_xor (a b : BitVec 32) : crcBit (a ^^^ b) = crcBit a ^^^ crcBit b := by
  have e : (a ^^^ b) >>> 1 = (a >>> 1) ^^^ (b >>> 1) := BitVec.ushiftRight_xor_distrib a b 1
  simp only [crcBit, BitVec.getLsbD_xor, e]
  cases a.getLsbD 0 <;> cases b.getLsbD 0 <;> simp only [Bool.false_bne, Bool.true_bne, Bool.not_false, Bool.not_true, if_true, if_false, Bool.false_eq_true, bne_self_eq_false]
  · rw [BitVec.xor_assoc]
  · rw [BitVec.xor_assoc, BitVec.xor_assoc, BitVec.xor_comm (b >>> 1)]
  · rw [BitVec.xor_assoc, BitVec.xor_comm (0xEDB88320#32) (b >>> 1 ^^^ 0xEDB88320#32), BitVec.xor_assoc, BitVec.xor_self, BitVec.xor_zero]
theorem crcBits_xor : ∀ (k : Nat) (a b : BitVec 32), crcBits k (a ^^^ b) = crcBits k a ^^^ crcBits k b
  | 0, _, _ => rfl
  | k + 1, a, b => by rw [crcBits, crcBits, crcBits, crcBit_xor, crcBits_xor k]

theorem ofNat_xor (a b : Nat) : BitVec.ofNat 32 (a ^^^ b) = BitVec.ofNat 32 a ^^^ BitVec.ofNat 32 b := by
  apply BitVec.eq_of_getLsbD_eq
  intro i hi
  simp [hi]
theorem crcByte_xor (r s : BitVec 32) (c d : UInt8) : crcByte (r ^^^ s) (c ^^^ d) = crcByte r c ^^^ crcByte s d := by
  rw [crcByte, crcByte, crcByte, ← crcBits_xor, UInt8.toNat_xor, ofNat_xor]
  congr 1
  rw [BitVec.xor_assoc, BitVec.xor_assoc]
  congr 1
  rw [← BitVec.xor_assoc, ← BitVec.xor_assoc, BitVec.xor_comm s]
theorem crcAll_xor : ∀ (a b : List UInt8) (r s : BitVec 32), a.length = b.length → crcAll (r ^^^ s) (List.zipWith (· ^^^ ·) a b) = crcAll r a ^^^ crcAll s b
  | [], [], _, _, _ => rfl
  | c :: a, d :: b, r, s, h => by
    simp only [List.zipWith_cons_cons, crcAll, List.foldl_cons]
    rw [crcByte_xor]
    exact crcAll_xor a b _ _ (by simpa using h)
  | [], _ :: _, _, _, h => by simp at h
  | _ :: _, [], _, _, h => by simp at h

theorem not_xor3 (a b c : BitVec 32) : ~~~ (a ^^^ b ^^^ c) = ~~~ a ^^^ ~~~ b ^^^ ~~~ c := by
  apply BitVec.eq_of_getLsbD_eq
  intro i hi
  simp [hi]
theorem crcOf_three (a b c : List UInt8) (h1 : a.length = b.length) (h2 : a.length = c.length) :
    crcOf (List.zipWith (· ^^^ ·) (List.zipWith (· ^^^ ·) a b) c) = crcOf a ^^^ crcOf b ^^^ crcOf c := by
  have e : (~~~ 0#32) = ((~~~ 0#32) ^^^ (~~~ 0#32)) ^^^ (~~~ 0#32) := by decide
  rw [crcOf, crcOf, crcOf, crcOf, ← not_xor3]
  conv => lhs; rw [e]
  rw [crcAll_xor _ _ _ _ (by simp [List.length_zipWith]; omega), crcAll_xor _ _ _ _ h1]

/-! ### It loses nothing -/
theorem crcBit_zero {r : BitVec 32} (h : crcBit r = 0#32) : r = 0#32 := by
  unfold crcBit at h
  split at h
  · exfalso
    have := congrArg (fun x => x.getLsbD 31) h
    simp at this
  · rename_i hl
    apply BitVec.eq_of_getLsbD_eq
    intro i hi
    have := congrArg (fun x => x.getLsbD (i - 1)) h
    simp only [BitVec.getLsbD_ushiftRight, BitVec.getLsbD_zero] at this
    rcases Nat.eq_zero_or_pos i with h0 | h0
    · subst h0
      simpa using hl
    · rw [show 1 + (i - 1) = i by omega] at this
      simpa using this
theorem crcBits_zero : ∀ (k : Nat) {r : BitVec 32}, crcBits k r = 0#32 → r = 0#32
  | 0, _, h => h
  | k + 1, _, h => crcBit_zero (crcBits_zero k h)
theorem xor_eq_zero {a b : BitVec 32} (h : a ^^^ b = 0#32) : a = b := by
  have := congrArg (· ^^^ b) h
  simp only [BitVec.xor_assoc, BitVec.xor_self, BitVec.xor_zero, BitVec.zero_xor] at this
  exact this
theorem crcBits_inj (k : Nat) {a b : BitVec 32} (h : crcBits k a = crcBits k b) : a = b := by
  apply xor_eq_zero
  apply crcBits_zero k
  rw [crcBits_xor, h, BitVec.xor_self]
theorem crcByte_inj {r s : BitVec 32} {c : UInt8} (h : crcByte r c = crcByte s c) : r = s := by
  have := crcBits_inj 8 h
  have := congrArg (· ^^^ BitVec.ofNat 32 c.toNat) this
  simpa only [BitVec.xor_assoc, BitVec.xor_self, BitVec.xor_zero] using this
theorem crcByte_inj2 {r : BitVec 32} {c d : UInt8} (h : crcByte r c = crcByte r d) : c = d := by
  have h1 := crcBits_inj 8 h
  have h2 := congrArg (r ^^^ ·) h1
  simp only [← BitVec.xor_assoc, BitVec.xor_self, BitVec.zero_xor] at h2
  have h3 := congrArg BitVec.toNat h2
  simp only [BitVec.toNat_ofNat] at h3
  have hc := c.toNat_lt
  have hd := d.toNat_lt
  apply UInt8.toNat_inj.1
  omega
theorem crcAll_inj : ∀ (l : List UInt8) {r s : BitVec 32}, crcAll r l = crcAll s l → r = s
  | [], _, _, h => h
  | c :: l, _, _, h => crcByte_inj (crcAll_inj l h)
/-- One byte turned: another sum. -/
theorem crcOf_turned (pre post : List UInt8) {c d : UInt8} (h : crcOf (pre ++ c :: post) = crcOf (pre ++ d :: post)) : c = d := by
  unfold crcOf at h
  have h1 := BitVec.not_inj.1 h
  rw [crcAll_append, crcAll_append] at h1
  exact crcByte_inj2 (crcAll_inj post h1)

end Go.Proofs.Yticgpldpbbfklaa
