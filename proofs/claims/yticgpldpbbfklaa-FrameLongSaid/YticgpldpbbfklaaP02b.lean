/- Layer 2, plain mathematics: the register's bits as the program's numbers; no function is named here. -/
import Derived.Test.YticgpldpbbfklaaP02
import Derived.Laws.BitsAllLaws
namespace Go.Proofs.Yticgpldpbbfklaa

theorem ofNat_u8 (c : UInt8) : (BitVec.ofNat 32 c.toNat).toNat = c.toNat := by
  rw [BitVec.toNat_ofNat]
  have := c.toNat_lt
  omega
theorem xorU32 (r : BitVec 32) (c : UInt8) : bits .xor .u32 (r.toNat : Int) (c.toNat : Int) = ((r ^^^ BitVec.ofNat 32 c.toNat).toNat : Int) := by
  have := c.toNat_lt
  rw [u32_xor_nat _ _ r.isLt (by omega), BitVec.toNat_xor, ofNat_u8]
theorem xorU32m (r : BitVec 32) (c : UInt8) : bits .xor .u32 (r.toNat : Int) ((c.toNat : Int) % 4294967296) = ((r ^^^ BitVec.ofNat 32 c.toNat).toNat : Int) := by
  have := c.toNat_lt
  rw [← xorU32, show ((c.toNat : Int) % 4294967296) = (c.toNat : Int) by omega]
theorem lowU32 (r : BitVec 32) : bits .and .u32 (r.toNat : Int) 1 = ((r.toNat % 2 : Nat) : Int) := by
  have := u32_and_nat r.toNat 1 r.isLt (by omega)
  rw [nat_mask1] at this
  exact this
theorem low_bit (r : BitVec 32) : r.getLsbD 0 = decide (r.toNat % 2 = 1) := by
  rw [BitVec.getLsbD, Nat.testBit_zero]
theorem crcBit_even {r : BitVec 32} (h : r.toNat % 2 = 0) : (r.toNat / 2 : Nat) = (crcBit r).toNat := by
  rw [crcBit, low_bit, if_neg (by rw [h]; decide), BitVec.toNat_ushiftRight, Nat.shiftRight_eq_div_pow]
theorem crcBit_odd {r : BitVec 32} (h : r.toNat % 2 = 1) : (r.toNat / 2) ^^^ 3988292384 = (crcBit r).toNat := by
  rw [crcBit, low_bit, if_pos (by rw [h]; decide), BitVec.toNat_xor, BitVec.toNat_ushiftRight, Nat.shiftRight_eq_div_pow]
  rfl
theorem polyU32 {r : BitVec 32} (h : r.toNat % 2 = 1) : bits .xor .u32 ((r.toNat : Int) / 2) 3988292384 = ((crcBit r).toNat : Int) := by
  have := u32_xor_nat (r.toNat / 2) 3988292384 (by have := r.isLt; omega) (by omega)
  rw [crcBit_odd h] at this
  exact this
theorem i64_xor_nat (a b : Nat) (ha : a < 9223372036854775808) (hb : b < 9223372036854775808) : bits .xor .i64 (a : Int) (b : Int) = ((a ^^^ b : Nat) : Int) := by
  have hx : a ^^^ b < 2 ^ 63 := Nat.xor_lt_two_pow (by omega) (by omega)
  have e : ∀ c : Nat, c < 9223372036854775808 → (BitVec.ofInt 64 (c : Int)).toNat = c := fun c hc => by
    rw [BitVec.ofInt_natCast, BitVec.toNat_ofNat]
    exact Nat.mod_eq_of_lt (by omega)
  show IntKind.i64.wrap ((BitVec.ofInt 64 (a : Int) ^^^ BitVec.ofInt 64 (b : Int)).toNat : Int) = _
  rw [BitVec.toNat_xor, e a ha, e b hb, IntKind.wrap_i64]
  omega
theorem xorI64 (r : BitVec 32) (c : UInt8) : bits .xor .i64 (r.toNat : Int) (c.toNat : Int) = ((r ^^^ BitVec.ofNat 32 c.toNat).toNat : Int) := by
  have := c.toNat_lt
  have := r.isLt
  rw [i64_xor_nat _ _ (by omega) (by omega), BitVec.toNat_xor, ofNat_u8]
theorem polyI64 {r : BitVec 32} (h : r.toNat % 2 = 1) : bits .xor .i64 ((r.toNat : Int) / 2) 3988292384 = ((crcBit r).toNat : Int) := by
  have := i64_xor_nat (r.toNat / 2) 3988292384 (by have := r.isLt; omega) (by omega)
  rw [crcBit_odd h] at this
  exact this
theorem notU32 (r : BitVec 32) : bits .xor .u32 4294967295 (r.toNat : Int) = ((~~~ r).toNat : Int) := by
  have := u32_xor_nat 4294967295 r.toNat (by omega) r.isLt
  have e : (4294967295 ^^^ r.toNat) = (~~~ r).toNat := by
    have : (4294967295 : Nat) = (BitVec.allOnes 32).toNat := by decide
    rw [this, ← BitVec.toNat_xor, BitVec.allOnes_xor]
  rw [← e]
  exact this
theorem notMax (r : BitVec 32) : bits .xor .u32 IntKind.u32.max (r.toNat : Int) = ((~~~ r).toNat : Int) := notU32 r
theorem not_nat (r : BitVec 32) : (~~~ r).toNat = 4294967295 - r.toNat := by
  rw [BitVec.toNat_not]
theorem crcAll_snoc {l : List UInt8} {k : Nat} (h : k < l.length) (r : BitVec 32) : crcAll r (l.take (k + 1)) = crcByte (crcAll r (l.take k)) l[k] := by
  rw [List.take_succ_eq_append_getElem h, crcAll_append]
  rfl

end Go.Proofs.Yticgpldpbbfklaa
