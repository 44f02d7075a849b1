/- Layer 2, plain mathematics: a number's four bytes. -/
import Derived.Test.YticgpldpbbfklaaP02b
namespace Go.Proofs.Yticgpldpbbfklaa

/-- A number's low 32 bits as four bytes, the highest first. -/
def putB (n : Int) : List UInt8 := [UInt8.ofNat (n / 16777216 % 256).toNat, UInt8.ofNat (n / 65536 % 256).toNat, UInt8.ofNat (n / 256 % 256).toNat, UInt8.ofNat (n % 256).toNat]
theorem putB_len (n : Int) : (putB n).length = 4 := rfl

/-- Do bytes end with their sum? -/
def isB (l : List UInt8) : Bool := decide (4 ≤ l.length) && decide (l.drop (l.length - 4) = putB ((crcOf (l.take (l.length - 4))).toNat : Int))

theorem u8_mod (n : Int) : ((UInt8.ofNat (n % 256).toNat).toNat : Int) = n % 256 := by
  rw [UInt8.toNat_ofNat']
  omega

theorem u8_beq (x y : UInt8) : ((x.toNat : Int) == (y.toNat : Int)) = decide (y = x) := by
  rw [Bool.eq_iff_iff]
  simp only [beq_iff_eq, decide_eq_true_eq]
  constructor
  · intro h
    exact (UInt8.toNat_inj.1 (by omega)).symm
  · rintro rfl
    rfl

/-- The reference's way to the four bytes. -/
theorem ref_put (n : Int) : (IntKind.u64.wrap (((IntKind.u64.wrap n).tmod 4294967296).tdiv 16777216) % 256 = n / 16777216 % 256) ∧ ((IntKind.u64.wrap (((IntKind.u64.wrap n).tmod 4294967296).tdiv 65536)).tmod 256 % 256 = n / 65536 % 256) ∧
    ((IntKind.u64.wrap (((IntKind.u64.wrap n).tmod 4294967296).tdiv 256)).tmod 256 % 256 = n / 256 % 256) ∧ ((IntKind.u64.wrap n).tmod 256 % 256 = n % 256) := by
  have e : ∀ m : Int, IntKind.u64.wrap m = m % 18446744073709551616 := fun m => by simp [IntKind.wrap, IntKind.bits, IntKind.signed]
  simp only [e]
  have h := Int.emod_nonneg n (show (18446744073709551616 : Int) ≠ 0 by omega)
  rw [Int.tmod_eq_emod_of_nonneg h, Int.tmod_eq_emod_of_nonneg h]
  have h2 := Int.emod_nonneg (n % 18446744073709551616) (show (4294967296 : Int) ≠ 0 by omega)
  rw [Int.tdiv_eq_ediv_of_nonneg h2, Int.tdiv_eq_ediv_of_nonneg h2, Int.tdiv_eq_ediv_of_nonneg h2]
  have h3 : ∀ m : Int, 0 ≤ m % 18446744073709551616 := fun m => Int.emod_nonneg m (by omega)
  rw [Int.tmod_eq_emod_of_nonneg (h3 _), Int.tmod_eq_emod_of_nonneg (h3 _)]
  refine ⟨?_, ?_, ?_, ?_⟩ <;> omega

end Go.Proofs.Yticgpldpbbfklaa
