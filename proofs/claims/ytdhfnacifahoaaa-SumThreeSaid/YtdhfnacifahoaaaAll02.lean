/- Layer 2: one form for each function, of any numbers. -/
import Derived.Test.YtdhfnacifahoaaaSumB
import Derived.Test.YtdhfnacifahoaaaRef02
namespace Go.Proofs.Ytdhfnacifahoaaa
open Go.RowKit

/-- The sum behind a number that is one, 0 behind another. -/
def moreI (s : Int) (l : List UInt8) : Int := if 0 ≤ s ∧ s ≤ 4294967295 then ((crcMore (BitVec.ofNat 32 s.toNat) l).toNat : Int) else 0

theorem moreI_some (s : BitVec 32) (l : List UInt8) : moreI (s.toNat : Int) l = ((crcMore s l).toNat : Int) := by
  rw [moreI, if_pos (by have := s.isLt; omega), Int.toNat_natCast, BitVec.ofNat_toNat, BitVec.setWidth_eq]
theorem moreI_yes {s : Int} (h : 0 ≤ s ∧ s ≤ 4294967295) : ∃ t : BitVec 32, s = (t.toNat : Int) :=
  ⟨BitVec.ofNat 32 s.toNat, by rw [BitVec.toNat_ofNat]; omega⟩
theorem moreI_no {s : Int} (h : ¬ (0 ≤ s ∧ s ≤ 4294967295)) (l : List UInt8) : moreI s l = 0 := by rw [moreI, if_neg h]
theorem moreI_nil (s : BitVec 32) : moreI (s.toNat : Int) [] = (s.toNat : Int) := by rw [moreI_some, crcMore_nil]

theorem More_any (l : List UInt8) (v : Value) (s : Int) (w : World) (hr : Rd w v (l.map B)) :
    Calls Try.prog 11 #[.int .i64 s, v] w fun e w' => e = .returned (.int .i64 (moreI s l)) ∧ w = w' := by
  by_cases h : 0 ≤ s ∧ s ≤ 4294967295
  · obtain ⟨t, rfl⟩ := moreI_yes h
    rw [moreI_some]
    exact More_yes l v t w hr
  · rw [moreI_no h]
    exact More_no s v w h

theorem RefMore_any (l : List UInt8) (v : Value) (s : Int) (w : World) (hr : Rd w v (l.map B)) :
    Calls Try.prog 12 #[.int .i64 s, v] w fun e w' => e = .returned (.int .i64 (moreI s l)) ∧ w = w' := by
  by_cases h : 0 ≤ s ∧ s ≤ 4294967295
  · obtain ⟨t, rfl⟩ := moreI_yes h
    rw [moreI_some]
    exact RefMore_yes l v t w hr
  · rw [moreI_no h]
    exact RefMore_no s v w h

end Go.Proofs.Ytdhfnacifahoaaa
