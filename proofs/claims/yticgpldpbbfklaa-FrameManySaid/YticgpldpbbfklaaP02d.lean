/- Layer 2, plain mathematics: bytes with their sum behind are so; with one byte turned they aren't. -/
import Derived.Test.YticgpldpbbfklaaP02c
import Derived.Laws.BitsAllLaws
namespace Go.Proofs.Yticgpldpbbfklaa

theorem putB_inj {m n : Nat} (hm : m < 4294967296) (hn : n < 4294967296) (h : putB (m : Int) = putB (n : Int)) : m = n := by
  simp only [putB, List.cons.injEq, and_true] at h
  obtain ⟨h1, h2, h3, h4⟩ := h
  have e1 := congrArg UInt8.toNat h1
  have e2 := congrArg UInt8.toNat h2
  have e3 := congrArg UInt8.toNat h3
  have e4 := congrArg UInt8.toNat h4
  simp only [UInt8.toNat_ofNat'] at e1 e2 e3 e4
  omega

theorem isB_put (l : List UInt8) : isB (l ++ putB ((crcOf l).toNat : Int)) = true := by
  have h4 := putB_len ((crcOf l).toNat : Int)
  rw [isB, List.length_append, h4, Nat.add_sub_cancel, List.drop_left, List.take_left]
  simp

theorem isB_turn (l : List UInt8) (i : Nat) (d : UInt8) (hi : i < l.length + 4) (hd : (l ++ putB ((crcOf l).toNat : Int))[i]? ≠ some d) : isB ((l ++ putB ((crcOf l).toNat : Int)).set i d) = false := by
  have h4 := putB_len ((crcOf l).toNat : Int)
  rw [isB, List.length_set, List.length_append, h4, Nat.add_sub_cancel, Bool.and_eq_false_iff]
  right
  rw [decide_eq_false_iff_not]
  intro h
  by_cases hl : i < l.length
  · rw [List.set_append_left _ _ hl, List.drop_left' (by rw [List.length_set]), List.take_left' (by rw [List.length_set])] at h
    have h2 := putB_inj (crcOf l).isLt (crcOf (l.set i d)).isLt h
    have h3 : crcOf l = crcOf (l.set i d) := BitVec.eq_of_toNat_eq h2
    rw [List.getElem?_append_left hl] at hd
    rw [List.set_eq_take_append_cons_drop, if_pos hl] at h3
    have e : l = l.take i ++ l[i] :: l.drop (i + 1) := by rw [← List.drop_eq_getElem_cons hl, List.take_append_drop]
    have h5 : crcOf (l.take i ++ l[i] :: l.drop (i + 1)) = crcOf (l.take i ++ d :: l.drop (i + 1)) := by rw [← e]; exact h3
    have h6 := crcOf_turned _ _ h5
    exact hd (by rw [List.getElem?_eq_getElem hl, h6])
  · rw [List.set_append_right _ _ (by omega), List.drop_left, List.take_left] at h
    rw [List.getElem?_append_right (by omega)] at hd
    have hlt : i - l.length < (putB ((crcOf l).toNat : Int)).length := by rw [h4]; omega
    have h2 := congrArg (fun x => x[i - l.length]?) h
    simp only [List.getElem?_set_self hlt] at h2
    exact hd h2.symm

theorem xor_ne (x y : UInt8) (h : y ≠ 0) : x ^^^ y ≠ x := by
  intro e
  apply h
  have := congrArg (x ^^^ ·) e
  simpa [← UInt8.xor_assoc] using this
theorem xorU8 (x y : UInt8) : bits .xor .u8 (x.toNat : Int) (y.toNat : Int) = ((x ^^^ y).toNat : Int) := by
  rw [u8_xor_nat _ _ x.toNat_lt y.toNat_lt, UInt8.toNat_xor]

theorem xorI64b (r s : BitVec 32) : bits .xor .i64 (r.toNat : Int) (s.toNat : Int) = ((r ^^^ s).toNat : Int) := by
  have := r.isLt
  have := s.isLt
  rw [i64_xor_nat _ _ (by omega) (by omega), BitVec.toNat_xor]
theorem fill_set {xs : List UInt8} {n k : Nat} {x : UInt8} (hl : xs.length = n) (h : k < n) (hx : xs[k]? = some x) :
    (xs.take k ++ List.replicate (n - k) 0).set k x = xs.take (k + 1) ++ List.replicate (n - (k + 1)) 0 := by
  have hlt : k < xs.length := by omega
  rw [List.getElem?_eq_getElem hlt] at hx
  rw [List.set_append_right _ _ (by rw [List.length_take]; omega), List.length_take, Nat.min_eq_left (by omega), Nat.sub_self, show n - k = (n - (k + 1)) + 1 by omega, List.replicate_succ, List.set_cons_zero, List.take_succ_eq_append_getElem hlt, Option.some.inj hx]
  simp

end Go.Proofs.Yticgpldpbbfklaa
