/- Layer 3, plain mathematics: frames; what stands at the head of bytes; no program is named here. -/
import Derived.Test.YticgpldpbbfklaaP01b
import Derived.Test.YticgpldpbbfklaaP02d
namespace Go.Proofs.Yticgpldpbbfklaa

/-- A payload's frame; nothing of what is none. -/
def frameB (p : List UInt8) : List UInt8 := if 1 ≤ p.length ∧ p.length ≤ 4000 then numB p.length ++ (p ++ (putB ((crcOf p).toNat : Int) ++ [1])) else []

theorem frameB_yes {p : List UInt8} (h : 1 ≤ p.length ∧ p.length ≤ 4000) : frameB p = numB p.length ++ (p ++ (putB ((crcOf p).toNat : Int) ++ [1])) := by rw [frameB, if_pos h]
theorem frameB_no {p : List UInt8} (h : ¬ (1 ≤ p.length ∧ p.length ≤ 4000)) : frameB p = [] := by rw [frameB, if_neg h]
theorem frameB_len {p : List UInt8} (h : 1 ≤ p.length ∧ p.length ≤ 4000) : (frameB p).length = (numB p.length).length + p.length + 5 := by
  rw [frameB_yes h, List.length_append, List.length_append, List.length_append, putB_len]
  simp
  omega

/-- The frame at the head of bytes, if there is one: its payload, and how long it is. -/
def frameAt (l : List UInt8) : Option (List UInt8 × Nat) := match getN l with
  | none => none
  | some (n, j) => if (1 ≤ n ∧ n ≤ 4000) ∧ j + n + 5 ≤ l.length ∧ l.take (j + n + 5) = frameB ((l.drop j).take n) then some ((l.drop j).take n, j + n + 5) else none

/-- What stands at a place: the payload, the place behind it, and which it is. -/
def getF (b : List UInt8) (i : Int) : List UInt8 × Int × Int :=
  if i < 0 ∨ (b.length : Int) < i then ([], i, 2) else
  if (b.drop i.toNat).head?.getD 0 = 0 then ([], i, 0) else
  match frameAt (b.drop i.toNat) with
  | some (p, k) => (p, i + k, 1)
  | none => ([], i, 2)

/-- All payloads from a place on, and the place behind them. -/
def allF : Nat → List UInt8 → Int → List (List UInt8) × Int
  | 0, _, i => ([], i)
  | k + 1, b, i => if (getF b i).2.2 = 1 then ((getF b i).1 :: (allF k b (getF b i).2.1).1, (allF k b (getF b i).2.1).2) else ([], i)

theorem frameAt_some {l p : List UInt8} {k : Nat} (h : frameAt l = some (p, k)) : (1 ≤ p.length ∧ p.length ≤ 4000) ∧ k = (frameB p).length ∧ k ≤ l.length ∧ l.take k = frameB p := by
  rw [frameAt] at h
  split at h
  · cases h
  · rename_i n j hg
    split at h
    · rename_i hc
      simp only [Option.some.injEq, Prod.mk.injEq] at h
      obtain ⟨h1, h2⟩ := h
      have hl : p.length = n := by rw [← h1, List.length_take, List.length_drop]; omega
      rw [h1] at hc
      have hp : 1 ≤ p.length ∧ p.length ≤ 4000 := by omega
      refine ⟨hp, ?_, by omega, by rw [← h2]; exact hc.2.2⟩
      have := congrArg List.length hc.2.2
      rw [List.length_take] at this
      omega
    · cases h

theorem frameAt_put {p : List UInt8} (h : 1 ≤ p.length ∧ p.length ≤ 4000) (rest : List UInt8) : frameAt (frameB p ++ rest) = some (p, (frameB p).length) := by
  have hl := frameB_len h
  have hg : getN (frameB p ++ rest) = some (p.length, (numB p.length).length) := by
    rw [frameB_yes h, List.append_assoc]
    exact getN_put (by omega) _
  have hd : ((frameB p ++ rest).drop (numB p.length).length).take p.length = p := by
    rw [frameB_yes h, List.append_assoc, List.drop_left, List.append_assoc, List.take_left]
  rw [frameAt, hg]
  simp only [hd]
  rw [if_pos ⟨h, by rw [List.length_append]; omega, by rw [← hl, List.take_left]⟩, hl]

theorem numB_head {n : Nat} (h : 1 ≤ n) : ∃ c r, numB n = c :: r ∧ c ≠ 0 := by
  by_cases hn : n < 128
  · refine ⟨_, _, numB_lo hn, fun e => ?_⟩
    have := congrArg UInt8.toNat e
    rw [u8_toNat] at this
    have : (0 : UInt8).toNat = 0 := rfl
    omega
  · refine ⟨_, _, numB_hi hn, fun e => ?_⟩
    have := congrArg UInt8.toNat e
    rw [u8_toNat] at this
    have : (0 : UInt8).toNat = 0 := rfl
    omega
theorem frameB_head {p : List UInt8} (h : 1 ≤ p.length ∧ p.length ≤ 4000) : ∃ c r, frameB p = c :: r ∧ c ≠ 0 := by
  obtain ⟨c, r, h1, h2⟩ := numB_head h.1
  exact ⟨c, r ++ (p ++ (putB ((crcOf p).toNat : Int) ++ [1])), by rw [frameB_yes h, h1]; rfl, h2⟩

theorem getF_put {p : List UInt8} (h : 1 ≤ p.length ∧ p.length ≤ 4000) (pre rest : List UInt8) : getF (pre ++ (frameB p ++ rest)) pre.length = (p, (pre.length : Int) + (frameB p).length, 1) := by
  obtain ⟨c, r, h1, h2⟩ := frameB_head h
  rw [getF, if_neg (by rw [List.length_append]; omega), Int.toNat_natCast, List.drop_left]
  rw [if_neg (by rw [h1]; simpa using h2), frameAt_put h]

theorem getF_cases (b : List UInt8) (i : Int) : ((getF b i).2.2 = 1 ∧ 0 ≤ i ∧ frameAt (b.drop i.toNat) = some ((getF b i).1, ((getF b i).2.1 - i).toNat) ∧ i ≤ (getF b i).2.1 ∧ (getF b i).2.1 ≤ b.length) ∨
    ((getF b i).1 = [] ∧ (getF b i).2.1 = i ∧ ((getF b i).2.2 = 0 ∨ (getF b i).2.2 = 2)) := by
  rw [getF]
  split
  · exact .inr ⟨rfl, rfl, .inr rfl⟩
  · rename_i hi
    split
    · exact .inr ⟨rfl, rfl, .inl rfl⟩
    · split
      · rename_i p k hf
        have := frameAt_some hf
        rw [List.length_drop] at this
        refine .inl ⟨rfl, by omega, ?_, by simp only; omega, by simp only; omega⟩
        rw [hf]
        simp only [Option.some.injEq, Prod.mk.injEq, true_and]
        omega
      · exact .inr ⟨rfl, rfl, .inr rfl⟩

/-! ### What stands at a place, case by case -/
theorem getF_low {b : List UInt8} {i : Int} (h : i < 0 ∨ (b.length : Int) < i) : getF b i = ([], i, 2) := by rw [getF, if_pos h]
theorem getF_done (b : List UInt8) : getF b (b.length : Int) = ([], (b.length : Int), 0) := by
  rw [getF, if_neg (by omega), Int.toNat_natCast, List.drop_of_length_le (Nat.le_refl _)]
  simp
theorem drop_head {b : List UInt8} {k : Nat} (h : k < b.length) : (b.drop k).head?.getD 0 = b[k] := by
  rw [List.drop_eq_getElem_cons h]
  rfl
theorem getF_nought {b : List UInt8} {k : Nat} (h : k < b.length) (h0 : b[k] = 0) : getF b (k : Int) = ([], (k : Int), 0) := by
  rw [getF, if_neg (by omega), Int.toNat_natCast, drop_head h, if_pos h0]
theorem getF_there {b : List UInt8} {k : Nat} (h : k < b.length) (h0 : b[k] ≠ 0) : getF b (k : Int) = match frameAt (b.drop k) with
    | some (p, m) => (p, (k : Int) + (m : Int), 1)
    | none => ([], (k : Int), 2) := by
  rw [getF, if_neg (by omega), Int.toNat_natCast, drop_head h, if_neg h0]
theorem frameAt_none {l : List UInt8} (h : getN l = none) : frameAt l = none := by rw [frameAt, h]
theorem frameAt_no {l : List UInt8} {n j : Nat} (h : getN l = some (n, j)) (hc : ¬ ((1 ≤ n ∧ n ≤ 4000) ∧ j + n + 5 ≤ l.length ∧ l.take (j + n + 5) = frameB ((l.drop j).take n))) : frameAt l = none := by
  rw [frameAt, h]
  simp only
  rw [if_neg hc]
theorem frameAt_yes {l : List UInt8} {n j : Nat} (h : getN l = some (n, j)) (hc : (1 ≤ n ∧ n ≤ 4000) ∧ j + n + 5 ≤ l.length ∧ l.take (j + n + 5) = frameB ((l.drop j).take n)) : frameAt l = some ((l.drop j).take n, j + n + 5) := by
  rw [frameAt, h]
  simp only
  rw [if_pos hc]
/-- With the sum and the last byte looked at by themselves. -/
theorem frame_parts {l : List UInt8} {n j : Nat} (h : getN l = some (n, j)) (hn : 1 ≤ n ∧ n ≤ 4000) (hl : j + n + 5 ≤ l.length) :
    (l.take (j + n + 5) = frameB ((l.drop j).take n)) ↔ ((l.drop (j + n)).take 4 = putB ((crcOf ((l.drop j).take n)).toNat : Int) ∧ l[j + n + 4]? = some 1) := by
  have hp : ((l.drop j).take n).length = n := by rw [List.length_take, List.length_drop]; omega
  have hj : (l.take j).length = j := by rw [List.length_take]; omega
  rw [frameB_yes (by rw [hp]; exact hn), hp, getN_get h]
  have e : l.take (j + n + 5) = l.take j ++ ((l.drop j).take n ++ ((l.drop (j + n)).take 4 ++ (l.drop (j + n + 4)).take 1)) := by
    rw [show j + n + 5 = j + (n + (4 + 1)) by omega, List.take_add, List.take_add, List.take_add, List.drop_drop, List.drop_drop]
  rw [e, List.append_cancel_left_eq, List.append_cancel_left_eq]
  have h4 : ((l.drop (j + n)).take 4).length = 4 := by rw [List.length_take, List.length_drop]; omega
  have h1 : (l.drop (j + n + 4)).take 1 = [l[j + n + 4]] := by rw [List.drop_eq_getElem_cons (by omega)]; rfl
  rw [h1, List.getElem?_eq_getElem (by omega)]
  constructor
  · intro h
    have := List.append_inj h (by rw [h4, putB_len])
    exact ⟨this.1, by simpa using this.2⟩
  · rintro ⟨h1, h2⟩
    rw [h1]
    simp only [Option.some.injEq] at h2
    rw [h2]

end Go.Proofs.Yticgpldpbbfklaa
