/- Layer 4, plain mathematics: what lasts, and what waits. -/
import Derived.WalkKit
namespace Go.Proofs.Ytkoppdhmbhgnfaa

/-- Single bytes written one behind the other. -/
def putAll (b : List UInt8) (l : List (Nat × UInt8)) : List UInt8 := l.foldl (fun b x => b.set x.1 x.2) b
/-- The single bytes of one write. -/
def spanB (i : Nat) : List UInt8 → List (Nat × UInt8)
  | [] => []
  | c :: r => (i, c) :: spanB (i + 1) r

theorem putAll_len (b : List UInt8) (l : List (Nat × UInt8)) : (putAll b l).length = b.length := by
  induction l generalizing b with
  | nil => rfl
  | cons x l ih => rw [putAll, List.foldl_cons, ← putAll, ih, List.length_set]
theorem putAll_append (b : List UInt8) (l m : List (Nat × UInt8)) : putAll b (l ++ m) = putAll (putAll b l) m := List.foldl_append
theorem putAll_snoc (b : List UInt8) (l : List (Nat × UInt8)) (x : Nat × UInt8) : putAll b (l ++ [x]) = (putAll b l).set x.1 x.2 := by rw [putAll_append]; rfl
theorem spanB_len (i : Nat) (b : List UInt8) : (spanB i b).length = b.length := by
  induction b generalizing i with
  | nil => rfl
  | cons c r ih => rw [spanB, List.length_cons, ih, List.length_cons]
theorem spanB_append (i : Nat) (a b : List UInt8) : spanB i (a ++ b) = spanB i a ++ spanB (i + a.length) b := by
  induction a generalizing i with
  | nil => simp [spanB]
  | cons c r ih => rw [List.cons_append, spanB, ih, spanB, List.cons_append, List.length_cons, Nat.add_right_comm, Nat.add_assoc]
theorem spanB_snoc {b : List UInt8} {k : Nat} (i : Nat) (h : k < b.length) : spanB i (b.take (k + 1)) = spanB i (b.take k) ++ [(i + k, b[k])] := by
  rw [List.take_succ_eq_append_getElem h, spanB_append, List.length_take, Nat.min_eq_left (by omega)]
  rfl
theorem spanB_lt {i n : Nat} {b : List UInt8} (h : i + b.length ≤ n) : ∀ x ∈ spanB i b, x.1 < n := by
  induction b generalizing i with
  | nil => intro x hx; simp [spanB] at hx
  | cons c r ih =>
    intro x hx
    rw [List.length_cons] at h
    rcases List.mem_cons.1 hx with hx | hx
    · rw [hx]
      simp only
      omega
    · exact ih (by omega) x hx
/-- A write of bytes that lie one behind the other. -/
theorem putAll_span (b : List UInt8) (i : Nat) (l : List UInt8) (h : i + l.length ≤ b.length) : putAll b (spanB i l) = b.take i ++ (l ++ b.drop (i + l.length)) := by
  induction l generalizing b i with
  | nil => simp [spanB, putAll]
  | cons c r ih =>
    rw [List.length_cons] at h
    have e : putAll b (spanB i (c :: r)) = putAll (b.set i c) (spanB (i + 1) r) := rfl
    rw [e, ih _ _ (by rw [List.length_set]; omega), List.set_eq_take_append_cons_drop, if_pos (by omega)]
    have hl : (b.take i).length = i := by rw [List.length_take]; omega
    rw [List.take_append, List.take_of_length_le (by omega), hl, show i + 1 - i = 1 by omega, List.drop_append, List.drop_of_length_le (l := b.take i) (by omega), hl]
    simp only [List.take_succ_cons, List.take_zero, List.append_assoc, List.cons_append, List.nil_append]
    rw [show i + 1 + r.length - i = r.length + 1 by omega, List.drop_succ_cons, List.drop_drop, List.length_cons]
    congr 3
    congr 1
    omega

end Go.Proofs.Ytkoppdhmbhgnfaa
