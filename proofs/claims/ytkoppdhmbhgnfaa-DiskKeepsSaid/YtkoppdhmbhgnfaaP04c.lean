/- Layer 4, plain mathematics: writes as they wait in a list. -/
import Derived.Test.YtkoppdhmbhgnfaaP04
namespace Go.Proofs.Ytkoppdhmbhgnfaa

/-- The single bytes of writes, one behind the other. -/
def flatW (l : List (Nat × List UInt8)) : List (Nat × UInt8) := l.flatMap fun x => spanB x.1 x.2

theorem flatW_nil : flatW [] = [] := rfl
theorem flatW_append (l m : List (Nat × List UInt8)) : flatW (l ++ m) = flatW l ++ flatW m := List.flatMap_append
theorem flatW_one (x : Nat × List UInt8) : flatW [x] = spanB x.1 x.2 := by simp [flatW]
theorem flatW_snoc {l : List (Nat × List UInt8)} {k : Nat} (h : k < l.length) : flatW (l.take (k + 1)) = flatW (l.take k) ++ spanB l[k].1 l[k].2 := by
  rw [List.take_succ_eq_append_getElem h, flatW_append, flatW_one]
theorem flatW_snoc_len {l : List (Nat × List UInt8)} {k : Nat} (h : k < l.length) : (flatW (l.take (k + 1))).length = (flatW (l.take k)).length + l[k].2.length := by
  rw [flatW_snoc h, List.length_append, spanB_len]
theorem flatW_le (l : List (Nat × List UInt8)) (k : Nat) : (flatW (l.take k)).length ≤ (flatW l).length := by
  conv => rhs; rw [← List.take_append_drop k l, flatW_append, List.length_append]
  omega
/-- None without bytes: no more writes than bytes. -/
theorem flatW_many {l : List (Nat × List UInt8)} (h : ∀ x ∈ l, 0 < x.2.length) : l.length ≤ (flatW l).length := by
  induction l with
  | nil => simp
  | cons x l ih =>
    have h1 := h x (by simp)
    have h2 := ih fun y hy => h y (by simp [hy])
    have e : flatW (x :: l) = spanB x.1 x.2 ++ flatW l := rfl
    rw [e, List.length_append, spanB_len, List.length_cons]
    omega
theorem spanB_take (i n : Nat) (l : List UInt8) : (spanB i l).take n = spanB i (l.take n) := by
  induction l generalizing i n with
  | nil => simp [spanB]
  | cons c r ih =>
    cases n with
    | zero => simp [spanB]
    | succ n => rw [spanB, List.take_succ_cons, ih, List.take_succ_cons, spanB]
/-- One write more. -/
theorem lay_step {bs : List UInt8} {l : List (Nat × List UInt8)} {k K : Nat} (h : k < l.length) (hin : l[k].1 + l[k].2.length ≤ bs.length) :
    putAll bs ((flatW (l.take (k + 1))).take K) =
      (putAll bs ((flatW (l.take k)).take K)).take l[k].1 ++ (l[k].2.take (K - (flatW (l.take k)).length) ++ (putAll bs ((flatW (l.take k)).take K)).drop (l[k].1 + (l[k].2.take (K - (flatW (l.take k)).length)).length)) := by
  rw [flatW_snoc h, List.take_append, putAll_append, spanB_take, putAll_span]
  rw [putAll_len, List.length_take]
  omega
theorem flatW_lt {l : List (Nat × List UInt8)} {n : Nat} (h : ∀ x ∈ l, x.1 + x.2.length ≤ n) : ∀ y ∈ flatW l, y.1 < n := by
  intro y hy
  obtain ⟨x, hx, hy⟩ := List.mem_flatMap.1 hy
  exact spanB_lt (h x hx) y hy

end Go.Proofs.Ytkoppdhmbhgnfaa
