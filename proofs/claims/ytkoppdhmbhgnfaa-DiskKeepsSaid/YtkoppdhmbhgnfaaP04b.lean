/- Layer 4, plain mathematics: what is done to a disk, one thing behind the other; what follows. -/
import Derived.Test.YtkoppdhmbhgnfaaP04
namespace Go.Proofs.Ytkoppdhmbhgnfaa

/-- Which error a write has. -/
def wrE (N : Nat) (i : Int) (m : Nat) : Int := if i < 0 then 1 else if (N : Int) < i ∨ (N : Int) - i < (m : Int) then 3 else 0

/-- A disk: what lasts, what waits, how often it was synced. -/
abbrev DkS : Type := List UInt8 × List (Nat × UInt8) × Int
/-- An act: its kind, a number, bytes. -/
abbrev ActS : Type := Int × Int × List UInt8

def wrD (s : DkS) (i : Int) (l : List UInt8) : DkS := if wrE s.1.length i l.length = 0 then (s.1, s.2.1 ++ spanB i.toNat l, s.2.2) else s
def syD (s : DkS) : DkS := (putAll s.1 s.2.1, [], s.2.2 + 1)
def crD (s : DkS) (k : Int) : DkS := (putAll s.1 (s.2.1.take k.toNat), [], s.2.2)
def acD (s : DkS) (x : ActS) : DkS := if x.1 = 0 then wrD s x.2.1 x.2.2 else if x.1 = 1 then syD s else if x.1 = 2 then crD s x.2.1 else s
/-- As it is read. -/
def rdD (s : DkS) : List UInt8 := putAll s.1 s.2.1

/-- A disk that may be: no byte waits behind its end. -/
def okD (s : DkS) : Prop := ∀ x ∈ s.2.1, x.1 < s.1.length

theorem wrE_ok {N m : Nat} {i : Int} (h : wrE N i m = 0) : 0 ≤ i ∧ i.toNat + m ≤ N := by
  unfold wrE at h
  split at h
  · omega
  · split at h <;> omega
theorem wrE_yes {N m : Nat} {i : Int} (h : 0 ≤ i ∧ i + (m : Int) ≤ N) : wrE N i m = 0 := by
  unfold wrE
  rw [if_neg (by omega), if_neg (by omega)]

theorem range_zip (i : Nat) (l : List UInt8) : ((List.range l.length).map (fun x => i + x)).zip l = spanB i l := by
  induction l generalizing i with
  | nil => rfl
  | cons c r ih =>
    rw [List.length_cons, List.range_succ_eq_map, List.map_cons, List.zip_cons_cons, spanB, ← ih (i + 1), List.map_map]
    congr 2
    refine List.map_congr_left fun x _ => ?_
    simp only [Function.comp_apply]
    omega

theorem wrD_len (s : DkS) (i : Int) (l : List UInt8) : (wrD s i l).1.length = s.1.length := by unfold wrD; split <;> rfl
theorem syD_len (s : DkS) : (syD s).1.length = s.1.length := putAll_len _ _
theorem crD_len (s : DkS) (k : Int) : (crD s k).1.length = s.1.length := putAll_len _ _
theorem acD_len (s : DkS) (x : ActS) : (acD s x).1.length = s.1.length := by
  unfold acD
  split
  · exact wrD_len _ _ _
  · split
    · exact syD_len s
    · split
      · exact crD_len _ _
      · rfl
theorem wrD_ok {s : DkS} (h : okD s) (i : Int) (l : List UInt8) : okD (wrD s i l) := by
  unfold wrD
  split
  · rename_i he
    have := wrE_ok he
    intro x hx
    rcases List.mem_append.1 hx with hx | hx
    · exact h x hx
    · exact spanB_lt (n := s.1.length) (by omega) x hx
  · exact h
theorem syD_ok (s : DkS) : okD (syD s) := fun x hx => by simp [syD] at hx
theorem crD_ok (s : DkS) (k : Int) : okD (crD s k) := fun x hx => by simp [crD] at hx
theorem acD_ok {s : DkS} (h : okD s) (x : ActS) : okD (acD s x) := by
  unfold acD
  split
  · exact wrD_ok h _ _
  · split
    · exact syD_ok s
    · split
      · exact crD_ok _ _
      · exact h
theorem wrD_waits (s : DkS) (i : Int) (l : List UInt8) : (wrD s i l).2.1.length ≤ s.2.1.length + l.length := by
  unfold wrD
  split
  · simp [spanB_len]
  · omega
theorem acD_waits (s : DkS) (x : ActS) : (acD s x).2.1.length ≤ s.2.1.length + x.2.2.length := by
  unfold acD
  split
  · exact wrD_waits _ _ _
  · split
    · simp [syD]
    · split
      · simp [crD]
      · omega
theorem wrD_n (s : DkS) (i : Int) (l : List UInt8) : (wrD s i l).2.2 = s.2.2 := by unfold wrD; split <;> rfl
theorem acD_n (s : DkS) (x : ActS) : s.2.2 ≤ (acD s x).2.2 ∧ (acD s x).2.2 ≤ s.2.2 + 1 := by
  unfold acD
  split
  · rw [wrD_n]; omega
  · split
    · simp [syD]; omega
    · split
      · simp [crD]; omega
      · omega

/-! ### What follows -/
/-- Two writes are one. -/
theorem wrD_split {s : DkS} {i : Int} {a b : List UInt8} (h : wrE s.1.length i (a.length + b.length) = 0) :
    wrE s.1.length i a.length = 0 ∧ wrE (wrD s i a).1.length (i + (a.length : Int)) b.length = 0 ∧ wrD (wrD s i a) (i + (a.length : Int)) b = wrD s i (a ++ b) := by
  have h0 := wrE_ok h
  have h1 : wrE s.1.length i a.length = 0 := wrE_yes (by omega)
  have h2 : wrE s.1.length (i + (a.length : Int)) b.length = 0 := wrE_yes (by omega)
  refine ⟨h1, by rw [wrD_len]; exact h2, ?_⟩
  have e1 : wrD s i a = (s.1, s.2.1 ++ spanB i.toNat a, s.2.2) := by rw [wrD, if_pos h1]
  rw [e1]
  unfold wrD
  simp only
  rw [if_pos h2, List.length_append, if_pos h, spanB_append, show (i + (a.length : Int)).toNat = i.toNat + a.length by omega, List.append_assoc]

theorem rdD_sync (s : DkS) (i : Int) (l : List UInt8) : rdD (wrD (syD s) i l) = rdD (wrD s i l) := by
  unfold wrD
  rw [syD_len]
  split
  · simp [rdD, syD, putAll_append]
  · simp [rdD, syD, putAll]
theorem rdD_len (s : DkS) : (rdD s).length = s.1.length := putAll_len _ _
/-- What was written last is what is read. -/
theorem rdD_late {s : DkS} {i : Int} {l : List UInt8} (h : wrE s.1.length i l.length = 0) : ((rdD (wrD s i l)).drop i.toNat).take l.length = l := by
  have h0 := wrE_ok h
  have e1 : wrD s i l = (s.1, s.2.1 ++ spanB i.toNat l, s.2.2) := by rw [wrD, if_pos h]
  rw [e1, rdD]
  simp only
  rw [putAll_append, putAll_span _ _ _ (by rw [putAll_len]; omega)]
  have hl : ((putAll s.1 s.2.1).take i.toNat).length = i.toNat := by rw [List.length_take, putAll_len]; omega
  rw [List.drop_append, List.drop_of_length_le (by omega), hl, Nat.sub_self, List.drop_zero, List.nil_append, List.take_left]

end Go.Proofs.Ytkoppdhmbhgnfaa
