/- Texts that the proof of B rests on, one behind the other. -/
import Derived.Test.YtkpcjdhnbjkaaaaDoorBQ1

/- Layer 14, plain mathematics: the line. No program is named here. -/
namespace Go.Proofs.YtkpcjdhnbjkaaaaDoor

/-- Is the job at position i (from 0) queued? -/
def queuedL (l : List Jb) (i : Nat) : Bool := match l[i]? with
  | some x => decide (x.phase = 0)
  | none => false
/-- Does the job at i come ahead of that at k? -/
def aheadL (l : List Jb) (i k : Nat) : Bool := match l[i]?, l[k]? with
  | some x, some y => decide (y.prio < x.prio ∨ x.prio = y.prio ∧ i < k)
  | _, _ => false
/-- How many of the first q jobs are queued and come ahead of it. -/
def placeTo (l : List Jb) (i q : Nat) : Nat := ((List.range q).filter fun k => queuedL l k && aheadL l k i).length
def placeL (l : List Jb) (i : Nat) : Nat := placeTo l i l.length
/-- Those of the first q jobs that have the place a. -/
def atTo (l : List Jb) (a q : Nat) : List Nat := (List.range q).filter fun i => queuedL l i && decide (placeL l i = a)
/-- The line's jobs of the places below a. -/
def lineTo (l : List Jb) (a : Nat) : List Nat := (List.range a).flatMap fun b => atTo l b l.length
def lineL (l : List Jb) : List Nat := lineTo l l.length

theorem queuedL_at {l : List Jb} {i : Nat} {x : Jb} (h : l[i]? = some x) : queuedL l i = decide (x.phase = 0) := by unfold queuedL; rw [h]
theorem aheadL_at {l : List Jb} {i k : Nat} {x y : Jb} (h : l[i]? = some x) (h' : l[k]? = some y) : aheadL l i k = decide (y.prio < x.prio ∨ x.prio = y.prio ∧ i < k) := by unfold aheadL; rw [h, h']
theorem queuedL_lt {l : List Jb} {i : Nat} (h : queuedL l i = true) : i < l.length := by
  unfold queuedL at h
  cases e : l[i]? with
  | none => rw [e] at h; cases h
  | some x => exact (List.getElem?_eq_some_iff.1 e).1

theorem range_filter_step (p : Nat → Bool) (q : Nat) : (List.range (q + 1)).filter p = (List.range q).filter p ++ (if p q = true then [q] else []) := by
  rw [List.range_succ, List.filter_append]
  congr 1
  cases h : p q with
  | false => rw [List.filter_cons_of_neg (by rw [h]; simp)]; simp
  | true => rw [List.filter_cons_of_pos h]; simp

theorem placeTo_zero (l : List Jb) (i : Nat) : placeTo l i 0 = 0 := rfl
theorem placeTo_step (l : List Jb) (i q : Nat) : placeTo l i (q + 1) = placeTo l i q + (if (queuedL l q && aheadL l q i) = true then 1 else 0) := by
  unfold placeTo
  rw [range_filter_step, List.length_append]
  congr 1
  split <;> rfl
theorem placeTo_le (l : List Jb) (i q : Nat) : placeTo l i q ≤ q := Nat.le_trans (List.length_filter_le _ _) (by simp)
theorem atTo_zero (l : List Jb) (a : Nat) : atTo l a 0 = [] := rfl
theorem atTo_step (l : List Jb) (a q : Nat) : atTo l a (q + 1) = atTo l a q ++ (if (queuedL l q && decide (placeL l q = a)) = true then [q] else []) := range_filter_step _ _
theorem atTo_len (l : List Jb) (a q : Nat) : (atTo l a q).length ≤ q := Nat.le_trans (List.length_filter_le _ _) (by simp)
theorem lineTo_zero (l : List Jb) : lineTo l 0 = [] := rfl
theorem lineTo_step (l : List Jb) (a : Nat) : lineTo l (a + 1) = lineTo l a ++ atTo l a l.length := by
  unfold lineTo
  rw [List.range_succ, List.flatMap_append]
  simp
theorem lineTo_len (l : List Jb) (a : Nat) : (lineTo l a).length ≤ a * l.length := by
  induction a with
  | zero => simp [lineTo_zero]
  | succ a ih =>
    rw [lineTo_step, List.length_append, Nat.succ_mul]
    have := atTo_len l a l.length
    omega

/-! The order: it is strict and total on the queued jobs. -/
theorem aheadL_irrefl (l : List Jb) (i : Nat) : aheadL l i i = false := by
  unfold aheadL
  cases l[i]? with
  | none => rfl
  | some x => simp
theorem aheadL_trans {l : List Jb} {i j k : Nat} (h1 : aheadL l i j = true) (h2 : aheadL l j k = true) : aheadL l i k = true := by
  unfold aheadL at *
  cases hi : l[i]? <;> cases hj : l[j]? <;> cases hk : l[k]? <;> simp_all <;> omega
theorem aheadL_total {l : List Jb} {i k : Nat} (hi : i < l.length) (hk : k < l.length) (hn : i ≠ k) : aheadL l i k = true ∨ aheadL l k i = true := by
  rw [aheadL_at (List.getElem?_eq_getElem hi) (List.getElem?_eq_getElem hk), aheadL_at (List.getElem?_eq_getElem hk) (List.getElem?_eq_getElem hi)]
  simp only [decide_eq_true_eq]
  omega

/-- A list of all queued jobs, each ahead of those behind it, is the line. -/
theorem line_of_sorted {l : List Jb} {L : List Nat} (hs : L.Pairwise fun i k => aheadL l i k = true) (hp : L.Perm ((List.range l.length).filter (queuedL l))) : L = lineL l := by
  have hmem : ∀ i, i ∈ L ↔ queuedL l i = true := fun i => by
    rw [hp.mem_iff, List.mem_filter, List.mem_range]
    exact ⟨fun h => h.2, fun h => ⟨queuedL_lt h, h⟩⟩
  have hlen : L.length ≤ l.length := by rw [hp.length_eq]; exact Nat.le_trans (List.length_filter_le _ _) (by simp)
  have hplace : ∀ (M : List Nat) (i : Nat), ((List.range l.length).filter fun k => queuedL l k && aheadL l k i).length = (L.filter fun k => aheadL l k i).length := fun _ i => by
    rw [(hp.filter _).length_eq, List.filter_filter]
    congr 1
    apply List.filter_congr
    intro k _
    rw [Bool.and_comm]
  -- the place of the q-th is q
  have hpl : ∀ q (hq : q < L.length), placeL l L[q] = q := fun q hq => by
    unfold placeL placeTo
    rw [hplace L]
    have e : L = L.take q ++ L[q] :: L.drop (q + 1) := by rw [List.getElem_cons_drop, List.take_append_drop]
    generalize L[q] = x at e ⊢
    have hpw := hs
    rw [e] at hpw
    have h2 := List.pairwise_append.1 hpw
    have h3 := List.pairwise_cons.1 h2.2.1
    have f1 : (L.take q).filter (fun k => aheadL l k x) = L.take q := List.filter_eq_self.2 fun k hk => h2.2.2 k hk _ (List.mem_cons_self ..)
    have f2 : (L.drop (q + 1)).filter (fun k => aheadL l k x) = [] := List.filter_eq_nil_iff.2 fun k hk h => by
      have := aheadL_trans h (h3.1 k hk)
      rw [aheadL_irrefl] at this
      cases this
    have f3 : L.filter (fun k => aheadL l k x) = L.take q := by
      refine (congrArg (List.filter fun k => aheadL l k x) e).trans ?_
      rw [List.filter_append, f1, List.filter_cons_of_neg (by rw [aheadL_irrefl]; simp), f2, List.append_nil]
    rw [f3, List.length_take]
    omega
  -- so the place a holds the a-th alone
  have hat : ∀ a, atTo l a l.length = if h : a < L.length then [L[a]] else [] := fun a => by
    have hnd : (atTo l a l.length).Nodup := List.nodup_range.filter _
    have hm : ∀ i, i ∈ atTo l a l.length ↔ ∃ h : a < L.length, i = L[a] := fun i => by
      unfold atTo
      rw [List.mem_filter, List.mem_range, Bool.and_eq_true, decide_eq_true_eq]
      constructor
      · rintro ⟨-, h1, h2⟩
        obtain ⟨q, hq, rfl⟩ := List.mem_iff_getElem.1 ((hmem i).2 h1)
        rw [hpl q hq] at h2
        subst h2
        exact ⟨hq, rfl⟩
      · rintro ⟨h, rfl⟩
        have hq := (hmem L[a]).1 (List.getElem_mem h)
        exact ⟨queuedL_lt hq, hq, hpl a h⟩
    split
    · rename_i h
      match hX : atTo l a l.length with
      | [] => have := (hm L[a]).2 ⟨h, rfl⟩; rw [hX] at this; cases this
      | [x] =>
        obtain ⟨_, e⟩ := (hm x).1 (by rw [hX]; exact List.mem_cons_self ..)
        rw [e]
      | x :: y :: t =>
        obtain ⟨_, e1⟩ := (hm x).1 (by rw [hX]; exact List.mem_cons_self ..)
        obtain ⟨_, e2⟩ := (hm y).1 (by rw [hX]; exact List.mem_cons_of_mem _ (List.mem_cons_self ..))
        rw [hX] at hnd
        exact absurd (List.mem_cons.2 (.inl (e1.trans e2.symm))) (List.nodup_cons.1 hnd).1
    · rename_i h
      match hX : atTo l a l.length with
      | [] => rfl
      | x :: t =>
        obtain ⟨h', _⟩ := (hm x).1 (by rw [hX]; exact List.mem_cons_self ..)
        exact absurd h' h
  have hto : ∀ a, lineTo l a = L.take a := fun a => by
    induction a with
    | zero => simp [lineTo_zero]
    | succ a ih =>
      rw [lineTo_step, ih, hat a]
      split
      · rename_i h
        rw [List.take_add_one, List.getElem?_eq_getElem h]
        rfl
      · rename_i h
        rw [List.take_of_length_le (by omega), List.take_of_length_le (by omega), List.append_nil]
  unfold lineL
  rw [hto, List.take_of_length_le hlen]

/-- The place of a number. -/
def placeI (l : List Jb) (job : Int) : Int := if 1 ≤ job ∧ queuedL l (job - 1).toNat = true then (placeL l (job - 1).toNat : Int) else -1

theorem placeL_lt {l : List Jb} {i : Nat} (h : i < l.length) : placeL l i < l.length := by
  unfold placeL placeTo
  have := (List.length_filter_lt_length_iff_exists (p := fun k => queuedL l k && aheadL l k i) (l := List.range l.length)).2 ⟨i, List.mem_range.2 h, by simp [aheadL_irrefl]⟩
  simpa using this
theorem lineL_mem {l : List Jb} {i : Nat} (h : queuedL l i = true) : i ∈ lineL l := by
  have hi := queuedL_lt h
  unfold lineL lineTo
  rw [List.mem_flatMap]
  refine ⟨placeL l i, List.mem_range.2 (placeL_lt hi), ?_⟩
  unfold atTo
  rw [List.mem_filter]
  exact ⟨List.mem_range.2 hi, by rw [h]; simp⟩
theorem lineL_queued {l : List Jb} {i : Nat} (h : i ∈ lineL l) : queuedL l i = true := by
  unfold lineL lineTo at h
  rw [List.mem_flatMap] at h
  obtain ⟨a, -, h⟩ := h
  unfold atTo at h
  rw [List.mem_filter, Bool.and_eq_true] at h
  exact h.2.1
/-- A job of the line: it is queued, and there is a first. -/
theorem placeI_some {l : List Jb} {job : Int} (h : ¬ placeI l job < 1) : ∃ (i k : Nat) (x : Jb) (t : List Nat), job = (i : Int) + 1 ∧ l[i]? = some x ∧ x.phase = 0 ∧ lineL l = k :: t := by
  unfold placeI at h
  split at h
  · rename_i h1
    have hq := h1.2
    have hlt := queuedL_lt hq
    have hx := List.getElem?_eq_getElem hlt
    have hp : (l[(job - 1).toNat]).phase = 0 := by
      have := queuedL_at hx
      rw [hq] at this
      exact of_decide_eq_true this.symm
    have hm := lineL_mem hq
    cases hL : lineL l with
    | nil => rw [hL] at hm; cases hm
    | cons k t => exact ⟨_, k, _, t, by omega, hx, hp, rfl⟩
  · omega

end Go.Proofs.YtkpcjdhnbjkaaaaDoor

/- Layer 15, plain mathematics: which nodes a job gets. No program is named here. -/
namespace Go.Proofs.YtkpcjdhnbjkaaaaDoor

/-- The set of those below n of which f holds. -/
def bitsF (f : Nat → Bool) : Nat → Nat
  | 0 => 0
  | k + 1 => bitsF f k + (if f k = true then 2 ^ k else 0)
theorem bitsF_lt (f : Nat → Bool) (n : Nat) : bitsF f n < 2 ^ n := by
  induction n with
  | zero => simp [bitsF]
  | succ n ih =>
    unfold bitsF
    rw [Nat.pow_succ]
    split <;> omega
theorem bitsF_bit (f : Nat → Bool) (n i : Nat) : (bitsF f n).testBit i = (decide (i < n) && f i) := by
  induction n with
  | zero => simp [bitsF]
  | succ n ih =>
    unfold bitsF
    cases h : f n with
    | false =>
      rw [if_neg (by simp), Nat.add_zero, ih]
      by_cases hi : i = n
      · subst hi; simp [h]
      · rw [show decide (i < n + 1) = decide (i < n) by rw [decide_eq_decide]; omega]
    | true =>
      rw [if_pos rfl, Nat.add_comm]
      have e := Nat.two_pow_add_eq_or_of_lt (bitsF_lt f n) 1
      rw [Nat.mul_one] at e
      rw [e, Nat.testBit_or, ih, Nat.testBit_two_pow]
      by_cases hi : i = n
      · subst hi; simp [h]
      · rw [show decide (i < n + 1) = decide (i < n) by rw [decide_eq_decide]; omega]
        have : decide (n = i) = false := decide_eq_false (fun e => hi e.symm)
        rw [this, Bool.false_or]
theorem bitsF_has (f : Nat → Bool) (n i : Nat) : hasS (bitsF f n : Int) i = (decide (i < n) && f i) := by rw [hasS_nat, bitsF_bit]
theorem bitsF_congr {f g : Nat → Bool} {n : Nat} (h : ∀ i, i < n → f i = g i) : bitsF f n = bitsF g n := by
  induction n with
  | zero => rfl
  | succ n ih =>
    unfold bitsF
    rw [ih fun i hi => h i (by omega), h n (by omega)]
/-- A number is the set of its bits. -/
theorem bitsF_of {m n : Nat} (h : m < 2 ^ n) : bitsF (fun i => m.testBit i) n = m := by
  apply Nat.eq_of_testBit_eq
  intro i
  rw [bitsF_bit]
  by_cases hi : i < n
  · simp [hi]
  · have : m < 2 ^ i := Nat.lt_of_lt_of_le h (Nat.pow_le_pow_right (by decide) (by omega))
    rw [Nat.testBit_lt_two_pow this]
    simp

def hostN (n : Nd) : Bool := n.up && !n.cordon && !n.moving
/-- Does p hold of the node i? -/
def nodeIs (l : List Nd) (p : Nd → Bool) (i : Nat) : Bool := match l[i]? with
  | some n => p n
  | none => false
theorem nodeIs_at {l : List Nd} {p : Nd → Bool} {i : Nat} {n : Nd} (h : l[i]? = some n) : nodeIs l p i = p n := by unfold nodeIs; rw [h]
def openN (s : St) : Nat := bitsF (nodeIs s.nodes freeN) s.nodes.length
/-- Those of a set that can have a job, of a version. -/
def ofTo (s : St) (set v : Int) (q : Nat) : Nat := bitsF (fun i => hasS set i && nodeIs s.nodes (fun n => hostN n && decide (n.version = v)) i) q
def ofN (s : St) (set v : Int) : Nat := ofTo s set v s.nodes.length
/-- The lowest m of a set, of the first nodes. -/
def lowN (of m : Int) : Nat → Nat
  | 0 => 0
  | k + 1 => lowN of m k + (if (hasS of k && decide ((manyS (lowN of m k : Int) : Int) < m)) = true then 2 ^ k else 0)
theorem lowN_lt (of m : Int) (n : Nat) : lowN of m n < 2 ^ n := by
  induction n with
  | zero => simp [lowN]
  | succ n ih =>
    unfold lowN
    rw [Nat.pow_succ]
    split <;> omega
/-- How many a job gets of n, and of which version: the best so far. -/
def pickStep (s : St) (j : Jb) (b : Int × Int) (n v : Int) : Int × Int :=
  if n < j.least ∨ (0 < j.pin ∧ j.pin ≠ v) then b
  else if b.1 < (if j.most < n then j.most else n) ∨ ((if j.most < n then j.most else n) = b.1 ∧ v = meantS s) then (if j.most < n then j.most else n, v) else b
section
variable {s : St} {j : Jb} {b : Int × Int} {n v K : Int}
theorem pickStep_few (h : n < j.least) : pickStep s j b n v = b := by unfold pickStep; rw [if_pos (.inl h)]
theorem pickStep_pin (h : 0 < j.pin) (h' : j.pin ≠ v) : pickStep s j b n v = b := by unfold pickStep; rw [if_pos (.inr ⟨h, h'⟩)]
theorem pickStep_more (h1 : ¬ n < j.least) (h2 : ¬ (0 < j.pin ∧ j.pin ≠ v)) (hK : K = if j.most < n then j.most else n) (h3 : b.1 < K ∨ (K = b.1 ∧ v = meantS s)) : pickStep s j b n v = (K, v) := by
  unfold pickStep
  rw [if_neg (fun h => h.elim h1 h2), ← hK, if_pos h3]
theorem pickStep_less (h1 : ¬ n < j.least) (h2 : ¬ (0 < j.pin ∧ j.pin ≠ v)) (hK : K = if j.most < n then j.most else n) (h3 : ¬ (b.1 < K ∨ (K = b.1 ∧ v = meantS s))) : pickStep s j b n v = b := by
  unfold pickStep
  rw [if_neg (fun h => h.elim h1 h2), ← hK, if_neg h3]
end
def pickTo (s : St) (j : Jb) (set : Int) : Nat → Int × Int
  | 0 => (-1, 0)
  | k + 1 => pickStep s j (pickTo s j set k) (manyS (ofN s set ((k : Int) + 1) : Int)) ((k : Int) + 1)
def pickS (s : St) (j : Jb) (set : Int) : Int × Bool :=
  if (pickTo s j set 9).1 < 0 then (0, false) else ((lowN (ofN s set (pickTo s j set 9).2 : Int) j.most 6 : Int), true)
def nowS (s : St) (job : Int) : Int × Bool := match s.jobs[(job - 1).toNat]? with
  | some j => if 1 ≤ job ∧ j.phase = 0 then pickS s j (openN s) else (0, false)
  | none => (0, false)
theorem nowS_none {s : St} {job : Int} (h : job < 1 ∨ (s.jobs.length : Int) < job) : nowS s job = (0, false) := by
  unfold nowS
  split
  · rename_i j hj
    have := (List.getElem?_eq_some_iff.1 hj).1
    rw [if_neg (by omega)]
  · rfl
theorem nowS_at {s : St} {job : Int} {i : Nat} {x : Jb} (hi : job = (i : Int) + 1) (hx : s.jobs[i]? = some x) : nowS s job = if x.phase = 0 then pickS s x (openN s) else (0, false) := by
  unfold nowS
  rw [show (job - 1).toNat = i by omega, hx]
  show (if 1 ≤ job ∧ x.phase = 0 then _ else _) = _
  by_cases h : x.phase = 0
  · rw [if_pos h, if_pos ⟨by omega, h⟩]
  · rw [if_neg h, if_neg (fun h' => h h'.2)]

end Go.Proofs.YtkpcjdhnbjkaaaaDoor

/- Layer 17, plain mathematics: which node goes next. No program is named here. -/
namespace Go.Proofs.YtkpcjdhnbjkaaaaDoor

/-- Is a node behind? -/
def behindN (s : St) (n : Nd) : Bool := n.up && !n.moving && decide (n.version ≠ meantS s)
/-- Is a node left alone, for its job? -/
def aloneN (s : St) (n : Nd) : Bool := match jobOf s n.job with
  | some j => decide (0 < j.pin) && decide (j.pin ≠ meantS s)
  | none => false
def aloneI (s : St) (i : Int) : Bool := if i < 0 then false else match s.nodes[i.toNat]? with
  | some n => aloneN s n
  | none => false
/-- How many below n. -/
def cntTo (f : Nat → Bool) : Nat → Nat
  | 0 => 0
  | k + 1 => cntTo f k + (if f k = true then 1 else 0)
def cordN (n : Nd) : Bool := n.cordon
def waveS (s : St) : Nat := cntTo (nodeIs s.nodes cordN) s.nodes.length
/-- Is there something to be done with a node? -/
def toDo (s : St) (n : Nd) : Bool := n.moving || (behindN s n && !aloneN s n)
def doneW (s : St) : Bool := s.nodes.all fun n => !toDo s n
/-- The numbers, below n, of those of which f holds. -/
def listTo (f : Nat → Bool) (n : Nat) : List Nat := (List.range n).filter f
def behindL (s : St) : List Nat := listTo (nodeIs s.nodes (behindN s)) s.nodes.length

/-- The second way. -/
def secondS (c : Cf) (s : St) (now : Int) (i : Nat) (n : Nd) : Option OpN := match jobOf s n.job with
  | none => some (18, (i : Int), 0, 0, 0, 0, 0)
  | some j => if j.phase = 1 then some (11, n.job, 0, 0, 0, 0, 0)
    else if j.phase ≠ 2 then none
    else if j.least < (manyS j.nodes : Int) then some (20, n.job, (i : Int), 0, 0, 0, 0)
    else if c.quota ≤ (drainsS s j.queue : Int) then none
    else some (12, n.job, if 1000000 < now + c.deadline then 1000000 else now + c.deadline, 0, 0, 0, 0)
def way1 (s : St) (i : Nat) (n : Nd) : Option OpN := if n.cordon = true ∧ n.up = true ∧ n.moving = false ∧ (behindN s n = false ∨ aloneN s n = true) then some (17, (i : Int), 0, 0, 0, 0, 0) else none
def way2 (c : Cf) (s : St) (now : Int) (i : Nat) (n : Nd) : Option OpN := if n.cordon = false ∨ behindN s n = false ∨ aloneN s n = true then none else secondS c s now i n
def way3 (c : Cf) (s : St) (i : Nat) (n : Nd) : Option OpN := if n.cordon = false ∧ behindN s n = true ∧ aloneN s n = false ∧ (waveS s : Int) < c.wave then some (16, (i : Int), 0, 0, 0, 0, 0) else none
/-- The first node of which f tells an op, of m nodes, from k on. -/
def fromO (l : List Nd) (f : Nat → Nd → Option OpN) : Nat → Nat → Option OpN
  | 0, _ => none
  | m + 1, k => match l[k]? with
    | some n => (match f k n with
      | some o => some o
      | none => fromO l f m (k + 1))
    | none => none
def firstO (l : List Nd) (f : Nat → Nd → Option OpN) : Option OpN := fromO l f l.length 0
/-- What is next. -/
def nextW (c : Cf) (s : St) (now : Int) : Option OpN := if s.mode = 1 then none else
  match firstO s.nodes (way1 s) with
  | some o => some o
  | none => match firstO s.nodes (way2 c s now) with
    | some o => some o
    | none => firstO s.nodes (way3 c s)

theorem fromO_some {l : List Nd} {f : Nat → Nd → Option OpN} {o : OpN} : ∀ {m k : Nat}, fromO l f m k = some o → ∃ i n, l[i]? = some n ∧ f i n = some o
  | 0, _, h => by cases h
  | m + 1, k, h => by
    unfold fromO at h
    split at h
    · rename_i n hn
      split at h
      · rename_i o' ho
        cases h
        exact ⟨k, n, hn, ho⟩
      · exact fromO_some h
    · cases h
theorem fromO_hit {l : List Nd} {f : Nat → Nd → Option OpN} {o : OpN} {m k : Nat} {n : Nd} (hn : l[k]? = some n) (h : f k n = some o) : fromO l f (m + 1) k = some o := by
  unfold fromO
  rw [hn]
  simp only [h]
theorem fromO_miss {l : List Nd} {f : Nat → Nd → Option OpN} {m k : Nat} {n : Nd} (hn : l[k]? = some n) (h : f k n = none) : fromO l f (m + 1) k = fromO l f m (k + 1) := by
  conv => lhs; unfold fromO
  rw [hn]
  simp only [h]
theorem cntTo_le {f g : Nat → Bool} {n : Nat} (h : ∀ i, i < n → f i = true → g i = true) : cntTo f n ≤ cntTo g n := by
  induction n with
  | zero => exact Nat.le_refl _
  | succ n ih =>
    have h1 := ih fun i hi => h i (by omega)
    unfold cntTo
    cases hf : f n with
    | false => simp; omega
    | true => rw [h n (by omega) hf]; simp; omega
theorem cntTo_one {f g : Nat → Bool} {n k : Nat} (h : ∀ i, i < n → i ≠ k → f i = true → g i = true) : cntTo f n ≤ cntTo g n + 1 := by
  induction n with
  | zero => exact Nat.zero_le _
  | succ n ih =>
    unfold cntTo
    by_cases hk : n = k
    · have h1 : cntTo f n ≤ cntTo g n := cntTo_le fun i hi => h i (by omega) (by omega)
      split <;> split <;> omega
    · have h1 := ih fun i hi => h i (by omega)
      cases hf : f n with
      | false => simp; split <;> omega
      | true => rw [h n (by omega) hk hf]; simp; omega
theorem listTo_step (f : Nat → Bool) (n : Nat) : listTo f (n + 1) = listTo f n ++ (if f n = true then [n] else []) := by
  unfold listTo
  rw [List.range_succ, List.filter_append]
  cases h : f n <;> simp [h]

theorem setN_at {s : St} {i k : Nat} {n' m : Nd} (h : (setN s i n').nodes[k]? = some m) : (k = i ∧ m = n') ∨ (k ≠ i ∧ s.nodes[k]? = some m) := get_set h
/-- No more are cordoned than were. -/
theorem wave_less {s t : St} (hl : t.nodes.length = s.nodes.length) (h : ∀ (k : Nat) m, t.nodes[k]? = some m → m.cordon = true → ∃ n, s.nodes[k]? = some n ∧ n.cordon = true) : waveS t ≤ waveS s := by
  unfold waveS
  rw [hl]
  refine cntTo_le fun i hi hf => ?_
  unfold nodeIs at hf ⊢
  split at hf
  · rename_i m hm
    obtain ⟨n, hn, hc⟩ := h i m hm hf
    rw [hn]
    exact hc
  · cases hf
theorem wave_one {s t : St} {i : Nat} (hl : t.nodes.length = s.nodes.length) (h : ∀ (k : Nat) m, k ≠ i → t.nodes[k]? = some m → m.cordon = true → ∃ n, s.nodes[k]? = some n ∧ n.cordon = true) : waveS t ≤ waveS s + 1 := by
  unfold waveS
  rw [hl]
  refine cntTo_one (k := i) fun k hk hne hf => ?_
  unfold nodeIs at hf ⊢
  split at hf
  · rename_i m hm
    obtain ⟨n, hn, hc⟩ := h k m hne hm hf
    rw [hn]
    exact hc
  · cases hf
theorem set_cord {s : St} {i : Nat} {n n' : Nd} (hi : s.nodes[i]? = some n) (hc : n'.cordon = true → n.cordon = true) (k : Nat) (m : Nd) (h : (setN s i n').nodes[k]? = some m) (hm : m.cordon = true) : ∃ x, s.nodes[k]? = some x ∧ x.cordon = true := by
  rcases setN_at h with ⟨rfl, rfl⟩ | ⟨_, h⟩
  · exact ⟨n, hi, hc hm⟩
  · exact ⟨m, h, hm⟩

/-- What is said of what is next (P17.3). -/
structure OkW (c : Cf) (s : St) (o : OpN) : Prop where
  ok : (applyS c s o).2 = 0
  wave : waveS (applyS c s o).1 ≤ waveS s ∨ (waveS (applyS c s o).1 : Int) ≤ c.wave
  mode : s.mode ≠ 1
  kind : o.1 = 17 ∨ ((o.1 = 16 ∨ o.1 = 18) ∧ aloneI s o.2.1 = false) ∨ (o.1 = 20 ∧ aloneI s o.2.2.1 = false) ∨ ((o.1 = 11 ∨ o.1 = 12) ∧ ∃ j, jobOf s o.2.1 = some j ∧ (j.pin = 0 ∨ j.pin = meantS s))

theorem aloneI_at {s : St} {i : Nat} {n : Nd} (h : s.nodes[i]? = some n) : aloneI s (i : Int) = aloneN s n := by
  unfold aloneI
  rw [if_neg (by omega), show ((i : Int)).toNat = i by omega, h]
theorem apply_node {c : Cf} {s : St} {kd a b : Int} {i : Nat} {n : Nd} (hi : s.nodes[i]? = some n) (ha : a = (i : Int)) (hr : rightO (kd, a, b, 0, 0, 0, 0) = true) (hk : kd = 16 ∨ kd = 17 ∨ kd = 18) : applyS c s (kd, a, b, 0, 0, 0, 0) = nodeOp s kd i n b := by
  unfold applyS
  rw [if_neg (by rw [hr]; simp)]
  unfold doS
  dsimp only
  rw [if_neg (by omega), if_neg (by omega), if_neg (by omega), if_neg (by omega), if_neg (by omega), if_neg (by omega), if_pos (by omega), show a.toNat = i by omega, hi]
theorem jobOf_in {s : St} {a : Int} {k : Nat} {j : Jb} (hk : s.jobs[k]? = some j) (ha : a = (k : Int) + 1) : jobOf s a = some j := by
  unfold jobOf
  rw [if_pos (by omega), show (a - 1).toNat = k by omega, hk]
theorem give_cord {l : List Nd} {set job : Int} {k : Nat} {m : Nd} (h : (giveL l set job)[k]? = some m) (hm : m.cordon = true) : ∃ x, l[k]? = some x ∧ x.cordon = true := by
  obtain ⟨n, hn, rfl⟩ := give_get h
  refine ⟨n, hn, ?_⟩
  split at hm <;> exact hm

theorem way1_ok {c : Cf} {s : St} {i : Nat} {n : Nd} {o : OpN} (h : RightP c s) (hi : s.nodes[i]? = some n) (hm : s.mode ≠ 1) (he : way1 s i n = some o) : OkW c s o := by
  unfold way1 at he
  split at he
  · rename_i h1
    cases he
    have hil := (List.getElem?_eq_some_iff.1 hi).1
    have hl := h.len
    have e : applyS c s (17, (i : Int), 0, 0, 0, 0, 0) = (setN s i { n with cordon := false }, 0) := by
      rw [apply_node hi rfl (right1 (by decide) (by decide) (by omega)) (by omega)]
      unfold nodeOp
      rw [if_neg (by decide), if_neg (by decide), if_neg (by decide), if_pos rfl]
      unfold uncordonS
      rw [if_pos ⟨h1.1, h1.2.2.1⟩]
    refine ⟨by rw [e], .inl ?_, hm, .inl rfl⟩
    rw [e]
    exact wave_less (by simp [setN]) fun k m hk hc => set_cord hi (fun h => by cases h) k m hk hc
  · cases he
theorem way3_ok {c : Cf} {s : St} {i : Nat} {n : Nd} {o : OpN} (h : RightP c s) (hi : s.nodes[i]? = some n) (hm : s.mode ≠ 1) (he : way3 c s i n = some o) : OkW c s o := by
  unfold way3 at he
  split at he
  · rename_i h1
    cases he
    have hil := (List.getElem?_eq_some_iff.1 hi).1
    have hl := h.len
    have hb : n.up = true ∧ n.moving = false := by
      have := h1.2.1
      unfold behindN at this
      simp only [Bool.and_eq_true, Bool.not_eq_true'] at this
      exact this.1
    have e : applyS c s (16, (i : Int), 0, 0, 0, 0, 0) = (setN s i { n with cordon := true }, 0) := by
      rw [apply_node hi rfl (right1 (by decide) (by decide) (by omega)) (by omega)]
      unfold nodeOp
      rw [if_neg (by decide), if_neg (by decide), if_pos rfl]
      unfold cordonS
      rw [if_pos ⟨hb.1, h1.1⟩]
    refine ⟨by rw [e], .inr ?_, hm, .inr (.inl ⟨.inl rfl, ?_⟩)⟩
    · rw [e]
      have h2 := wave_one (s := s) (t := setN s i { n with cordon := true }) (i := i) (by simp [setN]) fun k m hne hk hc => by
        rcases setN_at hk with ⟨rfl, _⟩ | ⟨_, h⟩
        · exact absurd rfl hne
        · exact ⟨m, h, hc⟩
      have h3 := h1.2.2.2
      show (waveS (setN s i { n with cordon := true }) : Int) ≤ c.wave
      omega
    · show aloneI s (i : Int) = false
      rw [aloneI_at hi]
      exact h1.2.2.1
  · cases he
theorem way2_ok {c : Cf} {s : St} {now : Int} {i : Nat} {n : Nd} {o : OpN} (h : RightP c s) (h0 : 0 ≤ now) (hi : s.nodes[i]? = some n) (hm : s.mode ≠ 1) (he : way2 c s now i n = some o) : OkW c s o := by
  unfold way2 at he
  split at he
  · cases he
  rename_i h1
  have hil := (List.getElem?_eq_some_iff.1 hi).1
  have hl := h.len
  have hcd : n.cordon = true := by
    cases hc : n.cordon with
    | true => rfl
    | false => exact absurd (.inl hc) h1
  have hbh : behindN s n = true := by
    cases hc : behindN s n with
    | true => rfl
    | false => exact absurd (.inr (.inl hc)) h1
  have hal : aloneN s n = false := by
    cases hc : aloneN s n with
    | false => rfl
    | true => exact absurd (.inr (.inr hc)) h1
  have hb : n.up = true ∧ n.moving = false := by
    have := hbh
    unfold behindN at this
    simp only [Bool.and_eq_true, Bool.not_eq_true'] at this
    exact this.1
  have hn := h.node i n hi
  unfold secondS at he
  split at he
  · rename_i hj
    cases he
    have hz : n.job = 0 := by
      by_cases hz : 1 ≤ n.job
      · unfold jobOf at hj
        rw [if_pos hz] at hj
        have := List.getElem?_eq_none_iff.1 hj
        have := hn.jl
        omega
      · have := hn.j0
        omega
    have e : applyS c s (18, (i : Int), 0, 0, 0, 0, 0) = (setN s i { n with moving := true }, 0) := by
      rw [apply_node hi rfl (right1 (by decide) (by decide) (by omega)) (by omega)]
      unfold nodeOp
      rw [if_neg (by decide), if_neg (by decide), if_neg (by decide), if_neg (by decide), if_pos rfl]
      unfold moveS
      rw [if_pos ⟨hb.1, hcd, hb.2, hz⟩]
    refine ⟨by rw [e], .inl ?_, hm, .inr (.inl ⟨.inr rfl, ?_⟩)⟩
    · rw [e]
      exact wave_less (by simp [setN]) fun k m hk hc => set_cord hi (fun _ => hcd) k m hk hc
    · show aloneI s (i : Int) = false
      rw [aloneI_at hi]
      exact hal
  · rename_i j hj
    obtain ⟨hk, ha⟩ := jobOf_some hj
    obtain ⟨k, hkk⟩ : ∃ k, k = (n.job - 1).toNat := ⟨_, rfl⟩
    rw [← hkk] at hk ha
    have hkl := (List.getElem?_eq_some_iff.1 hk).1
    have hnj := h.nj
    have hjb := h.job k j hk
    have haR : 0 ≤ n.job ∧ n.job ≤ 1000000 := by omega
    have hpin : j.pin = 0 ∨ j.pin = meantS s := by
      unfold aloneN at hal
      rw [hj] at hal
      have hp0 : 0 ≤ j.pin := by
        have := hjb.asked
        simp only [askedJ, Bool.and_eq_true, inR_iff] at this
        omega
      by_cases hp : j.pin = 0
      · exact .inl hp
      · right
        have h1 : decide (0 < j.pin) = true := decide_eq_true (by omega)
        rw [show (match some j with | some j => decide (0 < j.pin) && decide (j.pin ≠ meantS s) | none => false) = (decide (0 < j.pin) && decide (j.pin ≠ meantS s)) from rfl, h1, Bool.true_and] at hal
        simpa using hal
    split at he
    · rename_i hp
      cases he
      have e : applyS c s (11, n.job, 0, 0, 0, 0, 0) = (letGoS s k j 0, 0) := by
        rw [apply_job hk ha (right1 (by decide) (by decide) haR) (by decide) (by decide)]
        unfold jobOp
        rw [if_neg (by decide), if_neg (by decide), if_neg (by decide), if_pos rfl]
        unfold unholdS
        rw [if_pos hp]
      refine ⟨by rw [e], .inl ?_, hm, .inr (.inr (.inr ⟨.inl rfl, j, hj, hpin⟩))⟩
      rw [e]
      exact wave_less (by simp [letGoS, setJ, giveS, give_len]) fun q m hq hc => give_cord (show (giveL s.nodes j.nodes 0)[q]? = some m from hq) hc
    · split at he
      · cases he
      rename_i hp1 hp2
      have hp : j.phase = 2 := by
        by_cases hp : j.phase = 2
        · exact hp
        · exact absurd hp hp2
      split at he
      · rename_i hl2
        cases he
        have hh : hasS j.nodes i = true := (hjb.own i n hi).1 ha
        have e : applyS c s (20, n.job, (i : Int), 0, 0, 0, 0) = (setN (setJ s k { j with nodes := lessS j.nodes i }) i { n with job := 0 }, 0) := by
          rw [apply_job hk ha (right2 (by decide) (by decide) haR (by omega)) (by decide) (by decide)]
          unfold jobOp
          rw [if_neg (by decide), if_neg (by decide), if_neg (by decide), if_neg (by decide), if_neg (by decide), if_neg (by decide), if_neg (by decide), if_neg (by decide), show ((i : Int)).toNat = i by omega, hi]
          dsimp only
          unfold shrinkS
          rw [if_pos hp, if_pos ⟨hh, hl2⟩]
        refine ⟨by rw [e], .inl ?_, hm, .inr (.inr (.inl ⟨rfl, ?_⟩))⟩
        · rw [e]
          exact wave_less (by simp [setN, setJ]) fun q m hq hc => set_cord (s := setJ s k { j with nodes := lessS j.nodes i }) (n := n) (n' := { n with job := 0 }) hi (fun h => h) q m hq hc
        · show aloneI s (i : Int) = false
          rw [aloneI_at hi]
          exact hal
      · split at he
        · cases he
        rename_i hq
        cases he
        have hdr : (drainsS s j.queue : Int) ≠ c.quota := by omega
        have hdl : 0 ≤ c.deadline := by
          have := h.may
          simp only [mayC, Bool.and_eq_true, inR_iff] at this
          omega
        obtain ⟨u, hu⟩ : ∃ u : Int, u = if 1000000 < now + c.deadline then 1000000 else now + c.deadline := ⟨_, rfl⟩
        have huR : 0 ≤ u ∧ u ≤ 1000000 := by
          rw [hu]
          split <;> omega
        rw [← hu]
        have e : applyS c s (12, n.job, u, 0, 0, 0, 0) = (setJ s k { j with phase := 3, til := u }, 0) := by
          rw [apply_job hk ha (right2 (by decide) (by decide) haR huR) (by decide) (by decide)]
          unfold jobOp
          rw [if_neg (by decide), if_neg (by decide), if_neg (by decide), if_neg (by decide), if_pos rfl]
          unfold drainS
          rw [if_pos hp, if_neg hdr]
        refine ⟨by rw [e], .inl ?_, hm, .inr (.inr (.inr ⟨.inr rfl, j, hj, hpin⟩))⟩
        rw [e]
        exact wave_less rfl fun q m hq hc => ⟨m, hq, hc⟩
theorem next_ok {c : Cf} {s : St} {now : Int} {o : OpN} (h : RightP c s) (h0 : 0 ≤ now) (he : nextW c s now = some o) : OkW c s o := by
  unfold nextW at he
  split at he
  · cases he
  rename_i hm
  split at he
  · rename_i o' h1
    cases he
    obtain ⟨i, n, hi, hf⟩ := fromO_some h1
    exact way1_ok h hi hm hf
  · split at he
    · rename_i o' h1
      cases he
      obtain ⟨i, n, hi, hf⟩ := fromO_some h1
      exact way2_ok h h0 hi hm hf
    · obtain ⟨i, n, hi, hf⟩ := fromO_some he
      exact way3_ok h hi hm hf

end Go.Proofs.YtkpcjdhnbjkaaaaDoor

/- Layer 9, plain mathematics: the first nodes of a set have got a job. No program is named here. -/
namespace Go.Proofs.YtkpcjdhnbjkaaaaDoor

/-- The first k nodes of the set have got the job. -/
def giveK (l : List Nd) (set job : Int) (k : Nat) : List Nd := l.mapIdx fun i n => if i < k ∧ hasS set i = true then { n with job := job } else n
theorem giveK_zero (l : List Nd) (set job : Int) : giveK l set job 0 = l := by
  unfold giveK
  apply List.ext_getElem?
  intro i
  rw [List.getElem?_mapIdx]
  cases l[i]? <;> simp
theorem giveK_len (l : List Nd) (set job : Int) (k : Nat) : (giveK l set job k).length = l.length := by unfold giveK; simp
theorem giveK_all (l : List Nd) (set job : Int) : giveK l set job l.length = giveL l set job := by
  unfold giveK giveL
  apply List.ext_getElem?
  intro i
  rw [List.getElem?_mapIdx, List.getElem?_mapIdx]
  by_cases h : i < l.length
  · simp [h]
  · rw [List.getElem?_eq_none (by omega)]; rfl
theorem giveK_get {l : List Nd} {set job : Int} {k : Nat} {n : Nd} (h : l[k]? = some n) : (giveK l set job k)[k]? = some n := by
  unfold giveK
  rw [List.getElem?_mapIdx, h]
  simp
theorem giveK_skip {l : List Nd} {set job : Int} {k : Nat} (hs : hasS set k = false) : giveK l set job (k + 1) = giveK l set job k := by
  unfold giveK
  apply List.ext_getElem?
  intro i
  rw [List.getElem?_mapIdx, List.getElem?_mapIdx]
  cases l[i]? with
  | none => rfl
  | some n =>
    simp only [Option.map_some, Option.some.injEq]
    by_cases hi : i < k
    · have h1 : i < k + 1 := by omega
      simp [hi, h1]
    · by_cases he : i = k
      · subst he
        simp [hs]
      · have h1 : ¬ i < k + 1 := by omega
        simp [hi, h1]
theorem giveK_set {l : List Nd} {set job : Int} {k : Nat} {n : Nd} (h : l[k]? = some n) (hs : hasS set k = true) : (giveK l set job k).set k { n with job := job } = giveK l set job (k + 1) := by
  unfold giveK
  apply List.ext_getElem?
  intro i
  rw [List.getElem?_set, List.getElem?_mapIdx, List.getElem?_mapIdx]
  have hk := (List.getElem?_eq_some_iff.1 h).1
  by_cases he : k = i
  · subst he
    rw [h]
    simp [hs, hk]
  · rw [if_neg he]
    cases l[i]? with
    | none => rfl
    | some m =>
      simp only [Option.map_some, Option.some.injEq]
      by_cases hi : i < k
      · have h1 : i < k + 1 := by omega
        simp [hi, h1]
      · have h1 : ¬ i < k + 1 := by omega
        simp [hi, h1]

end Go.Proofs.YtkpcjdhnbjkaaaaDoor

/- Layer 9, plain mathematics: the job that a node has. No program is named here. -/
namespace Go.Proofs.YtkpcjdhnbjkaaaaDoor
open Go.RowKit

theorem RightP.job_of {c : Cf} {s : St} {i : Nat} {n : Nd} (h : RightP c s) (hi : s.nodes[i]? = some n) : n.job = 0 ∨ ∃ (k : Nat) (j : Jb), n.job = (k : Int) + 1 ∧ s.jobs[k]? = some j ∧ hasS j.nodes i = true := by
  have hN := h.node i n hi
  by_cases h0 : n.job = 0
  · exact .inl h0
  · have := hN.j0
    have := hN.jl
    have hk : (n.job - 1).toNat < s.jobs.length := by omega
    have hj : s.jobs[(n.job - 1).toNat]? = some s.jobs[(n.job - 1).toNat] := List.getElem?_eq_getElem hk
    exact .inr ⟨(n.job - 1).toNat, _, by omega, hj, ((h.job _ _ hj).own i n hi).1 (by omega)⟩

end Go.Proofs.YtkpcjdhnbjkaaaaDoor
