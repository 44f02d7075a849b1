/- Texts that the proof of B rests on, one behind the other. -/
import Derived.Test.YtmgbgpendpiahaaDoorBQ1

/- Layer 9, plain mathematics: what an op may turn (P9.5): a job keeps what it was asked for, one job and one node are turned at most. No program is named here. -/
namespace Go.Proofs.YtmgbgpendpiahaaDoor

structure Kept (a b : Jb) : Prop where
  q : b.queue = a.queue
  p : b.prio = a.prio
  l : b.least = a.least
  m : b.most = a.most
  w : b.work = a.work
  pn : b.pin = a.pin
  i : a.inc ≤ b.inc
  e : a.epoch ≤ b.epoch
  z : a.phase = 4 → b = a
theorem Kept.refl (a : Jb) : Kept a a := ⟨rfl, rfl, rfl, rfl, rfl, rfl, Int.le_refl _, Int.le_refl _, fun _ => rfl⟩

structure Shape (s s' : St) : Prop where
  jobs : s'.jobs = s.jobs ∨ (∃ j, s'.jobs = s.jobs ++ [j]) ∨ ∃ k j j', s.jobs[k]? = some j ∧ s'.jobs = s.jobs.set k j' ∧ Kept j j'
  term : s.term ≤ s'.term
  ln : s'.nodes.length = s.nodes.length
  nodes : ∃ i0, ∀ (i : Nat) (a b : Nd), i ≠ i0 → s.nodes[i]? = some a → s'.nodes[i]? = some b → b.up = a.up ∧ b.cordon = a.cordon ∧ b.moving = a.moving ∧ b.version = a.version

theorem Shape.refl (s : St) : Shape s s := ⟨.inl rfl, Int.le_refl _, rfl, 0, fun i a b _ h1 h2 => by
  rw [h1] at h2
  cases h2
  exact ⟨rfl, rfl, rfl, rfl⟩⟩
/-- The nodes stay. -/
theorem Shape.ofJobs {s s' : St} (hn : s'.nodes = s.nodes) (ht : s.term ≤ s'.term) (hj : s'.jobs = s.jobs ∨ (∃ j, s'.jobs = s.jobs ++ [j]) ∨ ∃ k j j', s.jobs[k]? = some j ∧ s'.jobs = s.jobs.set k j' ∧ Kept j j') : Shape s s' :=
  ⟨hj, ht, by rw [hn], 0, fun i a b _ h1 h2 => by
    rw [hn, h1] at h2
    cases h2
    exact ⟨rfl, rfl, rfl, rfl⟩⟩
theorem Shape.ofNode {s s' : St} {i : Nat} {n' : Nd} (hn : s'.nodes = s.nodes.set i n') (ht : s.term ≤ s'.term) (hj : s'.jobs = s.jobs ∨ (∃ j, s'.jobs = s.jobs ++ [j]) ∨ ∃ k j j', s.jobs[k]? = some j ∧ s'.jobs = s.jobs.set k j' ∧ Kept j j') : Shape s s' :=
  ⟨hj, ht, by rw [hn, List.length_set], i, fun k a b hne h1 h2 => by
    rw [hn] at h2
    rcases get_set h2 with ⟨rfl, _⟩ | ⟨_, h2⟩
    · exact absurd rfl hne
    · rw [h1] at h2
      cases h2
      exact ⟨rfl, rfl, rfl, rfl⟩⟩
theorem Shape.ofGive {s s' : St} {set job : Int} (hn : s'.nodes = giveL s.nodes set job) (ht : s.term ≤ s'.term) (hj : s'.jobs = s.jobs ∨ (∃ j, s'.jobs = s.jobs ++ [j]) ∨ ∃ k j j', s.jobs[k]? = some j ∧ s'.jobs = s.jobs.set k j' ∧ Kept j j') : Shape s s' :=
  ⟨hj, ht, by rw [hn, give_len], 0, fun k a b _ h1 h2 => by
    rw [hn] at h2
    obtain ⟨n, h3, e⟩ := give_get h2
    rw [h1] at h3
    cases h3
    split at e <;> (subst e; exact ⟨rfl, rfl, rfl, rfl⟩)⟩
theorem Shape.ofGiveSet {s s' : St} {set job : Int} {i : Nat} {n' : Nd} (hn : s'.nodes = (giveL s.nodes set job).set i n') (ht : s.term ≤ s'.term) (hj : s'.jobs = s.jobs ∨ (∃ j, s'.jobs = s.jobs ++ [j]) ∨ ∃ k j j', s.jobs[k]? = some j ∧ s'.jobs = s.jobs.set k j' ∧ Kept j j') : Shape s s' :=
  ⟨hj, ht, by rw [hn, List.length_set, give_len], i, fun k a b hne h1 h2 => by
    rw [hn] at h2
    rcases get_set h2 with ⟨rfl, _⟩ | ⟨_, h2⟩
    · exact absurd rfl hne
    · obtain ⟨n, h3, e⟩ := give_get h2
      rw [h1] at h3
      cases h3
      split at e <;> (subst e; exact ⟨rfl, rfl, rfl, rfl⟩)⟩

theorem Shape.letGo {s : St} {k : Nat} {j : Jb} {ph : Int} (hk : s.jobs[k]? = some j) (hp : j.phase ≠ 4) : Shape s (letGoS s k j ph) :=
  .ofGive (set := j.nodes) (job := 0) rfl (Int.le_refl _) (.inr (.inr ⟨k, j, gone j ph, hk, rfl, ⟨rfl, rfl, rfl, rfl, rfl, rfl, Int.le_refl _, Int.le_refl _, fun h => absurd h hp⟩⟩))

/-- The job that a node has isn't ended. -/
theorem RightP.hosted {c : Cf} {s : St} {i k : Nat} {n : Nd} {j : Jb} (h : RightP c s) (hi : s.nodes[i]? = some n) (hk : s.jobs[k]? = some j) (hj : n.job = (k : Int) + 1) : 1 ≤ j.phase ∧ j.phase ≤ 3 := by
  have hJ := h.job k j hk
  have h1 := (hJ.own i n hi).1 hj
  by_cases hp : 1 ≤ j.phase ∧ j.phase ≤ 3
  · exact hp
  · rw [hJ.none_ hp, hasS_zero] at h1
    cases h1

theorem Shape.node_ops {c : Cf} {s : St} {i : Nat} {n : Nd} {kd b : Int} (h : RightP c s) (hi : s.nodes[i]? = some n) : Shape s (nodeOp s kd i n b).1 := by
  unfold nodeOp
  split
  · unfold downS
    split
    · unfold dropS
      split
      · rename_i j hj
        obtain ⟨hk, ha⟩ := jobOf_some hj
        have hp := h.hosted hi hk ha
        exact .ofGiveSet (set := j.nodes) (job := 0) (i := i) rfl (Int.le_refl _) (.inr (.inr ⟨_, j, gone j 0, hk, rfl, ⟨rfl, rfl, rfl, rfl, rfl, rfl, Int.le_refl _, Int.le_refl _, fun h => by omega⟩⟩))
      · exact .ofNode (i := i) rfl (Int.le_refl _) (.inl rfl)
    · exact .refl s
  split
  · unfold upS
    split
    · exact .refl s
    · split
      · exact .refl s
      · exact .ofNode (i := i) rfl (Int.le_refl _) (.inl rfl)
  split
  · unfold cordonS
    split
    · exact .ofNode (i := i) rfl (Int.le_refl _) (.inl rfl)
    · exact .refl s
  split
  · unfold uncordonS
    split
    · exact .ofNode (i := i) rfl (Int.le_refl _) (.inl rfl)
    · exact .refl s
  split
  · unfold moveS
    split
    · exact .ofNode (i := i) rfl (Int.le_refl _) (.inl rfl)
    · exact .refl s
  · unfold movedS
    split
    · exact .refl s
    · split
      · exact .ofNode (i := i) rfl (Int.le_refl _) (.inl rfl)
      · exact .refl s

theorem Shape.job_ops {c : Cf} {s : St} {k : Nat} {j : Jb} {kd b : Int} (hk : s.jobs[k]? = some j) : Shape s (jobOp c s kd k j b).1 := by
  have one : ∀ {s' : St} (j' : Jb), s'.nodes = s.nodes → s'.term = s.term → s'.jobs = s.jobs.set k j' → Kept j j' → Shape s s' := fun j' h1 h2 h3 h4 =>
    .ofJobs h1 (by rw [h2]; exact Int.le_refl _) (.inr (.inr ⟨k, j, j', hk, h3, h4⟩))
  unfold jobOp
  split
  · unfold cancelS
    split
    · exact .refl s
    · rename_i hp
      exact .letGo hk hp
  split
  · unfold holdS
    split
    · rename_i hp
      split
      · exact .ofGive (set := b) (job := (k : Int) + 1) rfl (Int.le_refl _) (.inr (.inr ⟨k, j, _, hk, rfl, ⟨rfl, rfl, rfl, rfl, rfl, rfl, (by show j.inc ≤ j.inc + 1; omega), Int.le_refl _, fun h => by omega⟩⟩))
      · exact .refl s
    · exact .refl s
  split
  · unfold startS
    split
    · rename_i hp
      exact one _ rfl rfl rfl ⟨rfl, rfl, rfl, rfl, rfl, rfl, Int.le_refl _, Int.le_refl _, fun h => by omega⟩
    · exact .refl s
  split
  · unfold unholdS
    split
    · exact .letGo hk (by omega)
    · exact .refl s
  split
  · unfold drainS
    split
    · split
      · exact .refl s
      · exact one _ rfl rfl rfl ⟨rfl, rfl, rfl, rfl, rfl, rfl, Int.le_refl _, Int.le_refl _, fun h => by omega⟩
    · exact .refl s
  split
  · unfold savedS
    split
    · split
      · rename_i hp he
        exact one _ rfl rfl rfl ⟨rfl, rfl, rfl, rfl, rfl, rfl, Int.le_refl _, (by show j.epoch ≤ b; omega), fun h => by omega⟩
      · exact .refl s
    · exact .refl s
  split
  · unfold evictS
    split
    · exact .letGo hk (by omega)
    · exact .refl s
  split
  · unfold doneS
    split
    · rename_i hp
      exact .letGo hk (by omega)
    · exact .refl s
  · split
    · unfold shrinkS
      split
      · split
        · exact .ofNode (i := b.toNat) rfl (Int.le_refl _) (.inr (.inr ⟨k, j, _, hk, rfl, ⟨rfl, rfl, rfl, rfl, rfl, rfl, Int.le_refl _, Int.le_refl _, fun h => by omega⟩⟩))
        · exact .refl s
      · exact .refl s
    · exact .refl s

theorem RightP.shape {c : Cf} {s : St} (h : RightP c s) (o : OpN) : Shape s (applyS c s o).1 := by
  unfold applyS
  split
  · exact .refl s
  unfold doS
  split
  · unfold submitS
    split
    · exact .refl s
    · split
      · exact .refl s
      · exact .ofJobs rfl (Int.le_refl _) (.inr (.inl ⟨_, rfl⟩))
  split
  · unfold targetS
    split
    · exact .refl s
    · exact .ofJobs rfl (Int.le_refl _) (.inl rfl)
  split
  · unfold pauseS
    split
    · exact .ofJobs rfl (Int.le_refl _) (.inl rfl)
    · exact .refl s
  split
  · unfold resumeS
    split
    · exact .ofJobs rfl (Int.le_refl _) (.inl rfl)
    · exact .refl s
  split
  · unfold abortS
    split
    · exact .refl s
    · exact .ofJobs rfl (Int.le_refl _) (.inl rfl)
  split
  · unfold newtermS
    split
    · exact .refl s
    · exact .ofJobs rfl (by show s.term ≤ s.term + 1; omega) (.inl rfl)
  split
  · split
    · rename_i n hn
      exact Shape.node_ops h hn
    · exact .refl s
  · split
    · rename_i j hj
      exact Shape.job_ops (jobOf_some hj).1
    · exact .refl s

/-- What BookKeeps asks. -/
theorem Shape.keeps {s s' : St} (h : Shape s s') : s.jobs.length ≤ s'.jobs.length ∧ ∀ (k : Nat) (a : Jb), s.jobs[k]? = some a → ∃ b, s'.jobs[k]? = some b ∧ Kept a b := by
  rcases h.jobs with e | ⟨j, e⟩ | ⟨k0, j, j', hk, e, hkp⟩
  · rw [e]
    exact ⟨Nat.le_refl _, fun k a h => ⟨a, h, .refl a⟩⟩
  · rw [e]
    exact ⟨by simp, fun k a h => ⟨a, by rw [List.getElem?_append_left (List.getElem?_eq_some_iff.1 h).1]; exact h, .refl a⟩⟩
  · rw [e]
    refine ⟨by simp, fun k a h => ?_⟩
    by_cases hc : k0 = k
    · subst hc
      rw [hk] at h
      cases h
      exact ⟨j', by rw [List.getElem?_set_self (List.getElem?_eq_some_iff.1 hk).1], hkp⟩
    · exact ⟨a, by rw [List.getElem?_set_ne hc]; exact h, .refl a⟩
/-- What BookAlone asks of jobs. -/
theorem Shape.alone {s s' : St} (h : Shape s s') : s'.jobs.length ≤ s.jobs.length + 1 ∧ ∃ k0, ∀ (k : Nat) (a : Jb), k ≠ k0 → s.jobs[k]? = some a → s'.jobs[k]? = some a := by
  rcases h.jobs with e | ⟨j, e⟩ | ⟨k0, j, j', hk, e, hkp⟩
  · rw [e]
    exact ⟨by omega, 0, fun k a _ h => h⟩
  · rw [e]
    exact ⟨by simp, 0, fun k a _ h => by rw [List.getElem?_append_left (List.getElem?_eq_some_iff.1 h).1]; exact h⟩
  · rw [e]
    exact ⟨by simp, k0, fun k a hne h => by rw [List.getElem?_set_ne (Ne.symm hne)]; exact h⟩

end Go.Proofs.YtmgbgpendpiahaaDoor

/- Layer 9, plain mathematics: as many nodes have a job as the jobs have nodes (P9.4). No program is named here. -/
namespace Go.Proofs.YtmgbgpendpiahaaDoor

theorem cnt_range {α : Type} {f : α → Bool} : ∀ (L : List α) (n : Nat) (p : Nat → Bool), L.length ≤ n → (∀ i, p i = (match L[i]? with | some x => f x | none => false)) → ((List.range n).filter p).length = (L.filter f).length
  | [], n, p, _, h => by
    have : ∀ i ∈ List.range n, ¬ p i = true := fun i _ => by rw [h i]; simp
    rw [List.filter_eq_nil_iff.2 this]
    rfl
  | x :: L, 0, p, hl, _ => by simp at hl
  | x :: L, n + 1, p, hl, h => by
    have h0 : p 0 = f x := by rw [h 0]; rfl
    have ih := cnt_range L n (fun i => p (i + 1)) (by simpa using hl) (fun i => by rw [h (i + 1)]; rfl)
    rw [List.range_succ_eq_map, List.filter_cons, List.filter_cons, h0, List.filter_map, ]
    have e : (p ∘ Nat.succ) = fun i => p (i + 1) := rfl
    rw [e]
    split
    · rw [List.length_cons, List.length_cons, List.length_map, ih]
    · rw [List.length_map, ih]
theorem cnt_split {α : Type} {f g h : α → Bool} : ∀ (L : List α), (∀ x ∈ L, (if f x = true then 1 else 0) + (if g x = true then 1 else 0) = (if h x = true then 1 else 0 : Nat)) → (L.filter f).length + (L.filter g).length = (L.filter h).length
  | [], _ => rfl
  | x :: L, hx => by
    have ih := cnt_split L fun y hy => hx y (List.mem_cons_of_mem _ hy)
    have h0 := hx x List.mem_cons_self
    revert h0
    simp only [List.filter_cons]
    cases f x <;> cases g x <;> cases h x <;> intro h0 <;> simp at h0 <;> simp <;> omega

theorem hasS_high {set : Int} {n i : Nat} (h0 : 0 ≤ set) (h1 : set < 2 ^ n) (hi : n ≤ i) : hasS set i = false := by
  obtain ⟨m, rfl⟩ := Int.eq_ofNat_of_zero_le h0
  rw [hasS_nat]
  apply Nat.testBit_lt_two_pow
  have h2 : m < 2 ^ n := by
    have : ((2 : Int) ^ n) = ((2 ^ n : Nat) : Int) := by simp
    rw [this] at h1
    exact Int.ofNat_lt.1 h1
  exact Nat.lt_of_lt_of_le h2 (Nat.pow_le_pow_right (by decide) hi)

theorem RightP.many {c : Cf} {s : St} {k : Nat} {j : Jb} (h : RightP c s) (hk : s.jobs[k]? = some j) : manyS j.nodes = (s.nodes.filter fun n => decide (n.job = (k : Int) + 1)).length := by
  have hJ := h.job k j hk
  unfold manyS
  refine cnt_range s.nodes 6 _ h.len.2 fun i => ?_
  cases hi : s.nodes[i]? with
  | some n =>
    show hasS j.nodes i = decide (n.job = (k : Int) + 1)
    rw [Bool.eq_iff_iff, decide_eq_true_iff]
    exact (hJ.own i n hi).symm
  | none =>
    show hasS j.nodes i = false
    have hlen : s.nodes.length ≤ i := List.getElem?_eq_none_iff.1 hi
    by_cases hp : 1 ≤ j.phase ∧ j.phase ≤ 3
    · have hf := hJ.fits hp.1 hp.2
      exact hasS_high hf.low hf.high hlen
    · rw [hJ.none_ hp, hasS_zero]

def sumM (l : List Jb) : Nat := (l.map fun j => manyS j.nodes).sum
theorem sumM_snoc (l : List Jb) (j : Jb) : sumM (l ++ [j]) = sumM l + manyS j.nodes := by simp [sumM]
theorem RightP.sums {c : Cf} {s : St} (h : RightP c s) : ∀ K, K ≤ s.jobs.length → sumM (s.jobs.take K) = (s.nodes.filter fun n => decide (0 < n.job ∧ n.job ≤ (K : Int))).length
  | 0, _ => by
    have : ∀ n ∈ s.nodes, ¬ (decide (0 < n.job ∧ n.job ≤ ((0 : Nat) : Int)) = true) := fun n _ => by simp
    rw [List.filter_eq_nil_iff.2 this]
    rfl
  | K + 1, hK => by
    have hk : s.jobs[K]? = some s.jobs[K] := List.getElem?_eq_getElem (by omega)
    have ih := h.sums K (by omega)
    have hm := h.many hk
    rw [List.take_add_one, hk, Option.toList_some, sumM_snoc, ih, hm]
    refine cnt_split s.nodes fun n _ => ?_
    simp only [decide_eq_true_iff]
    have e : ((K + 1 : Nat) : Int) = (K : Int) + 1 := by simp
    rw [e]
    by_cases h1 : 0 < n.job ∧ n.job ≤ (K : Int)
    · rw [if_pos h1, if_neg (by omega), if_pos (by omega)]
    · by_cases h2 : n.job = (K : Int) + 1
      · rw [if_neg h1, if_pos h2, if_pos (by omega)]
      · rw [if_neg h1, if_neg h2, if_neg (by omega)]
/-- As many nodes have a job as the jobs have nodes. -/
theorem RightP.frees {c : Cf} {s : St} (h : RightP c s) : sumM s.jobs = (s.nodes.filter fun n => decide (0 < n.job)).length := by
  have h1 := h.sums s.jobs.length (Nat.le_refl _)
  rw [List.take_length] at h1
  rw [h1]
  congr 1
  apply List.filter_congr
  intro n hn
  obtain ⟨i, hi⟩ := List.mem_iff_getElem?.1 hn
  have := (h.node i n hi).jl
  rw [Bool.eq_iff_iff]
  simp
  omega
theorem sumM_le {l : List Jb} : sumM l ≤ 6 * l.length := by
  induction l with
  | nil => exact Nat.le_refl _
  | cons j l ih =>
    have h1 : sumM (j :: l) = manyS j.nodes + sumM l := by simp [sumM]
    have h2 : manyS j.nodes ≤ 6 := by
      have := List.length_filter_le (hasS j.nodes) (List.range 6)
      simpa [manyS] using this
    rw [h1, List.length_cons]
    omega
theorem manyS_le (m : Int) : manyS m ≤ 6 := by
  have := List.length_filter_le (hasS m) (List.range 6)
  simpa [manyS] using this

end Go.Proofs.YtmgbgpendpiahaaDoor
