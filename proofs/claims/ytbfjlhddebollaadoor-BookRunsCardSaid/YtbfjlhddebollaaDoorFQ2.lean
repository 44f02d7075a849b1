/- Texts that the proof of F rests on, one behind the other. -/
import Derived.Test.YtbfjlhddebollaaDoorFQ1

/- Layer 9, plain mathematics: the first state may be; the document's example. No program is named here. -/
namespace Go.Proofs.YtbfjlhddebollaaDoor

theorem RightP.first {c : Cf} (hm : mayC c = true) : RightP c (newS c.nodes.toNat) := by
  have h1 : 1 ≤ c.nodes ∧ 0 ≤ c.quota := by
    simp only [mayC, Bool.and_eq_true, inR_iff] at hm
    omega
  have hget : ∀ (i : Nat) (n : Nd), (newS c.nodes.toNat).nodes[i]? = some n → n = newN := fun i n h => by
    unfold newS at h
    dsimp only at h
    rw [List.getElem?_replicate] at h
    split at h
    · exact (Option.some.inj h).symm
    · cases h
  refine ⟨hm, ?_, by show ([] : List Jb).length ≤ 24; simp, by show (1 : Int) ≤ 1; omega, by show (1 : Int) ≤ 9; omega, by show (1 : Int) ≤ 1; omega, by show (1 : Int) ≤ 9; omega, by show (0 : Int) ≤ 0; omega, by show (0 : Int) ≤ 2; omega, by show (0 : Int) ≤ 0; omega, by show (0 : Int) ≤ 1000000; omega, fun i n h => ?_, fun k j h => ?_, fun q _ => ?_⟩
  · show ((List.replicate c.nodes.toNat newN).length : Int) = c.nodes
    rw [List.length_replicate]
    omega
  · rw [hget i n h]
    exact ⟨by decide, by decide, by decide, by show (0 : Int) ≤ _; omega, fun e => by cases e⟩
  · have : ([] : List Jb)[k]? = some j := h
    simp at this
  · have : drainsS (newS c.nodes.toNat) q = 0 := rfl
    rw [this]
    exact h1.2

/-! ### The document's example -/
def exC : Cf := ⟨2, 1, 1, 1, 3, 1, 5, 0, 2000⟩
def exO1 : OpN := (1, 0, 0, 2, 2, 1, 0)
def exO2 : OpN := (9, 1, 3, 0, 0, 0, 0)
def exJ1 : Jb := ⟨0, 0, 2, 2, 1, 0, 0, 0, 0, 0, 0, 0⟩
def exJ2 : Jb := ⟨0, 0, 2, 2, 1, 0, 1, 1, 3, 0, 0, 0⟩
def exN2 : Nd := ⟨true, false, false, 1, 1⟩
def exS1 : St := ⟨[newN, newN], [exJ1], 1, 1, 0, 0⟩
def exS2 : St := ⟨[exN2, exN2], [exJ2], 1, 1, 0, 0⟩
theorem ex_may : mayC exC = true := by decide
theorem ex_first : newS exC.nodes.toNat = ⟨[newN, newN], [], 1, 1, 0, 0⟩ := rfl
theorem ex_one : applyS exC (newS exC.nodes.toNat) exO1 = (exS1, 0) := by
  have hr : rightO exO1 = true := by decide +kernel
  unfold applyS
  rw [if_neg (by rw [hr]; simp)]
  unfold doS
  rw [if_pos (by rfl)]
  unfold submitS
  have ha : askedJ exC (newJ exO1) = true := by decide
  rw [if_neg (by rw [ha]; simp), if_neg (by rw [ex_first]; decide)]
  rfl
theorem ex_right0 : RightP exC (newS exC.nodes.toNat) := RightP.first ex_may
theorem ex_right1 : RightP exC exS1 := by
  have := ex_right0.apply exO1
  rw [ex_one] at this
  exact this
theorem ex_fits : FitsP exS1 exJ1 3 := by
  have hget : ∀ (i : Nat) (n : Nd), exS1.nodes[i]? = some n → n = newN := fun i n h => by
    have hi := (List.getElem?_eq_some_iff.1 h).1
    match i, hi, h with
    | 0, _, h => exact (Option.some.inj h).symm
    | 1, _, h => exact (Option.some.inj h).symm
    | i + 2, hi, _ =>
      have : i + 2 < 2 := hi
      omega
  refine ⟨by decide, by decide, by decide, by decide, fun i n _ _ hp => absurd rfl hp, fun i n k m hi _ hk _ => ?_⟩
  rw [hget i n hi, hget k m hk]
theorem ex_two : applyS exC exS1 exO2 = (exS2, 0) := by
  have hr : rightO exO2 = true := by decide +kernel
  unfold applyS
  rw [if_neg (by rw [hr]; simp)]
  unfold doS
  rw [if_neg (by decide), if_neg (by decide), if_neg (by decide), if_neg (by decide), if_neg (by decide), if_neg (by decide), if_neg (by decide)]
  have hj : jobOf exS1 exO2.2.1 = some exJ1 := rfl
  rw [hj]
  show jobOp exC exS1 9 0 exJ1 3 = _
  unfold jobOp
  rw [if_neg (by decide), if_pos (by rfl)]
  unfold holdS
  rw [if_pos (by rfl), if_pos ⟨ex_fits, by decide, by decide⟩]
  rfl
theorem ex_right2 : RightP exC exS2 := by
  have := ex_right1.apply exO2
  rw [ex_two] at this
  exact this
theorem ex_three : applyS exC exS2 exO2 = (exS2, 5) := by
  have hr : rightO exO2 = true := by decide +kernel
  unfold applyS
  rw [if_neg (by rw [hr]; simp)]
  unfold doS
  rw [if_neg (by decide), if_neg (by decide), if_neg (by decide), if_neg (by decide), if_neg (by decide), if_neg (by decide), if_neg (by decide)]
  have hj : jobOf exS2 exO2.2.1 = some exJ2 := rfl
  rw [hj]
  show jobOp exC exS2 9 0 exJ2 3 = _
  unfold jobOp
  rw [if_neg (by decide), if_pos (by rfl)]
  unfold holdS
  rw [if_neg (by decide)]

end Go.Proofs.YtbfjlhddebollaaDoor

/- Layer 9, plain mathematics: a job that is held, and let go again, leaves all as it was, but how often it was held; so does one that is started, drained and evicted (P9.5). No program is named here. -/
namespace Go.Proofs.YtbfjlhddebollaaDoor

theorem setJ_setJ (s : St) (k : Nat) (a b : Jb) : setJ (setJ s k a) k b = setJ s k b := by simp [setJ]
theorem give_back {l : List Nd} {set job : Int} (h : ∀ i n, l[i]? = some n → hasS set i = true → n.job = 0) : giveL (giveL l set job) set 0 = l := by
  apply List.ext_getElem?
  intro i
  unfold giveL
  rw [List.getElem?_mapIdx, List.getElem?_mapIdx]
  cases hi : l[i]? with
  | none => rfl
  | some n =>
    simp only [Option.map_some]
    cases hh : hasS set i with
    | false => simp
    | true =>
      have := h i n hi hh
      obtain ⟨u, cd, mv, v, jb⟩ := n
      simp at this ⊢
      exact this.symm
/-- An op of a job, that is right. -/
theorem apply_job {c : Cf} {s : St} {kd a b : Int} {k : Nat} {j : Jb} (hk : s.jobs[k]? = some j) (ha : a = (k : Int) + 1) (hr : rightO (kd, a, b, 0, 0, 0, 0) = true) (h1 : kd ≠ 1 ∧ kd ≠ 3 ∧ kd ≠ 4 ∧ kd ≠ 5 ∧ kd ≠ 6 ∧ kd ≠ 21) (h2 : ¬ (kd = 7 ∨ kd = 8 ∨ kd = 16 ∨ kd = 17 ∨ kd = 18 ∨ kd = 19)) :
    applyS c s (kd, a, b, 0, 0, 0, 0) = jobOp c s kd k j b := by
  have hj : jobOf s a = some j := by
    unfold jobOf
    rw [if_pos (by omega)]
    have : (a - 1).toNat = k := by omega
    rw [this, hk]
  have hk' : (a - 1).toNat = k := by omega
  unfold applyS
  rw [if_neg (by rw [hr]; simp)]
  unfold doS
  dsimp only
  rw [if_neg h1.1, if_neg h1.2.1, if_neg h1.2.2.1, if_neg h1.2.2.2.1, if_neg h1.2.2.2.2.1, if_neg h1.2.2.2.2.2, if_neg h2, hj]
  dsimp only
  rw [hk']
theorem hold_ok {c : Cf} {s t : St} {a b : Int} (h : applyS c s (9, a, b, 0, 0, 0, 0) = (t, 0)) :
    ∃ (k : Nat) (j : Jb), s.jobs[k]? = some j ∧ a = (k : Int) + 1 ∧ a ≤ 1000000 ∧ j.phase = 0 ∧ FitsP s j b ∧ allFree s.nodes b = true ∧ j.inc ≠ 1000000 ∧ t = setJ (giveS s b ((k : Int) + 1)) k { j with phase := 1, nodes := b, inc := j.inc + 1 } := by
  unfold applyS at h
  split at h
  · exact absurd (show _ = (0 : Int) from congrArg Prod.snd h) (by dsimp only; decide)
  rename_i hr
  have hr' : rightO (9, a, b, 0, 0, 0, 0) = true := by simpa using hr
  have hin := (rightO_iff.1 hr').2.1 a (by simp [numsO])
  unfold doS at h
  dsimp only at h
  rw [if_neg (by decide), if_neg (by decide), if_neg (by decide), if_neg (by decide), if_neg (by decide), if_neg (by decide), if_neg (by decide)] at h
  split at h
  · rename_i j hj
    obtain ⟨hk, ha⟩ := jobOf_some hj
    unfold jobOp at h
    rw [if_neg (by decide), if_pos (by rfl)] at h
    unfold holdS at h
    split at h
    · rename_i hp
      split at h
      · rename_i hf
        rw [← ha] at h
        exact ⟨(a - 1).toNat, j, hk, ha, hin.2, hp, hf.1, hf.2.1, hf.2.2, by rw [← ha]; exact (congrArg Prod.fst h).symm⟩
      · exact absurd (show _ = (0 : Int) from congrArg Prod.snd h) (by dsimp only; decide)
    · exact absurd (show _ = (0 : Int) from congrArg Prod.snd h) (by dsimp only; decide)
  · exact absurd (show _ = (0 : Int) from congrArg Prod.snd h) (by dsimp only; decide)

theorem right2 {kd a b : Int} (hk : 1 ≤ kd ∧ kd ≤ 21) (hm : manyK kd = 2) (ha : 0 ≤ a ∧ a ≤ 1000000) (hb : 0 ≤ b ∧ b ≤ 1000000) : rightO (kd, a, b, 0, 0, 0, 0) = true := by
  rw [rightO_iff]
  refine ⟨hk, fun n hn => ?_, fun n hn => ?_⟩
  · simp only [numsO, List.mem_cons, List.not_mem_nil, or_false] at hn
    rcases hn with rfl | rfl | rfl | rfl | rfl | rfl <;> omega
  · rw [hm] at hn
    simpa [numsO] using hn
theorem right1 {kd a : Int} (hk : 1 ≤ kd ∧ kd ≤ 21) (hm : manyK kd = 1) (ha : 0 ≤ a ∧ a ≤ 1000000) : rightO (kd, a, 0, 0, 0, 0, 0) = true := by
  rw [rightO_iff]
  refine ⟨hk, fun n hn => ?_, fun n hn => ?_⟩
  · simp only [numsO, List.mem_cons, List.not_mem_nil, or_false] at hn
    rcases hn with rfl | rfl | rfl | rfl | rfl | rfl <;> omega
  · rw [hm] at hn
    simpa [numsO] using hn

/-- What is wanted: as it was, but how often it was held. -/
def wantJ (j : Jb) : Jb := { j with inc := j.inc + 1, since := 0, til := 0 }
structure BackP (c : Cf) (s t : St) (a now : Int) (k : Nat) (j : Jb) : Prop where
  hk : s.jobs[k]? = some j
  ha : a = (k : Int) + 1
  un : applyS c t (11, a, 0, 0, 0, 0, 0) = (setJ s k (wantJ j), 0)
  st : ∃ v1, applyS c t (10, a, now, 0, 0, 0, 0) = (v1, 0) ∧ ∃ v2 g, applyS c v1 (12, a, now, 0, 0, 0, 0) = (v2, g) ∧ (g = 0 → (applyS c v2 (14, a, 0, 0, 0, 0, 0)).1 = setJ s k (wantJ j))
theorem RightP.back {c : Cf} {s t : St} {a b now : Int} (h : RightP c s) (h0 : 0 ≤ now) (h1 : now ≤ 1000000) (he : applyS c s (9, a, b, 0, 0, 0, 0) = (t, 0)) : ∃ (k : Nat) (j : Jb), BackP c s t a now k j := by
  obtain ⟨k, j, hk, ha, ha9, hp, hf, hfree, hi9, ht⟩ := hold_ok he
  have hz : j.nodes = 0 := (h.job k j hk).none_ (by omega)
  have hkl := (List.getElem?_eq_some_iff.1 hk).1
  have hgb : giveL (giveL s.nodes b ((k : Int) + 1)) b 0 = s.nodes := give_back fun i n hi hh => (freeN_iff.1 ((allFree_iff _ _).1 hfree i n hi hh)).2.2.2
  have hgo : ∀ j2 : Jb, j2.nodes = b → gone j2 0 = wantJ j → letGoS (setJ (giveS s b ((k : Int) + 1)) k j2) k j2 0 = setJ s k (wantJ j) := fun j2 h1 h2 => by
    unfold letGoS
    rw [h2, h1]
    simp only [setJ, giveS, List.set_set, hgb]
  have hget : ∀ j2 : Jb, (setJ (giveS s b ((k : Int) + 1)) k j2).jobs[k]? = some j2 := fun j2 => by
    simp only [setJ, giveS]
    rw [List.getElem?_set_self hkl]
  have haR : 0 ≤ a ∧ a ≤ 1000000 := by omega
  subst ht
  have hw : ∀ ph si ti, gone { j with phase := ph, nodes := b, inc := j.inc + 1, since := si, til := ti } 0 = wantJ j := fun ph si ti => by
    unfold gone wantJ
    obtain ⟨q, p, l, m, w, pn, phs, ic, nds, sn, tl, ep⟩ := j
    dsimp only at hp hz
    subst hp hz
    rfl
  refine ⟨k, j, hk, ha, ?_, ?_⟩
  · rw [apply_job (hget _) ha (right1 (by decide) (by decide) haR) (by decide) (by decide)]
    unfold jobOp
    rw [if_neg (by decide), if_neg (by decide), if_neg (by decide), if_pos (by rfl)]
    unfold unholdS
    rw [if_pos rfl, hgo _ rfl (hw 1 j.since j.til)]
  · refine ⟨setJ (giveS s b ((k : Int) + 1)) k { j with phase := 2, nodes := b, inc := j.inc + 1, since := now }, ?_, ?_⟩
    · rw [apply_job (hget _) ha (right2 (by decide) (by decide) haR ⟨h0, h1⟩) (by decide) (by decide)]
      unfold jobOp
      rw [if_neg (by decide), if_neg (by decide), if_pos (by rfl)]
      unfold startS
      rw [if_pos rfl, setJ_setJ]
    · rw [apply_job (hget _) ha (right2 (by decide) (by decide) haR ⟨h0, h1⟩) (by decide) (by decide)]
      unfold jobOp
      rw [if_neg (by decide), if_neg (by decide), if_neg (by decide), if_neg (by decide), if_pos (by rfl)]
      unfold drainS
      rw [if_pos rfl]
      split
      · exact ⟨_, 7, rfl, fun h => absurd h (by decide)⟩
      · rw [setJ_setJ]
        refine ⟨_, 0, rfl, fun _ => ?_⟩
        rw [apply_job (hget _) ha (right1 (by decide) (by decide) haR) (by decide) (by decide)]
        unfold jobOp
        rw [if_neg (by decide), if_neg (by decide), if_neg (by decide), if_neg (by decide), if_neg (by decide), if_neg (by decide), if_pos (by rfl)]
        unfold evictS
        rw [if_pos rfl, hgo _ rfl (hw 3 now now)]

end Go.Proofs.YtbfjlhddebollaaDoor

/- Layer 9, plain mathematics: what an op may turn (P9.5): a job keeps what it was asked for, one job and one node are turned at most. No program is named here. -/
namespace Go.Proofs.YtbfjlhddebollaaDoor

structure Kept (a b : Jb) : Prop where
  q : b.queue = a.queue
  p : b.prio = a.prio
  l : b.least = a.least
  m : b.most = a.most
  w : b.work = a.work
  pn : b.pin = a.pin
  i : a.inc ≤ b.inc
  e : a.epoch ≤ b.epoch
  z : a.phase = 4 → b = a
theorem Kept.refl (a : Jb) : Kept a a := ⟨rfl, rfl, rfl, rfl, rfl, rfl, Int.le_refl _, Int.le_refl _, fun _ => rfl⟩

structure Shape (s s' : St) : Prop where
  jobs : s'.jobs = s.jobs ∨ (∃ j, s'.jobs = s.jobs ++ [j]) ∨ ∃ k j j', s.jobs[k]? = some j ∧ s'.jobs = s.jobs.set k j' ∧ Kept j j'
  term : s.term ≤ s'.term
  ln : s'.nodes.length = s.nodes.length
  nodes : ∃ i0, ∀ (i : Nat) (a b : Nd), i ≠ i0 → s.nodes[i]? = some a → s'.nodes[i]? = some b → b.up = a.up ∧ b.cordon = a.cordon ∧ b.moving = a.moving ∧ b.version = a.version

theorem Shape.refl (s : St) : Shape s s := ⟨.inl rfl, Int.le_refl _, rfl, 0, fun i a b _ h1 h2 => by
  rw [h1] at h2
  cases h2
  exact ⟨rfl, rfl, rfl, rfl⟩⟩
/-- The nodes stay. -/
theorem Shape.ofJobs {s s' : St} (hn : s'.nodes = s.nodes) (ht : s.term ≤ s'.term) (hj : s'.jobs = s.jobs ∨ (∃ j, s'.jobs = s.jobs ++ [j]) ∨ ∃ k j j', s.jobs[k]? = some j ∧ s'.jobs = s.jobs.set k j' ∧ Kept j j') : Shape s s' :=
  ⟨hj, ht, by rw [hn], 0, fun i a b _ h1 h2 => by
    rw [hn, h1] at h2
    cases h2
    exact ⟨rfl, rfl, rfl, rfl⟩⟩
theorem Shape.ofNode {s s' : St} {i : Nat} {n' : Nd} (hn : s'.nodes = s.nodes.set i n') (ht : s.term ≤ s'.term) (hj : s'.jobs = s.jobs ∨ (∃ j, s'.jobs = s.jobs ++ [j]) ∨ ∃ k j j', s.jobs[k]? = some j ∧ s'.jobs = s.jobs.set k j' ∧ Kept j j') : Shape s s' :=
  ⟨hj, ht, by rw [hn, List.length_set], i, fun k a b hne h1 h2 => by
    rw [hn] at h2
    rcases get_set h2 with ⟨rfl, _⟩ | ⟨_, h2⟩
    · exact absurd rfl hne
    · rw [h1] at h2
      cases h2
      exact ⟨rfl, rfl, rfl, rfl⟩⟩
theorem Shape.ofGive {s s' : St} {set job : Int} (hn : s'.nodes = giveL s.nodes set job) (ht : s.term ≤ s'.term) (hj : s'.jobs = s.jobs ∨ (∃ j, s'.jobs = s.jobs ++ [j]) ∨ ∃ k j j', s.jobs[k]? = some j ∧ s'.jobs = s.jobs.set k j' ∧ Kept j j') : Shape s s' :=
  ⟨hj, ht, by rw [hn, give_len], 0, fun k a b _ h1 h2 => by
    rw [hn] at h2
    obtain ⟨n, h3, e⟩ := give_get h2
    rw [h1] at h3
    cases h3
    split at e <;> (subst e; exact ⟨rfl, rfl, rfl, rfl⟩)⟩
theorem Shape.ofGiveSet {s s' : St} {set job : Int} {i : Nat} {n' : Nd} (hn : s'.nodes = (giveL s.nodes set job).set i n') (ht : s.term ≤ s'.term) (hj : s'.jobs = s.jobs ∨ (∃ j, s'.jobs = s.jobs ++ [j]) ∨ ∃ k j j', s.jobs[k]? = some j ∧ s'.jobs = s.jobs.set k j' ∧ Kept j j') : Shape s s' :=
  ⟨hj, ht, by rw [hn, List.length_set, give_len], i, fun k a b hne h1 h2 => by
    rw [hn] at h2
    rcases get_set h2 with ⟨rfl, _⟩ | ⟨_, h2⟩
    · exact absurd rfl hne
    · obtain ⟨n, h3, e⟩ := give_get h2
      rw [h1] at h3
      cases h3
      split at e <;> (subst e; exact ⟨rfl, rfl, rfl, rfl⟩)⟩

theorem Shape.letGo {s : St} {k : Nat} {j : Jb} {ph : Int} (hk : s.jobs[k]? = some j) (hp : j.phase ≠ 4) : Shape s (letGoS s k j ph) :=
  .ofGive (set := j.nodes) (job := 0) rfl (Int.le_refl _) (.inr (.inr ⟨k, j, gone j ph, hk, rfl, ⟨rfl, rfl, rfl, rfl, rfl, rfl, Int.le_refl _, Int.le_refl _, fun h => absurd h hp⟩⟩))

/-- The job that a node has isn't ended. -/
theorem RightP.hosted {c : Cf} {s : St} {i k : Nat} {n : Nd} {j : Jb} (h : RightP c s) (hi : s.nodes[i]? = some n) (hk : s.jobs[k]? = some j) (hj : n.job = (k : Int) + 1) : 1 ≤ j.phase ∧ j.phase ≤ 3 := by
  have hJ := h.job k j hk
  have h1 := (hJ.own i n hi).1 hj
  by_cases hp : 1 ≤ j.phase ∧ j.phase ≤ 3
  · exact hp
  · rw [hJ.none_ hp, hasS_zero] at h1
    cases h1

theorem Shape.node_ops {c : Cf} {s : St} {i : Nat} {n : Nd} {kd b : Int} (h : RightP c s) (hi : s.nodes[i]? = some n) : Shape s (nodeOp s kd i n b).1 := by
  unfold nodeOp
  split
  · unfold downS
    split
    · unfold dropS
      split
      · rename_i j hj
        obtain ⟨hk, ha⟩ := jobOf_some hj
        have hp := h.hosted hi hk ha
        exact .ofGiveSet (set := j.nodes) (job := 0) (i := i) rfl (Int.le_refl _) (.inr (.inr ⟨_, j, gone j 0, hk, rfl, ⟨rfl, rfl, rfl, rfl, rfl, rfl, Int.le_refl _, Int.le_refl _, fun h => by omega⟩⟩))
      · exact .ofNode (i := i) rfl (Int.le_refl _) (.inl rfl)
    · exact .refl s
  split
  · unfold upS
    split
    · exact .refl s
    · split
      · exact .refl s
      · exact .ofNode (i := i) rfl (Int.le_refl _) (.inl rfl)
  split
  · unfold cordonS
    split
    · exact .ofNode (i := i) rfl (Int.le_refl _) (.inl rfl)
    · exact .refl s
  split
  · unfold uncordonS
    split
    · exact .ofNode (i := i) rfl (Int.le_refl _) (.inl rfl)
    · exact .refl s
  split
  · unfold moveS
    split
    · exact .ofNode (i := i) rfl (Int.le_refl _) (.inl rfl)
    · exact .refl s
  · unfold movedS
    split
    · exact .refl s
    · split
      · exact .ofNode (i := i) rfl (Int.le_refl _) (.inl rfl)
      · exact .refl s

theorem Shape.job_ops {c : Cf} {s : St} {k : Nat} {j : Jb} {kd b : Int} (hk : s.jobs[k]? = some j) : Shape s (jobOp c s kd k j b).1 := by
  have one : ∀ {s' : St} (j' : Jb), s'.nodes = s.nodes → s'.term = s.term → s'.jobs = s.jobs.set k j' → Kept j j' → Shape s s' := fun j' h1 h2 h3 h4 =>
    .ofJobs h1 (by rw [h2]; exact Int.le_refl _) (.inr (.inr ⟨k, j, j', hk, h3, h4⟩))
  unfold jobOp
  split
  · unfold cancelS
    split
    · exact .refl s
    · rename_i hp
      exact .letGo hk hp
  split
  · unfold holdS
    split
    · rename_i hp
      split
      · exact .ofGive (set := b) (job := (k : Int) + 1) rfl (Int.le_refl _) (.inr (.inr ⟨k, j, _, hk, rfl, ⟨rfl, rfl, rfl, rfl, rfl, rfl, (by show j.inc ≤ j.inc + 1; omega), Int.le_refl _, fun h => by omega⟩⟩))
      · exact .refl s
    · exact .refl s
  split
  · unfold startS
    split
    · rename_i hp
      exact one _ rfl rfl rfl ⟨rfl, rfl, rfl, rfl, rfl, rfl, Int.le_refl _, Int.le_refl _, fun h => by omega⟩
    · exact .refl s
  split
  · unfold unholdS
    split
    · exact .letGo hk (by omega)
    · exact .refl s
  split
  · unfold drainS
    split
    · split
      · exact .refl s
      · exact one _ rfl rfl rfl ⟨rfl, rfl, rfl, rfl, rfl, rfl, Int.le_refl _, Int.le_refl _, fun h => by omega⟩
    · exact .refl s
  split
  · unfold savedS
    split
    · split
      · rename_i hp he
        exact one _ rfl rfl rfl ⟨rfl, rfl, rfl, rfl, rfl, rfl, Int.le_refl _, (by show j.epoch ≤ b; omega), fun h => by omega⟩
      · exact .refl s
    · exact .refl s
  split
  · unfold evictS
    split
    · exact .letGo hk (by omega)
    · exact .refl s
  split
  · unfold doneS
    split
    · rename_i hp
      exact .letGo hk (by omega)
    · exact .refl s
  · split
    · unfold shrinkS
      split
      · split
        · exact .ofNode (i := b.toNat) rfl (Int.le_refl _) (.inr (.inr ⟨k, j, _, hk, rfl, ⟨rfl, rfl, rfl, rfl, rfl, rfl, Int.le_refl _, Int.le_refl _, fun h => by omega⟩⟩))
        · exact .refl s
      · exact .refl s
    · exact .refl s

theorem RightP.shape {c : Cf} {s : St} (h : RightP c s) (o : OpN) : Shape s (applyS c s o).1 := by
  unfold applyS
  split
  · exact .refl s
  unfold doS
  split
  · unfold submitS
    split
    · exact .refl s
    · split
      · exact .refl s
      · exact .ofJobs rfl (Int.le_refl _) (.inr (.inl ⟨_, rfl⟩))
  split
  · unfold targetS
    split
    · exact .refl s
    · exact .ofJobs rfl (Int.le_refl _) (.inl rfl)
  split
  · unfold pauseS
    split
    · exact .ofJobs rfl (Int.le_refl _) (.inl rfl)
    · exact .refl s
  split
  · unfold resumeS
    split
    · exact .ofJobs rfl (Int.le_refl _) (.inl rfl)
    · exact .refl s
  split
  · unfold abortS
    split
    · exact .refl s
    · exact .ofJobs rfl (Int.le_refl _) (.inl rfl)
  split
  · unfold newtermS
    split
    · exact .refl s
    · exact .ofJobs rfl (by show s.term ≤ s.term + 1; omega) (.inl rfl)
  split
  · split
    · rename_i n hn
      exact Shape.node_ops h hn
    · exact .refl s
  · split
    · rename_i j hj
      exact Shape.job_ops (jobOf_some hj).1
    · exact .refl s

/-- What BookKeeps asks. -/
theorem Shape.keeps {s s' : St} (h : Shape s s') : s.jobs.length ≤ s'.jobs.length ∧ ∀ (k : Nat) (a : Jb), s.jobs[k]? = some a → ∃ b, s'.jobs[k]? = some b ∧ Kept a b := by
  rcases h.jobs with e | ⟨j, e⟩ | ⟨k0, j, j', hk, e, hkp⟩
  · rw [e]
    exact ⟨Nat.le_refl _, fun k a h => ⟨a, h, .refl a⟩⟩
  · rw [e]
    exact ⟨by simp, fun k a h => ⟨a, by rw [List.getElem?_append_left (List.getElem?_eq_some_iff.1 h).1]; exact h, .refl a⟩⟩
  · rw [e]
    refine ⟨by simp, fun k a h => ?_⟩
    by_cases hc : k0 = k
    · subst hc
      rw [hk] at h
      cases h
      exact ⟨j', by rw [List.getElem?_set_self (List.getElem?_eq_some_iff.1 hk).1], hkp⟩
    · exact ⟨a, by rw [List.getElem?_set_ne hc]; exact h, .refl a⟩
/-- What BookAlone asks of jobs. -/
theorem Shape.alone {s s' : St} (h : Shape s s') : s'.jobs.length ≤ s.jobs.length + 1 ∧ ∃ k0, ∀ (k : Nat) (a : Jb), k ≠ k0 → s.jobs[k]? = some a → s'.jobs[k]? = some a := by
  rcases h.jobs with e | ⟨j, e⟩ | ⟨k0, j, j', hk, e, hkp⟩
  · rw [e]
    exact ⟨by omega, 0, fun k a _ h => h⟩
  · rw [e]
    exact ⟨by simp, 0, fun k a _ h => by rw [List.getElem?_append_left (List.getElem?_eq_some_iff.1 h).1]; exact h⟩
  · rw [e]
    exact ⟨by simp, k0, fun k a hne h => by rw [List.getElem?_set_ne (Ne.symm hne)]; exact h⟩

end Go.Proofs.YtbfjlhddebollaaDoor
