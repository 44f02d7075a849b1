/- Texts that the proof of I rests on, one behind the other. -/
import Derived.Test.YtddhbokknbmdfaaDoorIQ1

/- Layer 9, plain mathematics: behind each op a state that may be may be (P9.4). No program is named here. -/
namespace Go.Proofs.YtddhbokknbmdfaaDoor

theorem RightP.submitted {c : Cf} {s : St} {o : OpN} (h : RightP c s) (ha : askedJ c (newJ o) = true) (hl : s.jobs.length ≠ 24) : RightP c { s with jobs := s.jobs ++ [newJ o] } := by
  have h24 := h.nj
  have hget : ∀ (k : Nat) (j : Jb), (s.jobs ++ [newJ o])[k]? = some j → s.jobs[k]? = some j ∨ (k = s.jobs.length ∧ j = newJ o) := fun k j hk => by
    rw [List.getElem?_append] at hk
    split at hk
    · exact .inl hk
    · obtain ⟨h1, h2⟩ := List.getElem?_eq_some_iff.1 hk
      simp at h1
      refine .inr ⟨by omega, ?_⟩
      have : k - s.jobs.length = 0 := by omega
      simp [this] at h2
      exact h2.symm
  refine ⟨h.may, h.nn, by show (s.jobs ++ [newJ o]).length ≤ 24; simp; omega, h.g1, h.g9, h.p1, h.p9, h.m0, h.m2, h.t0, h.t9, fun i n hi => ?_, fun k j hk => ?_, fun q hq => ?_⟩
  · have hN := h.node i n hi
    refine ⟨hN.v1, hN.v9, hN.j0, ?_, hN.mv⟩
    have := hN.jl
    show n.job ≤ ((s.jobs ++ [newJ o]).length : Int)
    simp
    omega
  · rcases hget k j hk with hk | ⟨rfl, rfl⟩
    · have hx := h.job k j hk
      exact ⟨hx.asked, hx.p0, hx.p4, hx.i0, hx.i9, hx.s0, hx.s9, hx.t0, hx.t9, hx.e0, hx.e9, fun h1 h3 => by
        have hf := hx.fits h1 h3
        exact ⟨hf.low, hf.high, hf.least, hf.most, hf.pin, hf.one⟩, hx.none_, hx.own, hx.host⟩
    · refine ⟨ha, ?_, ?_, ?_, ?_, ?_, ?_, ?_, ?_, ?_, ?_, fun h1 h3 => ?_, fun _ => rfl, fun i n hi => ?_, fun i n hi he => ?_⟩
      · show (0 : Int) ≤ 0; omega
      · show (0 : Int) ≤ 4; omega
      · show (0 : Int) ≤ 0; omega
      · show (0 : Int) ≤ 1000000; omega
      · show (0 : Int) ≤ 0; omega
      · show (0 : Int) ≤ 1000000; omega
      · show (0 : Int) ≤ 0; omega
      · show (0 : Int) ≤ 1000000; omega
      · show (0 : Int) ≤ 0; omega
      · show (0 : Int) ≤ 0; omega
      · have : (1 : Int) ≤ 0 := h1
        omega
      · show n.job = _ ↔ hasS 0 i = true
        rw [hasS_zero]
        have := (h.node i n hi).jl
        constructor
        · intro e; omega
        · intro e; cases e
      · have := (h.node i n hi).jl
        omega
  · have h1 := h.drains q hq
    have hd : drainsS { s with jobs := s.jobs ++ [newJ o] } q = ((s.jobs ++ [newJ o]).filter fun x => decide (x.queue = (q : Int) ∧ x.phase = 3)).length := rfl
    have hd2 : drainsS s q = (s.jobs.filter fun x => decide (x.queue = (q : Int) ∧ x.phase = 3)).length := rfl
    rw [hd, List.filter_append, List.length_append]
    have e : ([newJ o].filter fun x => decide (x.queue = (q : Int) ∧ x.phase = 3)) = [] := by
      rw [List.filter_cons_of_neg]
      · rfl
      · simp [newJ]
    rw [e, List.length_nil, Nat.add_zero]
    exact h1

theorem RightP.global {c : Cf} {s s' : St} (h : RightP c s) (hn : s'.nodes = s.nodes) (hj : s'.jobs = s.jobs) (hg : 1 ≤ s'.goal ∧ s'.goal ≤ 9) (hp : 1 ≤ s'.prior ∧ s'.prior ≤ 9) (hm : 0 ≤ s'.mode ∧ s'.mode ≤ 2) (ht : 0 ≤ s'.term ∧ s'.term ≤ 1000000) : RightP c s' := by
  obtain ⟨nodes, jobs, goal, prior, mode, term⟩ := s
  obtain ⟨nodes', jobs', goal', prior', mode', term'⟩ := s'
  dsimp only at *
  subst hn hj
  refine ⟨h.may, h.nn, h.nj, hg.1, hg.2, hp.1, hp.2, hm.1, hm.2, ht.1, ht.2, fun i n hi => ?_, fun k j hk => ?_, h.drains⟩
  · have hN := h.node i n hi
    exact ⟨hN.v1, hN.v9, hN.j0, hN.jl, hN.mv⟩
  · have hx := h.job k j hk
    exact ⟨hx.asked, hx.p0, hx.p4, hx.i0, hx.i9, hx.s0, hx.s9, hx.t0, hx.t9, hx.e0, hx.e9, fun h1 h3 => by
      have hf := hx.fits h1 h3
      exact ⟨hf.low, hf.high, hf.least, hf.most, hf.pin, hf.one⟩, hx.none_, hx.own, hx.host⟩

theorem jobOf_some {s : St} {a : Int} {j : Jb} (h : jobOf s a = some j) : s.jobs[(a - 1).toNat]? = some j ∧ a = ((a - 1).toNat : Int) + 1 := by
  unfold jobOf at h
  split at h
  · exact ⟨h, by omega⟩
  · cases h

/-- What an op of a node leaves may be. -/
theorem RightP.node_ops {c : Cf} {s : St} {i : Nat} {n : Nd} {kd b : Int} (h : RightP c s) (hi : s.nodes[i]? = some n) : RightP c (nodeOp s kd i n b).1 := by
  have hN := h.node i n hi
  unfold nodeOp
  split
  · unfold downS
    split
    · -- its job is let go first
      have hd : RightP c (dropS s n) ∧ (dropS s n).nodes[i]? = some { n with job := 0 } := by
        unfold dropS
        split
        · rename_i j hj
          obtain ⟨hk, ha⟩ := jobOf_some hj
          refine ⟨h.letGo hk (.inl rfl), ?_⟩
          have hh := ((h.job _ j hk).own i n hi).1 ha
          show (giveL s.nodes j.nodes 0)[i]? = _
          unfold giveL
          rw [List.getElem?_mapIdx, hi]
          simp [hh]
        · rename_i hj
          refine ⟨h, ?_⟩
          have h0 : n.job = 0 := by
            have := hN.j0
            have := hN.jl
            unfold jobOf at hj
            split at hj
            · rw [List.getElem?_eq_none_iff] at hj
              omega
            · omega
          rw [hi]
          congr 1
          obtain ⟨u, cd, mv, v, jb⟩ := n
          dsimp only at h0
          rw [h0]
      exact hd.1.nodeSet hd.2 rfl ⟨hN.v1, hN.v9⟩ (fun e => by cases e) (fun e => absurd rfl e)
    · exact h
  split
  · unfold upS
    split
    · exact h
    · rename_i hv
      split
      · exact h
      · rename_i hu
        have hv' := inR_iff.1 (by simpa using hv)
        refine h.nodeSet hi rfl hv' (fun hm => ?_) (fun hj => ?_)
        · have := (hN.mv hm).1
          exact absurd this hu
        · exfalso
          have := hN.j0
          have := hN.jl
          have hk : (n.job - 1).toNat < s.jobs.length := by omega
          have := ((h.job _ _ (List.getElem?_eq_getElem hk)).host i n hi (by omega)).1
          exact hu this
  split
  · unfold cordonS
    split
    · rename_i hc
      exact h.nodeSet hi rfl ⟨hN.v1, hN.v9⟩ (fun hm => ⟨(hN.mv hm).1, rfl, (hN.mv hm).2.2⟩) (fun _ => ⟨rfl, rfl, rfl⟩)
    · exact h
  split
  · unfold uncordonS
    split
    · rename_i hc
      exact h.nodeSet hi rfl ⟨hN.v1, hN.v9⟩ (fun hm => by
        have hm : n.moving = true := hm
        rw [hc.2] at hm
        cases hm) (fun _ => ⟨rfl, rfl, rfl⟩)
    · exact h
  split
  · unfold moveS
    split
    · rename_i hc
      exact h.nodeSet hi rfl ⟨hN.v1, hN.v9⟩ (fun _ => ⟨hc.1, hc.2.1, hc.2.2.2⟩) (fun hj => absurd hc.2.2.2 hj)
    · exact h
  · unfold movedS
    split
    · exact h
    · rename_i hv
      split
      · rename_i hm
        have hv' := inR_iff.1 (by simpa using hv)
        exact h.nodeSet hi rfl hv' (fun e => by cases e) (fun hj => absurd (hN.mv hm).2.2 hj)
      · exact h

/-- What an op of a job leaves may be. -/
theorem RightP.job_ops {c : Cf} {s : St} {k : Nat} {j : Jb} {kd b : Int} (h : RightP c s) (hk : s.jobs[k]? = some j) (hb : 0 ≤ b ∧ b ≤ 1000000) : RightP c (jobOp c s kd k j b).1 := by
  have hJ := h.job k j hk
  have := hJ.p0
  have := hJ.p4
  have := hJ.i0
  have := hJ.i9
  have := hJ.s0
  have := hJ.s9
  have := hJ.t0
  have := hJ.t9
  have := hJ.e0
  have := hJ.e9
  unfold jobOp
  split
  · unfold cancelS
    split
    · exact h
    · exact h.letGo hk (.inr rfl)
  split
  · unfold holdS
    split
    · rename_i hp
      split
      · rename_i hf
        exact h.held hk hp hf.1 hf.2.1 hf.2.2
      · exact h
    · exact h
  split
  · unfold startS
    split
    · rename_i hp
      exact h.jobSet hk rfl rfl rfl rfl rfl rfl (by dsimp only; omega) (by dsimp only; omega) (by dsimp only; omega) (by dsimp only; omega) (by dsimp only; omega) (by dsimp only; omega) (fun e => by dsimp only at e; omega)
    · exact h
  split
  · unfold unholdS
    split
    · exact h.letGo hk (.inl rfl)
    · exact h
  split
  · unfold drainS
    split
    · rename_i hp
      split
      · exact h
      · rename_i hq
        have hask := hJ.asked
        simp only [askedJ, Bool.and_eq_true, inR_iff] at hask
        have hle := h.drains j.queue.toNat (by omega)
        have e : ((j.queue.toNat : Nat) : Int) = j.queue := by omega
        rw [e] at hle
        exact h.jobSet hk rfl rfl rfl rfl rfl rfl (by dsimp only; omega) (by dsimp only; omega) (by dsimp only; omega) (by dsimp only; omega) (by dsimp only; omega) (by dsimp only; omega) (fun _ _ => by omega)
    · exact h
  split
  · unfold savedS
    split
    · rename_i hp
      split
      · rename_i he
        exact h.jobSet hk rfl rfl rfl rfl rfl rfl (by dsimp only; omega) (by dsimp only; omega) (by dsimp only; omega) (by dsimp only; omega) (by dsimp only; omega) (by dsimp only; omega) (fun e1 e2 => absurd e1 e2)
      · exact h
    · exact h
  split
  · unfold evictS
    split
    · exact h.letGo hk (.inl rfl)
    · exact h
  split
  · unfold doneS
    split
    · exact h.letGo hk (.inr rfl)
    · exact h
  split
  · rename_i n hn
    unfold shrinkS
    split
    · rename_i hp
      split
      · rename_i hh
        exact h.shrunk hk hn hp hh.1 hh.2
      · exact h
    · exact h
  · exact h

/-- P9.4. -/
theorem RightP.apply {c : Cf} {s : St} (h : RightP c s) (o : OpN) : RightP c (applyS c s o).1 := by
  unfold applyS
  split
  · exact h
  rename_i hr
  have hr' : rightO o = true := by simpa using hr
  have hin := (rightO_iff.1 hr').2.1
  have h1 : 0 ≤ o.2.1 ∧ o.2.1 ≤ 1000000 := hin _ (by simp [numsO])
  have h2 : 0 ≤ o.2.2.1 ∧ o.2.2.1 ≤ 1000000 := hin _ (by simp [numsO])
  have g := And.intro h.g1 h.g9
  have p := And.intro h.p1 h.p9
  have m := And.intro h.m0 h.m2
  have t := And.intro h.t0 h.t9
  unfold doS
  split
  · unfold submitS
    split
    · exact h
    · rename_i ha
      split
      · exact h
      · rename_i hl
        exact h.submitted (by simpa using ha) hl
  split
  · unfold targetS
    split
    · exact h
    · rename_i hv
      refine h.global rfl rfl (inR_iff.1 (by simpa using hv)) ?_ ⟨by show (0 : Int) ≤ 0; omega, by show (0 : Int) ≤ 2; omega⟩ t
      show 1 ≤ meantS s ∧ meantS s ≤ 9
      unfold meantS
      split <;> assumption
  split
  · unfold pauseS
    split
    · exact h.global rfl rfl g p ⟨by show (0 : Int) ≤ 1; omega, by show (1 : Int) ≤ 2; omega⟩ t
    · exact h
  split
  · unfold resumeS
    split
    · exact h.global rfl rfl g p ⟨by show (0 : Int) ≤ 0; omega, by show (0 : Int) ≤ 2; omega⟩ t
    · exact h
  split
  · unfold abortS
    split
    · exact h
    · exact h.global rfl rfl g p ⟨by show (0 : Int) ≤ 2; omega, by show (2 : Int) ≤ 2; omega⟩ t
  split
  · unfold newtermS
    split
    · exact h
    · exact h.global rfl rfl g p m ⟨by show (0 : Int) ≤ s.term + 1; omega, by show s.term + 1 ≤ 1000000; omega⟩
  split
  · split
    · rename_i n hn
      exact h.node_ops hn
    · exact h
  · split
    · rename_i j hj
      exact h.job_ops (jobOf_some hj).1 h2
    · exact h

/-- An error leaves all as it was. -/
def ErrK (s : St) (r : Res9) : Prop := r.2 ≠ 0 → r.1 = s
theorem errK_ite {s : St} {p : Prop} [Decidable p] {a b : Res9} (ha : ErrK s a) (hb : ErrK s b) : ErrK s (if p then a else b) := by
  split
  · exact ha
  · exact hb
theorem errK_same (s : St) (n : Int) : ErrK s (s, n) := fun _ => rfl
theorem errK_ok (s x : St) : ErrK s (x, 0) := fun h => absurd rfl h
theorem apply_err {c : Cf} {s : St} {o : OpN} : ErrK s (applyS c s o) := by
  unfold applyS doS submitS targetS pauseS resumeS abortS newtermS
  repeat' (first | exact errK_same _ _ | exact errK_ok _ _ | apply errK_ite)
  · split
    · unfold nodeOp downS upS cordonS uncordonS moveS movedS
      repeat' (first | exact errK_same _ _ | exact errK_ok _ _ | apply errK_ite)
    · exact errK_same _ _
  · split
    · unfold jobOp cancelS holdS startS unholdS drainS savedS evictS doneS
      repeat' (first | exact errK_same _ _ | exact errK_ok _ _ | apply errK_ite)
      · split
        · exact fun h => absurd rfl h
        · exact fun _ => rfl
      split
      · unfold shrinkS
        repeat' (first | exact errK_same _ _ | exact errK_ok _ _ | apply errK_ite)
      · exact errK_same _ _
    · exact errK_same _ _

end Go.Proofs.YtddhbokknbmdfaaDoor

/- Layer 9, plain mathematics: a job that is held, and let go again, leaves all as it was, but how often it was held; so does one that is started, drained and evicted (P9.5). No program is named here. -/
namespace Go.Proofs.YtddhbokknbmdfaaDoor

theorem setJ_setJ (s : St) (k : Nat) (a b : Jb) : setJ (setJ s k a) k b = setJ s k b := by simp [setJ]
theorem give_back {l : List Nd} {set job : Int} (h : ∀ i n, l[i]? = some n → hasS set i = true → n.job = 0) : giveL (giveL l set job) set 0 = l := by
  apply List.ext_getElem?
  intro i
  unfold giveL
  rw [List.getElem?_mapIdx, List.getElem?_mapIdx]
  cases hi : l[i]? with
  | none => rfl
  | some n =>
    simp only [Option.map_some]
    cases hh : hasS set i with
    | false => simp
    | true =>
      have := h i n hi hh
      obtain ⟨u, cd, mv, v, jb⟩ := n
      simp at this ⊢
      exact this.symm
/-- An op of a job, that is right. -/
theorem apply_job {c : Cf} {s : St} {kd a b : Int} {k : Nat} {j : Jb} (hk : s.jobs[k]? = some j) (ha : a = (k : Int) + 1) (hr : rightO (kd, a, b, 0, 0, 0, 0) = true) (h1 : kd ≠ 1 ∧ kd ≠ 3 ∧ kd ≠ 4 ∧ kd ≠ 5 ∧ kd ≠ 6 ∧ kd ≠ 21) (h2 : ¬ (kd = 7 ∨ kd = 8 ∨ kd = 16 ∨ kd = 17 ∨ kd = 18 ∨ kd = 19)) :
    applyS c s (kd, a, b, 0, 0, 0, 0) = jobOp c s kd k j b := by
  have hj : jobOf s a = some j := by
    unfold jobOf
    rw [if_pos (by omega)]
    have : (a - 1).toNat = k := by omega
    rw [this, hk]
  have hk' : (a - 1).toNat = k := by omega
  unfold applyS
  rw [if_neg (by rw [hr]; simp)]
  unfold doS
  dsimp only
  rw [if_neg h1.1, if_neg h1.2.1, if_neg h1.2.2.1, if_neg h1.2.2.2.1, if_neg h1.2.2.2.2.1, if_neg h1.2.2.2.2.2, if_neg h2, hj]
  dsimp only
  rw [hk']
theorem hold_ok {c : Cf} {s t : St} {a b : Int} (h : applyS c s (9, a, b, 0, 0, 0, 0) = (t, 0)) :
    ∃ (k : Nat) (j : Jb), s.jobs[k]? = some j ∧ a = (k : Int) + 1 ∧ a ≤ 1000000 ∧ j.phase = 0 ∧ FitsP s j b ∧ allFree s.nodes b = true ∧ j.inc ≠ 1000000 ∧ t = setJ (giveS s b ((k : Int) + 1)) k { j with phase := 1, nodes := b, inc := j.inc + 1 } := by
  unfold applyS at h
  split at h
  · exact absurd (show _ = (0 : Int) from congrArg Prod.snd h) (by dsimp only; decide)
  rename_i hr
  have hr' : rightO (9, a, b, 0, 0, 0, 0) = true := by simpa using hr
  have hin := (rightO_iff.1 hr').2.1 a (by simp [numsO])
  unfold doS at h
  dsimp only at h
  rw [if_neg (by decide), if_neg (by decide), if_neg (by decide), if_neg (by decide), if_neg (by decide), if_neg (by decide), if_neg (by decide)] at h
  split at h
  · rename_i j hj
    obtain ⟨hk, ha⟩ := jobOf_some hj
    unfold jobOp at h
    rw [if_neg (by decide), if_pos (by rfl)] at h
    unfold holdS at h
    split at h
    · rename_i hp
      split at h
      · rename_i hf
        rw [← ha] at h
        exact ⟨(a - 1).toNat, j, hk, ha, hin.2, hp, hf.1, hf.2.1, hf.2.2, by rw [← ha]; exact (congrArg Prod.fst h).symm⟩
      · exact absurd (show _ = (0 : Int) from congrArg Prod.snd h) (by dsimp only; decide)
    · exact absurd (show _ = (0 : Int) from congrArg Prod.snd h) (by dsimp only; decide)
  · exact absurd (show _ = (0 : Int) from congrArg Prod.snd h) (by dsimp only; decide)

theorem right2 {kd a b : Int} (hk : 1 ≤ kd ∧ kd ≤ 21) (hm : manyK kd = 2) (ha : 0 ≤ a ∧ a ≤ 1000000) (hb : 0 ≤ b ∧ b ≤ 1000000) : rightO (kd, a, b, 0, 0, 0, 0) = true := by
  rw [rightO_iff]
  refine ⟨hk, fun n hn => ?_, fun n hn => ?_⟩
  · simp only [numsO, List.mem_cons, List.not_mem_nil, or_false] at hn
    rcases hn with rfl | rfl | rfl | rfl | rfl | rfl <;> omega
  · rw [hm] at hn
    simpa [numsO] using hn
theorem right1 {kd a : Int} (hk : 1 ≤ kd ∧ kd ≤ 21) (hm : manyK kd = 1) (ha : 0 ≤ a ∧ a ≤ 1000000) : rightO (kd, a, 0, 0, 0, 0, 0) = true := by
  rw [rightO_iff]
  refine ⟨hk, fun n hn => ?_, fun n hn => ?_⟩
  · simp only [numsO, List.mem_cons, List.not_mem_nil, or_false] at hn
    rcases hn with rfl | rfl | rfl | rfl | rfl | rfl <;> omega
  · rw [hm] at hn
    simpa [numsO] using hn

/-- What is wanted: as it was, but how often it was held. -/
def wantJ (j : Jb) : Jb := { j with inc := j.inc + 1, since := 0, til := 0 }
structure BackP (c : Cf) (s t : St) (a now : Int) (k : Nat) (j : Jb) : Prop where
  hk : s.jobs[k]? = some j
  ha : a = (k : Int) + 1
  un : applyS c t (11, a, 0, 0, 0, 0, 0) = (setJ s k (wantJ j), 0)
  st : ∃ v1, applyS c t (10, a, now, 0, 0, 0, 0) = (v1, 0) ∧ ∃ v2 g, applyS c v1 (12, a, now, 0, 0, 0, 0) = (v2, g) ∧ (g = 0 → (applyS c v2 (14, a, 0, 0, 0, 0, 0)).1 = setJ s k (wantJ j))
theorem RightP.back {c : Cf} {s t : St} {a b now : Int} (h : RightP c s) (h0 : 0 ≤ now) (h1 : now ≤ 1000000) (he : applyS c s (9, a, b, 0, 0, 0, 0) = (t, 0)) : ∃ (k : Nat) (j : Jb), BackP c s t a now k j := by
  obtain ⟨k, j, hk, ha, ha9, hp, hf, hfree, hi9, ht⟩ := hold_ok he
  have hz : j.nodes = 0 := (h.job k j hk).none_ (by omega)
  have hkl := (List.getElem?_eq_some_iff.1 hk).1
  have hgb : giveL (giveL s.nodes b ((k : Int) + 1)) b 0 = s.nodes := give_back fun i n hi hh => (freeN_iff.1 ((allFree_iff _ _).1 hfree i n hi hh)).2.2.2
  have hgo : ∀ j2 : Jb, j2.nodes = b → gone j2 0 = wantJ j → letGoS (setJ (giveS s b ((k : Int) + 1)) k j2) k j2 0 = setJ s k (wantJ j) := fun j2 h1 h2 => by
    unfold letGoS
    rw [h2, h1]
    simp only [setJ, giveS, List.set_set, hgb]
  have hget : ∀ j2 : Jb, (setJ (giveS s b ((k : Int) + 1)) k j2).jobs[k]? = some j2 := fun j2 => by
    simp only [setJ, giveS]
    rw [List.getElem?_set_self hkl]
  have haR : 0 ≤ a ∧ a ≤ 1000000 := by omega
  subst ht
  have hw : ∀ ph si ti, gone { j with phase := ph, nodes := b, inc := j.inc + 1, since := si, til := ti } 0 = wantJ j := fun ph si ti => by
    unfold gone wantJ
    obtain ⟨q, p, l, m, w, pn, phs, ic, nds, sn, tl, ep⟩ := j
    dsimp only at hp hz
    subst hp hz
    rfl
  refine ⟨k, j, hk, ha, ?_, ?_⟩
  · rw [apply_job (hget _) ha (right1 (by decide) (by decide) haR) (by decide) (by decide)]
    unfold jobOp
    rw [if_neg (by decide), if_neg (by decide), if_neg (by decide), if_pos (by rfl)]
    unfold unholdS
    rw [if_pos rfl, hgo _ rfl (hw 1 j.since j.til)]
  · refine ⟨setJ (giveS s b ((k : Int) + 1)) k { j with phase := 2, nodes := b, inc := j.inc + 1, since := now }, ?_, ?_⟩
    · rw [apply_job (hget _) ha (right2 (by decide) (by decide) haR ⟨h0, h1⟩) (by decide) (by decide)]
      unfold jobOp
      rw [if_neg (by decide), if_neg (by decide), if_pos (by rfl)]
      unfold startS
      rw [if_pos rfl, setJ_setJ]
    · rw [apply_job (hget _) ha (right2 (by decide) (by decide) haR ⟨h0, h1⟩) (by decide) (by decide)]
      unfold jobOp
      rw [if_neg (by decide), if_neg (by decide), if_neg (by decide), if_neg (by decide), if_pos (by rfl)]
      unfold drainS
      rw [if_pos rfl]
      split
      · exact ⟨_, 7, rfl, fun h => absurd h (by decide)⟩
      · rw [setJ_setJ]
        refine ⟨_, 0, rfl, fun _ => ?_⟩
        rw [apply_job (hget _) ha (right1 (by decide) (by decide) haR) (by decide) (by decide)]
        unfold jobOp
        rw [if_neg (by decide), if_neg (by decide), if_neg (by decide), if_neg (by decide), if_neg (by decide), if_neg (by decide), if_pos (by rfl)]
        unfold evictS
        rw [if_pos rfl, hgo _ rfl (hw 3 now now)]

end Go.Proofs.YtddhbokknbmdfaaDoor

/- Layer 9, plain mathematics: the first state may be; the document's example. No program is named here. -/
namespace Go.Proofs.YtddhbokknbmdfaaDoor

theorem RightP.first {c : Cf} (hm : mayC c = true) : RightP c (newS c.nodes.toNat) := by
  have h1 : 1 ≤ c.nodes ∧ 0 ≤ c.quota := by
    simp only [mayC, Bool.and_eq_true, inR_iff] at hm
    omega
  have hget : ∀ (i : Nat) (n : Nd), (newS c.nodes.toNat).nodes[i]? = some n → n = newN := fun i n h => by
    unfold newS at h
    dsimp only at h
    rw [List.getElem?_replicate] at h
    split at h
    · exact (Option.some.inj h).symm
    · cases h
  refine ⟨hm, ?_, by show ([] : List Jb).length ≤ 24; simp, by show (1 : Int) ≤ 1; omega, by show (1 : Int) ≤ 9; omega, by show (1 : Int) ≤ 1; omega, by show (1 : Int) ≤ 9; omega, by show (0 : Int) ≤ 0; omega, by show (0 : Int) ≤ 2; omega, by show (0 : Int) ≤ 0; omega, by show (0 : Int) ≤ 1000000; omega, fun i n h => ?_, fun k j h => ?_, fun q _ => ?_⟩
  · show ((List.replicate c.nodes.toNat newN).length : Int) = c.nodes
    rw [List.length_replicate]
    omega
  · rw [hget i n h]
    exact ⟨by decide, by decide, by decide, by show (0 : Int) ≤ _; omega, fun e => by cases e⟩
  · have : ([] : List Jb)[k]? = some j := h
    simp at this
  · have : drainsS (newS c.nodes.toNat) q = 0 := rfl
    rw [this]
    exact h1.2

/-! ### The document's example -/
def exC : Cf := ⟨2, 1, 1, 1, 3, 1, 5, 0, 2000⟩
def exO1 : OpN := (1, 0, 0, 2, 2, 1, 0)
def exO2 : OpN := (9, 1, 3, 0, 0, 0, 0)
def exJ1 : Jb := ⟨0, 0, 2, 2, 1, 0, 0, 0, 0, 0, 0, 0⟩
def exJ2 : Jb := ⟨0, 0, 2, 2, 1, 0, 1, 1, 3, 0, 0, 0⟩
def exN2 : Nd := ⟨true, false, false, 1, 1⟩
def exS1 : St := ⟨[newN, newN], [exJ1], 1, 1, 0, 0⟩
def exS2 : St := ⟨[exN2, exN2], [exJ2], 1, 1, 0, 0⟩
theorem ex_may : mayC exC = true := by decide
theorem ex_first : newS exC.nodes.toNat = ⟨[newN, newN], [], 1, 1, 0, 0⟩ := rfl
theorem ex_one : applyS exC (newS exC.nodes.toNat) exO1 = (exS1, 0) := by
  have hr : rightO exO1 = true := by decide +kernel
  unfold applyS
  rw [if_neg (by rw [hr]; simp)]
  unfold doS
  rw [if_pos (by rfl)]
  unfold submitS
  have ha : askedJ exC (newJ exO1) = true := by decide
  rw [if_neg (by rw [ha]; simp), if_neg (by rw [ex_first]; decide)]
  rfl
theorem ex_right0 : RightP exC (newS exC.nodes.toNat) := RightP.first ex_may
theorem ex_right1 : RightP exC exS1 := by
  have := ex_right0.apply exO1
  rw [ex_one] at this
  exact this
theorem ex_fits : FitsP exS1 exJ1 3 := by
  have hget : ∀ (i : Nat) (n : Nd), exS1.nodes[i]? = some n → n = newN := fun i n h => by
    have hi := (List.getElem?_eq_some_iff.1 h).1
    match i, hi, h with
    | 0, _, h => exact (Option.some.inj h).symm
    | 1, _, h => exact (Option.some.inj h).symm
    | i + 2, hi, _ =>
      have : i + 2 < 2 := hi
      omega
  refine ⟨by decide, by decide, by decide, by decide, fun i n _ _ hp => absurd rfl hp, fun i n k m hi _ hk _ => ?_⟩
  rw [hget i n hi, hget k m hk]
theorem ex_two : applyS exC exS1 exO2 = (exS2, 0) := by
  have hr : rightO exO2 = true := by decide +kernel
  unfold applyS
  rw [if_neg (by rw [hr]; simp)]
  unfold doS
  rw [if_neg (by decide), if_neg (by decide), if_neg (by decide), if_neg (by decide), if_neg (by decide), if_neg (by decide), if_neg (by decide)]
  have hj : jobOf exS1 exO2.2.1 = some exJ1 := rfl
  rw [hj]
  show jobOp exC exS1 9 0 exJ1 3 = _
  unfold jobOp
  rw [if_neg (by decide), if_pos (by rfl)]
  unfold holdS
  rw [if_pos (by rfl), if_pos ⟨ex_fits, by decide, by decide⟩]
  rfl
theorem ex_right2 : RightP exC exS2 := by
  have := ex_right1.apply exO2
  rw [ex_two] at this
  exact this
theorem ex_three : applyS exC exS2 exO2 = (exS2, 5) := by
  have hr : rightO exO2 = true := by decide +kernel
  unfold applyS
  rw [if_neg (by rw [hr]; simp)]
  unfold doS
  rw [if_neg (by decide), if_neg (by decide), if_neg (by decide), if_neg (by decide), if_neg (by decide), if_neg (by decide), if_neg (by decide)]
  have hj : jobOf exS2 exO2.2.1 = some exJ2 := rfl
  rw [hj]
  show jobOp exC exS2 9 0 exJ2 3 = _
  unfold jobOp
  rw [if_neg (by decide), if_pos (by rfl)]
  unfold holdS
  rw [if_neg (by decide)]

end Go.Proofs.YtddhbokknbmdfaaDoor

/- Layer 10, plain mathematics: the bytes of a state that may be. No program is named here. -/
namespace Go.Proofs.YtddhbokknbmdfaaDoor

/-- These are the state's bytes, and it may be. -/
structure IsImg (c : Cf) (bs : List UInt8) (s : St) : Prop where
  right : RightP c s
  bytes : imgB s = bs

/-- The numbers of a state that may be: of a node, one byte each; of a job, seven of one byte, and five of three. -/
theorem NodeP.nums {s : St} {n : Nd} (h : NodeP s n) (hj : s.jobs.length ≤ 24) : ∀ x ∈ ndL n, 0 ≤ x ∧ x < 128 := by
  have h1 := h.v1
  have h2 := h.v9
  have h3 := h.j0
  have h4 := h.jl
  have h5 := mark_in n
  intro x hx
  simp only [ndL, List.mem_cons, List.not_mem_nil, or_false] at hx
  rcases hx with rfl | rfl | rfl <;> omega
theorem JobP.nums {c : Cf} {s : St} {k : Nat} {j : Jb} (h : JobP c s k j) (hm : mayC c = true) (hn : s.nodes.length ≤ 6) :
    (∀ x ∈ [j.queue, j.prio, j.least, j.most, j.pin, j.phase, j.nodes], 0 ≤ x ∧ x < 128) ∧ ∀ x ∈ [j.work, j.inc, j.since, j.til, j.epoch], 0 ≤ x ∧ x < 2097152 := by
  have h1 := h.asked
  have h2 := h.p0
  have h3 := h.p4
  have h4 := h.i0
  have h5 := h.i9
  have h6 := h.s0
  have h7 := h.s9
  have h8 := h.t0
  have h9 := h.t9
  have h10 := h.e0
  have h11 := h.e9
  have h12 := h.lt64 hn
  simp only [mayC, Bool.and_eq_true, inR_iff] at hm
  simp only [askedJ, Bool.and_eq_true, inR_iff, decide_eq_true_eq] at h1
  constructor
  · intro x hx
    simp only [List.mem_cons, List.not_mem_nil, or_false] at hx
    rcases hx with rfl | rfl | rfl | rfl | rfl | rfl | rfl <;> omega
  · intro x hx
    simp only [List.mem_cons, List.not_mem_nil, or_false] at hx
    rcases hx with rfl | rfl | rfl | rfl | rfl <;> omega
theorem numsB_app (a b : List Int) : numsB (a ++ b) = numsB a ++ numsB b := by simp [numsB, List.flatMap_append]
theorem numsB_cons (a : Int) (b : List Int) : numsB (a :: b) = numB a.toNat ++ numsB b := by simp [numsB]
theorem one_byte {x : Int} (h : 0 ≤ x ∧ x < 128) : (numB x.toNat).length = 1 := by rw [numB_lo (by omega)]; rfl
theorem three_bytes {x : Int} (h : 0 ≤ x ∧ x < 2097152) : (numB x.toNat).length ≤ 3 := numB_len_le 2 _ (by omega)
theorem nd_bytes {s : St} {n : Nd} (h : NodeP s n) (hj : s.jobs.length ≤ 24) : (numsB (ndL n)).length = 3 := by
  have k := h.nums hj
  simp only [ndL, numsB_cons, List.length_append, one_byte (k _ (by simp [ndL] : markN n ∈ ndL n)), one_byte (k _ (by simp [ndL] : n.version ∈ ndL n)), one_byte (k _ (by simp [ndL] : n.job ∈ ndL n))]
  rfl
theorem jb_bytes {c : Cf} {s : St} {k : Nat} {j : Jb} (h : JobP c s k j) (hm : mayC c = true) (hn : s.nodes.length ≤ 6) : (numsB (jbL j)).length ≤ 22 := by
  obtain ⟨k1, k3⟩ := h.nums hm hn
  have a1 := one_byte (k1 j.queue (by simp))
  have a2 := one_byte (k1 j.prio (by simp))
  have a3 := one_byte (k1 j.least (by simp))
  have a4 := one_byte (k1 j.most (by simp))
  have a5 := one_byte (k1 j.pin (by simp))
  have a6 := one_byte (k1 j.phase (by simp))
  have a7 := one_byte (k1 j.nodes (by simp))
  have b1 := three_bytes (k3 j.work (by simp))
  have b2 := three_bytes (k3 j.inc (by simp))
  have b3 := three_bytes (k3 j.since (by simp))
  have b4 := three_bytes (k3 j.til (by simp))
  have b5 := three_bytes (k3 j.epoch (by simp))
  simp only [jbL, numsB_cons, List.length_append]
  have : (numsB []).length = 0 := rfl
  omega
theorem nds_bytes {s : St} (hj : s.jobs.length ≤ 24) : ∀ l : List Nd, (∀ n ∈ l, NodeP s n) → (numsB (l.flatMap ndL)).length = 3 * l.length
  | [], _ => rfl
  | n :: l, h => by
    rw [List.flatMap_cons, numsB_app, List.length_append, nd_bytes (h n (by simp)) hj, nds_bytes hj l fun m hm => h m (by simp [hm]), List.length_cons]
    omega
theorem jbs_bytes {c : Cf} {s : St} (hm : mayC c = true) (hn : s.nodes.length ≤ 6) : ∀ l : List Jb, (∀ j ∈ l, ∃ k, JobP c s k j) → (numsB (l.flatMap jbL)).length ≤ 22 * l.length
  | [], _ => Nat.le_refl _
  | j :: l, h => by
    obtain ⟨k, hk⟩ := h j (by simp)
    have h1 := jb_bytes hk hm hn
    have h2 := jbs_bytes hm hn l fun m hm => h m (by simp [hm])
    rw [List.flatMap_cons, numsB_app, List.length_append, List.length_cons]
    omega
theorem RightP.nodeM {c : Cf} {s : St} (h : RightP c s) : ∀ n ∈ s.nodes, NodeP s n := fun n hn => by
  obtain ⟨i, hi, e⟩ := List.mem_iff_getElem.1 hn
  exact h.node i n (by rw [List.getElem?_eq_getElem hi, e])
theorem RightP.jobM {c : Cf} {s : St} (h : RightP c s) : ∀ j ∈ s.jobs, ∃ k, JobP c s k j := fun j hj => by
  obtain ⟨i, hi, e⟩ := List.mem_iff_getElem.1 hj
  exact ⟨i, h.job i j (by rw [List.getElem?_eq_getElem hi, e])⟩
/-- All numbers of a state that may be are numbers of layer 1. -/
theorem RightP.nums {c : Cf} {s : St} (h : RightP c s) : (imgL s).all isNumB = true := by
  have h6 := h.len
  have hj := h.nj
  have hg1 := h.g1
  have hg9 := h.g9
  have hp1 := h.p1
  have hp9 := h.p9
  have hm0 := h.m0
  have hm2 := h.m2
  have ht0 := h.t0
  have ht9 := h.t9
  rw [List.all_eq_true]
  intro x hx
  rw [isNumB_iff]
  simp only [imgL, restL, List.mem_cons, List.mem_append, List.mem_flatMap, List.not_mem_nil, or_false] at hx
  rcases hx with rfl | ⟨n, hn, hx⟩ | rfl | ⟨j, hj', hx⟩ | rfl | rfl | rfl | rfl
  · omega
  · have := (h.nodeM n hn).nums hj x hx
    omega
  · omega
  · obtain ⟨k, hk⟩ := h.jobM j hj'
    obtain ⟨k1, k3⟩ := hk.nums h.may h6.2
    simp only [jbL, List.mem_cons, List.not_mem_nil, or_false] at hx
    have : (0 ≤ x ∧ x < 128) ∨ (0 ≤ x ∧ x < 2097152) := by
      rcases hx with rfl | rfl | rfl | rfl | rfl | rfl | rfl | rfl | rfl | rfl | rfl | rfl
      · exact .inl (k1 _ (by simp))
      · exact .inl (k1 _ (by simp))
      · exact .inl (k1 _ (by simp))
      · exact .inl (k1 _ (by simp))
      · exact .inr (k3 _ (by simp))
      · exact .inl (k1 _ (by simp))
      · exact .inl (k1 _ (by simp))
      · exact .inr (k3 _ (by simp))
      · exact .inl (k1 _ (by simp))
      · exact .inr (k3 _ (by simp))
      · exact .inr (k3 _ (by simp))
      · exact .inr (k3 _ (by simp))
    omega
  all_goals omega
theorem RightP.imgB {c : Cf} {s : St} (h : RightP c s) : imgB s = listB (imgL s) := by
  unfold Go.Proofs.YtddhbokknbmdfaaDoor.imgB
  rw [if_pos ⟨h.len.2, h.nj⟩, if_pos h.nums]
theorem RightP.imgLen {c : Cf} {s : St} (h : RightP c s) : (imgL s).length ≤ 312 := by
  rw [imgL_len]
  have := h.len
  have := h.nj
  omega
/-- A state that may be has from ten to 900 bytes. -/
theorem RightP.few {c : Cf} {s : St} (h : RightP c s) : 10 ≤ (Go.Proofs.YtddhbokknbmdfaaDoor.imgB s).length ∧ (Go.Proofs.YtddhbokknbmdfaaDoor.imgB s).length ≤ 900 := by
  have h6 := h.len
  have hj := h.nj
  have hl := h.imgLen
  have hg1 := h.g1
  have hg9 := h.g9
  have hp1 := h.p1
  have hp9 := h.p9
  have hm0 := h.m0
  have hm2 := h.m2
  have ht0 := h.t0
  have ht9 := h.t9
  have a0 := numB_pos (imgL s).length
  have b0 := numB_len_le 2 (imgL s).length (by omega)
  have a1 := one_byte (x := (s.nodes.length : Int)) (by omega)
  have a2 := one_byte (x := (s.jobs.length : Int)) (by omega)
  have a3 := one_byte (x := s.goal) (by omega)
  have a4 := one_byte (x := s.prior) (by omega)
  have a5 := one_byte (x := s.mode) (by omega)
  have a6 := three_bytes (x := s.term) (by omega)
  have b6 := numB_pos s.term.toNat
  have hn := nds_bytes hj s.nodes h.nodeM
  have hb := jbs_bytes h.may h6.2 s.jobs h.jobM
  rw [h.imgB]
  have e : (listB (imgL s)).length = (numB (imgL s).length).length + ((numB (s.nodes.length : Int).toNat).length + ((numsB (s.nodes.flatMap ndL)).length + ((numB (s.jobs.length : Int).toNat).length + ((numsB (s.jobs.flatMap jbL)).length + ((numB s.goal.toNat).length + ((numB s.prior.toNat).length + ((numB s.mode.toNat).length + (numB s.term.toNat).length))))))) := by
    simp only [listB, List.length_append]
    congr 1
    unfold imgL restL
    simp only [numsB_cons, numsB_app, List.length_append]
    have : (numsB []).length = 0 := rfl
    omega
  omega
/-- What is read of a state's bytes, whatever stands behind. -/
theorem RightP.read {c : Cf} {s : St} (h : RightP c s) (rest : List UInt8) (most : Int) (hm : 312 ≤ most) :
    listAt (Go.Proofs.YtddhbokknbmdfaaDoor.imgB s ++ rest) 0 most = some ((imgL s).map Int.toNat, (Go.Proofs.YtddhbokknbmdfaaDoor.imgB s).length) := by
  rw [h.imgB]
  have hl := h.imgLen
  have := listAt_put (imgL s) [] rest most h.nums (by omega) (by omega)
  simpa using this
theorem RightP.numsBack {c : Cf} {s : St} (h : RightP c s) : ((imgL s).map Int.toNat).map (fun (n : Nat) => (n : Int)) = imgL s := toNat_back _ h.nums
theorem IsImg.one {c c' : Cf} {bs : List UInt8} {s t : St} (h : IsImg c bs s) (h' : IsImg c' bs t) : s = t := by
  have h1 := h.right.read [] 400 (by omega)
  have h2 := h'.right.read [] 400 (by omega)
  rw [h.bytes] at h1
  rw [h'.bytes, h1] at h2
  injection h2 with h2
  injection h2 with h2 _
  have h3 := congrArg (List.map fun (n : Nat) => (n : Int)) h2
  rw [h.right.numsBack, h'.right.numsBack] at h3
  exact imgL_inj h3
/-- A beginning of a state's bytes is none's. -/
theorem IsImg.first {c c' : Cf} {bs : List UInt8} {s t : St} {n : Nat} (h : IsImg c bs s) (h' : IsImg c' (bs.take n) t) : bs.length ≤ n := by
  have h1 := h.right.read [] 400 (by omega)
  have h2 := h'.right.read (bs.drop n) 400 (by omega)
  rw [h.bytes, List.append_nil] at h1
  rw [h'.bytes, List.take_append_drop, h1] at h2
  injection h2 with h2
  injection h2 with _ h2
  rw [List.length_take] at h2
  omega
/-- Bytes that are read to their end, of good numbers, are those of the state that these tell. -/
theorem IsImg.of_read {c : Cf} {bs : List UInt8} {l : List Nat} {most : Int} (hr : listAt bs 0 most = some (l, bs.length)) (hg : GoodL (l.map fun (n : Nat) => (n : Int))) (hp : RightP c (stOf (l.map fun (n : Nat) => (n : Int)))) : IsImg c bs (stOf (l.map fun (n : Nat) => (n : Int))) := by
  refine ⟨hp, ?_⟩
  have h0 : ∀ i, 0 ≤ at_ (l.map fun (n : Nat) => (n : Int)) i := fun i => by
    unfold at_
    rw [List.getD_eq_getElem?_getD, List.getElem?_map]
    cases l[i]? with
    | none => exact Int.le_refl 0
    | some n => exact Int.natCast_nonneg n
  rw [hp.imgB, hg.img h0]
  have := (listAt_get hr).2
  simpa using this

end Go.Proofs.YtddhbokknbmdfaaDoor

/- Layer 9, plain mathematics: as many nodes have a job as the jobs have nodes (P9.4). No program is named here. -/
namespace Go.Proofs.YtddhbokknbmdfaaDoor

theorem cnt_range {α : Type} {f : α → Bool} : ∀ (L : List α) (n : Nat) (p : Nat → Bool), L.length ≤ n → (∀ i, p i = (match L[i]? with | some x => f x | none => false)) → ((List.range n).filter p).length = (L.filter f).length
  | [], n, p, _, h => by
    have : ∀ i ∈ List.range n, ¬ p i = true := fun i _ => by rw [h i]; simp
    rw [List.filter_eq_nil_iff.2 this]
    rfl
  | x :: L, 0, p, hl, _ => by simp at hl
  | x :: L, n + 1, p, hl, h => by
    have h0 : p 0 = f x := by rw [h 0]; rfl
    have ih := cnt_range L n (fun i => p (i + 1)) (by simpa using hl) (fun i => by rw [h (i + 1)]; rfl)
    rw [List.range_succ_eq_map, List.filter_cons, List.filter_cons, h0, List.filter_map, ]
    have e : (p ∘ Nat.succ) = fun i => p (i + 1) := rfl
    rw [e]
    split
    · rw [List.length_cons, List.length_cons, List.length_map, ih]
    · rw [List.length_map, ih]
theorem cnt_split {α : Type} {f g h : α → Bool} : ∀ (L : List α), (∀ x ∈ L, (if f x = true then 1 else 0) + (if g x = true then 1 else 0) = (if h x = true then 1 else 0 : Nat)) → (L.filter f).length + (L.filter g).length = (L.filter h).length
  | [], _ => rfl
  | x :: L, hx => by
    have ih := cnt_split L fun y hy => hx y (List.mem_cons_of_mem _ hy)
    have h0 := hx x List.mem_cons_self
    revert h0
    simp only [List.filter_cons]
    cases f x <;> cases g x <;> cases h x <;> intro h0 <;> simp at h0 <;> simp <;> omega

theorem hasS_high {set : Int} {n i : Nat} (h0 : 0 ≤ set) (h1 : set < 2 ^ n) (hi : n ≤ i) : hasS set i = false := by
  obtain ⟨m, rfl⟩ := Int.eq_ofNat_of_zero_le h0
  rw [hasS_nat]
  apply Nat.testBit_lt_two_pow
  have h2 : m < 2 ^ n := by
    have : ((2 : Int) ^ n) = ((2 ^ n : Nat) : Int) := by simp
    rw [this] at h1
    exact Int.ofNat_lt.1 h1
  exact Nat.lt_of_lt_of_le h2 (Nat.pow_le_pow_right (by decide) hi)

theorem RightP.many {c : Cf} {s : St} {k : Nat} {j : Jb} (h : RightP c s) (hk : s.jobs[k]? = some j) : manyS j.nodes = (s.nodes.filter fun n => decide (n.job = (k : Int) + 1)).length := by
  have hJ := h.job k j hk
  unfold manyS
  refine cnt_range s.nodes 6 _ h.len.2 fun i => ?_
  cases hi : s.nodes[i]? with
  | some n =>
    show hasS j.nodes i = decide (n.job = (k : Int) + 1)
    rw [Bool.eq_iff_iff, decide_eq_true_iff]
    exact (hJ.own i n hi).symm
  | none =>
    show hasS j.nodes i = false
    have hlen : s.nodes.length ≤ i := List.getElem?_eq_none_iff.1 hi
    by_cases hp : 1 ≤ j.phase ∧ j.phase ≤ 3
    · have hf := hJ.fits hp.1 hp.2
      exact hasS_high hf.low hf.high hlen
    · rw [hJ.none_ hp, hasS_zero]

def sumM (l : List Jb) : Nat := (l.map fun j => manyS j.nodes).sum
theorem sumM_snoc (l : List Jb) (j : Jb) : sumM (l ++ [j]) = sumM l + manyS j.nodes := by simp [sumM]
theorem RightP.sums {c : Cf} {s : St} (h : RightP c s) : ∀ K, K ≤ s.jobs.length → sumM (s.jobs.take K) = (s.nodes.filter fun n => decide (0 < n.job ∧ n.job ≤ (K : Int))).length
  | 0, _ => by
    have : ∀ n ∈ s.nodes, ¬ (decide (0 < n.job ∧ n.job ≤ ((0 : Nat) : Int)) = true) := fun n _ => by simp
    rw [List.filter_eq_nil_iff.2 this]
    rfl
  | K + 1, hK => by
    have hk : s.jobs[K]? = some s.jobs[K] := List.getElem?_eq_getElem (by omega)
    have ih := h.sums K (by omega)
    have hm := h.many hk
    rw [List.take_add_one, hk, Option.toList_some, sumM_snoc, ih, hm]
    refine cnt_split s.nodes fun n _ => ?_
    simp only [decide_eq_true_iff]
    have e : ((K + 1 : Nat) : Int) = (K : Int) + 1 := by simp
    rw [e]
    by_cases h1 : 0 < n.job ∧ n.job ≤ (K : Int)
    · rw [if_pos h1, if_neg (by omega), if_pos (by omega)]
    · by_cases h2 : n.job = (K : Int) + 1
      · rw [if_neg h1, if_pos h2, if_pos (by omega)]
      · rw [if_neg h1, if_neg h2, if_neg (by omega)]
/-- As many nodes have a job as the jobs have nodes. -/
theorem RightP.frees {c : Cf} {s : St} (h : RightP c s) : sumM s.jobs = (s.nodes.filter fun n => decide (0 < n.job)).length := by
  have h1 := h.sums s.jobs.length (Nat.le_refl _)
  rw [List.take_length] at h1
  rw [h1]
  congr 1
  apply List.filter_congr
  intro n hn
  obtain ⟨i, hi⟩ := List.mem_iff_getElem?.1 hn
  have := (h.node i n hi).jl
  rw [Bool.eq_iff_iff]
  simp
  omega
theorem sumM_le {l : List Jb} : sumM l ≤ 6 * l.length := by
  induction l with
  | nil => exact Nat.le_refl _
  | cons j l ih =>
    have h1 : sumM (j :: l) = manyS j.nodes + sumM l := by simp [sumM]
    have h2 : manyS j.nodes ≤ 6 := by
      have := List.length_filter_le (hasS j.nodes) (List.range 6)
      simpa [manyS] using this
    rw [h1, List.length_cons]
    omega
theorem manyS_le (m : Int) : manyS m ≤ 6 := by
  have := List.length_filter_le (hasS m) (List.range 6)
  simpa [manyS] using this

end Go.Proofs.YtddhbokknbmdfaaDoor

/- Layer 9, plain mathematics: what an op may turn (P9.5): a job keeps what it was asked for, one job and one node are turned at most. No program is named here. -/
namespace Go.Proofs.YtddhbokknbmdfaaDoor

structure Kept (a b : Jb) : Prop where
  q : b.queue = a.queue
  p : b.prio = a.prio
  l : b.least = a.least
  m : b.most = a.most
  w : b.work = a.work
  pn : b.pin = a.pin
  i : a.inc ≤ b.inc
  e : a.epoch ≤ b.epoch
  z : a.phase = 4 → b = a
theorem Kept.refl (a : Jb) : Kept a a := ⟨rfl, rfl, rfl, rfl, rfl, rfl, Int.le_refl _, Int.le_refl _, fun _ => rfl⟩

structure Shape (s s' : St) : Prop where
  jobs : s'.jobs = s.jobs ∨ (∃ j, s'.jobs = s.jobs ++ [j]) ∨ ∃ k j j', s.jobs[k]? = some j ∧ s'.jobs = s.jobs.set k j' ∧ Kept j j'
  term : s.term ≤ s'.term
  ln : s'.nodes.length = s.nodes.length
  nodes : ∃ i0, ∀ (i : Nat) (a b : Nd), i ≠ i0 → s.nodes[i]? = some a → s'.nodes[i]? = some b → b.up = a.up ∧ b.cordon = a.cordon ∧ b.moving = a.moving ∧ b.version = a.version

theorem Shape.refl (s : St) : Shape s s := ⟨.inl rfl, Int.le_refl _, rfl, 0, fun i a b _ h1 h2 => by
  rw [h1] at h2
  cases h2
  exact ⟨rfl, rfl, rfl, rfl⟩⟩
/-- The nodes stay. -/
theorem Shape.ofJobs {s s' : St} (hn : s'.nodes = s.nodes) (ht : s.term ≤ s'.term) (hj : s'.jobs = s.jobs ∨ (∃ j, s'.jobs = s.jobs ++ [j]) ∨ ∃ k j j', s.jobs[k]? = some j ∧ s'.jobs = s.jobs.set k j' ∧ Kept j j') : Shape s s' :=
  ⟨hj, ht, by rw [hn], 0, fun i a b _ h1 h2 => by
    rw [hn, h1] at h2
    cases h2
    exact ⟨rfl, rfl, rfl, rfl⟩⟩
theorem Shape.ofNode {s s' : St} {i : Nat} {n' : Nd} (hn : s'.nodes = s.nodes.set i n') (ht : s.term ≤ s'.term) (hj : s'.jobs = s.jobs ∨ (∃ j, s'.jobs = s.jobs ++ [j]) ∨ ∃ k j j', s.jobs[k]? = some j ∧ s'.jobs = s.jobs.set k j' ∧ Kept j j') : Shape s s' :=
  ⟨hj, ht, by rw [hn, List.length_set], i, fun k a b hne h1 h2 => by
    rw [hn] at h2
    rcases get_set h2 with ⟨rfl, _⟩ | ⟨_, h2⟩
    · exact absurd rfl hne
    · rw [h1] at h2
      cases h2
      exact ⟨rfl, rfl, rfl, rfl⟩⟩
theorem Shape.ofGive {s s' : St} {set job : Int} (hn : s'.nodes = giveL s.nodes set job) (ht : s.term ≤ s'.term) (hj : s'.jobs = s.jobs ∨ (∃ j, s'.jobs = s.jobs ++ [j]) ∨ ∃ k j j', s.jobs[k]? = some j ∧ s'.jobs = s.jobs.set k j' ∧ Kept j j') : Shape s s' :=
  ⟨hj, ht, by rw [hn, give_len], 0, fun k a b _ h1 h2 => by
    rw [hn] at h2
    obtain ⟨n, h3, e⟩ := give_get h2
    rw [h1] at h3
    cases h3
    split at e <;> (subst e; exact ⟨rfl, rfl, rfl, rfl⟩)⟩
theorem Shape.ofGiveSet {s s' : St} {set job : Int} {i : Nat} {n' : Nd} (hn : s'.nodes = (giveL s.nodes set job).set i n') (ht : s.term ≤ s'.term) (hj : s'.jobs = s.jobs ∨ (∃ j, s'.jobs = s.jobs ++ [j]) ∨ ∃ k j j', s.jobs[k]? = some j ∧ s'.jobs = s.jobs.set k j' ∧ Kept j j') : Shape s s' :=
  ⟨hj, ht, by rw [hn, List.length_set, give_len], i, fun k a b hne h1 h2 => by
    rw [hn] at h2
    rcases get_set h2 with ⟨rfl, _⟩ | ⟨_, h2⟩
    · exact absurd rfl hne
    · obtain ⟨n, h3, e⟩ := give_get h2
      rw [h1] at h3
      cases h3
      split at e <;> (subst e; exact ⟨rfl, rfl, rfl, rfl⟩)⟩

theorem Shape.letGo {s : St} {k : Nat} {j : Jb} {ph : Int} (hk : s.jobs[k]? = some j) (hp : j.phase ≠ 4) : Shape s (letGoS s k j ph) :=
  .ofGive (set := j.nodes) (job := 0) rfl (Int.le_refl _) (.inr (.inr ⟨k, j, gone j ph, hk, rfl, ⟨rfl, rfl, rfl, rfl, rfl, rfl, Int.le_refl _, Int.le_refl _, fun h => absurd h hp⟩⟩))

/-- The job that a node has isn't ended. -/
theorem RightP.hosted {c : Cf} {s : St} {i k : Nat} {n : Nd} {j : Jb} (h : RightP c s) (hi : s.nodes[i]? = some n) (hk : s.jobs[k]? = some j) (hj : n.job = (k : Int) + 1) : 1 ≤ j.phase ∧ j.phase ≤ 3 := by
  have hJ := h.job k j hk
  have h1 := (hJ.own i n hi).1 hj
  by_cases hp : 1 ≤ j.phase ∧ j.phase ≤ 3
  · exact hp
  · rw [hJ.none_ hp, hasS_zero] at h1
    cases h1

theorem Shape.node_ops {c : Cf} {s : St} {i : Nat} {n : Nd} {kd b : Int} (h : RightP c s) (hi : s.nodes[i]? = some n) : Shape s (nodeOp s kd i n b).1 := by
  unfold nodeOp
  split
  · unfold downS
    split
    · unfold dropS
      split
      · rename_i j hj
        obtain ⟨hk, ha⟩ := jobOf_some hj
        have hp := h.hosted hi hk ha
        exact .ofGiveSet (set := j.nodes) (job := 0) (i := i) rfl (Int.le_refl _) (.inr (.inr ⟨_, j, gone j 0, hk, rfl, ⟨rfl, rfl, rfl, rfl, rfl, rfl, Int.le_refl _, Int.le_refl _, fun h => by omega⟩⟩))
      · exact .ofNode (i := i) rfl (Int.le_refl _) (.inl rfl)
    · exact .refl s
  split
  · unfold upS
    split
    · exact .refl s
    · split
      · exact .refl s
      · exact .ofNode (i := i) rfl (Int.le_refl _) (.inl rfl)
  split
  · unfold cordonS
    split
    · exact .ofNode (i := i) rfl (Int.le_refl _) (.inl rfl)
    · exact .refl s
  split
  · unfold uncordonS
    split
    · exact .ofNode (i := i) rfl (Int.le_refl _) (.inl rfl)
    · exact .refl s
  split
  · unfold moveS
    split
    · exact .ofNode (i := i) rfl (Int.le_refl _) (.inl rfl)
    · exact .refl s
  · unfold movedS
    split
    · exact .refl s
    · split
      · exact .ofNode (i := i) rfl (Int.le_refl _) (.inl rfl)
      · exact .refl s

theorem Shape.job_ops {c : Cf} {s : St} {k : Nat} {j : Jb} {kd b : Int} (hk : s.jobs[k]? = some j) : Shape s (jobOp c s kd k j b).1 := by
  have one : ∀ {s' : St} (j' : Jb), s'.nodes = s.nodes → s'.term = s.term → s'.jobs = s.jobs.set k j' → Kept j j' → Shape s s' := fun j' h1 h2 h3 h4 =>
    .ofJobs h1 (by rw [h2]; exact Int.le_refl _) (.inr (.inr ⟨k, j, j', hk, h3, h4⟩))
  unfold jobOp
  split
  · unfold cancelS
    split
    · exact .refl s
    · rename_i hp
      exact .letGo hk hp
  split
  · unfold holdS
    split
    · rename_i hp
      split
      · exact .ofGive (set := b) (job := (k : Int) + 1) rfl (Int.le_refl _) (.inr (.inr ⟨k, j, _, hk, rfl, ⟨rfl, rfl, rfl, rfl, rfl, rfl, (by show j.inc ≤ j.inc + 1; omega), Int.le_refl _, fun h => by omega⟩⟩))
      · exact .refl s
    · exact .refl s
  split
  · unfold startS
    split
    · rename_i hp
      exact one _ rfl rfl rfl ⟨rfl, rfl, rfl, rfl, rfl, rfl, Int.le_refl _, Int.le_refl _, fun h => by omega⟩
    · exact .refl s
  split
  · unfold unholdS
    split
    · exact .letGo hk (by omega)
    · exact .refl s
  split
  · unfold drainS
    split
    · split
      · exact .refl s
      · exact one _ rfl rfl rfl ⟨rfl, rfl, rfl, rfl, rfl, rfl, Int.le_refl _, Int.le_refl _, fun h => by omega⟩
    · exact .refl s
  split
  · unfold savedS
    split
    · split
      · rename_i hp he
        exact one _ rfl rfl rfl ⟨rfl, rfl, rfl, rfl, rfl, rfl, Int.le_refl _, (by show j.epoch ≤ b; omega), fun h => by omega⟩
      · exact .refl s
    · exact .refl s
  split
  · unfold evictS
    split
    · exact .letGo hk (by omega)
    · exact .refl s
  split
  · unfold doneS
    split
    · rename_i hp
      exact .letGo hk (by omega)
    · exact .refl s
  · split
    · unfold shrinkS
      split
      · split
        · exact .ofNode (i := b.toNat) rfl (Int.le_refl _) (.inr (.inr ⟨k, j, _, hk, rfl, ⟨rfl, rfl, rfl, rfl, rfl, rfl, Int.le_refl _, Int.le_refl _, fun h => by omega⟩⟩))
        · exact .refl s
      · exact .refl s
    · exact .refl s

theorem RightP.shape {c : Cf} {s : St} (h : RightP c s) (o : OpN) : Shape s (applyS c s o).1 := by
  unfold applyS
  split
  · exact .refl s
  unfold doS
  split
  · unfold submitS
    split
    · exact .refl s
    · split
      · exact .refl s
      · exact .ofJobs rfl (Int.le_refl _) (.inr (.inl ⟨_, rfl⟩))
  split
  · unfold targetS
    split
    · exact .refl s
    · exact .ofJobs rfl (Int.le_refl _) (.inl rfl)
  split
  · unfold pauseS
    split
    · exact .ofJobs rfl (Int.le_refl _) (.inl rfl)
    · exact .refl s
  split
  · unfold resumeS
    split
    · exact .ofJobs rfl (Int.le_refl _) (.inl rfl)
    · exact .refl s
  split
  · unfold abortS
    split
    · exact .refl s
    · exact .ofJobs rfl (Int.le_refl _) (.inl rfl)
  split
  · unfold newtermS
    split
    · exact .refl s
    · exact .ofJobs rfl (by show s.term ≤ s.term + 1; omega) (.inl rfl)
  split
  · split
    · rename_i n hn
      exact Shape.node_ops h hn
    · exact .refl s
  · split
    · rename_i j hj
      exact Shape.job_ops (jobOf_some hj).1
    · exact .refl s

/-- What BookKeeps asks. -/
theorem Shape.keeps {s s' : St} (h : Shape s s') : s.jobs.length ≤ s'.jobs.length ∧ ∀ (k : Nat) (a : Jb), s.jobs[k]? = some a → ∃ b, s'.jobs[k]? = some b ∧ Kept a b := by
  rcases h.jobs with e | ⟨j, e⟩ | ⟨k0, j, j', hk, e, hkp⟩
  · rw [e]
    exact ⟨Nat.le_refl _, fun k a h => ⟨a, h, .refl a⟩⟩
  · rw [e]
    exact ⟨by simp, fun k a h => ⟨a, by rw [List.getElem?_append_left (List.getElem?_eq_some_iff.1 h).1]; exact h, .refl a⟩⟩
  · rw [e]
    refine ⟨by simp, fun k a h => ?_⟩
    by_cases hc : k0 = k
    · subst hc
      rw [hk] at h
      cases h
      exact ⟨j', by rw [List.getElem?_set_self (List.getElem?_eq_some_iff.1 hk).1], hkp⟩
    · exact ⟨a, by rw [List.getElem?_set_ne hc]; exact h, .refl a⟩
/-- What BookAlone asks of jobs. -/
theorem Shape.alone {s s' : St} (h : Shape s s') : s'.jobs.length ≤ s.jobs.length + 1 ∧ ∃ k0, ∀ (k : Nat) (a : Jb), k ≠ k0 → s.jobs[k]? = some a → s'.jobs[k]? = some a := by
  rcases h.jobs with e | ⟨j, e⟩ | ⟨k0, j, j', hk, e, hkp⟩
  · rw [e]
    exact ⟨by omega, 0, fun k a _ h => h⟩
  · rw [e]
    exact ⟨by simp, 0, fun k a _ h => by rw [List.getElem?_append_left (List.getElem?_eq_some_iff.1 h).1]; exact h⟩
  · rw [e]
    exact ⟨by simp, k0, fun k a hne h => by rw [List.getElem?_set_ne (Ne.symm hne)]; exact h⟩

end Go.Proofs.YtddhbokknbmdfaaDoor
