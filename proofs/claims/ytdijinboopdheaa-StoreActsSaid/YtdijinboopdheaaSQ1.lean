/- Texts that the proof of S rests on, one behind the other. -/
import Derived.WalkKit

/- Layer 11, plain mathematics: a store of checkpoints as 24 pairs, and as a list of points. No program is named here. -/
namespace Go.Proofs.Ytdijinboopdheaa

/-- A checkpoint: its epoch (0: none), its data. -/
structure CkP where
  ep : Int
  da : List UInt8
/-- A job's: the one that counts, the one that is staged. -/
structure PrP where
  c : CkP
  s : CkP
def zCk : CkP := ⟨0, []⟩
def zPr : PrP := ⟨zCk, zCk⟩
structure StoP where
  room : Int
  term : Int
  jobs : List PrP
  writes : Int
def isJ (job : Int) : Bool := decide (1 ≤ job) && decide (job ≤ 24)
def ofJ (S : StoP) (job : Int) : PrP := if isJ job then S.jobs.getD (job - 1).toNat zPr else zPr
def setJ (S : StoP) (job : Int) (p : PrP) : StoP := if isJ job then { S with jobs := S.jobs.set (job - 1).toNat p } else S
def wtP (p : PrP) : Nat := p.c.da.length + p.s.da.length
def usedJ (l : List PrP) : Nat := (l.map wtP).sum
def newS (room : Int) : StoP := ⟨max room 0, 0, List.replicate 24 zPr, 0⟩
def isC (c : CkP) (e : Int) : Bool := decide (0 < c.ep) && decide (c.ep = e)
def stageS (S : StoP) (term job epoch : Int) (d : List UInt8) : Int × StoP :=
  if term < S.term then (6, S)
  else if ¬ (isJ job = true ∧ 1 ≤ epoch ∧ epoch ≤ 1000000 ∧ 1 ≤ d.length ∧ d.length ≤ 100) then (1, S)
  else if epoch ≤ (ofJ S job).c.ep ∨ epoch < (ofJ S job).s.ep then (6, S)
  else if isC (ofJ S job).s epoch = true then (0, S)
  else if S.room < (usedJ S.jobs : Int) - ((ofJ S job).s.da.length : Int) + (d.length : Int) then (3, S)
  else (0, { setJ S job ⟨(ofJ S job).c, ⟨epoch, d⟩⟩ with writes := S.writes + 1 })
def commitS (S : StoP) (job epoch : Int) : Int × StoP :=
  if isC (ofJ S job).c epoch = true then (0, S)
  else if isC (ofJ S job).s epoch = true then (0, setJ S job ⟨(ofJ S job).s, zCk⟩)
  else (4, S)
def getS (S : StoP) (job epoch : Int) : List UInt8 × Bool :=
  if isC (ofJ S job).c epoch = true then ((ofJ S job).c.da, true)
  else if isC (ofJ S job).s epoch = true then ((ofJ S job).s.da, true)
  else ([], false)
def endS (S : StoP) (job : Int) : StoP := setJ S job zPr
def fenceS (S : StoP) (term : Int) : StoP := { S with term := max S.term term }

structure OkP (p : PrP) : Prop where
  c0 : 0 ≤ p.c.ep
  cd : p.c.ep = 0 ↔ p.c.da = []
  s0 : 0 ≤ p.s.ep
  sd : p.s.ep = 0 ↔ p.s.da = []
  lt : p.s.ep = 0 ∨ p.c.ep < p.s.ep
  cl : p.c.da.length ≤ 100
  sl : p.s.da.length ≤ 100
structure OkS (S : StoP) : Prop where
  len : S.jobs.length = 24
  each : ∀ p ∈ S.jobs, OkP p
  room : (usedJ S.jobs : Int) ≤ S.room
  term : 0 ≤ S.term

theorem okP_zero : OkP zPr := ⟨by decide, by simp [zPr, zCk], by decide, by simp [zPr, zCk], .inl rfl, by decide, by decide⟩
theorem isJ_iff {job : Int} : isJ job = true ↔ 1 ≤ job ∧ job ≤ 24 := by simp [isJ]
theorem isC_iff {c : CkP} {e : Int} : isC c e = true ↔ 0 < c.ep ∧ c.ep = e := by simp [isC]
theorem ofJ_no {S : StoP} {job : Int} (h : isJ job = false) : ofJ S job = zPr := by simp [ofJ, h]
theorem setJ_no {S : StoP} {job : Int} {p : PrP} (h : isJ job = false) : setJ S job p = S := by simp [setJ, h]
theorem OkS.idx {S : StoP} (h : OkS S) {job : Int} (hj : isJ job = true) : (job - 1).toNat < S.jobs.length := by have h1 := isJ_iff.1 hj; have h2 := h.len; omega
theorem OkS.ofJ_mem {S : StoP} (h : OkS S) {job : Int} (hj : isJ job = true) : ofJ S job ∈ S.jobs := by
  have h1 := h.idx hj
  simp only [ofJ, hj, if_true, List.getD_eq_getElem?_getD, List.getElem?_eq_getElem h1, Option.getD_some]
  exact List.getElem_mem h1
theorem OkS.of {S : StoP} (h : OkS S) (job : Int) : OkP (ofJ S job) := by
  cases hj : isJ job with
  | true => exact h.each _ (h.ofJ_mem hj)
  | false => rw [ofJ_no hj]; exact okP_zero
theorem ofJ_setJ {S : StoP} (h : S.jobs.length = 24) {job : Int} (hj : isJ job = true) (p : PrP) (j : Int) : ofJ (setJ S job p) j = if j = job then p else ofJ S j := by
  have h1 := isJ_iff.1 hj
  by_cases hjj : isJ j = true
  · have h2 := isJ_iff.1 hjj
    simp only [ofJ, setJ, hj, hjj, if_true, List.getD_eq_getElem?_getD, List.getElem?_set]
    by_cases e : j = job
    · rw [if_pos e, if_pos (by omega : (job - 1).toNat = (j - 1).toNat), if_pos (by omega)]; rfl
    · rw [if_neg e, if_neg (by omega)]
  · have e : ¬ j = job := fun e => hjj (by rw [e]; exact hj)
    rw [if_neg e, ofJ_no (by simpa using hjj), ofJ_no (by simpa using hjj)]
theorem usedJ_set : ∀ (l : List PrP) (k : Nat) (p : PrP), k < l.length → usedJ (l.set k p) + wtP (l.getD k zPr) = usedJ l + wtP p
  | [], k, p, h => absurd h (by simp)
  | a :: l, 0, p, _ => by simp [usedJ]; omega
  | a :: l, k + 1, p, h => by
    have := usedJ_set l k p (by simpa using h)
    simp only [usedJ, List.set_cons_succ, List.map_cons, List.sum_cons, List.getD_cons_succ] at this ⊢
    omega
theorem OkS.used_set {S : StoP} (h : OkS S) {job : Int} (hj : isJ job = true) (p : PrP) : usedJ (setJ S job p).jobs + wtP (ofJ S job) = usedJ S.jobs + wtP p := by
  have := usedJ_set S.jobs (job - 1).toNat p (h.idx hj)
  simp only [setJ, ofJ, hj, if_true]
  exact this
theorem OkS.set {S : StoP} (h : OkS S) {job : Int} (hj : isJ job = true) (p : PrP) (hp : OkP p) (hr : (usedJ S.jobs : Int) + wtP p ≤ S.room + wtP (ofJ S job)) : OkS (setJ S job p) := by
  have h1 := h.used_set hj p
  have e : setJ S job p = { S with jobs := S.jobs.set (job - 1).toNat p } := by simp [setJ, hj]
  refine ⟨?_, ?_, ?_, ?_⟩
  · rw [e]; show (S.jobs.set _ _).length = 24; rw [List.length_set]; exact h.len
  · rw [e]; intro q hq
    rcases List.mem_or_eq_of_mem_set hq with hq | rfl
    · exact h.each q hq
    · exact hp
  · have e2 : (setJ S job p).room = S.room := by rw [e]
    rw [e2]; omega
  · rw [e]; exact h.term
theorem usedJ_zero : usedJ (List.replicate 24 zPr) = 0 := by decide
theorem okS_new (room : Int) : OkS (newS room) :=
  ⟨by simp [newS], fun p hp => by rw [List.eq_of_mem_replicate hp]; exact okP_zero, by show ((usedJ (List.replicate 24 zPr) : Nat) : Int) ≤ max room 0; rw [usedJ_zero]; omega, Int.le_refl 0⟩
theorem OkS.stage {S : StoP} (h : OkS S) (term job epoch : Int) (d : List UInt8) : OkS (stageS S term job epoch d).2 := by
  have ho := h.of job
  unfold stageS
  split
  · exact h
  split
  · exact h
  next h1 =>
  have h1 := Classical.not_not.1 h1
  split
  · exact h
  next h2 =>
  split
  · exact h
  split
  · exact h
  next h3 =>
  have hs := h.set h1.1 ⟨(ofJ S job).c, ⟨epoch, d⟩⟩ ⟨ho.c0, ho.cd, by show (0 : Int) ≤ epoch; omega, ⟨fun e => by exfalso; have e : epoch = 0 := e; omega, fun e => by exfalso; have e : d = [] := e; have := h1.2.2.2.1; rw [e] at this; exact absurd this (by decide)⟩, .inr (by show (ofJ S job).c.ep < epoch; omega), ho.cl, h1.2.2.2.2⟩ (by simp only [wtP]; omega)
  exact ⟨hs.len, hs.each, hs.room, hs.term⟩
theorem OkS.commit {S : StoP} (h : OkS S) (job epoch : Int) : OkS (commitS S job epoch).2 := by
  have ho := h.of job
  unfold commitS
  split
  · exact h
  split
  next h2 =>
    have h2 := isC_iff.1 h2
    cases hj : isJ job with
    | false => rw [setJ_no hj]; exact h
    | true => exact h.set hj _ ⟨ho.s0, ho.sd, Int.le_refl 0, by simp [zCk], .inl rfl, ho.sl, Nat.zero_le _⟩ (by have := h.room; simp only [wtP, zCk, List.length_nil]; omega)
  · exact h
theorem OkS.end_ {S : StoP} (h : OkS S) (job : Int) : OkS (endS S job) := by
  unfold endS
  cases hj : isJ job with
  | false => rw [setJ_no hj]; exact h
  | true => exact h.set hj _ okP_zero (by have := h.room; simp only [wtP, zPr, zCk, List.length_nil]; omega)
theorem OkS.fence {S : StoP} (h : OkS S) (term : Int) : OkS (fenceS S term) := ⟨h.len, h.each, h.room, by have := h.term; show (0:Int) ≤ max S.term term; omega⟩

/-! The document's list. -/
structure PtP where
  job : Int
  ep : Int
  cnt : Bool
  da : List UInt8
structure RsP where
  room : Int
  term : Int
  L : List PtP
  writes : Int
def hitP (job : Int) (cnt : Bool) (p : PtP) : Bool := decide (p.job = job) && (p.cnt == cnt)
def bytesP (l : List PtP) : Nat := (l.map fun p => p.da.length).sum
def epochR (R : RsP) (job : Int) (cnt : Bool) : Int := match R.L.find? (hitP job cnt) with | some p => p.ep | none => 0
def withoutR (L : List PtP) (job : Int) (cnt : Bool) : List PtP := L.filter fun p => !hitP job cnt p
def stageR (R : RsP) (term job epoch : Int) (d : List UInt8) : Int × RsP :=
  if term < R.term then (6, R)
  else if ¬ (isJ job = true ∧ 1 ≤ epoch ∧ epoch ≤ 1000000 ∧ 1 ≤ d.length ∧ d.length ≤ 100) then (1, R)
  else if epoch ≤ epochR R job true ∨ epoch < epochR R job false then (6, R)
  else if epoch = epochR R job false then (0, R)
  else if R.room < (bytesP (withoutR R.L job false) : Int) + (d.length : Int) then (3, R)
  else (0, { R with L := withoutR R.L job false ++ [⟨job, epoch, false, d⟩], writes := R.writes + 1 })
def endR (R : RsP) (job : Int) : RsP := { R with L := withoutR (withoutR R.L job true) job false }
def commitR (R : RsP) (job epoch : Int) : Int × RsP :=
  if 0 < epoch ∧ epochR R job true = epoch then (0, R)
  else match R.L.find? (hitP job false) with
    | none => (4, R)
    | some p => if p.ep = epoch then (0, { endR R job with L := (endR R job).L ++ [{ p with cnt := true }] }) else (4, R)
def getR (R : RsP) (job epoch : Int) : List UInt8 × Bool :=
  match R.L.find? fun p => decide (p.job = job) && decide (p.ep = epoch) with
  | some p => (p.da, true)
  | none => ([], false)
def fenceR (R : RsP) (term : Int) : RsP := { R with term := max R.term term }
def newR (room : Int) : RsP := ⟨max room 0, 0, [], 0⟩

def ckOf (p : PrP) (cnt : Bool) : CkP := if cnt then p.c else p.s
def ptsOf (S : StoP) (job : Int) (cnt : Bool) : List PtP := if (ckOf (ofJ S job) cnt).ep = 0 then [] else [⟨job, (ckOf (ofJ S job) cnt).ep, cnt, (ckOf (ofJ S job) cnt).da⟩]
structure RelP (S : StoP) (R : RsP) : Prop where
  room : S.room = R.room
  term : S.term = R.term
  writes : S.writes = R.writes
  used : usedJ S.jobs = bytesP R.L
  pts : ∀ job cnt, R.L.filter (hitP job cnt) = ptsOf S job cnt

theorem hitP_iff {job : Int} {cnt : Bool} {p : PtP} : hitP job cnt p = true ↔ p.job = job ∧ p.cnt = cnt := by simp [hitP]
theorem find_filter {α : Type} (q : α → Bool) (l : List α) : l.find? q = (l.filter q).head? := by
  rw [List.head?_filter]
theorem RelP.find {S : StoP} {R : RsP} (h : RelP S R) (job : Int) (cnt : Bool) : R.L.find? (hitP job cnt) = if (ckOf (ofJ S job) cnt).ep = 0 then none else some ⟨job, (ckOf (ofJ S job) cnt).ep, cnt, (ckOf (ofJ S job) cnt).da⟩ := by
  rw [find_filter, h.pts]
  unfold ptsOf
  split <;> rfl
theorem RelP.epoch {S : StoP} {R : RsP} (h : RelP S R) (job : Int) (cnt : Bool) : epochR R job cnt = (ckOf (ofJ S job) cnt).ep := by
  unfold epochR
  rw [h.find]
  by_cases e : (ckOf (ofJ S job) cnt).ep = 0
  · rw [if_pos e, e]
  · rw [if_neg e]
theorem bytes_split (q : PtP → Bool) : ∀ l : List PtP, bytesP (l.filter q) + bytesP (l.filter fun p => !q p) = bytesP l
  | [] => rfl
  | a :: l => by
    have := bytes_split q l
    cases hq : q a <;> simp only [List.filter_cons, hq, bytesP, List.map_cons, List.sum_cons, Bool.not_true, Bool.not_false, if_true, Bool.false_eq_true, if_false] at this ⊢ <;> omega
theorem bytes_app (a b : List PtP) : bytesP (a ++ b) = bytesP a + bytesP b := by simp [bytesP]
theorem bytes_pts (S : StoP) (h : OkS S) (job : Int) (cnt : Bool) : bytesP (ptsOf S job cnt) = (ckOf (ofJ S job) cnt).da.length := by
  unfold ptsOf
  split
  next e =>
    have ho := h.of job
    cases cnt
    · have h1 := ho.sd.1 e; show bytesP [] = (ofJ S job).s.da.length; rw [h1]; rfl
    · have h1 := ho.cd.1 e; show bytesP [] = (ofJ S job).c.da.length; rw [h1]; rfl
  · simp [bytesP]
theorem RelP.without {S : StoP} {R : RsP} (hS : OkS S) (h : RelP S R) (job : Int) (cnt : Bool) : bytesP (withoutR R.L job cnt) + (ckOf (ofJ S job) cnt).da.length = usedJ S.jobs := by
  have h1 := bytes_split (hitP job cnt) R.L
  rw [h.pts, bytes_pts S hS] at h1
  have h2 := h.used
  unfold withoutR
  omega
theorem filter_without (L : List PtP) (job j : Int) (cnt c : Bool) : (withoutR L job cnt).filter (hitP j c) = if j = job ∧ c = cnt then [] else L.filter (hitP j c) := by
  unfold withoutR
  rw [List.filter_filter]
  by_cases e : j = job ∧ c = cnt
  · rw [if_pos e, e.1, e.2]
    apply List.filter_eq_nil_iff.2
    intro p _
    simp
  · rw [if_neg e]
    apply List.filter_congr
    intro p _
    cases hp : hitP j c p with
    | false => simp
    | true =>
      have h1 := hitP_iff.1 hp
      have : hitP job cnt p = false := by
        cases hq : hitP job cnt p with
        | false => rfl
        | true => exact absurd (by have h2 := hitP_iff.1 hq; exact ⟨h1.1.symm.trans h2.1, h1.2.symm.trans h2.2⟩) e
      rw [this]; rfl
theorem pts_set {S : StoP} (h : OkS S) {job : Int} (hj : isJ job = true) (p : PrP) (j : Int) (c : Bool) : ptsOf (setJ S job p) j c = if j = job then (if (ckOf p c).ep = 0 then [] else [⟨job, (ckOf p c).ep, c, (ckOf p c).da⟩]) else ptsOf S j c := by
  unfold ptsOf
  rw [ofJ_setJ h.len hj]
  by_cases e : j = job
  · rw [if_pos e, if_pos e, e]
  · rw [if_neg e, if_neg e]
theorem RelP.stage {S : StoP} {R : RsP} (hS : OkS S) (h : RelP S R) (term job epoch : Int) (d : List UInt8) :
    (stageS S term job epoch d).1 = (stageR R term job epoch d).1 ∧ RelP (stageS S term job epoch d).2 (stageR R term job epoch d).2 := by
  have e1 := h.epoch job true
  have e2 := h.epoch job false
  have hw := h.without hS job false
  have ho := hS.of job
  simp only [ckOf, if_true, Bool.false_eq_true, if_false] at e1 e2 hw
  unfold stageS stageR
  rw [e1, e2, h.term, h.room]
  by_cases c1 : term < R.term
  · rw [if_pos c1, if_pos c1]; exact ⟨rfl, h⟩
  rw [if_neg c1, if_neg c1]
  by_cases c2 : ¬ (isJ job = true ∧ 1 ≤ epoch ∧ epoch ≤ 1000000 ∧ 1 ≤ d.length ∧ d.length ≤ 100)
  · rw [if_pos c2, if_pos c2]; exact ⟨rfl, h⟩
  rw [if_neg c2, if_neg c2]
  have c2 := Classical.not_not.1 c2
  by_cases c3 : epoch ≤ (ofJ S job).c.ep ∨ epoch < (ofJ S job).s.ep
  · rw [if_pos c3, if_pos c3]; exact ⟨rfl, h⟩
  rw [if_neg c3, if_neg c3]
  by_cases c4 : epoch = (ofJ S job).s.ep
  · rw [if_pos (isC_iff.2 ⟨by omega, c4.symm⟩), if_pos c4]; exact ⟨rfl, h⟩
  rw [if_neg (fun e => c4 (isC_iff.1 e).2.symm), if_neg c4]
  have hc5 : (R.room < (usedJ S.jobs : Int) - ((ofJ S job).s.da.length : Int) + (d.length : Int)) ↔ (R.room < (bytesP (withoutR R.L job false) : Int) + (d.length : Int)) := by omega
  by_cases c5 : R.room < (bytesP (withoutR R.L job false) : Int) + (d.length : Int)
  · rw [if_pos (hc5.2 c5), if_pos c5]; exact ⟨rfl, h⟩
  rw [if_neg (fun e => c5 (hc5.1 e)), if_neg c5]
  have hu := hS.used_set c2.1 ⟨(ofJ S job).c, ⟨epoch, d⟩⟩
  have er : (setJ S job ⟨(ofJ S job).c, ⟨epoch, d⟩⟩).room = S.room := by simp [setJ, c2.1]
  have et : (setJ S job ⟨(ofJ S job).c, ⟨epoch, d⟩⟩).term = S.term := by simp [setJ, c2.1]
  refine ⟨rfl, by rw [← h.room, ← er], by rw [← h.term, ← et], by show S.writes + 1 = R.writes + 1; rw [h.writes], ?_, ?_⟩
  · show usedJ (setJ S job _).jobs = bytesP (_ ++ _)
    rw [bytes_app]
    simp only [wtP] at hu
    simp only [bytesP, List.map_cons, List.map_nil, List.sum_cons, List.sum_nil] at hw ⊢
    omega
  · intro j c
    show List.filter _ (_ ++ _) = ptsOf (setJ S job _) j c
    rw [pts_set hS c2.1, List.filter_append, filter_without, h.pts]
    by_cases ej : j = job
    · subst ej
      rw [if_pos rfl]
      cases c
      · rw [if_pos ⟨rfl, rfl⟩, List.filter_cons, if_pos (by rw [hitP_iff]; exact ⟨rfl, rfl⟩)]
        simp only [ckOf, Bool.false_eq_true, if_false]
        rw [if_neg (by omega)]; rfl
      · rw [if_neg (by simp), List.filter_cons, if_neg (by rw [hitP_iff]; simp)]
        simp [ptsOf, ckOf]
    · rw [if_neg ej, if_neg (by simp [ej]), List.filter_cons, if_neg (by rw [hitP_iff]; exact fun e => ej e.1.symm)]
      simp
theorem pts_end (S : StoP) (R : RsP) (hS : OkS S) (h : RelP S R) (job : Int) (p : PrP) (l : List PtP) (hj : isJ job = true) (hb : bytesP l = wtP p) (hl : ∀ j c, l.filter (hitP j c) = if j = job then (if (ckOf p c).ep = 0 then [] else [⟨job, (ckOf p c).ep, c, (ckOf p c).da⟩]) else []) :
    RelP (setJ S job p) { endR R job with L := (endR R job).L ++ l } := by
  have er : (setJ S job p).room = S.room := by simp [setJ, hj]
  have et : (setJ S job p).term = S.term := by simp [setJ, hj]
  have ew : (setJ S job p).writes = S.writes := by simp [setJ, hj]
  have hu := hS.used_set hj p
  have f1 := bytes_split (hitP job true) R.L
  have f2 := bytes_split (hitP job false) (withoutR R.L job true)
  rw [filter_without, if_neg (by simp), h.pts, bytes_pts S hS] at f2
  rw [h.pts, bytes_pts S hS] at f1
  refine ⟨by rw [er]; exact h.room, by rw [et]; exact h.term, by rw [ew]; exact h.writes, ?_, ?_⟩
  · show usedJ (setJ S job p).jobs = bytesP (withoutR (withoutR R.L job true) job false ++ l)
    rw [bytes_app, hb]
    have h3 := h.used
    simp only [ckOf, if_true, Bool.false_eq_true, if_false] at f1 f2
    rw [show wtP (ofJ S job) = (ofJ S job).c.da.length + (ofJ S job).s.da.length from rfl] at hu
    unfold withoutR at f2 ⊢
    omega
  · intro j c
    show List.filter _ (withoutR (withoutR R.L job true) job false ++ l) = _
    rw [pts_set hS hj, List.filter_append, filter_without, filter_without, h.pts, hl]
    by_cases ej : j = job
    · rw [if_pos ej, if_pos ej]
      cases c
      · rw [if_pos ⟨ej, rfl⟩]; rfl
      · rw [if_neg (by simp), if_pos ⟨ej, rfl⟩]; rfl
    · rw [if_neg ej, if_neg ej, if_neg (fun e => ej e.1), if_neg (fun e => ej e.1), List.append_nil]
theorem RelP.none_ {S : StoP} {R : RsP} (h : RelP S R) {job : Int} (hj : isJ job = false) (c : Bool) : ∀ p ∈ R.L, hitP job c p = false := by
  have h1 := h.pts job c
  unfold ptsOf at h1
  rw [ofJ_no hj, if_pos (by cases c <;> rfl)] at h1
  intro p hp
  simpa using List.filter_eq_nil_iff.1 h1 p hp
theorem RelP.end_ {S : StoP} {R : RsP} (hS : OkS S) (h : RelP S R) (job : Int) : RelP (endS S job) (endR R job) := by
  cases hj : isJ job with
  | true =>
    have := pts_end S R hS h job zPr [] hj rfl (fun j c => by
      rw [if_pos (show (ckOf zPr c).ep = 0 by cases c <;> rfl)]; simp)
    rw [List.append_nil] at this
    exact this
  | false =>
    unfold endS
    rw [setJ_no hj]
    have e : endR R job = R := by
      have h1 : withoutR R.L job true = R.L := List.filter_eq_self.2 fun p hp => by rw [h.none_ hj true p hp]; rfl
      have h2 : withoutR R.L job false = R.L := List.filter_eq_self.2 fun p hp => by rw [h.none_ hj false p hp]; rfl
      unfold endR
      rw [h1, h2]
    rw [e]; exact h
theorem RelP.commit {S : StoP} {R : RsP} (hS : OkS S) (h : RelP S R) (job epoch : Int) :
    (commitS S job epoch).1 = (commitR R job epoch).1 ∧ RelP (commitS S job epoch).2 (commitR R job epoch).2 := by
  have e1 := h.epoch job true
  have e2 := h.find job false
  have ho := hS.of job
  simp only [ckOf, if_true, Bool.false_eq_true, if_false] at e1 e2
  unfold commitS commitR
  rw [e1, e2]
  by_cases c1 : isC (ofJ S job).c epoch = true
  · have c1' := isC_iff.1 c1
    rw [if_pos c1, if_pos ⟨by omega, c1'.2⟩]; exact ⟨rfl, h⟩
  rw [if_neg c1, if_neg (show ¬ (0 < epoch ∧ (ofJ S job).c.ep = epoch) from fun e => c1 (isC_iff.2 ⟨by omega, e.2⟩))]
  by_cases c2 : (ofJ S job).s.ep = 0
  · rw [if_pos c2, if_neg (fun e => by have := (isC_iff.1 e).1; omega)]; exact ⟨rfl, h⟩
  rw [if_neg c2]
  by_cases c3 : (ofJ S job).s.ep = epoch
  · rw [if_pos (isC_iff.2 ⟨by have := ho.s0; omega, c3⟩)]
    simp only [c3, if_true]
    refine ⟨trivial, ?_⟩
    have hj : isJ job = true := by
      cases hj : isJ job with
      | true => rfl
      | false => rw [ofJ_no hj] at c2; exact absurd rfl c2
    refine pts_end S R hS h job ⟨(ofJ S job).s, zCk⟩ _ hj (by simp [bytesP, wtP, zCk]) (fun j c => ?_)
    rw [List.filter_cons]
    by_cases ej : j = job
    · subst ej
      rw [if_pos rfl]
      cases c
      · rw [if_neg (by rw [hitP_iff]; simp)]; rfl
      · rw [if_pos (by rw [hitP_iff]; exact ⟨rfl, rfl⟩), if_neg (show ¬ (ckOf ⟨(ofJ S j).s, zCk⟩ true).ep = 0 from c2)]
        simp [ckOf, c3]
    · rw [if_neg ej, if_neg (by rw [hitP_iff]; exact fun e => ej e.1.symm)]; rfl
  · rw [if_neg (fun e => c3 (isC_iff.1 e).2)]
    simp only [c3, if_false]
    exact ⟨trivial, h⟩
theorem RelP.mem {S : StoP} {R : RsP} (h : RelP S R) (p : PtP) : p ∈ R.L ↔ (ckOf (ofJ S p.job) p.cnt).ep ≠ 0 ∧ p.ep = (ckOf (ofJ S p.job) p.cnt).ep ∧ p.da = (ckOf (ofJ S p.job) p.cnt).da := by
  have h1 := h.pts p.job p.cnt
  have h2 : p ∈ R.L ↔ p ∈ R.L.filter (hitP p.job p.cnt) := by rw [List.mem_filter]; exact ⟨fun h => ⟨h, hitP_iff.2 ⟨rfl, rfl⟩⟩, fun h => h.1⟩
  rw [h2, h1]
  unfold ptsOf
  split
  next e => simp [e]
  next e =>
    rw [List.mem_singleton]
    constructor
    · intro hp
      rw [hp] at e ⊢
      exact ⟨e, rfl, rfl⟩
    · rintro ⟨_, h3, h4⟩
      cases p
      simp only at h3 h4 ⊢
      rw [← h3, ← h4]
theorem RelP.get {S : StoP} {R : RsP} (hS : OkS S) (h : RelP S R) (job epoch : Int) : getS S job epoch = getR R job epoch := by
  have ho := hS.of job
  unfold getS getR
  cases hf : R.L.find? (fun p => decide (p.job = job) && decide (p.ep = epoch)) with
  | some p =>
    have h1 := List.find?_some hf
    simp only [Bool.and_eq_true, decide_eq_true_eq] at h1
    have h2 := (h.mem p).1 (List.mem_of_find?_eq_some hf)
    rw [h1.1, h1.2] at h2
    cases hc : p.cnt with
    | true =>
      rw [hc] at h2
      simp only [ckOf, if_true] at h2
      rw [if_pos (isC_iff.2 ⟨by have := ho.c0; omega, h2.2.1.symm⟩), ← h2.2.2]
    | false =>
      rw [hc] at h2
      simp only [ckOf, Bool.false_eq_true, if_false] at h2
      have h3 : isC (ofJ S job).s epoch = true := isC_iff.2 ⟨by have := ho.s0; omega, h2.2.1.symm⟩
      rw [if_neg (fun e => by have := isC_iff.1 e; have := ho.lt; omega), if_pos h3, ← h2.2.2]
  | none =>
    have h1 := List.find?_eq_none.1 hf
    have h2 : ∀ c : Bool, ¬ isC (ckOf (ofJ S job) c) epoch = true := by
      intro c e
      have e := isC_iff.1 e
      have h3 := (h.mem ⟨job, epoch, c, (ckOf (ofJ S job) c).da⟩).2 ⟨by show (ckOf (ofJ S job) c).ep ≠ 0; omega, e.2.symm, rfl⟩
      exact h1 _ h3 (by simp)
    have h3 := h2 true
    have h4 := h2 false
    simp only [ckOf, if_true, Bool.false_eq_true, if_false] at h3 h4
    rw [if_neg h3, if_neg h4]
theorem RelP.fence {S : StoP} {R : RsP} (h : RelP S R) (term : Int) : RelP (fenceS S term) (fenceR R term) :=
  ⟨h.room, by show max S.term term = max R.term term; rw [h.term], h.writes, h.used, h.pts⟩
theorem relP_new (room : Int) : RelP (newS room) (newR room) :=
  ⟨rfl, rfl, rfl, by show usedJ (List.replicate 24 zPr) = 0; exact usedJ_zero, fun job cnt => by
    unfold ptsOf
    have : ofJ (newS room) job = zPr := by
      unfold ofJ newS
      split
      · rw [List.getD_eq_getElem?_getD, List.getElem?_replicate]; split <;> rfl
      · rfl
    rw [this, if_pos (by cases cnt <;> rfl)]; rfl⟩

end Go.Proofs.Ytdijinboopdheaa

/- Layer 11, plain mathematics: what follows of a store. No program is named here. -/
namespace Go.Proofs.Ytdijinboopdheaa

/-- Something that is done: its kind, a term, a job, an epoch, bytes. -/
abbrev Act4 : Type := Int × Int × Int × Int × List UInt8
def actS (S : StoP) (a : Act4) : StoP :=
  if a.1 = 0 then (stageS S a.2.1 a.2.2.1 a.2.2.2.1 a.2.2.2.2).2
  else if a.1 = 1 then (commitS S a.2.2.1 a.2.2.2.1).2
  else if a.1 = 2 then endS S a.2.2.1
  else if a.1 = 3 then fenceS S a.2.1
  else S

theorem OkS.act {S : StoP} (h : OkS S) (a : Act4) : OkS (actS S a) := by
  unfold actS
  split
  · exact h.stage _ _ _ _
  split
  · exact h.commit _ _
  split
  · exact h.end_ _
  split
  · exact h.fence _
  · exact h
theorem setJ_room (S : StoP) (j : Int) (p : PrP) : (setJ S j p).room = S.room ∧ (setJ S j p).term = S.term ∧ (setJ S j p).writes = S.writes := by unfold setJ; split <;> exact ⟨rfl, rfl, rfl⟩
theorem stage_room (S : StoP) (t j e : Int) (d : List UInt8) : (stageS S t j e d).2.room = S.room ∧ (stageS S t j e d).2.term = S.term ∧ S.writes ≤ (stageS S t j e d).2.writes ∧ (stageS S t j e d).2.writes ≤ S.writes + 1 := by
  have h := setJ_room S j ⟨(ofJ S j).c, ⟨e, d⟩⟩
  unfold stageS
  (repeat' split) <;> (try exact ⟨rfl, rfl, Int.le_refl _, by show S.writes ≤ S.writes + 1; omega⟩)
  exact ⟨h.1, h.2.1, by show S.writes ≤ S.writes + 1; omega, Int.le_refl _⟩
theorem commit_room (S : StoP) (j e : Int) : (commitS S j e).2.room = S.room ∧ (commitS S j e).2.term = S.term ∧ (commitS S j e).2.writes = S.writes := by
  have h := setJ_room S j ⟨(ofJ S j).s, zCk⟩
  unfold commitS
  (repeat' split) <;> (try exact ⟨rfl, rfl, rfl⟩)
  exact h
theorem act_room (S : StoP) (a : Act4) : (actS S a).room = S.room ∧ S.writes ≤ (actS S a).writes ∧ (actS S a).writes ≤ S.writes + 1 := by
  unfold actS
  split
  · have h := stage_room S a.2.1 a.2.2.1 a.2.2.2.1 a.2.2.2.2; exact ⟨h.1, h.2.2⟩
  split
  · have h := commit_room S a.2.2.1 a.2.2.2.1; exact ⟨h.1, by omega, by omega⟩
  split
  · have h := setJ_room S a.2.2.1 zPr; unfold endS; exact ⟨h.1, by omega, by omega⟩
  split
  · exact ⟨rfl, Int.le_refl _, by show S.writes ≤ S.writes + 1; omega⟩
  · exact ⟨rfl, Int.le_refl _, by omega⟩
theorem stage_err {S : StoP} {t j e : Int} {d : List UInt8} (h : (stageS S t j e d).1 ≠ 0) : (stageS S t j e d).2 = S := by
  unfold stageS at h ⊢
  (repeat' split) <;> (try rfl)
  simp_all
theorem get_counts {S : StoP} (h : OkS S) (job : Int) : getS S job (ofJ S job).c.ep = (if 0 < (ofJ S job).c.ep then ((ofJ S job).c.da, true) else ([], false)) := by
  have ho := h.of job
  unfold getS
  by_cases h0 : 0 < (ofJ S job).c.ep
  · rw [if_pos (isC_iff.2 ⟨h0, rfl⟩), if_pos h0]
  · rw [if_neg (fun e => h0 (isC_iff.1 e).1), if_neg (fun e => by have := isC_iff.1 e; have := ho.c0; omega), if_neg h0]
theorem stage_c {S : StoP} (h : OkS S) (t j e : Int) (d : List UInt8) (job : Int) : (ofJ (stageS S t j e d).2 job).c = (ofJ S job).c := by
  unfold stageS
  (repeat' split) <;> (try rfl)
  next h1 _ _ _ =>
  have h1 := Classical.not_not.1 h1
  have e1 := ofJ_setJ h.len h1.1 ⟨(ofJ S j).c, ⟨e, d⟩⟩ job
  have e2 : ofJ { setJ S j ⟨(ofJ S j).c, ⟨e, d⟩⟩ with writes := S.writes + 1 } job = ofJ (setJ S j ⟨(ofJ S j).c, ⟨e, d⟩⟩) job := rfl
  rw [e2, e1]
  by_cases hj : job = j
  · rw [if_pos hj, hj]
  · rw [if_neg hj]
theorem ofJ_set {S : StoP} (h : OkS S) (j : Int) (p : PrP) (job : Int) : ofJ (setJ S j p) job = if job = j ∧ isJ j = true then p else ofJ S job := by
  cases hj : isJ j with
  | true => rw [ofJ_setJ h.len hj]; by_cases e : job = j <;> simp [e]
  | false => rw [setJ_no hj]; simp
theorem commit_c {S : StoP} (h : OkS S) (j e : Int) (job : Int) : (ofJ S job).c.ep ≤ (ofJ (commitS S j e).2 job).c.ep ∧ ((ofJ (commitS S j e).2 job).c.ep = (ofJ S job).c.ep → (ofJ (commitS S j e).2 job).c = (ofJ S job).c) := by
  unfold commitS
  split
  · exact ⟨Int.le_refl _, fun _ => rfl⟩
  split
  next _ h2 =>
    have h2 := isC_iff.1 h2
    show _ ≤ (ofJ (setJ S j _) job).c.ep ∧ ((ofJ (setJ S j _) job).c.ep = _ → (ofJ (setJ S j _) job).c = _)
    rw [ofJ_set h]
    by_cases hj : job = j ∧ isJ j = true
    · rw [if_pos hj, hj.1]
      have := (h.of j).lt
      exact ⟨by show (ofJ S j).c.ep ≤ (ofJ S j).s.ep; omega, fun k => by have k : (ofJ S j).s.ep = (ofJ S j).c.ep := k; omega⟩
    · rw [if_neg hj]; exact ⟨Int.le_refl _, fun _ => rfl⟩
  · exact ⟨Int.le_refl _, fun _ => rfl⟩
theorem act_ended {S : StoP} (h : OkS S) (a : Act4) (job : Int) (ha : a.1 = 2 ∧ a.2.2.1 = job) : (ofJ (actS S a) job).c.ep = 0 := by
  unfold actS
  rw [if_neg (by omega), if_neg (by omega), if_pos ha.1, ha.2]
  unfold endS
  rw [ofJ_set h]
  cases hj : isJ job with
  | true => simp [zPr, zCk]
  | false => rw [if_neg (by simp), ofJ_no hj]; rfl
theorem act_keeps {S : StoP} (h : OkS S) (a : Act4) (job : Int) (ha : ¬ (a.1 = 2 ∧ a.2.2.1 = job)) :
    (ofJ S job).c.ep ≤ (ofJ (actS S a) job).c.ep ∧ ((ofJ (actS S a) job).c.ep = (ofJ S job).c.ep → (ofJ (actS S a) job).c = (ofJ S job).c) := by
  unfold actS
  split
  · rw [stage_c h]; exact ⟨Int.le_refl _, fun _ => rfl⟩
  split
  · exact commit_c h _ _ _
  split
  next h2 =>
    unfold endS
    rw [ofJ_set h, if_neg (fun e => ha ⟨h2, e.1.symm⟩)]; exact ⟨Int.le_refl _, fun _ => rfl⟩
  split <;> exact ⟨Int.le_refl _, fun _ => rfl⟩
/-- What is read is the same, as long as the epoch that counts is. -/
theorem get_same {S S' : StoP} (h : OkS S) (h' : OkS S') (job : Int) (hc : (ofJ S' job).c = (ofJ S job).c) : getS S' job (ofJ S job).c.ep = getS S job (ofJ S job).c.ep := by
  have h1 := get_counts h' job
  rw [hc] at h1
  rw [h1, get_counts h]
theorem fence_err {S : StoP} (t j e : Int) (d : List UInt8) (h : t < S.term) : stageS S t j e d = (6, S) := by unfold stageS; rw [if_pos h]
theorem mem_used : ∀ (l : List PrP) (p : PrP), p ∈ l → wtP p ≤ usedJ l
  | [], _, h => by simp at h
  | a :: l, p, h => by
    simp only [usedJ, List.map_cons, List.sum_cons]
    rcases List.mem_cons.1 h with rfl | h
    · omega
    · have := mem_used l p h; unfold usedJ at this; omega
/-- OK, and nothing written: it was staged, so there are bytes. -/
theorem same_used {S : StoP} (h : OkS S) (t j e : Int) (d : List UInt8) (h0 : (stageS S t j e d).1 = 0) (hw : (stageS S t j e d).2.writes = S.writes) : 0 < usedJ (stageS S t j e d).2.jobs := by
  by_cases hc : isC (ofJ S j).s e = true
  · have hu : (stageS S t j e d).2 = S ∨ True := .inr trivial
    have h1 := isC_iff.1 hc
    have ho := h.of j
    have hj : isJ j = true := by
      cases hj : isJ j with
      | true => rfl
      | false => rw [ofJ_no hj] at h1; exact absurd h1.1 (by decide)
    have hd : (ofJ S j).s.da ≠ [] := fun k => by have := ho.sd.2 k; omega
    have hp := mem_used S.jobs _ (h.ofJ_mem hj)
    have hl : 0 < (ofJ S j).s.da.length := List.length_pos_iff.2 hd
    unfold wtP at hp
    unfold stageS at h0 ⊢
    (repeat' split) <;> (try (show 0 < usedJ S.jobs; omega))
    all_goals (first | contradiction | (simp_all; done))
  · unfold stageS at h0 hw
    (repeat' split at h0) <;> (try (first | exact absurd (show (6 : Int) = 0 from h0) (by decide) | exact absurd (show (1 : Int) = 0 from h0) (by decide) | exact absurd (show (3 : Int) = 0 from h0) (by decide) | contradiction))
    · rw [if_neg (by assumption), if_neg (by assumption), if_neg (by assumption), if_neg hc, if_neg (by assumption)] at hw
      have hw : S.writes + 1 = S.writes := hw
      omega
/-- Jobs that have ended have nothing. -/
def EndedTo (S : StoP) (k : Nat) : Prop := ∀ i, i < k → S.jobs[i]? = some zPr
theorem EndedTo.next {S : StoP} (h : OkS S) {k : Nat} (hk : k < 24) (he : EndedTo S k) : EndedTo (endS S ((k : Int) + 1)) (k + 1) := by
  have hj : isJ ((k : Int) + 1) = true := isJ_iff.2 ⟨by omega, by omega⟩
  intro i hi
  unfold endS setJ
  rw [if_pos hj]
  show (S.jobs.set _ zPr)[i]? = _
  rw [List.getElem?_set]
  by_cases e : i = k
  · rw [if_pos (by omega), if_pos (by have := h.len; omega)]
  · rw [if_neg (by omega)]; exact he i (by omega)
theorem EndedTo.all {S : StoP} (h : OkS S) (he : EndedTo S 24) : S.jobs = List.replicate 24 zPr := by
  apply List.ext_getElem?
  intro i
  by_cases hi : i < 24
  · rw [he i hi, List.getElem?_replicate, if_pos hi]
  · rw [List.getElem?_eq_none (by rw [h.len]; omega), List.getElem?_eq_none (by rw [List.length_replicate]; omega)]
theorem EndedTo.counts {S : StoP} {k : Nat} (he : EndedTo S (k + 1)) (hk : k < 24) : (ofJ S ((k : Int) + 1)).c.ep = 0 := by
  have hj : isJ ((k : Int) + 1) = true := isJ_iff.2 ⟨by omega, by omega⟩
  unfold ofJ
  rw [if_pos hj, List.getD_eq_getElem?_getD, show ((k : Int) + 1 - 1).toNat = k by omega, he k (by omega)]
  rfl
theorem ended_stage {S : StoP} (h : OkS S) (he : S.jobs = List.replicate 24 zPr) (n : Nat) (hn0 : 1 ≤ n) (hn : n ≤ 100) (hr : (n : Int) ≤ S.room) (d : List UInt8) (hd : d.length = n) :
    (stageS S S.term 1 1 d).1 = 0 ∧ usedJ (stageS S S.term 1 1 d).2.jobs = n := by
  have hz : ofJ S 1 = zPr := by unfold ofJ; rw [if_pos (by decide), he]; rfl
  have hu := h.used_set (job := 1) (by decide) ⟨zCk, ⟨1, d⟩⟩
  unfold stageS
  rw [hz, he, usedJ_zero]
  rw [if_neg (by omega), if_neg (by simp [isJ]; omega), if_neg (by decide), if_neg (by decide), if_neg (by simp [zPr, zCk]; omega)]
  refine ⟨rfl, ?_⟩
  show usedJ (setJ S 1 ⟨zCk, ⟨1, d⟩⟩).jobs = n
  rw [he, usedJ_zero, hz] at hu
  simp only [wtP, zPr, zCk, List.length_nil] at hu
  show usedJ (setJ S 1 ⟨⟨0, []⟩, ⟨1, d⟩⟩).jobs = n
  omega

theorem new_ofJ (room job : Int) : ofJ (newS room) job = zPr := by
  unfold ofJ newS
  split
  · rw [List.getD_eq_getElem?_getD, List.getElem?_replicate]; split <;> rfl
  · rfl
theorem new_not (room t j e : Int) (d : List UInt8) (h : (stageS (newS room) t j e d).1 ≠ 0) : (stageS (newS room) t j e d).2 = newS room ∧ getS (newS room) j e = ([], false) ∧ usedJ (newS room).jobs = 0 ∧ commitS (newS room) j e = (4, newS room) := by
  refine ⟨stage_err h, ?_, usedJ_zero, ?_⟩
  · unfold getS; rw [new_ofJ]; rfl
  · unfold commitS; rw [new_ofJ]; rfl
/-- Staged once, twice, and made to count. -/
structure TwiceP (S1 : StoP) (t j e : Int) (a b : List UInt8) : Prop where
  same : (stageS S1 t j e b).2 = S1
  ok : 1 ≤ b.length → b.length ≤ 100 → (stageS S1 t j e b).1 = 0
  one : (commitS S1 j e).1 = 0
  two : commitS (commitS S1 j e).2 j e = (0, (commitS S1 j e).2)
  get : getS (commitS S1 j e).2 j e = (a, true)
  counts : (ofJ (commitS S1 j e).2 j).c.ep = e
  not : (stageS (commitS S1 j e).2 t j e b).1 ≠ 0
theorem twice_new (room t j e : Int) (a b : List UInt8) (h : (stageS (newS room) t j e a).1 = 0) : TwiceP (stageS (newS room) t j e a).2 t j e a b := by
  have hk := okS_new room
  have hz := new_ofJ room j
  have hs : ∃ S1, (stageS (newS room) t j e a).2 = S1 ∧ OkS S1 ∧ ofJ S1 j = ⟨zCk, ⟨e, a⟩⟩ ∧ ¬ t < S1.term ∧ isJ j = true ∧ 1 ≤ e ∧ e ≤ 1000000 := by
    refine ⟨_, rfl, hk.stage _ _ _ _, ?_⟩
    unfold stageS at h ⊢
    rw [hz] at h ⊢
    by_cases c1 : t < (newS room).term
    · rw [if_pos c1] at h; exact absurd (show (6 : Int) = 0 from h) (by decide)
    rw [if_neg c1] at h ⊢
    by_cases c2 : ¬ (isJ j = true ∧ 1 ≤ e ∧ e ≤ 1000000 ∧ 1 ≤ a.length ∧ a.length ≤ 100)
    · rw [if_pos c2] at h; exact absurd (show (1 : Int) = 0 from h) (by decide)
    rw [if_neg c2] at h ⊢
    have c2 := Classical.not_not.1 c2
    have c3 : ¬ (e ≤ zPr.c.ep ∨ e < zPr.s.ep) := by simp only [zPr, zCk]; omega
    rw [if_neg c3] at h ⊢
    have c4 : ¬ isC zPr.s e = true := fun k => by have := (isC_iff.1 k).1; simp only [zPr, zCk] at this; omega
    rw [if_neg c4] at h ⊢
    by_cases c5 : (newS room).room < (usedJ (newS room).jobs : Int) - (zPr.s.da.length : Int) + (a.length : Int)
    · rw [if_pos c5] at h; exact absurd (show (3 : Int) = 0 from h) (by decide)
    rw [if_neg c5]
    have hr := setJ_room (newS room) j ⟨zPr.c, ⟨e, a⟩⟩
    refine ⟨?_, ?_, c2.1, c2.2.1, c2.2.2.1⟩
    · show ofJ (setJ (newS room) j ⟨zPr.c, ⟨e, a⟩⟩) j = _
      rw [ofJ_setJ hk.len c2.1, if_pos rfl]; rfl
    · show ¬ t < (setJ (newS room) j ⟨zPr.c, ⟨e, a⟩⟩).term
      rw [hr.2.1]; exact c1
  obtain ⟨S1, e1, h1, hz1, ht, hj, he0, he1⟩ := hs
  rw [e1]
  have hci : isC ⟨e, a⟩ e = true := isC_iff.2 ⟨by show 0 < e; omega, rfl⟩
  have hcn : ¬ isC zCk e = true := fun k => by have := (isC_iff.1 k).1; simp only [zCk] at this; omega
  have hc1 : commitS S1 j e = (0, setJ S1 j ⟨⟨e, a⟩, zCk⟩) := by
    unfold commitS
    rw [hz1, if_neg hcn, if_pos hci]
  have hz2 : ofJ (setJ S1 j ⟨⟨e, a⟩, zCk⟩) j = ⟨⟨e, a⟩, zCk⟩ := by rw [ofJ_setJ h1.len hj, if_pos rfl]
  have hr := setJ_room S1 j ⟨⟨e, a⟩, zCk⟩
  have hst : ∀ b, stageS S1 t j e b = (if ¬ (isJ j = true ∧ 1 ≤ e ∧ e ≤ 1000000 ∧ 1 ≤ b.length ∧ b.length ≤ 100) then (1, S1) else (0, S1)) := by
    intro b
    unfold stageS
    rw [hz1, if_neg ht]
    by_cases c2 : ¬ (isJ j = true ∧ 1 ≤ e ∧ e ≤ 1000000 ∧ 1 ≤ b.length ∧ b.length ≤ 100)
    · rw [if_pos c2, if_pos c2]
    · rw [if_neg c2, if_neg c2, if_neg (by simp only [zCk]; omega), if_pos hci]
  refine ⟨?_, fun h1 h2 => ?_, by rw [hc1], ?_, ?_, ?_, ?_⟩
  · rw [hst]; split <;> rfl
  · rw [hst, if_neg (Classical.not_not.2 ⟨hj, he0, he1, h1, h2⟩)]
  · rw [hc1]; show commitS (setJ S1 j ⟨⟨e, a⟩, zCk⟩) j e = _
    unfold commitS
    rw [hz2, if_pos hci]
  · rw [hc1]; show getS (setJ S1 j ⟨⟨e, a⟩, zCk⟩) j e = _
    unfold getS
    rw [hz2, if_pos hci]
  · rw [hc1]; show (ofJ (setJ S1 j ⟨⟨e, a⟩, zCk⟩) j).c.ep = e
    rw [hz2]
  · rw [hc1]; show (stageS (setJ S1 j ⟨⟨e, a⟩, zCk⟩) t j e b).1 ≠ 0
    unfold stageS
    rw [hz2]
    (repeat' split) <;> (try (show (6 : Int) ≠ 0; decide)) <;> (try (show (1 : Int) ≠ 0; decide))
    all_goals (exfalso; simp only [not_or] at *; omega)

end Go.Proofs.Ytdijinboopdheaa

/- Layer 11, plain mathematics: the document's example. No program is named here. -/
namespace Go.Proofs.Ytdijinboopdheaa

def exSa : StoP := newS 5
def exSb : StoP := (stageS exSa 0 1 2 [97, 98, 99]).2
def exSc : StoP := (commitS exSb 1 2).2
theorem exS_a : OkS exSa := okS_new 5
theorem exS_b : OkS exSb := exS_a.stage _ _ _ _
theorem exS_c : OkS exSc := exS_b.commit _ _
theorem exS_1 : (stageS exSa 0 1 2 [97, 98, 99]).1 = 0 := by decide
theorem exS_2 : (commitS exSb 1 2).1 = 0 := by decide
theorem exS_3 : getS exSc 1 2 = ([97, 98, 99], true) := by decide
theorem exS_4 : (stageS exSc 0 1 3 [120, 121, 122]).1 = 3 := by decide
theorem exS_5 : (stageS exSc 0 1 2 [120]).1 = 6 := by decide
theorem exS_6 : usedJ exSc.jobs = 3 := by decide
theorem exS_7 : (ofJ exSc 1).c.ep = 2 := by decide
theorem exS_8 : exSc.writes = 1 := by decide
theorem exS_9 : exSc.term = 0 := by decide
theorem exS_4' : (stageS exSc 0 1 3 [120, 121, 122]).2 = exSc := stage_err (by rw [exS_4]; decide)
theorem exS_5' : (stageS exSc 0 1 2 [120]).2 = exSc := stage_err (by rw [exS_5]; decide)

end Go.Proofs.Ytdijinboopdheaa

/- Layer 1, plain mathematics: the bytes of a number, by its groups of seven bits; no program is named here. -/
namespace Go.Proofs.Ytdijinboopdheaa

/-- A number's bytes. -/
def numB (n : Nat) : List UInt8 := if h : n < 128 then [UInt8.ofNat n] else UInt8.ofNat (n % 128 + 128) :: numB (n / 128)

theorem numB_lo {n : Nat} (h : n < 128) : numB n = [UInt8.ofNat n] := by rw [numB, dif_pos h]
theorem numB_hi {n : Nat} (h : ¬ n < 128) : numB n = UInt8.ofNat (n % 128 + 128) :: numB (n / 128) := by rw [numB, dif_neg h]

theorem u8_toNat (n : Nat) : (UInt8.ofNat n).toNat = n % 256 := by simp

theorem numB_len_le (k : Nat) : ∀ n, n < 128 ^ (k + 1) → (numB n).length ≤ k + 1 := by
  induction k with
  | zero => intro n h; rw [numB_lo (by simpa using h)]; simp
  | succ k ih =>
    intro n h
    by_cases hn : n < 128
    · rw [numB_lo hn]; simp
    · rw [numB_hi hn, List.length_cons]
      have := ih (n / 128) (by rw [Nat.div_lt_iff_lt_mul (by omega)]; rw [Nat.pow_succ] at h; exact h)
      omega
theorem numB_pos (n : Nat) : 0 < (numB n).length := by
  by_cases hn : n < 128
  · rw [numB_lo hn]; simp
  · rw [numB_hi hn]; simp
theorem numB_len8 {n : Nat} (h : n < 9007199254740992) : (numB n).length ≤ 8 := numB_len_le 7 n (by omega)
theorem numB_len10 {n : Nat} (h : n < 9223372036854775808) : (numB n).length ≤ 9 := numB_len_le 8 n (by omega)

/-- What stands at the head of the bytes l: the groups up to the i-th have been read, they come to acc. -/
def scanN : Nat → List UInt8 → Nat → Nat → Option (Nat × Nat)
  | 0, _, _, _ => none
  | _ + 1, [], _, _ => none
  | k + 1, c :: r, i, acc => if 128 ≤ c.toNat then scanN k r (i + 1) (acc + 128 ^ i * (c.toNat % 128)) else
      if 9007199254740992 ≤ acc + 128 ^ i * (c.toNat % 128) ∨ (c.toNat = 0 ∧ 0 < i) then none else some (acc + 128 ^ i * (c.toNat % 128), i + 1)
def getN (l : List UInt8) : Option (Nat × Nat) := scanN 8 l 0 0

theorem or128_all : ∀ x : Fin 256, bits .or .u8 ((x.val : Nat) : Int) 128 = ((x.val % 128 + 128 : Nat) : Int) := by decide +kernel
theorem or128 (m : Nat) : bits .or .u8 ((m : Int) % 256) 128 = ((UInt8.ofNat (m % 128 + 128)).toNat : Int) := by
  have h := or128_all ⟨m % 256, by omega⟩
  simp only at h
  rw [u8_toNat]
  rw [show ((m : Int) % 256) = ((m % 256 : Nat) : Int) by omega, h]
  omega

theorem pow128 (i : Nat) : 128 ^ i = 2 ^ (7 * i) := by rw [Nat.pow_mul]
theorem pow128_le {i j : Nat} (h : i ≤ j) : 128 ^ i ≤ 128 ^ j := Nat.pow_le_pow_right (by omega) h

theorem ofInt64_toNat (a : Nat) (ha : a < 9223372036854775808) : (BitVec.ofInt 64 (a : Int)).toNat = a := by
  rw [BitVec.ofInt_natCast, BitVec.toNat_ofNat]; exact Nat.mod_eq_of_lt (by omega)
theorem i64_or_nat (a b : Nat) (ha : a < 9223372036854775808) (hb : b < 9223372036854775808) : bits .or .i64 (a : Int) (b : Int) = ((a ||| b : Nat) : Int) := by
  have hx : a ||| b < 2 ^ 63 := Nat.or_lt_two_pow (by omega) (by omega)
  show IntKind.i64.wrap ((BitVec.ofInt 64 (a : Int) ||| BitVec.ofInt 64 (b : Int)).toNat : Int) = _
  rw [BitVec.toNat_or, ofInt64_toNat a ha, ofInt64_toNat b hb, IntKind.wrap_i64]
  omega

theorem group_lt (i acc c : Nat) (_hi : i < 8) (hacc : acc < 128 ^ i) : acc + 128 ^ i * (c % 128) < 128 ^ (i + 1) := by
  rw [Nat.pow_succ]
  have : 128 ^ i * (c % 128) ≤ 128 ^ i * 127 := Nat.mul_le_mul_left _ (by omega)
  omega
theorem or_group (i acc c : Nat) (hi : i < 8) (hacc : acc < 128 ^ i) :
    bits .or .i64 (acc : Int) (RowKit.wrap64 ((c : Int) % 128 * 2 ^ (7 * i))) = ((acc + 128 ^ i * (c % 128) : Nat) : Int) := by
  have h1 := group_lt i acc c hi hacc
  have h2 := pow128_le (show i + 1 ≤ 8 by omega)
  have e : ((c : Int) % 128 * 2 ^ (7 * i)) = ((128 ^ i * (c % 128) : Nat) : Int) := by
    rw [pow128]
    simp [Int.mul_comm]
  rw [e, IntWalk.wrap64_in _ (by omega), i64_or_nat _ _ (by omega) (by omega)]
  congr 1
  rw [Nat.add_comm, pow128, Nat.two_pow_add_eq_or_of_lt (by rw [← pow128]; exact hacc), Nat.or_comm]

theorem scanN_step {k : Nat} {l r : List UInt8} {c : UInt8} (i acc : Nat) (h : l = c :: r) : scanN (k + 1) l i acc = if 128 ≤ c.toNat then scanN k r (i + 1) (acc + 128 ^ i * (c.toNat % 128)) else
      if 9007199254740992 ≤ acc + 128 ^ i * (c.toNat % 128) ∨ (c.toNat = 0 ∧ 0 < i) then none else some (acc + 128 ^ i * (c.toNat % 128), i + 1) := by rw [h, scanN]
theorem drop_cons {bs : List UInt8} {p : Nat} (h : p < bs.length) : bs.drop p = bs[p] :: bs.drop (p + 1) := List.drop_eq_getElem_cons h

/-! ### Lists of numbers -/
def isNumB (n : Int) : Bool := decide (0 ≤ n) && decide (n < 9007199254740992)
theorem isNumB_iff {n : Int} : isNumB n = true ↔ (0 ≤ n ∧ n < 9007199254740992) := by simp [isNumB]
theorem isNumB_not {n : Int} (h : isNumB n = false) : ¬ (0 ≤ n ∧ n < 9007199254740992) := by
  rw [← isNumB_iff, h]; simp
def numsB (l : List Int) : List UInt8 := l.flatMap fun n => numB n.toNat
def listB (l : List Int) : List UInt8 := numB l.length ++ numsB l

theorem numsB_snoc (l : List Int) (n : Int) : numsB (l ++ [n]) = numsB l ++ numB n.toNat := by simp [numsB, List.flatMap_append]
theorem numsB_len (l : List Int) (h : l.all isNumB = true) : (numsB l).length ≤ 8 * l.length := by
  induction l with
  | nil => simp [numsB]
  | cons n l ih =>
    simp only [List.all_cons, Bool.and_eq_true] at h
    have h1 := isNumB_iff.1 h.1
    have h2 := numB_len8 (n := n.toNat) (by omega)
    have h3 := ih h.2
    simp only [numsB, List.flatMap_cons, List.length_append, List.length_cons] at *
    omega
theorem take_snoc {α : Type} (l : List α) (k : Nat) (h : k < l.length) : l.take (k + 1) = l.take k ++ [l[k]] := by
  rw [List.take_succ_eq_append_getElem h]
theorem all_take_snoc {p : Int → Bool} {l : List Int} {k : Nat} (h : k < l.length) (hl : (l.take k).all p = true) (hk : p l[k] = true) : (l.take (k + 1)).all p = true := by
  rw [take_snoc l k h, List.all_append, hl]
  simp [hk]
theorem all_false_at {p : Int → Bool} {l : List Int} {k : Nat} (h : k < l.length) (hk : p l[k] = false) : l.all p = false := by
  rw [List.all_eq_false]
  exact ⟨l[k], List.getElem_mem h, by simp [hk]⟩

/-! ### Reading -/
theorem scanN_le : ∀ (k : Nat) (l : List UInt8) (i acc n j : Nat), scanN k l i acc = some (n, j) → i < j ∧ j - i ≤ l.length ∧ j ≤ i + k ∧ n < 9007199254740992
  | 0, _, _, _, _, _, h => by simp [scanN] at h
  | k + 1, [], _, _, _, _, h => by simp [scanN] at h
  | k + 1, c :: r, i, acc, n, j, h => by
    rw [scanN] at h
    split at h
    · have := scanN_le k r (i + 1) _ n j h
      simp only [List.length_cons]
      omega
    · split at h
      · cases h
      · rename_i hn
        simp only [Option.some.injEq, Prod.mk.injEq] at h
        obtain ⟨h1, h2⟩ := h
        simp only [List.length_cons]
        omega
theorem getN_le {l : List UInt8} {n j : Nat} (h : getN l = some (n, j)) : 0 < j ∧ j ≤ l.length ∧ j ≤ 8 ∧ n < 9007199254740992 := by
  have := scanN_le 8 l 0 0 n j h
  omega

/-- So many numbers, from a place on: they, and the place behind them. -/
def readK : Nat → List UInt8 → Nat → Option (List Nat × Nat)
  | 0, _, p => some ([], p)
  | k + 1, bs, p => match getN (bs.drop p) with
    | none => none
    | some (n, j) => match readK k bs (p + j) with
      | none => none
      | some (l, q) => some (n :: l, q)
theorem readK_le : ∀ (k : Nat) (bs : List UInt8) (p : Nat) (l : List Nat) (q : Nat), p ≤ bs.length → readK k bs p = some (l, q) → p + k ≤ q ∧ q ≤ bs.length ∧ l.length = k ∧ ∀ n ∈ l, n < 9007199254740992
  | 0, bs, p, l, q, hp, h => by
    simp only [readK, Option.some.injEq, Prod.mk.injEq] at h
    obtain ⟨rfl, rfl⟩ := h
    simp
    exact hp
  | k + 1, bs, p, l, q, hp, h => by
    rw [readK] at h
    split at h
    · cases h
    · rename_i n j hg
      split at h
      · cases h
      · rename_i l' q' hr
        simp only [Option.some.injEq, Prod.mk.injEq] at h
        obtain ⟨rfl, rfl⟩ := h
        have h1 := getN_le hg
        rw [List.length_drop] at h1
        have h2 := readK_le k bs (p + j) l' q' (by omega) hr
        refine ⟨by omega, h2.2.1, by simp [h2.2.2.1], fun m hm => ?_⟩
        rcases List.mem_cons.1 hm with rfl | hm
        · omega
        · exact h2.2.2.2 m hm
/-- The text, the list, that stands at a place, and the place behind it. -/
def textAt (bs : List UInt8) (p : Nat) : Option (List UInt8 × Nat) := match getN (bs.drop p) with
  | none => none
  | some (n, j) => if n ≤ bs.length - (p + j) then some ((bs.drop (p + j)).take n, p + j + n) else none
def listAt (bs : List UInt8) (p : Nat) (most : Int) : Option (List Nat × Nat) := match getN (bs.drop p) with
  | none => none
  | some (c, j) => if (c : Int) ≤ most then readK c bs (p + j) else none

theorem isNum_some {n : Int} (h : 0 ≤ n ∧ n < 9007199254740992) : ∃ m : Nat, n = m ∧ m < 9007199254740992 := ⟨n.toNat, by omega, by omega⟩

end Go.Proofs.Ytdijinboopdheaa
