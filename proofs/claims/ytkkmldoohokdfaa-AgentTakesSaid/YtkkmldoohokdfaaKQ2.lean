/- Texts that the proof of K rests on, one behind the other. -/
import Derived.Test.YtkkmldoohokdfaaKQ1

/- Layer 11, plain mathematics: what follows of a store. No program is named here. -/
namespace Go.Proofs.Ytkkmldoohokdfaa

/-- Something that is done: its kind, a term, a job, an epoch, bytes. -/
abbrev Act4 : Type := Int × Int × Int × Int × List UInt8
def actS (S : StoP) (a : Act4) : StoP :=
  if a.1 = 0 then (stageS S a.2.1 a.2.2.1 a.2.2.2.1 a.2.2.2.2).2
  else if a.1 = 1 then (commitS S a.2.2.1 a.2.2.2.1).2
  else if a.1 = 2 then endS S a.2.2.1
  else if a.1 = 3 then fenceS S a.2.1
  else S

theorem OkS.act {S : StoP} (h : OkS S) (a : Act4) : OkS (actS S a) := by
  unfold actS
  split
  · exact h.stage _ _ _ _
  split
  · exact h.commit _ _
  split
  · exact h.end_ _
  split
  · exact h.fence _
  · exact h
theorem setJ_room (S : StoP) (j : Int) (p : PrP) : (setJ S j p).room = S.room ∧ (setJ S j p).term = S.term ∧ (setJ S j p).writes = S.writes := by unfold setJ; split <;> exact ⟨rfl, rfl, rfl⟩
theorem stage_room (S : StoP) (t j e : Int) (d : List UInt8) : (stageS S t j e d).2.room = S.room ∧ (stageS S t j e d).2.term = S.term ∧ S.writes ≤ (stageS S t j e d).2.writes ∧ (stageS S t j e d).2.writes ≤ S.writes + 1 := by
  have h := setJ_room S j ⟨(ofJ S j).c, ⟨e, d⟩⟩
  unfold stageS
  (repeat' split) <;> (try exact ⟨rfl, rfl, Int.le_refl _, by show S.writes ≤ S.writes + 1; omega⟩)
  exact ⟨h.1, h.2.1, by show S.writes ≤ S.writes + 1; omega, Int.le_refl _⟩
theorem commit_room (S : StoP) (j e : Int) : (commitS S j e).2.room = S.room ∧ (commitS S j e).2.term = S.term ∧ (commitS S j e).2.writes = S.writes := by
  have h := setJ_room S j ⟨(ofJ S j).s, zCk⟩
  unfold commitS
  (repeat' split) <;> (try exact ⟨rfl, rfl, rfl⟩)
  exact h
theorem act_room (S : StoP) (a : Act4) : (actS S a).room = S.room ∧ S.writes ≤ (actS S a).writes ∧ (actS S a).writes ≤ S.writes + 1 := by
  unfold actS
  split
  · have h := stage_room S a.2.1 a.2.2.1 a.2.2.2.1 a.2.2.2.2; exact ⟨h.1, h.2.2⟩
  split
  · have h := commit_room S a.2.2.1 a.2.2.2.1; exact ⟨h.1, by omega, by omega⟩
  split
  · have h := setJ_room S a.2.2.1 zPr; unfold endS; exact ⟨h.1, by omega, by omega⟩
  split
  · exact ⟨rfl, Int.le_refl _, by show S.writes ≤ S.writes + 1; omega⟩
  · exact ⟨rfl, Int.le_refl _, by omega⟩
theorem stage_err {S : StoP} {t j e : Int} {d : List UInt8} (h : (stageS S t j e d).1 ≠ 0) : (stageS S t j e d).2 = S := by
  unfold stageS at h ⊢
  (repeat' split) <;> (try rfl)
  simp_all
theorem get_counts {S : StoP} (h : OkS S) (job : Int) : getS S job (ofJ S job).c.ep = (if 0 < (ofJ S job).c.ep then ((ofJ S job).c.da, true) else ([], false)) := by
  have ho := h.of job
  unfold getS
  by_cases h0 : 0 < (ofJ S job).c.ep
  · rw [if_pos (isC_iff.2 ⟨h0, rfl⟩), if_pos h0]
  · rw [if_neg (fun e => h0 (isC_iff.1 e).1), if_neg (fun e => by have := isC_iff.1 e; have := ho.c0; omega), if_neg h0]
theorem stage_c {S : StoP} (h : OkS S) (t j e : Int) (d : List UInt8) (job : Int) : (ofJ (stageS S t j e d).2 job).c = (ofJ S job).c := by
  unfold stageS
  (repeat' split) <;> (try rfl)
  next h1 _ _ _ =>
  have h1 := Classical.not_not.1 h1
  have e1 := ofJ_setJ h.len h1.1 ⟨(ofJ S j).c, ⟨e, d⟩⟩ job
  have e2 : ofJ { setJ S j ⟨(ofJ S j).c, ⟨e, d⟩⟩ with writes := S.writes + 1 } job = ofJ (setJ S j ⟨(ofJ S j).c, ⟨e, d⟩⟩) job := rfl
  rw [e2, e1]
  by_cases hj : job = j
  · rw [if_pos hj, hj]
  · rw [if_neg hj]
theorem ofJ_set {S : StoP} (h : OkS S) (j : Int) (p : PrP) (job : Int) : ofJ (setJ S j p) job = if job = j ∧ isJ j = true then p else ofJ S job := by
  cases hj : isJ j with
  | true => rw [ofJ_setJ h.len hj]; by_cases e : job = j <;> simp [e]
  | false => rw [setJ_no hj]; simp
theorem commit_c {S : StoP} (h : OkS S) (j e : Int) (job : Int) : (ofJ S job).c.ep ≤ (ofJ (commitS S j e).2 job).c.ep ∧ ((ofJ (commitS S j e).2 job).c.ep = (ofJ S job).c.ep → (ofJ (commitS S j e).2 job).c = (ofJ S job).c) := by
  unfold commitS
  split
  · exact ⟨Int.le_refl _, fun _ => rfl⟩
  split
  next _ h2 =>
    have h2 := isC_iff.1 h2
    show _ ≤ (ofJ (setJ S j _) job).c.ep ∧ ((ofJ (setJ S j _) job).c.ep = _ → (ofJ (setJ S j _) job).c = _)
    rw [ofJ_set h]
    by_cases hj : job = j ∧ isJ j = true
    · rw [if_pos hj, hj.1]
      have := (h.of j).lt
      exact ⟨by show (ofJ S j).c.ep ≤ (ofJ S j).s.ep; omega, fun k => by have k : (ofJ S j).s.ep = (ofJ S j).c.ep := k; omega⟩
    · rw [if_neg hj]; exact ⟨Int.le_refl _, fun _ => rfl⟩
  · exact ⟨Int.le_refl _, fun _ => rfl⟩
theorem act_ended {S : StoP} (h : OkS S) (a : Act4) (job : Int) (ha : a.1 = 2 ∧ a.2.2.1 = job) : (ofJ (actS S a) job).c.ep = 0 := by
  unfold actS
  rw [if_neg (by omega), if_neg (by omega), if_pos ha.1, ha.2]
  unfold endS
  rw [ofJ_set h]
  cases hj : isJ job with
  | true => simp [zPr, zCk]
  | false => rw [if_neg (by simp), ofJ_no hj]; rfl
theorem act_keeps {S : StoP} (h : OkS S) (a : Act4) (job : Int) (ha : ¬ (a.1 = 2 ∧ a.2.2.1 = job)) :
    (ofJ S job).c.ep ≤ (ofJ (actS S a) job).c.ep ∧ ((ofJ (actS S a) job).c.ep = (ofJ S job).c.ep → (ofJ (actS S a) job).c = (ofJ S job).c) := by
  unfold actS
  split
  · rw [stage_c h]; exact ⟨Int.le_refl _, fun _ => rfl⟩
  split
  · exact commit_c h _ _ _
  split
  next h2 =>
    unfold endS
    rw [ofJ_set h, if_neg (fun e => ha ⟨h2, e.1.symm⟩)]; exact ⟨Int.le_refl _, fun _ => rfl⟩
  split <;> exact ⟨Int.le_refl _, fun _ => rfl⟩
/-- What is read is the same, as long as the epoch that counts is. -/
theorem get_same {S S' : StoP} (h : OkS S) (h' : OkS S') (job : Int) (hc : (ofJ S' job).c = (ofJ S job).c) : getS S' job (ofJ S job).c.ep = getS S job (ofJ S job).c.ep := by
  have h1 := get_counts h' job
  rw [hc] at h1
  rw [h1, get_counts h]
theorem fence_err {S : StoP} (t j e : Int) (d : List UInt8) (h : t < S.term) : stageS S t j e d = (6, S) := by unfold stageS; rw [if_pos h]
theorem mem_used : ∀ (l : List PrP) (p : PrP), p ∈ l → wtP p ≤ usedJ l
  | [], _, h => by simp at h
  | a :: l, p, h => by
    simp only [usedJ, List.map_cons, List.sum_cons]
    rcases List.mem_cons.1 h with rfl | h
    · omega
    · have := mem_used l p h; unfold usedJ at this; omega
/-- OK, and nothing written: it was staged, so there are bytes. -/
theorem same_used {S : StoP} (h : OkS S) (t j e : Int) (d : List UInt8) (h0 : (stageS S t j e d).1 = 0) (hw : (stageS S t j e d).2.writes = S.writes) : 0 < usedJ (stageS S t j e d).2.jobs := by
  by_cases hc : isC (ofJ S j).s e = true
  · have hu : (stageS S t j e d).2 = S ∨ True := .inr trivial
    have h1 := isC_iff.1 hc
    have ho := h.of j
    have hj : isJ j = true := by
      cases hj : isJ j with
      | true => rfl
      | false => rw [ofJ_no hj] at h1; exact absurd h1.1 (by decide)
    have hd : (ofJ S j).s.da ≠ [] := fun k => by have := ho.sd.2 k; omega
    have hp := mem_used S.jobs _ (h.ofJ_mem hj)
    have hl : 0 < (ofJ S j).s.da.length := List.length_pos_iff.2 hd
    unfold wtP at hp
    unfold stageS at h0 ⊢
    (repeat' split) <;> (try (show 0 < usedJ S.jobs; omega))
    all_goals (first | contradiction | (simp_all; done))
  · unfold stageS at h0 hw
    (repeat' split at h0) <;> (try (first | exact absurd (show (6 : Int) = 0 from h0) (by decide) | exact absurd (show (1 : Int) = 0 from h0) (by decide) | exact absurd (show (3 : Int) = 0 from h0) (by decide) | contradiction))
    · rw [if_neg (by assumption), if_neg (by assumption), if_neg (by assumption), if_neg hc, if_neg (by assumption)] at hw
      have hw : S.writes + 1 = S.writes := hw
      omega
/-- Jobs that have ended have nothing. -/
def EndedTo (S : StoP) (k : Nat) : Prop := ∀ i, i < k → S.jobs[i]? = some zPr
theorem EndedTo.next {S : StoP} (h : OkS S) {k : Nat} (hk : k < 24) (he : EndedTo S k) : EndedTo (endS S ((k : Int) + 1)) (k + 1) := by
  have hj : isJ ((k : Int) + 1) = true := isJ_iff.2 ⟨by omega, by omega⟩
  intro i hi
  unfold endS setJ
  rw [if_pos hj]
  show (S.jobs.set _ zPr)[i]? = _
  rw [List.getElem?_set]
  by_cases e : i = k
  · rw [if_pos (by omega), if_pos (by have := h.len; omega)]
  · rw [if_neg (by omega)]; exact he i (by omega)
theorem EndedTo.all {S : StoP} (h : OkS S) (he : EndedTo S 24) : S.jobs = List.replicate 24 zPr := by
  apply List.ext_getElem?
  intro i
  by_cases hi : i < 24
  · rw [he i hi, List.getElem?_replicate, if_pos hi]
  · rw [List.getElem?_eq_none (by rw [h.len]; omega), List.getElem?_eq_none (by rw [List.length_replicate]; omega)]
theorem EndedTo.counts {S : StoP} {k : Nat} (he : EndedTo S (k + 1)) (hk : k < 24) : (ofJ S ((k : Int) + 1)).c.ep = 0 := by
  have hj : isJ ((k : Int) + 1) = true := isJ_iff.2 ⟨by omega, by omega⟩
  unfold ofJ
  rw [if_pos hj, List.getD_eq_getElem?_getD, show ((k : Int) + 1 - 1).toNat = k by omega, he k (by omega)]
  rfl
theorem ended_stage {S : StoP} (h : OkS S) (he : S.jobs = List.replicate 24 zPr) (n : Nat) (hn0 : 1 ≤ n) (hn : n ≤ 100) (hr : (n : Int) ≤ S.room) (d : List UInt8) (hd : d.length = n) :
    (stageS S S.term 1 1 d).1 = 0 ∧ usedJ (stageS S S.term 1 1 d).2.jobs = n := by
  have hz : ofJ S 1 = zPr := by unfold ofJ; rw [if_pos (by decide), he]; rfl
  have hu := h.used_set (job := 1) (by decide) ⟨zCk, ⟨1, d⟩⟩
  unfold stageS
  rw [hz, he, usedJ_zero]
  rw [if_neg (by omega), if_neg (by simp [isJ]; omega), if_neg (by decide), if_neg (by decide), if_neg (by simp [zPr, zCk]; omega)]
  refine ⟨rfl, ?_⟩
  show usedJ (setJ S 1 ⟨zCk, ⟨1, d⟩⟩).jobs = n
  rw [he, usedJ_zero, hz] at hu
  simp only [wtP, zPr, zCk, List.length_nil] at hu
  show usedJ (setJ S 1 ⟨⟨0, []⟩, ⟨1, d⟩⟩).jobs = n
  omega

theorem new_ofJ (room job : Int) : ofJ (newS room) job = zPr := by
  unfold ofJ newS
  split
  · rw [List.getD_eq_getElem?_getD, List.getElem?_replicate]; split <;> rfl
  · rfl
theorem new_not (room t j e : Int) (d : List UInt8) (h : (stageS (newS room) t j e d).1 ≠ 0) : (stageS (newS room) t j e d).2 = newS room ∧ getS (newS room) j e = ([], false) ∧ usedJ (newS room).jobs = 0 ∧ commitS (newS room) j e = (4, newS room) := by
  refine ⟨stage_err h, ?_, usedJ_zero, ?_⟩
  · unfold getS; rw [new_ofJ]; rfl
  · unfold commitS; rw [new_ofJ]; rfl
/-- Staged once, twice, and made to count. -/
structure TwiceP (S1 : StoP) (t j e : Int) (a b : List UInt8) : Prop where
  same : (stageS S1 t j e b).2 = S1
  ok : 1 ≤ b.length → b.length ≤ 100 → (stageS S1 t j e b).1 = 0
  one : (commitS S1 j e).1 = 0
  two : commitS (commitS S1 j e).2 j e = (0, (commitS S1 j e).2)
  get : getS (commitS S1 j e).2 j e = (a, true)
  counts : (ofJ (commitS S1 j e).2 j).c.ep = e
  not : (stageS (commitS S1 j e).2 t j e b).1 ≠ 0
theorem twice_new (room t j e : Int) (a b : List UInt8) (h : (stageS (newS room) t j e a).1 = 0) : TwiceP (stageS (newS room) t j e a).2 t j e a b := by
  have hk := okS_new room
  have hz := new_ofJ room j
  have hs : ∃ S1, (stageS (newS room) t j e a).2 = S1 ∧ OkS S1 ∧ ofJ S1 j = ⟨zCk, ⟨e, a⟩⟩ ∧ ¬ t < S1.term ∧ isJ j = true ∧ 1 ≤ e ∧ e ≤ 1000000 := by
    refine ⟨_, rfl, hk.stage _ _ _ _, ?_⟩
    unfold stageS at h ⊢
    rw [hz] at h ⊢
    by_cases c1 : t < (newS room).term
    · rw [if_pos c1] at h; exact absurd (show (6 : Int) = 0 from h) (by decide)
    rw [if_neg c1] at h ⊢
    by_cases c2 : ¬ (isJ j = true ∧ 1 ≤ e ∧ e ≤ 1000000 ∧ 1 ≤ a.length ∧ a.length ≤ 100)
    · rw [if_pos c2] at h; exact absurd (show (1 : Int) = 0 from h) (by decide)
    rw [if_neg c2] at h ⊢
    have c2 := Classical.not_not.1 c2
    have c3 : ¬ (e ≤ zPr.c.ep ∨ e < zPr.s.ep) := by simp only [zPr, zCk]; omega
    rw [if_neg c3] at h ⊢
    have c4 : ¬ isC zPr.s e = true := fun k => by have := (isC_iff.1 k).1; simp only [zPr, zCk] at this; omega
    rw [if_neg c4] at h ⊢
    by_cases c5 : (newS room).room < (usedJ (newS room).jobs : Int) - (zPr.s.da.length : Int) + (a.length : Int)
    · rw [if_pos c5] at h; exact absurd (show (3 : Int) = 0 from h) (by decide)
    rw [if_neg c5]
    have hr := setJ_room (newS room) j ⟨zPr.c, ⟨e, a⟩⟩
    refine ⟨?_, ?_, c2.1, c2.2.1, c2.2.2.1⟩
    · show ofJ (setJ (newS room) j ⟨zPr.c, ⟨e, a⟩⟩) j = _
      rw [ofJ_setJ hk.len c2.1, if_pos rfl]; rfl
    · show ¬ t < (setJ (newS room) j ⟨zPr.c, ⟨e, a⟩⟩).term
      rw [hr.2.1]; exact c1
  obtain ⟨S1, e1, h1, hz1, ht, hj, he0, he1⟩ := hs
  rw [e1]
  have hci : isC ⟨e, a⟩ e = true := isC_iff.2 ⟨by show 0 < e; omega, rfl⟩
  have hcn : ¬ isC zCk e = true := fun k => by have := (isC_iff.1 k).1; simp only [zCk] at this; omega
  have hc1 : commitS S1 j e = (0, setJ S1 j ⟨⟨e, a⟩, zCk⟩) := by
    unfold commitS
    rw [hz1, if_neg hcn, if_pos hci]
  have hz2 : ofJ (setJ S1 j ⟨⟨e, a⟩, zCk⟩) j = ⟨⟨e, a⟩, zCk⟩ := by rw [ofJ_setJ h1.len hj, if_pos rfl]
  have hr := setJ_room S1 j ⟨⟨e, a⟩, zCk⟩
  have hst : ∀ b, stageS S1 t j e b = (if ¬ (isJ j = true ∧ 1 ≤ e ∧ e ≤ 1000000 ∧ 1 ≤ b.length ∧ b.length ≤ 100) then (1, S1) else (0, S1)) := by
    intro b
    unfold stageS
    rw [hz1, if_neg ht]
    by_cases c2 : ¬ (isJ j = true ∧ 1 ≤ e ∧ e ≤ 1000000 ∧ 1 ≤ b.length ∧ b.length ≤ 100)
    · rw [if_pos c2, if_pos c2]
    · rw [if_neg c2, if_neg c2, if_neg (by simp only [zCk]; omega), if_pos hci]
  refine ⟨?_, fun h1 h2 => ?_, by rw [hc1], ?_, ?_, ?_, ?_⟩
  · rw [hst]; split <;> rfl
  · rw [hst, if_neg (Classical.not_not.2 ⟨hj, he0, he1, h1, h2⟩)]
  · rw [hc1]; show commitS (setJ S1 j ⟨⟨e, a⟩, zCk⟩) j e = _
    unfold commitS
    rw [hz2, if_pos hci]
  · rw [hc1]; show getS (setJ S1 j ⟨⟨e, a⟩, zCk⟩) j e = _
    unfold getS
    rw [hz2, if_pos hci]
  · rw [hc1]; show (ofJ (setJ S1 j ⟨⟨e, a⟩, zCk⟩) j).c.ep = e
    rw [hz2]
  · rw [hc1]; show (stageS (setJ S1 j ⟨⟨e, a⟩, zCk⟩) t j e b).1 ≠ 0
    unfold stageS
    rw [hz2]
    (repeat' split) <;> (try (show (6 : Int) ≠ 0; decide)) <;> (try (show (1 : Int) ≠ 0; decide))
    all_goals (exfalso; simp only [not_or] at *; omega)

end Go.Proofs.Ytkkmldoohokdfaa

/- Layer 11, plain mathematics: the document's example. No program is named here. -/
namespace Go.Proofs.Ytkkmldoohokdfaa

def exSa : StoP := newS 5
def exSb : StoP := (stageS exSa 0 1 2 [97, 98, 99]).2
def exSc : StoP := (commitS exSb 1 2).2
theorem exS_a : OkS exSa := okS_new 5
theorem exS_b : OkS exSb := exS_a.stage _ _ _ _
theorem exS_c : OkS exSc := exS_b.commit _ _
theorem exS_1 : (stageS exSa 0 1 2 [97, 98, 99]).1 = 0 := by decide
theorem exS_2 : (commitS exSb 1 2).1 = 0 := by decide
theorem exS_3 : getS exSc 1 2 = ([97, 98, 99], true) := by decide
theorem exS_4 : (stageS exSc 0 1 3 [120, 121, 122]).1 = 3 := by decide
theorem exS_5 : (stageS exSc 0 1 2 [120]).1 = 6 := by decide
theorem exS_6 : usedJ exSc.jobs = 3 := by decide
theorem exS_7 : (ofJ exSc 1).c.ep = 2 := by decide
theorem exS_8 : exSc.writes = 1 := by decide
theorem exS_9 : exSc.term = 0 := by decide
theorem exS_4' : (stageS exSc 0 1 3 [120, 121, 122]).2 = exSc := stage_err (by rw [exS_4]; decide)
theorem exS_5' : (stageS exSc 0 1 2 [120]).2 = exSc := stage_err (by rw [exS_5]; decide)

end Go.Proofs.Ytkkmldoohokdfaa
