/- Texts that the proof of B rests on, one behind the other. -/
import Derived.Test.YtkpcjdhnbjkaaaaDoorBQ1
import Derived.Test.YtkpcjdhnbjkaaaaDoorBQ2
import Derived.Test.YtkpcjdhnbjkaaaaDoorBQ4
import Derived.Test.YtkpcjdhnbjkaaaaDoorBQ10
import Derived.Test.YtkpcjdhnbjkaaaaDoorBQ11

/- Package book: hold. -/
namespace Go.Proofs.YtkpcjdhnbjkaaaaDoor
open Go.RowKit

set_option maxRecDepth 100000 in
set_option maxHeartbeats 4000000 in
theorem free_any (F : Fp) (w : World) (g : Nat) (c : Cf) (vn vj : Value) (s : St) (set : Int) (h : Pg F w g c vn vj s) (hn : s.nodes.length ≤ 6) :
    Calls Tryd.prog 69 #[.pointer (some ⟨g, 0, none⟩), .int .i64 set] w fun e w' => e = .returned (.bool (allFree s.nodes set)) ∧ Ext w w' := by
  have HH := Lib.hid fun i hi w' => has_any set i hi w'
  have HFR := Lib.hid fun n w' => Free_any n w'
  have c9 := h.c9
  obtain ⟨A, cap, rfl, hnc, hcm, hcell⟩ := has_cells h.rd.nodes
  have HC := Lib.hid hcell
  unfold ndV at HFR
  have HAF := Lib.hid (allFree_iff s.nodes set)
  clear h hcell
  go_enter Tryd.func69, Tryd.ntmps69
  go_wp2_with fail
  go_loopg [13] s.nodes.length (fun gg i wr => ∃ (q : Nat), i = .int .i64 q ∧ q ≤ s.nodes.length ∧ gg = s.nodes.length - q ∧ Hid (Ext w wr ∧ ∀ i n, i < q → s.nodes[i]? = some n → hasS set i = true → freeN n = true))
  case atStart => exact ⟨0, rfl, Nat.zero_le _, by omega, Lib.hid ⟨Ext.refl _, fun i n h => absurd h (Nat.not_lt_zero i)⟩⟩
  case round =>
    obtain ⟨q, rfl, hq, rfl, HR⟩ := hrel
    by_cases hlt : q < s.nodes.length
    · have d1 : decide ((q : Int) < (s.nodes.length : Int)) = true := decide_eq_true (by omega)
      have d1' : decide (q < s.nodes.length) = true := decide_eq_true hlt
      obtain ⟨n, hnk⟩ : ∃ n, s.nodes[q]? = some n := ⟨_, List.getElem?_eq_getElem hlt⟩
      obtain ⟨b, o, rfl, hb, hat⟩ := HC.out q n hnk
      obtain ⟨n0, n1, n2, n3, n4⟩ := hat.ext HR.out.1 hb
      have HX1 := Lib.hid fun cs => HR.out.1.trans ((Below.refl _ wr).alloc (Nat.le_refl _) (.cells cs 41))
      have hq64 : q < 64 := by omega
      have HNK := Lib.hid hnk
      have HLT := Lib.hid hlt
      clear hnk hb hat
      go_wp2_with fail
      refine (HH.out q hq64 _).mono ?_
      rintro e1 w1 ⟨rfl, rfl⟩
      have HSKIP : Hid (hasS set q = false ∨ freeN n = true → (∀ i n, i < q + 1 → s.nodes[i]? = some n → hasS set i = true → freeN n = true)) := Lib.hid fun ho i m hi hm hh => by
        rcases Nat.lt_or_ge i q with h' | h'
        · exact HR.out.2 i m h' hm hh
        · obtain rfl : i = q := by omega
          rw [HNK.out] at hm
          cases hm
          rcases ho with ho | ho
          · rw [ho] at hh
            cases hh
          · exact ho
      have HNO : Hid (freeN n = false → hasS set q = true → allFree s.nodes set = false) := Lib.hid fun h hh => by
        rw [Bool.eq_false_iff]
        intro ha
        rw [HAF.out.1 ha q n HNK.out hh] at h
        cases h
      cases hh : hasS set q
      · go_wp2
        go_roundg (s.nodes.length - (q + 1))
        case measure => have := HLT.out; omega
        case rel => exact ⟨q + 1, by go_num, HLT.out, rfl, Lib.hid ⟨HX1.out _, HSKIP.out (.inl hh)⟩⟩
      · have HHH := Lib.hid hh
        go_wp2_with fail
        refine (HFR.out n _).mono ?_
        rintro e3 w3 ⟨rfl, hx3⟩
        have HX3 := Lib.hid ((HX1.out _).trans hx3)
        clear hx3
        cases hf : freeN n
        · have HZ := Lib.hid (HNO.out hf HHH.out)
          go_wp2
          go_ret
          exact ⟨by rw [HZ.out]; rfl, HX3.out⟩
        · go_wp2
          go_roundg (s.nodes.length - (q + 1))
          case measure => have := HLT.out; omega
          case rel => exact ⟨q + 1, by go_num, HLT.out, rfl, Lib.hid ⟨HX3.out, HSKIP.out (.inr hf)⟩⟩
    · have d1 : decide ((q : Int) < (s.nodes.length : Int)) = false := decide_eq_false (by omega)
      have d1' : decide (q < s.nodes.length) = false := decide_eq_false hlt
      obtain rfl : q = s.nodes.length := by omega
      have HZ : Hid (allFree s.nodes set = true) := Lib.hid (HAF.out.2 fun i n hi hh => HR.out.2 i n (List.getElem?_eq_some_iff.1 hi).1 hi hh)
      go_wp2
      go_ret
      exact ⟨by rw [HZ.out]; rfl, HR.out.1⟩

set_option maxRecDepth 100000 in
set_option maxHeartbeats 4000000 in
theorem hold_any (F : Fp) (w : World) (g : Nat) (c : Cf) (vn vj : Value) (s : St) (z v a3 a4 a5 a6 : Int) (k : Nat) (j : Jb) (h : Pg F w g c vn vj s) (hj : s.jobs[k]? = some j) (hn : s.nodes.length ≤ 6) (hver : ∀ (i : Nat) (n : Nd), s.nodes[i]? = some n → 1 ≤ n.version) (hinc : 0 ≤ j.inc ∧ j.inc ≤ 1000000) :
    Calls Tryd.prog 51 #[.pointer (some ⟨g, 0, none⟩), .agg #[.int .i64 z, .int .i64 ((k : Int) + 1), .int .i64 v, .int .i64 a3, .int .i64 a4, .int .i64 a5, .int .i64 a6]] w fun e w' => e = .returned (.int .i64 (holdS s k j v).2) ∧ (∃ vn vj, Pg (F.since w w') w' g c vn vj (holdS s k j v).1) ∧ Chg F w w' := by
  obtain ⟨hx0, hbk0⟩ := boxOp w #[.int .i64 z, .int .i64 ((k : Int) + 1), .int .i64 v, .int .i64 a3, .int .i64 a4, .int .i64 a5, .int .i64 a6]
  obtain ⟨W1, hW1⟩ : ∃ W1, W1 = (w.alloc (.cells #[.int .i64 z, .int .i64 ((k : Int) + 1), .int .i64 v, .int .i64 a3, .int .i64 a4, .int .i64 a5, .int .i64 a6] 32)).alloc (.cells #[.int .i64 0] 3) := ⟨_, rfl⟩
  have hx1 : Ext (w.alloc (.cells #[.int .i64 z, .int .i64 ((k : Int) + 1), .int .i64 v, .int .i64 a3, .int .i64 a4, .int .i64 a5, .int .i64 a6] 32)) W1 := by rw [hW1]; exact (Below.refl _ _).alloc (Nat.le_refl _) _
  have hx := hx0.trans hx1
  have hbk := hbk0.ext hx1
  have hrs : Rd W1 (.slice (some ⟨w.heap.size + 1, 0, none⟩) 1 1) (([0] : List Int).map I) := by
    rw [hW1]
    exact Rd.litI _ [0] _ _ 1 _ (by decide) rfl rfl (by simp)
  have hp := h.ext hx
  obtain ⟨b, cap, rfl, hnc, hcm, hb, hbg, hat, hfr⟩ := hp.jobAt hj
  have HIS := Lib.hid (is_any F W1 g c vn (.slice (some ⟨b, 0, none⟩) s.jobs.length cap) s k j [0] _ hp hj hrs (by decide))
  have HJ := Lib.hid (job_any F W1 g c vn s k b cap j hp hj hcm hnc)
  have HX := Lib.hid hx
  have HP := Lib.hid hp
  have HI := Lib.hid hj
  have HB := Lib.hid hbk
  have HF0 := Lib.hid hfr
  have hlw : w.heap.size ≠ b := fun e => by
    obtain ⟨b0, cap0, e0, _, _, hb0, _⟩ := h.jobAt hj
    injection e0 with e1
    injection e1 with e1
    injection e1 with e1
    omega
  have hlg : w.heap.size ≠ g := fun e => by have := h.lt; omega
  have q1 : W1.cell? ⟨w.heap.size, 1, none⟩ = some (.int .i64 ((k : Int) + 1)) := hbk.cell 1
  have q2 : W1.cell? ⟨w.heap.size, 2, none⟩ = some (.int .i64 v) := hbk.cell 2
  have hk0 := (List.getElem?_eq_some_iff.1 hj).1
  clear hx0 hbk0 hx1 hx hbk hp hj hfr hrs h
  obtain ⟨c0, c1, c2, c3, c4, c5, c6, c7, c8, c9, c10, c11⟩ := hat
  by_cases ht : ¬ (j.phase = 0)
  · have hr : holdS s k j v = (s, 5) := by rw [holdS, if_neg ht]
    have HR := Lib.hid hr
    have hd : decide (j.phase ∈ ([0] : List Int)) = false := by simp; omega
    rw [hd] at HIS
    clear hr ht hd
    go_enter Tryd.func51, Tryd.ntmps51
    go_wp2_with fail
    rw [← hW1]
    clear hW1
    refine HIS.out.mono ?_
    rintro e1 w1 ⟨rfl, rfl⟩
    go_wp2
    go_ret
    exact MDone.of HR.out rfl HP.out (Chg.of_ext HX.out)
  replace ht := Classical.not_not.1 ht
  have hd : decide (j.phase ∈ ([0] : List Int)) = true := by simp; omega
  rw [hd] at HIS
  have HT := Lib.hid ht
  clear hd
  have HSU : Hid (∀ w', Ext W1 w' → Calls Tryd.prog 29 #[stV vn (.slice (some ⟨b, 0, none⟩) s.jobs.length cap) s, jbV j, .int .i64 v] w' fun e w'' => ∃ b, e = .returned (.bool b) ∧ (b = true ↔ FitsP s j v) ∧ Ext w' w'') := Lib.hid fun w' hx => suits_any vn _ s j v w' (HP.out.rd.nodes.ext hx) hn hver
  have HFR : Hid (∀ w', Ext W1 w' → Calls Tryd.prog 69 #[.pointer (some ⟨g, 0, none⟩), .int .i64 v] w' fun e w'' => e = .returned (.bool (allFree s.nodes v)) ∧ Ext w' w'') := Lib.hid fun w' hx => free_any F w' g c vn _ s v (HP.out.ext hx) hn
  unfold stV jbV at HSU
  have p9 := HP.out.c9
  have p10 := HP.out.c10
  have p11 := HP.out.c11
  have p12 := HP.out.c12
  have p13 := HP.out.c13
  have p14 := HP.out.c14
  have HQ2 : Hid (∀ w2, Ext W1 w2 → w2.cell? ⟨w.heap.size, 2, none⟩ = some (.int .i64 v)) := Lib.hid fun w2 h => (HB.out.ext h).cell 2
  have HJ7 : Hid (∀ w2, Ext W1 w2 → w2.cell? ⟨b, k * 12 + 7, none⟩ = some (.int .i64 j.inc)) := Lib.hid fun w2 h => by
    obtain ⟨bz, capz, hvz, _, _, _, _, hatz, hfrz⟩ := (HP.out.ext h).jobAt HI.out
    injection hvz with hA _ hcap
    injection hA with hA
    injection hA with hA
    subst hA hcap
    exact hatz.c7
  have HS4 : Hid (∀ W, Ext W1 W → (fun (W : World) => W.cell? ⟨g, 9, none⟩ = some vn ∧ W.cell? ⟨g, 10, none⟩ = some (.slice (some ⟨b, 0, none⟩) s.jobs.length cap) ∧ W.cell? ⟨g, 11, none⟩ = some (.int .i64 s.goal) ∧ W.cell? ⟨g, 12, none⟩ = some (.int .i64 s.prior) ∧ W.cell? ⟨g, 13, none⟩ = some (.int .i64 s.mode) ∧ W.cell? ⟨g, 14, none⟩ = some (.int .i64 s.term) ∧ W.cell? ⟨w.heap.size, 2, none⟩ = some (.int .i64 v) ∧ W.cell? ⟨b, k * 12, none⟩ = some (.int .i64 j.queue) ∧ W.cell? ⟨b, k * 12 + 1, none⟩ = some (.int .i64 j.prio) ∧ W.cell? ⟨b, k * 12 + 2, none⟩ = some (.int .i64 j.least) ∧ W.cell? ⟨b, k * 12 + 3, none⟩ = some (.int .i64 j.most) ∧ W.cell? ⟨b, k * 12 + 4, none⟩ = some (.int .i64 j.work) ∧ W.cell? ⟨b, k * 12 + 5, none⟩ = some (.int .i64 j.pin) ∧ W.cell? ⟨b, k * 12 + 6, none⟩ = some (.int .i64 j.phase) ∧ W.cell? ⟨b, k * 12 + 7, none⟩ = some (.int .i64 j.inc) ∧ W.cell? ⟨b, k * 12 + 8, none⟩ = some (.int .i64 j.nodes) ∧ W.cell? ⟨b, k * 12 + 9, none⟩ = some (.int .i64 j.since) ∧ W.cell? ⟨b, k * 12 + 10, none⟩ = some (.int .i64 j.til) ∧ W.cell? ⟨b, k * 12 + 11, none⟩ = some (.int .i64 j.epoch)) W) := Lib.hid fun W hx => by
    have hp := HP.out.ext hx
    obtain ⟨bz, capz, hvz, _, _, _, _, hatz, hfrz⟩ := hp.jobAt HI.out
    injection hvz with hA _ hcap
    injection hA with hA
    injection hA with hA
    subst hA hcap
    exact ⟨hp.c9, hp.c10, hp.c11, hp.c12, hp.c13, hp.c14, (HB.out.ext hx).cell 2, hatz.c0, hatz.c1, hatz.c2, hatz.c3, hatz.c4, hatz.c5, hatz.c6, hatz.c7, hatz.c8, hatz.c9, hatz.c10, hatz.c11⟩
  by_cases hf : FitsP s j v
  · have HSU2 : Hid (∀ w', Ext W1 w' → Calls Tryd.prog 29 #[.agg #[vn, .slice (some ⟨b, 0, none⟩) s.jobs.length cap, .int .i64 s.goal, .int .i64 s.prior, .int .i64 s.mode, .int .i64 s.term], .agg #[.int .i64 j.queue, .int .i64 j.prio, .int .i64 j.least, .int .i64 j.most, .int .i64 j.work, .int .i64 j.pin, .int .i64 j.phase, .int .i64 j.inc, .int .i64 j.nodes, .int .i64 j.since, .int .i64 j.til, .int .i64 j.epoch], .int .i64 v] w' fun e w'' => e = .returned (.bool true) ∧ Ext w' w'') := Lib.hid fun w' hx => (HSU.out w' hx).mono fun e w'' ⟨b', he, hb', hx'⟩ => ⟨by rw [he]; congr 2; exact hb'.2 hf, hx'⟩
    cases ha : allFree s.nodes v
    · rw [ha] at HFR
      have hr : holdS s k j v = (s, 8) := by rw [holdS, if_pos ht, if_neg (fun h => by rw [ha] at h; cases h.2.1)]
      have HR := Lib.hid hr
      clear hr ht ha hf
      clear HSU c0 c1 c2 c3 c4 c5 c6 c7 c8 c9 c10 c11 p9 p10 p11 p12 p13 p14 q2 HQ2 HJ7
      go_enter Tryd.func51, Tryd.ntmps51
      go_wp2_with fail
      rw [← hW1]
      clear hW1
      refine HIS.out.mono ?_
      rintro e1 w1 ⟨rfl, rfl⟩
      go_wp2_with fail
      refine HJ.out.mono ?_
      rintro e1 w1 ⟨rfl, rfl⟩
      go_wp2_with fail
      refine held_begin (by kernel_rfl) ?_
      have hHeld0 : True := True.intro
      refine held_more (S' := fun (W : World) => W.cell? ⟨g, 9, none⟩ = some vn ∧ W.cell? ⟨g, 10, none⟩ = some (.slice (some ⟨b, 0, none⟩) s.jobs.length cap) ∧ W.cell? ⟨g, 11, none⟩ = some (.int .i64 s.goal) ∧ W.cell? ⟨g, 12, none⟩ = some (.int .i64 s.prior) ∧ W.cell? ⟨g, 13, none⟩ = some (.int .i64 s.mode) ∧ W.cell? ⟨g, 14, none⟩ = some (.int .i64 s.term) ∧ W.cell? ⟨w.heap.size, 2, none⟩ = some (.int .i64 v) ∧ W.cell? ⟨b, k * 12, none⟩ = some (.int .i64 j.queue) ∧ W.cell? ⟨b, k * 12 + 1, none⟩ = some (.int .i64 j.prio) ∧ W.cell? ⟨b, k * 12 + 2, none⟩ = some (.int .i64 j.least) ∧ W.cell? ⟨b, k * 12 + 3, none⟩ = some (.int .i64 j.most) ∧ W.cell? ⟨b, k * 12 + 4, none⟩ = some (.int .i64 j.work) ∧ W.cell? ⟨b, k * 12 + 5, none⟩ = some (.int .i64 j.pin) ∧ W.cell? ⟨b, k * 12 + 6, none⟩ = some (.int .i64 j.phase) ∧ W.cell? ⟨b, k * 12 + 7, none⟩ = some (.int .i64 j.inc) ∧ W.cell? ⟨b, k * 12 + 8, none⟩ = some (.int .i64 j.nodes) ∧ W.cell? ⟨b, k * 12 + 9, none⟩ = some (.int .i64 j.since) ∧ W.cell? ⟨b, k * 12 + 10, none⟩ = some (.int .i64 j.til) ∧ W.cell? ⟨b, k * 12 + 11, none⟩ = some (.int .i64 j.epoch)) (fun _ _ => True.intro) ?_
      have hHeld1 : (fun (W : World) => W.cell? ⟨g, 9, none⟩ = some vn ∧ W.cell? ⟨g, 10, none⟩ = some (.slice (some ⟨b, 0, none⟩) s.jobs.length cap) ∧ W.cell? ⟨g, 11, none⟩ = some (.int .i64 s.goal) ∧ W.cell? ⟨g, 12, none⟩ = some (.int .i64 s.prior) ∧ W.cell? ⟨g, 13, none⟩ = some (.int .i64 s.mode) ∧ W.cell? ⟨g, 14, none⟩ = some (.int .i64 s.term) ∧ W.cell? ⟨w.heap.size, 2, none⟩ = some (.int .i64 v) ∧ W.cell? ⟨b, k * 12, none⟩ = some (.int .i64 j.queue) ∧ W.cell? ⟨b, k * 12 + 1, none⟩ = some (.int .i64 j.prio) ∧ W.cell? ⟨b, k * 12 + 2, none⟩ = some (.int .i64 j.least) ∧ W.cell? ⟨b, k * 12 + 3, none⟩ = some (.int .i64 j.most) ∧ W.cell? ⟨b, k * 12 + 4, none⟩ = some (.int .i64 j.work) ∧ W.cell? ⟨b, k * 12 + 5, none⟩ = some (.int .i64 j.pin) ∧ W.cell? ⟨b, k * 12 + 6, none⟩ = some (.int .i64 j.phase) ∧ W.cell? ⟨b, k * 12 + 7, none⟩ = some (.int .i64 j.inc) ∧ W.cell? ⟨b, k * 12 + 8, none⟩ = some (.int .i64 j.nodes) ∧ W.cell? ⟨b, k * 12 + 9, none⟩ = some (.int .i64 j.since) ∧ W.cell? ⟨b, k * 12 + 10, none⟩ = some (.int .i64 j.til) ∧ W.cell? ⟨b, k * 12 + 11, none⟩ = some (.int .i64 j.epoch)) _ := HS4.out _ (ext_drew9 (Ext.refl _))
      clear hHeld0
      refine held_take (i := 0) (v := ?_) rfl (by kernel_rfl) (by kernel_rfl) (by kernel_rfl) (by rfl) (by first | assumption | exact True.intro) ?_ ?_
      rotate_left
      · (intro w hSw; (try dsimp only at hSw); go_simp; (try with_reducible rfl))
      try simp only [Act.put, List.setIfInBounds_toArray, List.set_cons_zero, List.set_cons_succ]
      refine held_take (i := 1) (v := ?_) rfl (by kernel_rfl) (by kernel_rfl) (by kernel_rfl) (by rfl) (by first | assumption | exact True.intro) ?_ ?_
      rotate_left
      · (intro w hSw; (try dsimp only at hSw); go_simp; (try with_reducible rfl))
      try simp only [Act.put, List.setIfInBounds_toArray, List.set_cons_zero, List.set_cons_succ]
      refine held_take (i := 2) (v := ?_) rfl (by kernel_rfl) (by kernel_rfl) (by kernel_rfl) (by rfl) (by first | assumption | exact True.intro) ?_ ?_
      rotate_left
      · (intro w hSw; (try dsimp only at hSw); go_simp; (try with_reducible rfl))
      try simp only [Act.put, List.setIfInBounds_toArray, List.set_cons_zero, List.set_cons_succ]
      refine held_take (i := 3) (v := ?_) rfl (by kernel_rfl) (by kernel_rfl) (by kernel_rfl) (by rfl) (by first | assumption | exact True.intro) ?_ ?_
      rotate_left
      · (intro w hSw; (try dsimp only at hSw); go_simp; (try with_reducible rfl))
      try simp only [Act.put, List.setIfInBounds_toArray, List.set_cons_zero, List.set_cons_succ]
      refine held_take (i := 4) (v := ?_) rfl (by kernel_rfl) (by kernel_rfl) (by kernel_rfl) (by rfl) (by first | assumption | exact True.intro) ?_ ?_
      rotate_left
      · (intro w hSw; (try dsimp only at hSw); go_simp; (try with_reducible rfl))
      try simp only [Act.put, List.setIfInBounds_toArray, List.set_cons_zero, List.set_cons_succ]
      refine held_take (i := 5) (v := ?_) rfl (by kernel_rfl) (by kernel_rfl) (by kernel_rfl) (by rfl) (by first | assumption | exact True.intro) ?_ ?_
      rotate_left
      · (intro w hSw; (try dsimp only at hSw); go_simp; (try with_reducible rfl))
      try simp only [Act.put, List.setIfInBounds_toArray, List.set_cons_zero, List.set_cons_succ]
      refine held_take (i := 6) (v := ?_) rfl (by kernel_rfl) (by kernel_rfl) (by kernel_rfl) (by rfl) (by first | assumption | exact True.intro) ?_ ?_
      rotate_left
      · (intro w hSw; (try dsimp only at hSw); go_simp; (try with_reducible rfl))
      try simp only [Act.put, List.setIfInBounds_toArray, List.set_cons_zero, List.set_cons_succ]
      refine held_take (i := 7) (v := ?_) rfl (by kernel_rfl) (by kernel_rfl) (by kernel_rfl) (by rfl) (by first | assumption | exact True.intro) ?_ ?_
      rotate_left
      · (intro w hSw; (try dsimp only at hSw); go_simp; (try with_reducible rfl))
      try simp only [Act.put, List.setIfInBounds_toArray, List.set_cons_zero, List.set_cons_succ]
      refine held_take (i := 8) (v := ?_) rfl (by kernel_rfl) (by kernel_rfl) (by kernel_rfl) (by rfl) (by first | assumption | exact True.intro) ?_ ?_
      rotate_left
      · (intro w hSw; (try dsimp only at hSw); go_simp; (try with_reducible rfl))
      try simp only [Act.put, List.setIfInBounds_toArray, List.set_cons_zero, List.set_cons_succ]
      refine held_op (i := 9) (by kernel_rfl) rfl (fun K hK => ?_)
      go_simp
      go_at_call 29
      (with_reducible refine (HSU2.out _ (ext_drew9 (Ext.refl _))).mono ?_)
      rintro e2 w2 ⟨rfl, hx2⟩
      refine hK _ _ ?_ (fun hHeld2 => ?_)
      · exact HS4.out _ (Ext.of_drew hx2)
      clear hK K hHeld1
      try simp only [Act.put, List.setIfInBounds_toArray, List.set_cons_zero, List.set_cons_succ]
      refine held_take (i := 10) (v := ?_) rfl (by kernel_rfl) (by kernel_rfl) (by kernel_rfl) (by rfl) (by first | assumption | exact True.intro) ?_ ?_
      rotate_left
      · (intro w hSw; (try dsimp only at hSw); go_simp; (try with_reducible rfl))
      try simp only [Act.put, List.setIfInBounds_toArray, List.set_cons_zero, List.set_cons_succ]
      refine held_take (i := 11) (v := ?_) rfl (by kernel_rfl) (by kernel_rfl) (by kernel_rfl) (by rfl) (by first | assumption | exact True.intro) ?_ ?_
      rotate_left
      · (intro w hSw; (try dsimp only at hSw); go_simp; (try with_reducible rfl))
      try simp only [Act.put, List.setIfInBounds_toArray, List.set_cons_zero, List.set_cons_succ]
      refine held_take (i := 12) (v := ?_) rfl (by kernel_rfl) (by kernel_rfl) (by kernel_rfl) (by rfl) (by first | assumption | exact True.intro) ?_ ?_
      rotate_left
      · (intro w hSw; (try dsimp only at hSw); go_simp; (try with_reducible rfl))
      try simp only [Act.put, List.setIfInBounds_toArray, List.set_cons_zero, List.set_cons_succ]
      refine held_take (i := 13) (v := ?_) rfl (by kernel_rfl) (by kernel_rfl) (by kernel_rfl) (by rfl) (by first | assumption | exact True.intro) ?_ ?_
      rotate_left
      · (intro w hSw; (try dsimp only at hSw); go_simp; (try with_reducible rfl))
      try simp only [Act.put, List.setIfInBounds_toArray, List.set_cons_zero, List.set_cons_succ]
      refine held_take (i := 14) (v := ?_) rfl (by kernel_rfl) (by kernel_rfl) (by kernel_rfl) (by rfl) (by first | assumption | exact True.intro) ?_ ?_
      rotate_left
      · (intro w hSw; (try dsimp only at hSw); go_simp; (try with_reducible rfl))
      try simp only [Act.put, List.setIfInBounds_toArray, List.set_cons_zero, List.set_cons_succ]
      refine held_op (i := 15) (by kernel_rfl) rfl (fun K hK => ?_)
      go_simp
      go_at_call 69
      (with_reducible refine (HFR.out _ (Ext.of_drew hx2)).mono ?_)
      rintro e4 w4 ⟨rfl, hx4⟩
      refine hK _ _ ?_ (fun hHeld3 => ?_)
      · exact HS4.out _ ((Ext.of_drew hx2).trans hx4)
      clear hK K hHeld2
      try simp only [Act.put, List.setIfInBounds_toArray, List.set_cons_zero, List.set_cons_succ]
      refine held_take (i := 16) (v := ?_) rfl (by kernel_rfl) (by kernel_rfl) (by kernel_rfl) (by rfl) (by first | assumption | exact True.intro) ?_ ?_
      rotate_left
      · (intro w hSw; (try dsimp only at hSw); go_simp; (try with_reducible rfl))
      try simp only [Act.put, List.setIfInBounds_toArray, List.set_cons_zero, List.set_cons_succ]
      refine held_take (i := 17) (v := ?_) rfl (by kernel_rfl) (by kernel_rfl) (by kernel_rfl) (by rfl) (by first | assumption | exact True.intro) ?_ ?_
      rotate_left
      · (intro w hSw; (try dsimp only at hSw); go_simp; (try with_reducible rfl))
      try simp only [Act.put, List.setIfInBounds_toArray, List.set_cons_zero, List.set_cons_succ]
      refine held_take (i := 18) (v := ?_) rfl (by kernel_rfl) (by kernel_rfl) (by kernel_rfl) (by rfl) (by first | assumption | exact True.intro) ?_ ?_
      rotate_left
      · (intro w hSw; (try dsimp only at hSw); go_simp; (try with_reducible rfl))
      try simp only [Act.put, List.setIfInBounds_toArray, List.set_cons_zero, List.set_cons_succ]
      refine held_skip (i := 19) rfl (by kernel_rfl) (by kernel_rfl) (by kernel_rfl) (by rfl) (by first | assumption | exact True.intro) ?_
      try simp only [Act.put, List.setIfInBounds_toArray, List.set_cons_zero, List.set_cons_succ]
      refine held_skip (i := 20) rfl (by kernel_rfl) (by kernel_rfl) (by kernel_rfl) (by rfl) (by first | assumption | exact True.intro) ?_
      try simp only [Act.put, List.setIfInBounds_toArray, List.set_cons_zero, List.set_cons_succ]
      refine held_skip (i := 21) rfl (by kernel_rfl) (by kernel_rfl) (by kernel_rfl) (by rfl) (by first | assumption | exact True.intro) ?_
      try simp only [Act.put, List.setIfInBounds_toArray, List.set_cons_zero, List.set_cons_succ]
      refine held_skip (i := 22) rfl (by kernel_rfl) (by kernel_rfl) (by kernel_rfl) (by rfl) (by first | assumption | exact True.intro) ?_
      try simp only [Act.put, List.setIfInBounds_toArray, List.set_cons_zero, List.set_cons_succ]
      refine held_skip (i := 23) rfl (by kernel_rfl) (by kernel_rfl) (by kernel_rfl) (by rfl) (by first | assumption | exact True.intro) ?_
      try simp only [Act.put, List.setIfInBounds_toArray, List.set_cons_zero, List.set_cons_succ]
      refine held_take (i := 24) (v := ?_) rfl (by kernel_rfl) (by kernel_rfl) (by kernel_rfl) (by rfl) (by first | assumption | exact True.intro) ?_ ?_
      rotate_left
      · (intro w hSw; (try dsimp only at hSw); go_simp; (try with_reducible rfl))
      try simp only [Act.put, List.setIfInBounds_toArray, List.set_cons_zero, List.set_cons_succ]
      refine wpAnyH_done (by kernel_rfl) ?_ _
      refine NoPanic.normal ?_
      clear hHeld3
      have HX5 := Lib.hid (HX.out.trans ((Ext.of_drew hx2).trans hx4))
      have HP5 := Lib.hid (HP.out.ext ((Ext.of_drew hx2).trans hx4))
      clear hx2 hx4
      go_wp2
      go_ret
      exact MDone.of HR.out rfl HP5.out (Chg.of_ext HX5.out)
    rw [ha] at HFR
    by_cases hi : j.inc = 1000000
    · have hr : holdS s k j v = (s, 8) := by rw [holdS, if_pos ht, if_neg (fun h => h.2.2 hi)]
      have d1 : (j.inc == 1000000) = true := by rw [hi]; rfl
      have HR := Lib.hid hr
      clear hr ht ha hf hi
      clear HSU c0 c1 c2 c3 c4 c5 c6 c7 c8 c9 c10 c11 p9 p10 p11 p12 p13 p14 q2 HQ2 HJ7
      go_enter Tryd.func51, Tryd.ntmps51
      go_wp2_with fail
      rw [← hW1]
      clear hW1
      refine HIS.out.mono ?_
      rintro e1 w1 ⟨rfl, rfl⟩
      go_wp2_with fail
      refine HJ.out.mono ?_
      rintro e1 w1 ⟨rfl, rfl⟩
      go_wp2_with fail
      refine held_begin (by kernel_rfl) ?_
      have hHeld0 : True := True.intro
      refine held_more (S' := fun (W : World) => W.cell? ⟨g, 9, none⟩ = some vn ∧ W.cell? ⟨g, 10, none⟩ = some (.slice (some ⟨b, 0, none⟩) s.jobs.length cap) ∧ W.cell? ⟨g, 11, none⟩ = some (.int .i64 s.goal) ∧ W.cell? ⟨g, 12, none⟩ = some (.int .i64 s.prior) ∧ W.cell? ⟨g, 13, none⟩ = some (.int .i64 s.mode) ∧ W.cell? ⟨g, 14, none⟩ = some (.int .i64 s.term) ∧ W.cell? ⟨w.heap.size, 2, none⟩ = some (.int .i64 v) ∧ W.cell? ⟨b, k * 12, none⟩ = some (.int .i64 j.queue) ∧ W.cell? ⟨b, k * 12 + 1, none⟩ = some (.int .i64 j.prio) ∧ W.cell? ⟨b, k * 12 + 2, none⟩ = some (.int .i64 j.least) ∧ W.cell? ⟨b, k * 12 + 3, none⟩ = some (.int .i64 j.most) ∧ W.cell? ⟨b, k * 12 + 4, none⟩ = some (.int .i64 j.work) ∧ W.cell? ⟨b, k * 12 + 5, none⟩ = some (.int .i64 j.pin) ∧ W.cell? ⟨b, k * 12 + 6, none⟩ = some (.int .i64 j.phase) ∧ W.cell? ⟨b, k * 12 + 7, none⟩ = some (.int .i64 j.inc) ∧ W.cell? ⟨b, k * 12 + 8, none⟩ = some (.int .i64 j.nodes) ∧ W.cell? ⟨b, k * 12 + 9, none⟩ = some (.int .i64 j.since) ∧ W.cell? ⟨b, k * 12 + 10, none⟩ = some (.int .i64 j.til) ∧ W.cell? ⟨b, k * 12 + 11, none⟩ = some (.int .i64 j.epoch)) (fun _ _ => True.intro) ?_
      have hHeld1 : (fun (W : World) => W.cell? ⟨g, 9, none⟩ = some vn ∧ W.cell? ⟨g, 10, none⟩ = some (.slice (some ⟨b, 0, none⟩) s.jobs.length cap) ∧ W.cell? ⟨g, 11, none⟩ = some (.int .i64 s.goal) ∧ W.cell? ⟨g, 12, none⟩ = some (.int .i64 s.prior) ∧ W.cell? ⟨g, 13, none⟩ = some (.int .i64 s.mode) ∧ W.cell? ⟨g, 14, none⟩ = some (.int .i64 s.term) ∧ W.cell? ⟨w.heap.size, 2, none⟩ = some (.int .i64 v) ∧ W.cell? ⟨b, k * 12, none⟩ = some (.int .i64 j.queue) ∧ W.cell? ⟨b, k * 12 + 1, none⟩ = some (.int .i64 j.prio) ∧ W.cell? ⟨b, k * 12 + 2, none⟩ = some (.int .i64 j.least) ∧ W.cell? ⟨b, k * 12 + 3, none⟩ = some (.int .i64 j.most) ∧ W.cell? ⟨b, k * 12 + 4, none⟩ = some (.int .i64 j.work) ∧ W.cell? ⟨b, k * 12 + 5, none⟩ = some (.int .i64 j.pin) ∧ W.cell? ⟨b, k * 12 + 6, none⟩ = some (.int .i64 j.phase) ∧ W.cell? ⟨b, k * 12 + 7, none⟩ = some (.int .i64 j.inc) ∧ W.cell? ⟨b, k * 12 + 8, none⟩ = some (.int .i64 j.nodes) ∧ W.cell? ⟨b, k * 12 + 9, none⟩ = some (.int .i64 j.since) ∧ W.cell? ⟨b, k * 12 + 10, none⟩ = some (.int .i64 j.til) ∧ W.cell? ⟨b, k * 12 + 11, none⟩ = some (.int .i64 j.epoch)) _ := HS4.out _ (ext_drew9 (Ext.refl _))
      clear hHeld0
      refine held_take (i := 0) (v := ?_) rfl (by kernel_rfl) (by kernel_rfl) (by kernel_rfl) (by rfl) (by first | assumption | exact True.intro) ?_ ?_
      rotate_left
      · (intro w hSw; (try dsimp only at hSw); go_simp; (try with_reducible rfl))
      try simp only [Act.put, List.setIfInBounds_toArray, List.set_cons_zero, List.set_cons_succ]
      refine held_take (i := 1) (v := ?_) rfl (by kernel_rfl) (by kernel_rfl) (by kernel_rfl) (by rfl) (by first | assumption | exact True.intro) ?_ ?_
      rotate_left
      · (intro w hSw; (try dsimp only at hSw); go_simp; (try with_reducible rfl))
      try simp only [Act.put, List.setIfInBounds_toArray, List.set_cons_zero, List.set_cons_succ]
      refine held_take (i := 2) (v := ?_) rfl (by kernel_rfl) (by kernel_rfl) (by kernel_rfl) (by rfl) (by first | assumption | exact True.intro) ?_ ?_
      rotate_left
      · (intro w hSw; (try dsimp only at hSw); go_simp; (try with_reducible rfl))
      try simp only [Act.put, List.setIfInBounds_toArray, List.set_cons_zero, List.set_cons_succ]
      refine held_take (i := 3) (v := ?_) rfl (by kernel_rfl) (by kernel_rfl) (by kernel_rfl) (by rfl) (by first | assumption | exact True.intro) ?_ ?_
      rotate_left
      · (intro w hSw; (try dsimp only at hSw); go_simp; (try with_reducible rfl))
      try simp only [Act.put, List.setIfInBounds_toArray, List.set_cons_zero, List.set_cons_succ]
      refine held_take (i := 4) (v := ?_) rfl (by kernel_rfl) (by kernel_rfl) (by kernel_rfl) (by rfl) (by first | assumption | exact True.intro) ?_ ?_
      rotate_left
      · (intro w hSw; (try dsimp only at hSw); go_simp; (try with_reducible rfl))
      try simp only [Act.put, List.setIfInBounds_toArray, List.set_cons_zero, List.set_cons_succ]
      refine held_take (i := 5) (v := ?_) rfl (by kernel_rfl) (by kernel_rfl) (by kernel_rfl) (by rfl) (by first | assumption | exact True.intro) ?_ ?_
      rotate_left
      · (intro w hSw; (try dsimp only at hSw); go_simp; (try with_reducible rfl))
      try simp only [Act.put, List.setIfInBounds_toArray, List.set_cons_zero, List.set_cons_succ]
      refine held_take (i := 6) (v := ?_) rfl (by kernel_rfl) (by kernel_rfl) (by kernel_rfl) (by rfl) (by first | assumption | exact True.intro) ?_ ?_
      rotate_left
      · (intro w hSw; (try dsimp only at hSw); go_simp; (try with_reducible rfl))
      try simp only [Act.put, List.setIfInBounds_toArray, List.set_cons_zero, List.set_cons_succ]
      refine held_take (i := 7) (v := ?_) rfl (by kernel_rfl) (by kernel_rfl) (by kernel_rfl) (by rfl) (by first | assumption | exact True.intro) ?_ ?_
      rotate_left
      · (intro w hSw; (try dsimp only at hSw); go_simp; (try with_reducible rfl))
      try simp only [Act.put, List.setIfInBounds_toArray, List.set_cons_zero, List.set_cons_succ]
      refine held_take (i := 8) (v := ?_) rfl (by kernel_rfl) (by kernel_rfl) (by kernel_rfl) (by rfl) (by first | assumption | exact True.intro) ?_ ?_
      rotate_left
      · (intro w hSw; (try dsimp only at hSw); go_simp; (try with_reducible rfl))
      try simp only [Act.put, List.setIfInBounds_toArray, List.set_cons_zero, List.set_cons_succ]
      refine held_op (i := 9) (by kernel_rfl) rfl (fun K hK => ?_)
      go_simp
      go_at_call 29
      (with_reducible refine (HSU2.out _ (ext_drew9 (Ext.refl _))).mono ?_)
      rintro e2 w2 ⟨rfl, hx2⟩
      refine hK _ _ ?_ (fun hHeld2 => ?_)
      · exact HS4.out _ (Ext.of_drew hx2)
      clear hK K hHeld1
      try simp only [Act.put, List.setIfInBounds_toArray, List.set_cons_zero, List.set_cons_succ]
      refine held_take (i := 10) (v := ?_) rfl (by kernel_rfl) (by kernel_rfl) (by kernel_rfl) (by rfl) (by first | assumption | exact True.intro) ?_ ?_
      rotate_left
      · (intro w hSw; (try dsimp only at hSw); go_simp; (try with_reducible rfl))
      try simp only [Act.put, List.setIfInBounds_toArray, List.set_cons_zero, List.set_cons_succ]
      refine held_take (i := 11) (v := ?_) rfl (by kernel_rfl) (by kernel_rfl) (by kernel_rfl) (by rfl) (by first | assumption | exact True.intro) ?_ ?_
      rotate_left
      · (intro w hSw; (try dsimp only at hSw); go_simp; (try with_reducible rfl))
      try simp only [Act.put, List.setIfInBounds_toArray, List.set_cons_zero, List.set_cons_succ]
      refine held_take (i := 12) (v := ?_) rfl (by kernel_rfl) (by kernel_rfl) (by kernel_rfl) (by rfl) (by first | assumption | exact True.intro) ?_ ?_
      rotate_left
      · (intro w hSw; (try dsimp only at hSw); go_simp; (try with_reducible rfl))
      try simp only [Act.put, List.setIfInBounds_toArray, List.set_cons_zero, List.set_cons_succ]
      refine held_take (i := 13) (v := ?_) rfl (by kernel_rfl) (by kernel_rfl) (by kernel_rfl) (by rfl) (by first | assumption | exact True.intro) ?_ ?_
      rotate_left
      · (intro w hSw; (try dsimp only at hSw); go_simp; (try with_reducible rfl))
      try simp only [Act.put, List.setIfInBounds_toArray, List.set_cons_zero, List.set_cons_succ]
      refine held_take (i := 14) (v := ?_) rfl (by kernel_rfl) (by kernel_rfl) (by kernel_rfl) (by rfl) (by first | assumption | exact True.intro) ?_ ?_
      rotate_left
      · (intro w hSw; (try dsimp only at hSw); go_simp; (try with_reducible rfl))
      try simp only [Act.put, List.setIfInBounds_toArray, List.set_cons_zero, List.set_cons_succ]
      refine held_op (i := 15) (by kernel_rfl) rfl (fun K hK => ?_)
      go_simp
      go_at_call 69
      (with_reducible refine (HFR.out _ (Ext.of_drew hx2)).mono ?_)
      rintro e4 w4 ⟨rfl, hx4⟩
      refine hK _ _ ?_ (fun hHeld3 => ?_)
      · exact HS4.out _ ((Ext.of_drew hx2).trans hx4)
      clear hK K hHeld2
      try simp only [Act.put, List.setIfInBounds_toArray, List.set_cons_zero, List.set_cons_succ]
      refine held_take (i := 16) (v := ?_) rfl (by kernel_rfl) (by kernel_rfl) (by kernel_rfl) (by rfl) (by first | assumption | exact True.intro) ?_ ?_
      rotate_left
      · (intro w hSw; (try dsimp only at hSw); go_simp; (try with_reducible rfl))
      try simp only [Act.put, List.setIfInBounds_toArray, List.set_cons_zero, List.set_cons_succ]
      refine held_take (i := 17) (v := ?_) rfl (by kernel_rfl) (by kernel_rfl) (by kernel_rfl) (by rfl) (by first | assumption | exact True.intro) ?_ ?_
      rotate_left
      · (intro w hSw; (try dsimp only at hSw); go_simp; (try with_reducible rfl))
      try simp only [Act.put, List.setIfInBounds_toArray, List.set_cons_zero, List.set_cons_succ]
      refine held_take (i := 18) (v := ?_) rfl (by kernel_rfl) (by kernel_rfl) (by kernel_rfl) (by rfl) (by first | assumption | exact True.intro) ?_ ?_
      rotate_left
      · (intro w hSw; (try dsimp only at hSw); go_simp; (try with_reducible rfl))
      try simp only [Act.put, List.setIfInBounds_toArray, List.set_cons_zero, List.set_cons_succ]
      refine held_take (i := 19) (v := ?_) rfl (by kernel_rfl) (by kernel_rfl) (by kernel_rfl) (by rfl) (by first | assumption | exact True.intro) ?_ ?_
      rotate_left
      · (intro w hSw; (try dsimp only at hSw); go_simp; (try with_reducible rfl))
      try simp only [Act.put, List.setIfInBounds_toArray, List.set_cons_zero, List.set_cons_succ]
      refine held_take (i := 20) (v := ?_) rfl (by kernel_rfl) (by kernel_rfl) (by kernel_rfl) (by rfl) (by first | assumption | exact True.intro) ?_ ?_
      rotate_left
      · (intro w hSw; (try dsimp only at hSw); go_simp; (try with_reducible rfl))
      try simp only [Act.put, List.setIfInBounds_toArray, List.set_cons_zero, List.set_cons_succ]
      refine held_take (i := 21) (v := ?_) rfl (by kernel_rfl) (by kernel_rfl) (by kernel_rfl) (by rfl) (by first | assumption | exact True.intro) ?_ ?_
      rotate_left
      · (intro w hSw; (try dsimp only at hSw); go_simp; (try with_reducible rfl))
      try simp only [Act.put, List.setIfInBounds_toArray, List.set_cons_zero, List.set_cons_succ]
      refine held_take (i := 22) (v := ?_) rfl (by kernel_rfl) (by kernel_rfl) (by kernel_rfl) (by rfl) (by first | assumption | exact True.intro) ?_ ?_
      rotate_left
      · (intro w hSw; (try dsimp only at hSw); go_simp; (try with_reducible rfl))
      try simp only [Act.put, List.setIfInBounds_toArray, List.set_cons_zero, List.set_cons_succ]
      refine held_take (i := 23) (v := ?_) rfl (by kernel_rfl) (by kernel_rfl) (by kernel_rfl) (by rfl) (by first | assumption | exact True.intro) ?_ ?_
      rotate_left
      · (intro w hSw; (try dsimp only at hSw); go_simp; (try with_reducible rfl))
      try simp only [Act.put, List.setIfInBounds_toArray, List.set_cons_zero, List.set_cons_succ]
      refine held_take (i := 24) (v := ?_) rfl (by kernel_rfl) (by kernel_rfl) (by kernel_rfl) (by rfl) (by first | assumption | exact True.intro) ?_ ?_
      rotate_left
      · (intro w hSw; (try dsimp only at hSw); go_simp; (try with_reducible rfl))
      try simp only [Act.put, List.setIfInBounds_toArray, List.set_cons_zero, List.set_cons_succ]
      refine wpAnyH_done (by kernel_rfl) ?_ _
      refine NoPanic.normal ?_
      clear hHeld3
      have HX5 := Lib.hid (HX.out.trans ((Ext.of_drew hx2).trans hx4))
      have HP5 := Lib.hid (HP.out.ext ((Ext.of_drew hx2).trans hx4))
      clear hx2 hx4
      go_wp2
      go_ret
      exact MDone.of HR.out rfl HP5.out (Chg.of_ext HX5.out)
    · have hr : holdS s k j v = (setJ (giveS s v ((k : Int) + 1)) k { j with phase := 1, nodes := v, inc := j.inc + 1 }, 0) := by rw [holdS, if_pos ht, if_pos ⟨hf, ha, hi⟩]
      have d1 : (j.inc == 1000000) = false := by rw [beq_eq_false_iff_ne]; exact hi
      have hw : wrap64 (j.inc + 1) = j.inc + 1 := IntWalk.wrap64_in _ (by omega)
      have HR := Lib.hid hr
      have HSF : Hid (∀ w2, Ext W1 w2 → Pg F (((w2.setCell ⟨b, k * 12 + 6, none⟩ (.int .i64 1)).setCell ⟨b, k * 12 + 8, none⟩ (.int .i64 v)).drew.setCell ⟨b, k * 12 + 7, none⟩ (.int .i64 (j.inc + 1))) g c vn (.slice (some ⟨b, 0, none⟩) s.jobs.length cap) (setJ s k { j with phase := 1, nodes := v, inc := j.inc + 1 }) ∧
          Chg F w2 (((w2.setCell ⟨b, k * 12 + 6, none⟩ (.int .i64 1)).setCell ⟨b, k * 12 + 8, none⟩ (.int .i64 v)).drew.setCell ⟨b, k * 12 + 7, none⟩ (.int .i64 (j.inc + 1)))) := Lib.hid fun w2 h2 => by
        obtain ⟨h1, e1⟩ := (HP.out.ext h2).setJ HI.out (b := b) (cap := cap) rfl 6 (by omega) (.int .i64 1) (n' := { j with phase := 1 }) rfl
        obtain ⟨h2, e2⟩ := h1.setJ (b := b) (cap := cap) (n := { j with phase := 1 }) (set_get_j HI.out) (by simp [setJ]) 8 (by omega) (.int .i64 v) (n' := { j with phase := 1, nodes := v }) rfl
        have h2d := h2.ext (ext_drew9 (Ext.refl _))
        obtain ⟨h3, e3⟩ := h2d.setJ (b := b) (cap := cap) (n := { j with phase := 1, nodes := v }) (set_get_j (set_get_j HI.out)) (by simp [setJ]) 7 (by omega) (.int .i64 (j.inc + 1)) (n' := { j with phase := 1, nodes := v, inc := j.inc + 1 }) rfl
        simp only [setJ, List.set_set] at h3
        exact ⟨h3, chg3 (chg3 e1 e2).drew e3⟩
      clear hr ht ha hf hi
      clear HSU c0 c1 c2 c3 c4 c5 c6 c7 c8 c9 c10 c11 p9 p10 p11 p12 p13 p14 q2 HQ2 HJ7
      go_enter Tryd.func51, Tryd.ntmps51
      go_wp2_with fail
      rw [← hW1]
      clear hW1
      refine HIS.out.mono ?_
      rintro e1 w1 ⟨rfl, rfl⟩
      go_wp2_with fail
      refine HJ.out.mono ?_
      rintro e1 w1 ⟨rfl, rfl⟩
      go_wp2_with fail
      refine held_begin (by kernel_rfl) ?_
      have hHeld0 : True := True.intro
      refine held_more (S' := fun (W : World) => W.cell? ⟨g, 9, none⟩ = some vn ∧ W.cell? ⟨g, 10, none⟩ = some (.slice (some ⟨b, 0, none⟩) s.jobs.length cap) ∧ W.cell? ⟨g, 11, none⟩ = some (.int .i64 s.goal) ∧ W.cell? ⟨g, 12, none⟩ = some (.int .i64 s.prior) ∧ W.cell? ⟨g, 13, none⟩ = some (.int .i64 s.mode) ∧ W.cell? ⟨g, 14, none⟩ = some (.int .i64 s.term) ∧ W.cell? ⟨w.heap.size, 2, none⟩ = some (.int .i64 v) ∧ W.cell? ⟨b, k * 12, none⟩ = some (.int .i64 j.queue) ∧ W.cell? ⟨b, k * 12 + 1, none⟩ = some (.int .i64 j.prio) ∧ W.cell? ⟨b, k * 12 + 2, none⟩ = some (.int .i64 j.least) ∧ W.cell? ⟨b, k * 12 + 3, none⟩ = some (.int .i64 j.most) ∧ W.cell? ⟨b, k * 12 + 4, none⟩ = some (.int .i64 j.work) ∧ W.cell? ⟨b, k * 12 + 5, none⟩ = some (.int .i64 j.pin) ∧ W.cell? ⟨b, k * 12 + 6, none⟩ = some (.int .i64 j.phase) ∧ W.cell? ⟨b, k * 12 + 7, none⟩ = some (.int .i64 j.inc) ∧ W.cell? ⟨b, k * 12 + 8, none⟩ = some (.int .i64 j.nodes) ∧ W.cell? ⟨b, k * 12 + 9, none⟩ = some (.int .i64 j.since) ∧ W.cell? ⟨b, k * 12 + 10, none⟩ = some (.int .i64 j.til) ∧ W.cell? ⟨b, k * 12 + 11, none⟩ = some (.int .i64 j.epoch)) (fun _ _ => True.intro) ?_
      have hHeld1 : (fun (W : World) => W.cell? ⟨g, 9, none⟩ = some vn ∧ W.cell? ⟨g, 10, none⟩ = some (.slice (some ⟨b, 0, none⟩) s.jobs.length cap) ∧ W.cell? ⟨g, 11, none⟩ = some (.int .i64 s.goal) ∧ W.cell? ⟨g, 12, none⟩ = some (.int .i64 s.prior) ∧ W.cell? ⟨g, 13, none⟩ = some (.int .i64 s.mode) ∧ W.cell? ⟨g, 14, none⟩ = some (.int .i64 s.term) ∧ W.cell? ⟨w.heap.size, 2, none⟩ = some (.int .i64 v) ∧ W.cell? ⟨b, k * 12, none⟩ = some (.int .i64 j.queue) ∧ W.cell? ⟨b, k * 12 + 1, none⟩ = some (.int .i64 j.prio) ∧ W.cell? ⟨b, k * 12 + 2, none⟩ = some (.int .i64 j.least) ∧ W.cell? ⟨b, k * 12 + 3, none⟩ = some (.int .i64 j.most) ∧ W.cell? ⟨b, k * 12 + 4, none⟩ = some (.int .i64 j.work) ∧ W.cell? ⟨b, k * 12 + 5, none⟩ = some (.int .i64 j.pin) ∧ W.cell? ⟨b, k * 12 + 6, none⟩ = some (.int .i64 j.phase) ∧ W.cell? ⟨b, k * 12 + 7, none⟩ = some (.int .i64 j.inc) ∧ W.cell? ⟨b, k * 12 + 8, none⟩ = some (.int .i64 j.nodes) ∧ W.cell? ⟨b, k * 12 + 9, none⟩ = some (.int .i64 j.since) ∧ W.cell? ⟨b, k * 12 + 10, none⟩ = some (.int .i64 j.til) ∧ W.cell? ⟨b, k * 12 + 11, none⟩ = some (.int .i64 j.epoch)) _ := HS4.out _ (ext_drew9 (Ext.refl _))
      clear hHeld0
      refine held_take (i := 0) (v := ?_) rfl (by kernel_rfl) (by kernel_rfl) (by kernel_rfl) (by rfl) (by first | assumption | exact True.intro) ?_ ?_
      rotate_left
      · (intro w hSw; (try dsimp only at hSw); go_simp; (try with_reducible rfl))
      try simp only [Act.put, List.setIfInBounds_toArray, List.set_cons_zero, List.set_cons_succ]
      refine held_take (i := 1) (v := ?_) rfl (by kernel_rfl) (by kernel_rfl) (by kernel_rfl) (by rfl) (by first | assumption | exact True.intro) ?_ ?_
      rotate_left
      · (intro w hSw; (try dsimp only at hSw); go_simp; (try with_reducible rfl))
      try simp only [Act.put, List.setIfInBounds_toArray, List.set_cons_zero, List.set_cons_succ]
      refine held_take (i := 2) (v := ?_) rfl (by kernel_rfl) (by kernel_rfl) (by kernel_rfl) (by rfl) (by first | assumption | exact True.intro) ?_ ?_
      rotate_left
      · (intro w hSw; (try dsimp only at hSw); go_simp; (try with_reducible rfl))
      try simp only [Act.put, List.setIfInBounds_toArray, List.set_cons_zero, List.set_cons_succ]
      refine held_take (i := 3) (v := ?_) rfl (by kernel_rfl) (by kernel_rfl) (by kernel_rfl) (by rfl) (by first | assumption | exact True.intro) ?_ ?_
      rotate_left
      · (intro w hSw; (try dsimp only at hSw); go_simp; (try with_reducible rfl))
      try simp only [Act.put, List.setIfInBounds_toArray, List.set_cons_zero, List.set_cons_succ]
      refine held_take (i := 4) (v := ?_) rfl (by kernel_rfl) (by kernel_rfl) (by kernel_rfl) (by rfl) (by first | assumption | exact True.intro) ?_ ?_
      rotate_left
      · (intro w hSw; (try dsimp only at hSw); go_simp; (try with_reducible rfl))
      try simp only [Act.put, List.setIfInBounds_toArray, List.set_cons_zero, List.set_cons_succ]
      refine held_take (i := 5) (v := ?_) rfl (by kernel_rfl) (by kernel_rfl) (by kernel_rfl) (by rfl) (by first | assumption | exact True.intro) ?_ ?_
      rotate_left
      · (intro w hSw; (try dsimp only at hSw); go_simp; (try with_reducible rfl))
      try simp only [Act.put, List.setIfInBounds_toArray, List.set_cons_zero, List.set_cons_succ]
      refine held_take (i := 6) (v := ?_) rfl (by kernel_rfl) (by kernel_rfl) (by kernel_rfl) (by rfl) (by first | assumption | exact True.intro) ?_ ?_
      rotate_left
      · (intro w hSw; (try dsimp only at hSw); go_simp; (try with_reducible rfl))
      try simp only [Act.put, List.setIfInBounds_toArray, List.set_cons_zero, List.set_cons_succ]
      refine held_take (i := 7) (v := ?_) rfl (by kernel_rfl) (by kernel_rfl) (by kernel_rfl) (by rfl) (by first | assumption | exact True.intro) ?_ ?_
      rotate_left
      · (intro w hSw; (try dsimp only at hSw); go_simp; (try with_reducible rfl))
      try simp only [Act.put, List.setIfInBounds_toArray, List.set_cons_zero, List.set_cons_succ]
      refine held_take (i := 8) (v := ?_) rfl (by kernel_rfl) (by kernel_rfl) (by kernel_rfl) (by rfl) (by first | assumption | exact True.intro) ?_ ?_
      rotate_left
      · (intro w hSw; (try dsimp only at hSw); go_simp; (try with_reducible rfl))
      try simp only [Act.put, List.setIfInBounds_toArray, List.set_cons_zero, List.set_cons_succ]
      refine held_op (i := 9) (by kernel_rfl) rfl (fun K hK => ?_)
      go_simp
      go_at_call 29
      (with_reducible refine (HSU2.out _ (ext_drew9 (Ext.refl _))).mono ?_)
      rintro e2 w2 ⟨rfl, hx2⟩
      refine hK _ _ ?_ (fun hHeld2 => ?_)
      · exact HS4.out _ (Ext.of_drew hx2)
      clear hK K hHeld1
      try simp only [Act.put, List.setIfInBounds_toArray, List.set_cons_zero, List.set_cons_succ]
      refine held_take (i := 10) (v := ?_) rfl (by kernel_rfl) (by kernel_rfl) (by kernel_rfl) (by rfl) (by first | assumption | exact True.intro) ?_ ?_
      rotate_left
      · (intro w hSw; (try dsimp only at hSw); go_simp; (try with_reducible rfl))
      try simp only [Act.put, List.setIfInBounds_toArray, List.set_cons_zero, List.set_cons_succ]
      refine held_take (i := 11) (v := ?_) rfl (by kernel_rfl) (by kernel_rfl) (by kernel_rfl) (by rfl) (by first | assumption | exact True.intro) ?_ ?_
      rotate_left
      · (intro w hSw; (try dsimp only at hSw); go_simp; (try with_reducible rfl))
      try simp only [Act.put, List.setIfInBounds_toArray, List.set_cons_zero, List.set_cons_succ]
      refine held_take (i := 12) (v := ?_) rfl (by kernel_rfl) (by kernel_rfl) (by kernel_rfl) (by rfl) (by first | assumption | exact True.intro) ?_ ?_
      rotate_left
      · (intro w hSw; (try dsimp only at hSw); go_simp; (try with_reducible rfl))
      try simp only [Act.put, List.setIfInBounds_toArray, List.set_cons_zero, List.set_cons_succ]
      refine held_take (i := 13) (v := ?_) rfl (by kernel_rfl) (by kernel_rfl) (by kernel_rfl) (by rfl) (by first | assumption | exact True.intro) ?_ ?_
      rotate_left
      · (intro w hSw; (try dsimp only at hSw); go_simp; (try with_reducible rfl))
      try simp only [Act.put, List.setIfInBounds_toArray, List.set_cons_zero, List.set_cons_succ]
      refine held_take (i := 14) (v := ?_) rfl (by kernel_rfl) (by kernel_rfl) (by kernel_rfl) (by rfl) (by first | assumption | exact True.intro) ?_ ?_
      rotate_left
      · (intro w hSw; (try dsimp only at hSw); go_simp; (try with_reducible rfl))
      try simp only [Act.put, List.setIfInBounds_toArray, List.set_cons_zero, List.set_cons_succ]
      refine held_op (i := 15) (by kernel_rfl) rfl (fun K hK => ?_)
      go_simp
      go_at_call 69
      (with_reducible refine (HFR.out _ (Ext.of_drew hx2)).mono ?_)
      rintro e4 w4 ⟨rfl, hx4⟩
      refine hK _ _ ?_ (fun hHeld3 => ?_)
      · exact HS4.out _ ((Ext.of_drew hx2).trans hx4)
      clear hK K hHeld2
      try simp only [Act.put, List.setIfInBounds_toArray, List.set_cons_zero, List.set_cons_succ]
      refine held_take (i := 16) (v := ?_) rfl (by kernel_rfl) (by kernel_rfl) (by kernel_rfl) (by rfl) (by first | assumption | exact True.intro) ?_ ?_
      rotate_left
      · (intro w hSw; (try dsimp only at hSw); go_simp; (try with_reducible rfl))
      try simp only [Act.put, List.setIfInBounds_toArray, List.set_cons_zero, List.set_cons_succ]
      refine held_take (i := 17) (v := ?_) rfl (by kernel_rfl) (by kernel_rfl) (by kernel_rfl) (by rfl) (by first | assumption | exact True.intro) ?_ ?_
      rotate_left
      · (intro w hSw; (try dsimp only at hSw); go_simp; (try with_reducible rfl))
      try simp only [Act.put, List.setIfInBounds_toArray, List.set_cons_zero, List.set_cons_succ]
      refine held_take (i := 18) (v := ?_) rfl (by kernel_rfl) (by kernel_rfl) (by kernel_rfl) (by rfl) (by first | assumption | exact True.intro) ?_ ?_
      rotate_left
      · (intro w hSw; (try dsimp only at hSw); go_simp; (try with_reducible rfl))
      try simp only [Act.put, List.setIfInBounds_toArray, List.set_cons_zero, List.set_cons_succ]
      refine held_take (i := 19) (v := ?_) rfl (by kernel_rfl) (by kernel_rfl) (by kernel_rfl) (by rfl) (by first | assumption | exact True.intro) ?_ ?_
      rotate_left
      · (intro w hSw; (try dsimp only at hSw); go_simp; (try with_reducible rfl))
      try simp only [Act.put, List.setIfInBounds_toArray, List.set_cons_zero, List.set_cons_succ]
      refine held_take (i := 20) (v := ?_) rfl (by kernel_rfl) (by kernel_rfl) (by kernel_rfl) (by rfl) (by first | assumption | exact True.intro) ?_ ?_
      rotate_left
      · (intro w hSw; (try dsimp only at hSw); go_simp; (try with_reducible rfl))
      try simp only [Act.put, List.setIfInBounds_toArray, List.set_cons_zero, List.set_cons_succ]
      refine held_take (i := 21) (v := ?_) rfl (by kernel_rfl) (by kernel_rfl) (by kernel_rfl) (by rfl) (by first | assumption | exact True.intro) ?_ ?_
      rotate_left
      · (intro w hSw; (try dsimp only at hSw); go_simp; (try with_reducible rfl))
      try simp only [Act.put, List.setIfInBounds_toArray, List.set_cons_zero, List.set_cons_succ]
      refine held_take (i := 22) (v := ?_) rfl (by kernel_rfl) (by kernel_rfl) (by kernel_rfl) (by rfl) (by first | assumption | exact True.intro) ?_ ?_
      rotate_left
      · (intro w hSw; (try dsimp only at hSw); go_simp; (try with_reducible rfl))
      try simp only [Act.put, List.setIfInBounds_toArray, List.set_cons_zero, List.set_cons_succ]
      refine held_take (i := 23) (v := ?_) rfl (by kernel_rfl) (by kernel_rfl) (by kernel_rfl) (by rfl) (by first | assumption | exact True.intro) ?_ ?_
      rotate_left
      · (intro w hSw; (try dsimp only at hSw); go_simp; (try with_reducible rfl))
      try simp only [Act.put, List.setIfInBounds_toArray, List.set_cons_zero, List.set_cons_succ]
      refine held_take (i := 24) (v := ?_) rfl (by kernel_rfl) (by kernel_rfl) (by kernel_rfl) (by rfl) (by first | assumption | exact True.intro) ?_ ?_
      rotate_left
      · (intro w hSw; (try dsimp only at hSw); go_simp; (try with_reducible rfl))
      try simp only [Act.put, List.setIfInBounds_toArray, List.set_cons_zero, List.set_cons_succ]
      refine wpAnyH_done (by kernel_rfl) ?_ _
      refine NoPanic.normal ?_
      clear hHeld3
      have HX4 := Lib.hid ((Ext.of_drew hx2).trans hx4)
      have HX5 := Lib.hid (HX.out.trans HX4.out)
      have HS := Lib.hid (HSF.out w4 HX4.out)
      have HG := Lib.hid (give_any F _ g c vn _ _ v ((k : Int) + 1) HS.out.1 hn)
      have q2' : w4.cell? ⟨w.heap.size, 2, none⟩ = some (.int .i64 v) := (HB.out.ext HX4.out).cell 2
      have q1' : w4.cell? ⟨w.heap.size, 1, none⟩ = some (.int .i64 ((k : Int) + 1)) := (HB.out.ext HX4.out).cell 1
      obtain ⟨bz, capz, hvz, _, _, _, _, hatz, hfrz⟩ := (HP.out.ext HX4.out).jobAt HI.out
      injection hvz with hA _ hcap
      injection hA with hA
      injection hA with hA
      subst hA hcap
      have z6 := hatz.c6
      have z7 := hatz.c7
      have z8 := hatz.c8
      have f6 := hfrz (k * 12 + 6)
      have f7 := hfrz (k * 12 + 7)
      have f8 := hfrz (k * 12 + 8)
      clear hx2 hx4 hatz hfrz
      go_wp2_with fail
      go_region
      go_wp2_with fail
      refine HG.out.mono ?_
      rintro e6 w6 ⟨rfl, hp6, hc6⟩
      have HP6 := Lib.hid hp6
      have HC6 := Lib.hid (chg3 (chg2 HX5.out HS.out.2) hc6)
      clear hp6 hc6
      go_wp2
      go_ret
      exact MDone.of HR.out rfl HP6.out HC6.out
  · have HSU2 : Hid (∀ w', Ext W1 w' → Calls Tryd.prog 29 #[.agg #[vn, .slice (some ⟨b, 0, none⟩) s.jobs.length cap, .int .i64 s.goal, .int .i64 s.prior, .int .i64 s.mode, .int .i64 s.term], .agg #[.int .i64 j.queue, .int .i64 j.prio, .int .i64 j.least, .int .i64 j.most, .int .i64 j.work, .int .i64 j.pin, .int .i64 j.phase, .int .i64 j.inc, .int .i64 j.nodes, .int .i64 j.since, .int .i64 j.til, .int .i64 j.epoch], .int .i64 v] w' fun e w'' => e = .returned (.bool false) ∧ Ext w' w'') := Lib.hid fun w' hx => (HSU.out w' hx).mono fun e w'' ⟨b', he, hb', hx'⟩ => ⟨by rw [he]; congr 2; exact Bool.eq_false_iff.2 (fun h => hf (hb'.1 h)), hx'⟩
    have hr : holdS s k j v = (s, 8) := by rw [holdS, if_pos ht, if_neg (fun h => hf h.1)]
    have HR := Lib.hid hr
    clear hr ht hf
    clear HSU c0 c1 c2 c3 c4 c5 c6 c7 c8 c9 c10 c11 p9 p10 p11 p12 p13 p14 q2 HQ2 HJ7
    go_enter Tryd.func51, Tryd.ntmps51
    go_wp2_with fail
    rw [← hW1]
    clear hW1
    refine HIS.out.mono ?_
    rintro e1 w1 ⟨rfl, rfl⟩
    go_wp2_with fail
    refine HJ.out.mono ?_
    rintro e1 w1 ⟨rfl, rfl⟩
    go_wp2_with fail
    refine held_begin (by kernel_rfl) ?_
    have hHeld0 : True := True.intro
    refine held_more (S' := fun (W : World) => W.cell? ⟨g, 9, none⟩ = some vn ∧ W.cell? ⟨g, 10, none⟩ = some (.slice (some ⟨b, 0, none⟩) s.jobs.length cap) ∧ W.cell? ⟨g, 11, none⟩ = some (.int .i64 s.goal) ∧ W.cell? ⟨g, 12, none⟩ = some (.int .i64 s.prior) ∧ W.cell? ⟨g, 13, none⟩ = some (.int .i64 s.mode) ∧ W.cell? ⟨g, 14, none⟩ = some (.int .i64 s.term) ∧ W.cell? ⟨w.heap.size, 2, none⟩ = some (.int .i64 v) ∧ W.cell? ⟨b, k * 12, none⟩ = some (.int .i64 j.queue) ∧ W.cell? ⟨b, k * 12 + 1, none⟩ = some (.int .i64 j.prio) ∧ W.cell? ⟨b, k * 12 + 2, none⟩ = some (.int .i64 j.least) ∧ W.cell? ⟨b, k * 12 + 3, none⟩ = some (.int .i64 j.most) ∧ W.cell? ⟨b, k * 12 + 4, none⟩ = some (.int .i64 j.work) ∧ W.cell? ⟨b, k * 12 + 5, none⟩ = some (.int .i64 j.pin) ∧ W.cell? ⟨b, k * 12 + 6, none⟩ = some (.int .i64 j.phase) ∧ W.cell? ⟨b, k * 12 + 7, none⟩ = some (.int .i64 j.inc) ∧ W.cell? ⟨b, k * 12 + 8, none⟩ = some (.int .i64 j.nodes) ∧ W.cell? ⟨b, k * 12 + 9, none⟩ = some (.int .i64 j.since) ∧ W.cell? ⟨b, k * 12 + 10, none⟩ = some (.int .i64 j.til) ∧ W.cell? ⟨b, k * 12 + 11, none⟩ = some (.int .i64 j.epoch)) (fun _ _ => True.intro) ?_
    have hHeld1 : (fun (W : World) => W.cell? ⟨g, 9, none⟩ = some vn ∧ W.cell? ⟨g, 10, none⟩ = some (.slice (some ⟨b, 0, none⟩) s.jobs.length cap) ∧ W.cell? ⟨g, 11, none⟩ = some (.int .i64 s.goal) ∧ W.cell? ⟨g, 12, none⟩ = some (.int .i64 s.prior) ∧ W.cell? ⟨g, 13, none⟩ = some (.int .i64 s.mode) ∧ W.cell? ⟨g, 14, none⟩ = some (.int .i64 s.term) ∧ W.cell? ⟨w.heap.size, 2, none⟩ = some (.int .i64 v) ∧ W.cell? ⟨b, k * 12, none⟩ = some (.int .i64 j.queue) ∧ W.cell? ⟨b, k * 12 + 1, none⟩ = some (.int .i64 j.prio) ∧ W.cell? ⟨b, k * 12 + 2, none⟩ = some (.int .i64 j.least) ∧ W.cell? ⟨b, k * 12 + 3, none⟩ = some (.int .i64 j.most) ∧ W.cell? ⟨b, k * 12 + 4, none⟩ = some (.int .i64 j.work) ∧ W.cell? ⟨b, k * 12 + 5, none⟩ = some (.int .i64 j.pin) ∧ W.cell? ⟨b, k * 12 + 6, none⟩ = some (.int .i64 j.phase) ∧ W.cell? ⟨b, k * 12 + 7, none⟩ = some (.int .i64 j.inc) ∧ W.cell? ⟨b, k * 12 + 8, none⟩ = some (.int .i64 j.nodes) ∧ W.cell? ⟨b, k * 12 + 9, none⟩ = some (.int .i64 j.since) ∧ W.cell? ⟨b, k * 12 + 10, none⟩ = some (.int .i64 j.til) ∧ W.cell? ⟨b, k * 12 + 11, none⟩ = some (.int .i64 j.epoch)) _ := HS4.out _ (ext_drew9 (Ext.refl _))
    clear hHeld0
    refine held_take (i := 0) (v := ?_) rfl (by kernel_rfl) (by kernel_rfl) (by kernel_rfl) (by rfl) (by first | assumption | exact True.intro) ?_ ?_
    rotate_left
    · (intro w hSw; (try dsimp only at hSw); go_simp; (try with_reducible rfl))
    try simp only [Act.put, List.setIfInBounds_toArray, List.set_cons_zero, List.set_cons_succ]
    refine held_take (i := 1) (v := ?_) rfl (by kernel_rfl) (by kernel_rfl) (by kernel_rfl) (by rfl) (by first | assumption | exact True.intro) ?_ ?_
    rotate_left
    · (intro w hSw; (try dsimp only at hSw); go_simp; (try with_reducible rfl))
    try simp only [Act.put, List.setIfInBounds_toArray, List.set_cons_zero, List.set_cons_succ]
    refine held_take (i := 2) (v := ?_) rfl (by kernel_rfl) (by kernel_rfl) (by kernel_rfl) (by rfl) (by first | assumption | exact True.intro) ?_ ?_
    rotate_left
    · (intro w hSw; (try dsimp only at hSw); go_simp; (try with_reducible rfl))
    try simp only [Act.put, List.setIfInBounds_toArray, List.set_cons_zero, List.set_cons_succ]
    refine held_take (i := 3) (v := ?_) rfl (by kernel_rfl) (by kernel_rfl) (by kernel_rfl) (by rfl) (by first | assumption | exact True.intro) ?_ ?_
    rotate_left
    · (intro w hSw; (try dsimp only at hSw); go_simp; (try with_reducible rfl))
    try simp only [Act.put, List.setIfInBounds_toArray, List.set_cons_zero, List.set_cons_succ]
    refine held_take (i := 4) (v := ?_) rfl (by kernel_rfl) (by kernel_rfl) (by kernel_rfl) (by rfl) (by first | assumption | exact True.intro) ?_ ?_
    rotate_left
    · (intro w hSw; (try dsimp only at hSw); go_simp; (try with_reducible rfl))
    try simp only [Act.put, List.setIfInBounds_toArray, List.set_cons_zero, List.set_cons_succ]
    refine held_take (i := 5) (v := ?_) rfl (by kernel_rfl) (by kernel_rfl) (by kernel_rfl) (by rfl) (by first | assumption | exact True.intro) ?_ ?_
    rotate_left
    · (intro w hSw; (try dsimp only at hSw); go_simp; (try with_reducible rfl))
    try simp only [Act.put, List.setIfInBounds_toArray, List.set_cons_zero, List.set_cons_succ]
    refine held_take (i := 6) (v := ?_) rfl (by kernel_rfl) (by kernel_rfl) (by kernel_rfl) (by rfl) (by first | assumption | exact True.intro) ?_ ?_
    rotate_left
    · (intro w hSw; (try dsimp only at hSw); go_simp; (try with_reducible rfl))
    try simp only [Act.put, List.setIfInBounds_toArray, List.set_cons_zero, List.set_cons_succ]
    refine held_take (i := 7) (v := ?_) rfl (by kernel_rfl) (by kernel_rfl) (by kernel_rfl) (by rfl) (by first | assumption | exact True.intro) ?_ ?_
    rotate_left
    · (intro w hSw; (try dsimp only at hSw); go_simp; (try with_reducible rfl))
    try simp only [Act.put, List.setIfInBounds_toArray, List.set_cons_zero, List.set_cons_succ]
    refine held_take (i := 8) (v := ?_) rfl (by kernel_rfl) (by kernel_rfl) (by kernel_rfl) (by rfl) (by first | assumption | exact True.intro) ?_ ?_
    rotate_left
    · (intro w hSw; (try dsimp only at hSw); go_simp; (try with_reducible rfl))
    try simp only [Act.put, List.setIfInBounds_toArray, List.set_cons_zero, List.set_cons_succ]
    refine held_op (i := 9) (by kernel_rfl) rfl (fun K hK => ?_)
    go_simp
    go_at_call 29
    (with_reducible refine (HSU2.out _ (ext_drew9 (Ext.refl _))).mono ?_)
    rintro e2 w2 ⟨rfl, hx2⟩
    refine hK _ _ ?_ (fun hHeld2 => ?_)
    · exact HS4.out _ (Ext.of_drew hx2)
    clear hK K hHeld1
    try simp only [Act.put, List.setIfInBounds_toArray, List.set_cons_zero, List.set_cons_succ]
    refine held_take (i := 10) (v := ?_) rfl (by kernel_rfl) (by kernel_rfl) (by kernel_rfl) (by rfl) (by first | assumption | exact True.intro) ?_ ?_
    rotate_left
    · (intro w hSw; (try dsimp only at hSw); go_simp; (try with_reducible rfl))
    try simp only [Act.put, List.setIfInBounds_toArray, List.set_cons_zero, List.set_cons_succ]
    refine held_take (i := 11) (v := ?_) rfl (by kernel_rfl) (by kernel_rfl) (by kernel_rfl) (by rfl) (by first | assumption | exact True.intro) ?_ ?_
    rotate_left
    · (intro w hSw; (try dsimp only at hSw); go_simp; (try with_reducible rfl))
    try simp only [Act.put, List.setIfInBounds_toArray, List.set_cons_zero, List.set_cons_succ]
    refine held_skip (i := 12) rfl (by kernel_rfl) (by kernel_rfl) (by kernel_rfl) (by rfl) (by first | assumption | exact True.intro) ?_
    try simp only [Act.put, List.setIfInBounds_toArray, List.set_cons_zero, List.set_cons_succ]
    refine held_skip (i := 13) rfl (by kernel_rfl) (by kernel_rfl) (by kernel_rfl) (by rfl) (by first | assumption | exact True.intro) ?_
    try simp only [Act.put, List.setIfInBounds_toArray, List.set_cons_zero, List.set_cons_succ]
    refine held_skip (i := 14) rfl (by kernel_rfl) (by kernel_rfl) (by kernel_rfl) (by rfl) (by first | assumption | exact True.intro) ?_
    try simp only [Act.put, List.setIfInBounds_toArray, List.set_cons_zero, List.set_cons_succ]
    refine held_skip (i := 15) rfl (by kernel_rfl) (by kernel_rfl) (by kernel_rfl) (by rfl) (by first | assumption | exact True.intro) ?_
    try simp only [Act.put, List.setIfInBounds_toArray, List.set_cons_zero, List.set_cons_succ]
    refine held_skip (i := 16) rfl (by kernel_rfl) (by kernel_rfl) (by kernel_rfl) (by rfl) (by first | assumption | exact True.intro) ?_
    try simp only [Act.put, List.setIfInBounds_toArray, List.set_cons_zero, List.set_cons_succ]
    refine held_take (i := 17) (v := ?_) rfl (by kernel_rfl) (by kernel_rfl) (by kernel_rfl) (by rfl) (by first | assumption | exact True.intro) ?_ ?_
    rotate_left
    · (intro w hSw; (try dsimp only at hSw); go_simp; (try with_reducible rfl))
    try simp only [Act.put, List.setIfInBounds_toArray, List.set_cons_zero, List.set_cons_succ]
    refine held_take (i := 18) (v := ?_) rfl (by kernel_rfl) (by kernel_rfl) (by kernel_rfl) (by rfl) (by first | assumption | exact True.intro) ?_ ?_
    rotate_left
    · (intro w hSw; (try dsimp only at hSw); go_simp; (try with_reducible rfl))
    try simp only [Act.put, List.setIfInBounds_toArray, List.set_cons_zero, List.set_cons_succ]
    refine held_skip (i := 19) rfl (by kernel_rfl) (by kernel_rfl) (by kernel_rfl) (by rfl) (by first | assumption | exact True.intro) ?_
    try simp only [Act.put, List.setIfInBounds_toArray, List.set_cons_zero, List.set_cons_succ]
    refine held_skip (i := 20) rfl (by kernel_rfl) (by kernel_rfl) (by kernel_rfl) (by rfl) (by first | assumption | exact True.intro) ?_
    try simp only [Act.put, List.setIfInBounds_toArray, List.set_cons_zero, List.set_cons_succ]
    refine held_skip (i := 21) rfl (by kernel_rfl) (by kernel_rfl) (by kernel_rfl) (by rfl) (by first | assumption | exact True.intro) ?_
    try simp only [Act.put, List.setIfInBounds_toArray, List.set_cons_zero, List.set_cons_succ]
    refine held_skip (i := 22) rfl (by kernel_rfl) (by kernel_rfl) (by kernel_rfl) (by rfl) (by first | assumption | exact True.intro) ?_
    try simp only [Act.put, List.setIfInBounds_toArray, List.set_cons_zero, List.set_cons_succ]
    refine held_skip (i := 23) rfl (by kernel_rfl) (by kernel_rfl) (by kernel_rfl) (by rfl) (by first | assumption | exact True.intro) ?_
    try simp only [Act.put, List.setIfInBounds_toArray, List.set_cons_zero, List.set_cons_succ]
    refine held_take (i := 24) (v := ?_) rfl (by kernel_rfl) (by kernel_rfl) (by kernel_rfl) (by rfl) (by first | assumption | exact True.intro) ?_ ?_
    rotate_left
    · (intro w hSw; (try dsimp only at hSw); go_simp; (try with_reducible rfl))
    try simp only [Act.put, List.setIfInBounds_toArray, List.set_cons_zero, List.set_cons_succ]
    refine wpAnyH_done (by kernel_rfl) ?_ _
    refine NoPanic.normal ?_
    clear hHeld2
    have HX5 := Lib.hid (HX.out.trans (Ext.of_drew hx2))
    have HP5 := Lib.hid (HP.out.ext (Ext.of_drew hx2))
    clear hx2
    go_wp2
    go_ret
    exact MDone.of HR.out rfl HP5.out (Chg.of_ext HX5.out)

end Go.Proofs.YtkpcjdhnbjkaaaaDoor

/- Package book: shrink. -/
namespace Go.Proofs.YtkpcjdhnbjkaaaaDoor
open Go.RowKit

set_option maxRecDepth 100000 in
theorem less_eq : ∀ m : Nat, m < 64 → ∀ i : Nat, i < 6 → hasS (m : Int) i = true → bits .andNot .i64 (m : Int) (wrap64 (2 ^ i)) = (m : Int) - 2 ^ i := by decide +kernel

set_option maxRecDepth 100000 in
set_option maxHeartbeats 4000000 in
theorem shrink_any (F : Fp) (w : World) (g : Nat) (c : Cf) (vn vj : Value) (s : St) (z a3 a4 a5 a6 : Int) (i : Nat) (n : Nd) (k : Nat) (j : Jb) (h : Pg F w g c vn vj s) (hj : s.jobs[k]? = some j) (m : Nat) (hm : j.nodes = (m : Int)) (hm6 : m < 64) (hi : s.nodes[i]? = some n) (hn : s.nodes.length ≤ 6) :
    Calls Tryd.prog 62 #[.pointer (some ⟨g, 0, none⟩), .agg #[.int .i64 z, .int .i64 ((k : Int) + 1), .int .i64 (i : Int), .int .i64 a3, .int .i64 a4, .int .i64 a5, .int .i64 a6]] w fun e w' => e = .returned (.int .i64 (shrinkS s k j i n).2) ∧ (∃ vn vj, Pg (F.since w w') w' g c vn vj (shrinkS s k j i n).1) ∧ Chg F w w' := by
  obtain ⟨hx0, hbk0⟩ := boxOp w #[.int .i64 z, .int .i64 ((k : Int) + 1), .int .i64 (i : Int), .int .i64 a3, .int .i64 a4, .int .i64 a5, .int .i64 a6]
  obtain ⟨W1, hW1⟩ : ∃ W1, W1 = (w.alloc (.cells #[.int .i64 z, .int .i64 ((k : Int) + 1), .int .i64 (i : Int), .int .i64 a3, .int .i64 a4, .int .i64 a5, .int .i64 a6] 32)).alloc (.cells #[.int .i64 2] 3) := ⟨_, rfl⟩
  have hx1 : Ext (w.alloc (.cells #[.int .i64 z, .int .i64 ((k : Int) + 1), .int .i64 (i : Int), .int .i64 a3, .int .i64 a4, .int .i64 a5, .int .i64 a6] 32)) W1 := by rw [hW1]; exact (Below.refl _ _).alloc (Nat.le_refl _) _
  have hx := hx0.trans hx1
  have hbk := hbk0.ext hx1
  have hrs : Rd W1 (.slice (some ⟨w.heap.size + 1, 0, none⟩) 1 1) (([2] : List Int).map I) := by
    rw [hW1]
    exact Rd.litI _ [2] _ _ 1 _ (by decide) rfl rfl (by simp)
  have hp := h.ext hx
  obtain ⟨b, cap, rfl, hnc, hcm, hb, hbg, hat, hfr⟩ := hp.jobAt hj
  have HIS := Lib.hid (is_any F W1 g c vn (.slice (some ⟨b, 0, none⟩) s.jobs.length cap) s k j [2] _ hp hj hrs (by decide))
  have HJ := Lib.hid (job_any F W1 g c vn s k b cap j hp hj hcm hnc)
  have HX := Lib.hid hx
  have HP := Lib.hid hp
  have HI := Lib.hid hj
  have HB := Lib.hid hbk
  have HF0 := Lib.hid hfr
  have hlw : w.heap.size ≠ b := fun e => by
    obtain ⟨b0, cap0, e0, _, _, hb0, _⟩ := h.jobAt hj
    injection e0 with e1
    injection e1 with e1
    injection e1 with e1
    omega
  have hlg : w.heap.size ≠ g := fun e => by have := h.lt; omega
  have q1 : W1.cell? ⟨w.heap.size, 1, none⟩ = some (.int .i64 ((k : Int) + 1)) := hbk.cell 1
  have q2 : W1.cell? ⟨w.heap.size, 2, none⟩ = some (.int .i64 (i : Int)) := hbk.cell 2
  have hk0 := (List.getElem?_eq_some_iff.1 hj).1
  clear hx0 hbk0 hx1 hx hbk hp hj hfr hrs h
  obtain ⟨c0, c1, c2, c3, c4, c5, c6, c7, c8, c9, c10, c11⟩ := hat
  by_cases ht : ¬ (j.phase = 2)
  · have hr : shrinkS s k j i n = (s, 5) := by rw [shrinkS, if_neg ht]
    have HR := Lib.hid hr
    have hd : decide (j.phase ∈ ([2] : List Int)) = false := by simp; omega
    rw [hd] at HIS
    clear hr ht hd
    go_enter Tryd.func62, Tryd.ntmps62
    go_wp2_with fail
    rw [← hW1]
    clear hW1
    refine HIS.out.mono ?_
    rintro e1 w1 ⟨rfl, rfl⟩
    go_wp2
    go_ret
    exact MDone.of HR.out rfl HP.out (Chg.of_ext HX.out)
  replace ht := Classical.not_not.1 ht
  have hd : decide (j.phase ∈ ([2] : List Int)) = true := by simp; omega
  rw [hd] at HIS
  clear hd
  rw [hm] at c8
  obtain ⟨bn, capn, rfl, hnn, hncm, hbn, hbng, hatn, hfrn⟩ := HP.out.nodeAt hi
  have HNI := Lib.hid hi
  have hil := (List.getElem?_eq_some_iff.1 hi).1
  have hi64 : i < 64 := by omega
  have HH := Lib.hid fun w' => has_any (m : Int) i hi64 w'
  have HSZ := Lib.hid fun w' => size_any m hm6 w'
  cases hh : hasS (m : Int) i
  · have hr : shrinkS s k j i n = (s, 8) := by rw [shrinkS, if_pos ht, if_neg (by rw [hm, hh]; simp)]
    have HR := Lib.hid hr
    clear hr ht hm
    go_enter Tryd.func62, Tryd.ntmps62
    go_wp2_with fail
    rw [← hW1]
    clear hW1
    refine HIS.out.mono ?_
    rintro e1 w1 ⟨rfl, rfl⟩
    go_wp2_with fail
    refine HJ.out.mono ?_
    rintro e1 w1 ⟨rfl, rfl⟩
    go_wp2_with fail
    go_quiet (first | (go_at_call 27; exact quiet_eq (HH.out _)) | (go_at_call 37; exact quiet_eq (HSZ.out _)))
    go_wp2
    go_ret
    exact MDone.of HR.out rfl (HP.out.ext (Below.drewN' (Ext.refl W1) nq)) (Chg.of_ext (Below.drewN' HX.out nq))
  by_cases h1 : j.least < (manyS (m : Int) : Int)
  · have d1 : decide ((manyS (m : Int) : Int) ≤ j.least) = false := decide_eq_false (by omega)
    have hr : shrinkS s k j i n = (setN (setJ s k { j with nodes := lessS j.nodes i }) i { n with job := 0 }, 0) := by rw [shrinkS, if_pos ht, if_pos (by rw [hm]; exact ⟨hh, h1⟩)]
    have hL : lessS j.nodes i = (m : Int) - 2 ^ i := by rw [hm]; rfl
    have he := (less_eq m hm6 i (by omega) hh).trans hL.symm
    have HR := Lib.hid hr
    generalize lessS j.nodes i = L at *
    clear hr ht h1 hL
    go_enter Tryd.func62, Tryd.ntmps62
    go_wp2_with fail
    rw [← hW1]
    clear hW1
    refine HIS.out.mono ?_
    rintro e1 w1 ⟨rfl, rfl⟩
    go_wp2_with fail
    refine HJ.out.mono ?_
    rintro e1 w1 ⟨rfl, rfl⟩
    go_wp2_with fail
    go_quiet (first | (go_at_call 27; exact quiet_eq (HH.out _)) | (go_at_call 37; exact quiet_eq (HSZ.out _)))
    go_wp2_with fail
    have hs0 : (0 : Int) ≤ (i : Int) := by omega
    have f8 := HF0.out (k * 12 + 8)
    go_region
    obtain ⟨hp2, hc2⟩ := ((HP.out.ext (Below.drewN' (Ext.refl W1) (nq + 1))).setJ HI.out (b := b) (cap := cap) rfl 8 (by omega) (.int .i64 L) (n' := { j with nodes := L }) rfl)
    have hx2 : Ext w (W1.drewN (nq + 1)) := Below.drewN' HX.out (nq + 1)
    have HC2 := Lib.hid (chg2 hx2 hc2)
    have HN2 := Lib.hid (node_any F _ g c _ (setJ s k { j with nodes := L }) i bn capn n hp2 HNI.out)
    have HS := Lib.hid (hp2.setN HNI.out (b := bn) (cap := capn) rfl 4 (by omega) (.int .i64 0) (n' := { n with job := 0 }) rfl)
    obtain ⟨bz, capz, hvz, _, _, _, _, hatz, hfrz⟩ := hp2.nodeAt HNI.out
    injection hvz with hA _ hcap
    injection hA with hA
    injection hA with hA
    subst hA hcap
    have z4 := hatz.c4
    have g4 := hfrz (i * 5 + 4)
    clear hp2 hc2 hx2 hatz hfrz hatn hfrn
    go_wp2_with fail
    refine HN2.out.mono ?_
    rintro e6 w6 ⟨rfl, rfl⟩
    go_wp2
    go_ret
    exact MDone.of HR.out rfl HS.out.1 (chg3 HC2.out HS.out.2)
  · have d1 : decide ((manyS (m : Int) : Int) ≤ j.least) = true := decide_eq_true (by omega)
    have hr : shrinkS s k j i n = (s, 8) := by rw [shrinkS, if_pos ht, if_neg (by rw [hm]; exact fun h => h1 h.2)]
    have HR := Lib.hid hr
    clear hr ht hm h1
    go_enter Tryd.func62, Tryd.ntmps62
    go_wp2_with fail
    rw [← hW1]
    clear hW1
    refine HIS.out.mono ?_
    rintro e1 w1 ⟨rfl, rfl⟩
    go_wp2_with fail
    refine HJ.out.mono ?_
    rintro e1 w1 ⟨rfl, rfl⟩
    go_wp2_with fail
    go_quiet (first | (go_at_call 27; exact quiet_eq (HH.out _)) | (go_at_call 37; exact quiet_eq (HSZ.out _)))
    go_wp2
    go_ret
    exact MDone.of HR.out rfl (HP.out.ext (Below.drewN' (Ext.refl W1) nq)) (Chg.of_ext (Below.drewN' HX.out nq))

end Go.Proofs.YtkpcjdhnbjkaaaaDoor

/- Package book: an op is done, whatever its kind. -/
namespace Go.Proofs.YtkpcjdhnbjkaaaaDoor
open Go.RowKit

set_option maxRecDepth 100000 in
set_option maxHeartbeats 4000000 in
theorem do_wrongI (F : Fp) (w : World) (g : Nat) (c : Cf) (vn vj : Value) (s : St) (z a1 a2 a3 a4 a5 a6 : Int) (h : Pg F w g c vn vj s) (hL : Laid w) (hr : rightO (z, a1, a2, a3, a4, a5, a6) = false) :
    Calls Tryd.prog 22 #[.pointer (some ⟨g, 0, none⟩), .agg #[.int .i64 z, .int .i64 a1, .int .i64 a2, .int .i64 a3, .int .i64 a4, .int .i64 a5, .int .i64 a6]] w fun e w' => e = .returned (.int .i64 ((s, 1) : Res9).2) ∧ (∃ vn vj, Pg (F.since w w') w' g c vn vj ((s, 1) : Res9).1) ∧ Chg F w w' := by
  obtain ⟨hx, hbk⟩ := boxOp w #[.int .i64 z, .int .i64 a1, .int .i64 a2, .int .i64 a3, .int .i64 a4, .int .i64 a5, .int .i64 a6]
  obtain ⟨W1, hW1⟩ : ∃ W1, W1 = w.alloc (.cells #[.int .i64 z, .int .i64 a1, .int .i64 a2, .int .i64 a3, .int .i64 a4, .int .i64 a5, .int .i64 a6] 32) := ⟨_, rfl⟩
  rw [← hW1] at hx hbk
  have HR0 := Lib.hid (Right_any (z, a1, a2, a3, a4, a5, a6) W1 (hL.ext hx))
  have HX := Lib.hid hx
  have HP := Lib.hid (h.ext hx)
  have HB := Lib.hid hbk
  rw [show opV (z, a1, a2, a3, a4, a5, a6) = .agg #[.int .i64 z, .int .i64 a1, .int .i64 a2, .int .i64 a3, .int .i64 a4, .int .i64 a5, .int .i64 a6] from rfl] at HR0
  rw [hr] at HR0
  clear hx hbk h hL hr
  go_enter Tryd.func22, Tryd.ntmps22
  go_wp2_with fail
  rw [← hW1]
  clear hW1
  refine HR0.out.mono ?_
  rintro e1 w1 ⟨rfl, hx1⟩
  have HX1 := Lib.hid hx1
  have HB1 := Lib.hid (HB.out.ext hx1)
  clear hx1
  have HP1 := Lib.hid (HP.out.ext HX1.out)
  go_wp2
  go_ret
  exact MDone.of (res := (s, 1)) rfl rfl HP1.out (Chg.of_ext (HX.out.trans HX1.out))


theorem jobOf_at {s : St} {k : Nat} {j : Jb} (hj : s.jobs[k]? = some j) : jobOf s ((k : Int) + 1) = some j := by
  unfold jobOf
  rw [if_pos (by omega)]
  have : ((k : Int) + 1 - 1).toNat = k := by omega
  rw [this]
  exact hj
theorem applyS_job {c : Cf} {s : St} {kd : Int} {k : Nat} {j : Jb} {b a3 a4 a5 a6 : Int} (hkd : kd = 2 ∨ kd = 9 ∨ kd = 10 ∨ kd = 11 ∨ kd = 12 ∨ kd = 13 ∨ kd = 14 ∨ kd = 15 ∨ kd = 20) (hr : rightO (kd, (k : Int) + 1, b, a3, a4, a5, a6) = true) (hj : s.jobs[k]? = some j) :
    applyS c s (kd, (k : Int) + 1, b, a3, a4, a5, a6) = jobOp c s kd k j b := by
  have h1 := jobOf_at hj
  have h2 : ((k : Int) + 1 - 1).toNat = k := by omega
  unfold applyS
  rw [if_neg (by rw [hr]; simp)]
  unfold doS
  dsimp only
  rw [if_neg (by omega), if_neg (by omega), if_neg (by omega), if_neg (by omega), if_neg (by omega), if_neg (by omega), if_neg (by omega), h1]
  simp only [h2]
theorem applyS_node {c : Cf} {s : St} {kd : Int} {i : Nat} {n : Nd} {b a3 a4 a5 a6 : Int} (hkd : kd = 7 ∨ kd = 8 ∨ kd = 16 ∨ kd = 17 ∨ kd = 18 ∨ kd = 19) (hr : rightO (kd, (i : Int), b, a3, a4, a5, a6) = true) (hi : s.nodes[i]? = some n) :
    applyS c s (kd, (i : Int), b, a3, a4, a5, a6) = nodeOp s kd i n b := by
  have h2 : ((i : Int)).toNat = i := by omega
  unfold applyS
  rw [if_neg (by rw [hr]; simp)]
  unfold doS
  dsimp only
  rw [if_neg (by omega), if_neg (by omega), if_neg (by omega), if_neg (by omega), if_neg (by omega), if_neg (by omega), if_pos hkd, h2, hi]

/-- What names a job, or a node, that is none. -/
theorem applyS_lacks {c : Cf} {s : St} {o : OpN} (hr : rightO o = true) (hl : lacksS s o = true) : applyS c s o = (s, 4) := by
  have h0 := (rightO_iff.1 hr).2.1
  have ha : 0 ≤ o.2.1 := (h0 _ (by simp [numsO])).1
  have hb : 0 ≤ o.2.2.1 := (h0 _ (by simp [numsO])).1
  have njob : ∀ a, inR a 1 (s.jobs.length : Int) = false → jobOf s a = none := fun a h => by
    unfold jobOf
    split
    · rw [List.getElem?_eq_none_iff]
      have : ¬ (1 ≤ a ∧ a ≤ (s.jobs.length : Int)) := fun h' => by
        rw [inR_iff.2 h'] at h
        cases h
      omega
    · rfl
  have nnode : ∀ a, 0 ≤ a → inR a 0 ((s.nodes.length : Int) - 1) = false → s.nodes[a.toNat]? = none := fun a h0 h => by
    rw [List.getElem?_eq_none_iff]
    have : ¬ (0 ≤ a ∧ a ≤ (s.nodes.length : Int) - 1) := fun h' => by
      rw [inR_iff.2 h'] at h
      cases h
    omega
  unfold applyS
  rw [if_neg (by rw [hr]; simp)]
  unfold lacksS at hl
  unfold doS
  split at hl
  · rename_i hk
    rw [if_neg (by omega), if_neg (by omega), if_neg (by omega), if_neg (by omega), if_neg (by omega), if_neg (by omega), if_neg (by omega), njob _ (by simpa using hl)]
  split at hl
  · rename_i hk
    rw [if_neg (by omega), if_neg (by omega), if_neg (by omega), if_neg (by omega), if_neg (by omega), if_neg (by omega), if_pos hk, nnode _ ha (by simpa using hl)]
  split at hl
  · rename_i hk
    rw [if_neg (by omega), if_neg (by omega), if_neg (by omega), if_neg (by omega), if_neg (by omega), if_neg (by omega), if_neg (by omega)]
    cases h1 : inR o.2.1 1 (s.jobs.length : Int) with
    | false => rw [njob _ h1]
    | true =>
      rw [h1] at hl
      split
      · unfold jobOp
        rw [if_neg (by omega), if_neg (by omega), if_neg (by omega), if_neg (by omega), if_neg (by omega), if_neg (by omega), if_neg (by omega), if_neg (by omega), nnode _ hb (by simpa using hl)]
      · rfl
  · cases hl

theorem of_lacks_job {s : St} {a : Int} (h : (!inR a 1 (s.jobs.length : Int)) = false) : ∃ (k : Nat) (j : Jb), a = (k : Int) + 1 ∧ s.jobs[k]? = some j := by
  have h1 := inR_iff.1 (by simpa using h)
  exact ⟨(a - 1).toNat, _, by omega, List.getElem?_eq_getElem (by omega)⟩
theorem of_lacks_node {s : St} {a : Int} (h : (!inR a 0 ((s.nodes.length : Int) - 1)) = false) : ∃ (i : Nat) (n : Nd), a = (i : Int) ∧ s.nodes[i]? = some n := by
  have h1 := inR_iff.1 (by simpa using h)
  exact ⟨a.toNat, _, by omega, List.getElem?_eq_getElem (by omega)⟩

set_option maxRecDepth 100000 in
set_option maxHeartbeats 4000000 in
theorem do_any (F : Fp) (w : World) (g : Nat) (c : Cf) (vn vj : Value) (s : St) (z a1 a2 a3 a4 a5 a6 : Int) (h : Pg F w g c vn vj s) (hL : Laid w) (hR : RightP c s) :
    Calls Tryd.prog 22 #[.pointer (some ⟨g, 0, none⟩), .agg #[.int .i64 z, .int .i64 a1, .int .i64 a2, .int .i64 a3, .int .i64 a4, .int .i64 a5, .int .i64 a6]] w fun e w' => e = .returned (.int .i64 (applyS c s (z, a1, a2, a3, a4, a5, a6)).2) ∧ (∃ vn vj, Pg (F.since w w') w' g c vn vj (applyS c s (z, a1, a2, a3, a4, a5, a6)).1) ∧ Chg F w w' := by
  cases hr : rightO (z, a1, a2, a3, a4, a5, a6) with
  | false =>
    have e : applyS c s (z, a1, a2, a3, a4, a5, a6) = (s, 1) := by rw [applyS, if_pos hr]
    rw [e]
    exact do_wrongI F w g c vn vj s z a1 a2 a3 a4 a5 a6 h hL hr
  | true =>
    have hk := (rightO_iff.1 hr).1
    obtain ⟨zn, rfl⟩ : ∃ zn : Nat, z = (zn : Int) := ⟨z.toNat, by have := hk.1; dsimp only at this; omega⟩
    have hz1 : 1 ≤ zn := by have := hk.1; dsimp only at this; omega
    have hz2 : zn < 22 := by have := hk.2; dsimp only at this; omega
    cases hl : lacksS s ((zn : Int), a1, a2, a3, a4, a5, a6) with
    | true =>
      rw [applyS_lacks hr hl]
      exact do_lacks F w g c vn vj s zn a1 a2 a3 a4 a5 a6 h hL hz2 hr hl
    | false =>
      refine do_right F w g c vn vj s zn a1 a2 a3 a4 a5 a6 _ h hL hz2 hz1 hr hl fun W hx => ?_
      have hp := h.ext hx
      have h6 := hR.len.2
      have hver : ∀ (i : Nat) (n : Nd), s.nodes[i]? = some n → 1 ≤ n.version := fun i n hi => (hR.node i n hi).v1
      clear h hx hL hk
      match zn, hz1, hz2, hr, hl with
      | 1, _, _, hr, _ =>
        have e : applyS c s (((1 : Nat) : Int), a1, a2, a3, a4, a5, a6) = submitS c s (((1 : Nat) : Int), a1, a2, a3, a4, a5, a6) := by
          unfold applyS
          rw [if_neg (by rw [hr]; simp)]
          rfl
        rw [e]
        exact submit_any F W g c vn vj s _ a1 a2 a3 a4 a5 a6 hp hR.may hR.nj
      | 3, _, _, hr, _ =>
        have e : applyS c s (((3 : Nat) : Int), a1, a2, a3, a4, a5, a6) = targetS s a1 := by
          unfold applyS
          rw [if_neg (by rw [hr]; simp)]
          rfl
        rw [e]
        exact target_any F W g c vn vj s _ a1 a2 a3 a4 a5 a6 hp
      | 4, _, _, hr, _ =>
        have e : applyS c s (((4 : Nat) : Int), a1, a2, a3, a4, a5, a6) = pauseS s := by
          unfold applyS
          rw [if_neg (by rw [hr]; simp)]
          rfl
        rw [e]
        exact pause_any F W g c vn vj s _ a1 a2 a3 a4 a5 a6 hp
      | 5, _, _, hr, _ =>
        have e : applyS c s (((5 : Nat) : Int), a1, a2, a3, a4, a5, a6) = resumeS s := by
          unfold applyS
          rw [if_neg (by rw [hr]; simp)]
          rfl
        rw [e]
        exact resume_any F W g c vn vj s _ a1 a2 a3 a4 a5 a6 hp
      | 6, _, _, hr, _ =>
        have e : applyS c s (((6 : Nat) : Int), a1, a2, a3, a4, a5, a6) = abortS s := by
          unfold applyS
          rw [if_neg (by rw [hr]; simp)]
          rfl
        rw [e]
        exact abort_any F W g c vn vj s _ a1 a2 a3 a4 a5 a6 hp
      | 21, _, _, hr, _ =>
        have e : applyS c s (((21 : Nat) : Int), a1, a2, a3, a4, a5, a6) = newtermS s := by
          unfold applyS
          rw [if_neg (by rw [hr]; simp)]
          rfl
        rw [e]
        exact newterm_any F W g c vn vj s _ a1 a2 a3 a4 a5 a6 hp ⟨hR.t0, hR.t9⟩
      | 2, _, _, hr, hl =>
        obtain ⟨k, j, rfl, hj⟩ := of_lacks_job (s := s) (a := a1) hl
        have e : applyS c s (((2 : Nat) : Int), (k : Int) + 1, a2, a3, a4, a5, a6) = cancelS s k j := (applyS_job (by decide) hr hj).trans rfl
        rw [e]
        exact cancel_any F W g c vn vj s _ a2 a3 a4 a5 a6 k j hp hj h6
      | 9, _, _, hr, hl =>
        obtain ⟨k, j, rfl, hj⟩ := of_lacks_job (s := s) (a := a1) hl
        have e : applyS c s (((9 : Nat) : Int), (k : Int) + 1, a2, a3, a4, a5, a6) = holdS s k j a2 := (applyS_job (by decide) hr hj).trans rfl
        rw [e]
        exact hold_any F W g c vn vj s _ a2 a3 a4 a5 a6 k j hp hj h6 hver ⟨(hR.job k j hj).i0, (hR.job k j hj).i9⟩
      | 10, _, _, hr, hl =>
        obtain ⟨k, j, rfl, hj⟩ := of_lacks_job (s := s) (a := a1) hl
        have e : applyS c s (((10 : Nat) : Int), (k : Int) + 1, a2, a3, a4, a5, a6) = startS s k j a2 := (applyS_job (by decide) hr hj).trans rfl
        rw [e]
        exact start_any F W g c vn vj s _ a2 a3 a4 a5 a6 k j hp hj
      | 11, _, _, hr, hl =>
        obtain ⟨k, j, rfl, hj⟩ := of_lacks_job (s := s) (a := a1) hl
        have e : applyS c s (((11 : Nat) : Int), (k : Int) + 1, a2, a3, a4, a5, a6) = unholdS s k j := (applyS_job (by decide) hr hj).trans rfl
        rw [e]
        exact unhold_any F W g c vn vj s _ a2 a3 a4 a5 a6 k j hp hj h6
      | 12, _, _, hr, hl =>
        obtain ⟨k, j, rfl, hj⟩ := of_lacks_job (s := s) (a := a1) hl
        have e : applyS c s (((12 : Nat) : Int), (k : Int) + 1, a2, a3, a4, a5, a6) = drainS c s k j a2 := (applyS_job (by decide) hr hj).trans rfl
        rw [e]
        exact drain_any F W g c vn vj s _ a2 a3 a4 a5 a6 k j hp hj
      | 13, _, _, hr, hl =>
        obtain ⟨k, j, rfl, hj⟩ := of_lacks_job (s := s) (a := a1) hl
        have e : applyS c s (((13 : Nat) : Int), (k : Int) + 1, a2, a3, a4, a5, a6) = savedS s k j a2 := (applyS_job (by decide) hr hj).trans rfl
        rw [e]
        exact saved_any F W g c vn vj s _ a2 a3 a4 a5 a6 k j hp hj
      | 14, _, _, hr, hl =>
        obtain ⟨k, j, rfl, hj⟩ := of_lacks_job (s := s) (a := a1) hl
        have e : applyS c s (((14 : Nat) : Int), (k : Int) + 1, a2, a3, a4, a5, a6) = evictS s k j := (applyS_job (by decide) hr hj).trans rfl
        rw [e]
        exact evict_any F W g c vn vj s _ a2 a3 a4 a5 a6 k j hp hj h6
      | 15, _, _, hr, hl =>
        obtain ⟨k, j, rfl, hj⟩ := of_lacks_job (s := s) (a := a1) hl
        have e : applyS c s (((15 : Nat) : Int), (k : Int) + 1, a2, a3, a4, a5, a6) = doneS s k j := (applyS_job (by decide) hr hj).trans rfl
        rw [e]
        exact done_any F W g c vn vj s _ a2 a3 a4 a5 a6 k j hp hj h6
      | 7, _, _, hr, hl =>
        obtain ⟨i, n, rfl, hi⟩ := of_lacks_node (s := s) (a := a1) hl
        have e : applyS c s (((7 : Nat) : Int), (i : Int), a2, a3, a4, a5, a6) = downS s i n := (applyS_node (by decide) hr hi).trans rfl
        rw [e]
        exact down_any F W g c vn vj s _ a2 a3 a4 a5 a6 i n hp hi h6 (hR.job_of hi)
      | 8, _, _, hr, hl =>
        obtain ⟨i, n, rfl, hi⟩ := of_lacks_node (s := s) (a := a1) hl
        have e : applyS c s (((8 : Nat) : Int), (i : Int), a2, a3, a4, a5, a6) = upS s i n a2 := (applyS_node (by decide) hr hi).trans rfl
        rw [e]
        exact up_any F W g c vn vj s _ a2 a3 a4 a5 a6 i n hp hi
      | 16, _, _, hr, hl =>
        obtain ⟨i, n, rfl, hi⟩ := of_lacks_node (s := s) (a := a1) hl
        have e : applyS c s (((16 : Nat) : Int), (i : Int), a2, a3, a4, a5, a6) = cordonS s i n := (applyS_node (by decide) hr hi).trans rfl
        rw [e]
        exact cordon_any F W g c vn vj s _ a2 a3 a4 a5 a6 i n hp hi
      | 17, _, _, hr, hl =>
        obtain ⟨i, n, rfl, hi⟩ := of_lacks_node (s := s) (a := a1) hl
        have e : applyS c s (((17 : Nat) : Int), (i : Int), a2, a3, a4, a5, a6) = uncordonS s i n := (applyS_node (by decide) hr hi).trans rfl
        rw [e]
        exact uncordon_any F W g c vn vj s _ a2 a3 a4 a5 a6 i n hp hi
      | 18, _, _, hr, hl =>
        obtain ⟨i, n, rfl, hi⟩ := of_lacks_node (s := s) (a := a1) hl
        have e : applyS c s (((18 : Nat) : Int), (i : Int), a2, a3, a4, a5, a6) = moveS s i n := (applyS_node (by decide) hr hi).trans rfl
        rw [e]
        exact move_any F W g c vn vj s _ a2 a3 a4 a5 a6 i n hp hi
      | 19, _, _, hr, hl =>
        obtain ⟨i, n, rfl, hi⟩ := of_lacks_node (s := s) (a := a1) hl
        have e : applyS c s (((19 : Nat) : Int), (i : Int), a2, a3, a4, a5, a6) = movedS s i n a2 := (applyS_node (by decide) hr hi).trans rfl
        rw [e]
        exact moved_any F W g c vn vj s _ a2 a3 a4 a5 a6 i n hp hi
      | 20, _, _, hr, hl =>
        have hl' : (!inR a1 1 (s.jobs.length : Int) || !inR a2 0 ((s.nodes.length : Int) - 1)) = false := hl
        rw [Bool.or_eq_false_iff] at hl'
        obtain ⟨k, j, rfl, hj⟩ := of_lacks_job (s := s) (a := a1) hl'.1
        obtain ⟨i, n, rfl, hi⟩ := of_lacks_node (s := s) (a := a2) hl'.2
        have e0 : (match s.nodes[((i : Int)).toNat]? with | some n => shrinkS s k j ((i : Int)).toNat n | none => (s, 4)) = shrinkS s k j i n := by
          have : ((i : Int)).toNat = i := by omega
          rw [this, hi]
        have e : applyS c s (((20 : Nat) : Int), (k : Int) + 1, (i : Int), a3, a4, a5, a6) = shrinkS s k j i n := ((applyS_job (by decide) hr hj).trans rfl).trans e0
        rw [e]
        obtain ⟨m, hm⟩ : ∃ m : Nat, j.nodes = (m : Int) := ⟨j.nodes.toNat, by have := ((hR.job k j hj).lt64 h6).1; omega⟩
        exact shrink_any F W g c vn vj s _ a3 a4 a5 a6 i n k j hp hj m hm (by have := ((hR.job k j hj).lt64 h6).2; omega) hi h6
      | n + 22, _, h', _, _ => exact absurd h' (by omega)

set_option maxRecDepth 100000 in
theorem Apply_any (c : Cf) (vn vj : Value) (s : St) (o : OpN) (w : World) (h : RdSt w vn vj s) (hL : Laid w) :
    Calls Tryd.prog 9 #[cfV c, stV vn vj s, opV o] w fun e w' => ∃ vn' vj' s' er, e = .returned (.tuple #[stV vn' vj' s', .int .i64 er]) ∧ RdSt w' vn' vj' s' ∧ Ext w w' ∧ (RightP c s → (s', er) = applyS c s o) ∧ (¬ RightP c s → (s', er) = (zeroS, 1)) ∧ ∀ k, vn'.ownBlock = some k ∨ vj'.ownBlock = some k → w.heap.size ≤ k := by
  obtain ⟨z, a1, a2, a3, a4, a5, a6⟩ := o
  exact Apply_raw c vn vj s z a1 a2 a3 a4 a5 a6 (applyS c s (z, a1, a2, a3, a4, a5, a6)) w h fun F W g vn vj hR hx hp => do_any F W g c vn vj s z a1 a2 a3 a4 a5 a6 hp (hL.ext hx) hR

end Go.Proofs.YtkpcjdhnbjkaaaaDoor
