/- Texts that the proof of F rests on, one behind the other. -/
import Derived.Test.YtbfjlhddebollaaDoorFQ11
import Derived.Deep.Cut
import Derived.Deep.LoopGhost
import Derived.BigQuiet
import Derived.Deep.QuietTactic

/- The reference of layer 9: Why, at a kind. -/
namespace Go.Proofs.YtbfjlhddebollaaDoor
open Go.RowKit

set_option maxRecDepth 100000 in
set_option maxHeartbeats 4000000 in
theorem Why_9 (c : Cf) (vn vj : Value) (s : St) (a1 a2 a3 a4 a5 a6 : Int) (w : World) (h : RdSt w vn vj s) (hR : RightP c s) (hr : rightO (9, a1, a2, a3, a4, a5, a6) = true) :
    Calls Tryd.prog 29 #[cfV c, stV vn vj s, .agg #[.int .i64 9, .int .i64 a1, .int .i64 a2, .int .i64 a3, .int .i64 a4, .int .i64 a5, .int .i64 a6]] w fun e w' => e = .returned (.int .i64 (doS c s (9, a1, a2, a3, a4, a5, a6)).2) ∧ Ext w w' := by
  have hR6 := hR.len.2
  have hj24 := hR.nj
  have hin := op_in hr
  dsimp only at hin
  obtain ⟨⟨ha0, ha9_⟩, ⟨hb0_, hb9_⟩⟩ := hin
  have HA9 := Lib.hid ha9_
  have HB9 := Lib.hid hb9_
  clear ha9_ hb9_
  obtain ⟨An, cn, rfl, hnc, hcm, hNN⟩ := has_cells h.nodes
  obtain ⟨Aj, cj, rfl, hjc, hjm, hJJ⟩ := jobs_cells h.jobs
  obtain ⟨W3, hW3, hx3, hb0, hb1, hb2⟩ := three_blocks w 23 30 36 #[.int .i64 c.nodes, .int .i64 c.queues, .int .i64 c.quota, .int .i64 c.wave, .int .i64 c.lease, .int .i64 c.retry, .int .i64 c.deadline, .int .i64 c.room, .int .i64 c.disk] #[.slice An s.nodes.length cn, .slice Aj s.jobs.length cj, .int .i64 s.goal, .int .i64 s.prior, .int .i64 s.mode, .int .i64 s.term] #[.int .i64 9, .int .i64 a1, .int .i64 a2, .int .i64 a3, .int .i64 a4, .int .i64 a5, .int .i64 a6]
  have HRR := Lib.hid (RefRight08 (9, a1, a2, a3, a4, a5, a6) W3)
  rw [hr] at HRR
  have HX3 := Lib.hid hx3
  have HB0 := Lib.hid hb0
  have HB1 := Lib.hid hb1
  have HB2 := Lib.hid hb2
  have HNN := Lib.hid hNN
  have HJJ := Lib.hid hJJ
  have HH := Lib.hid h
  have HRP := Lib.hid hR
  have o0 : W3.cell? ⟨w.heap.size + 2, 0, none⟩ = some (.int .i64 9) := hb2.cell 0
  have o1 : W3.cell? ⟨w.heap.size + 2, 1, none⟩ = some (.int .i64 a1) := hb2.cell 1
  have o2 : W3.cell? ⟨w.heap.size + 2, 2, none⟩ = some (.int .i64 a2) := hb2.cell 2
  have o3 : W3.cell? ⟨w.heap.size + 2, 3, none⟩ = some (.int .i64 a3) := hb2.cell 3
  have o4 : W3.cell? ⟨w.heap.size + 2, 4, none⟩ = some (.int .i64 a4) := hb2.cell 4
  have o5 : W3.cell? ⟨w.heap.size + 2, 5, none⟩ = some (.int .i64 a5) := hb2.cell 5
  have o6 : W3.cell? ⟨w.heap.size + 2, 6, none⟩ = some (.int .i64 a6) := hb2.cell 6
  rw [show opV (9, a1, a2, a3, a4, a5, a6) = .agg #[.int .i64 9, .int .i64 a1, .int .i64 a2, .int .i64 a3, .int .i64 a4, .int .i64 a5, .int .i64 a6] from rfl] at *
  unfold cfV stV
  clear hx3 hb0 hb1 hb2 hNN hJJ h hR hr
  go_enter Tryd.func29, Tryd.ntmps29
  go_wp2_with fail
  rw [← hW3]
  clear hW3
  refine HRR.out.mono ?_
  rintro e1 w1 ⟨rfl, hx1⟩
  have HX1 := Lib.hid (HX3.out.trans hx1)
  have HC0 := Lib.hid (HB0.out.ext hx1)
  have HC1 := Lib.hid (HB1.out.ext hx1)
  have HC2 := Lib.hid (HB2.out.ext hx1)
  clear hx1 HX3 HB0 HB1 HB2 HRR o0 o1 o2 o3 o4 o5 o6
  have hlw : w.heap.size + 2 < w1.heap.size := HC2.out.lt
  have hlw1 : w.heap.size + 1 < w1.heap.size := by omega
  have hlw0 : w.heap.size < w1.heap.size := by omega
  have HXE : Hid (∀ c1 t1 c2 t2, Ext w ((w1.alloc (.cells c1 t1)).alloc (.cells c2 t2))) := Lib.hid fun c1 t1 c2 t2 => (HX1.out.alloc HX1.out.size _).alloc (by have := HX1.out.size; simp; omega) _
  have o0 : w1.cell? ⟨w.heap.size + 2, 0, none⟩ = some (.int .i64 9) := HC2.out.cell 0
  have o1 : w1.cell? ⟨w.heap.size + 2, 1, none⟩ = some (.int .i64 a1) := HC2.out.cell 1
  have o2 : w1.cell? ⟨w.heap.size + 2, 2, none⟩ = some (.int .i64 a2) := HC2.out.cell 2
  have o3 : w1.cell? ⟨w.heap.size + 2, 3, none⟩ = some (.int .i64 a3) := HC2.out.cell 3
  have o4 : w1.cell? ⟨w.heap.size + 2, 4, none⟩ = some (.int .i64 a4) := HC2.out.cell 4
  have o5 : w1.cell? ⟨w.heap.size + 2, 5, none⟩ = some (.int .i64 a5) := HC2.out.cell 5
  have o6 : w1.cell? ⟨w.heap.size + 2, 6, none⟩ = some (.int .i64 a6) := HC2.out.cell 6
  have s0 : w1.cell? ⟨w.heap.size + 1, 0, none⟩ = some (.slice An s.nodes.length cn) := HC1.out.cell 0
  have s1 : w1.cell? ⟨w.heap.size + 1, 1, none⟩ = some (.slice Aj s.jobs.length cj) := HC1.out.cell 1
  have s2 : w1.cell? ⟨w.heap.size + 1, 2, none⟩ = some (.int .i64 s.goal) := HC1.out.cell 2
  have s3 : w1.cell? ⟨w.heap.size + 1, 3, none⟩ = some (.int .i64 s.prior) := HC1.out.cell 3
  have s4 : w1.cell? ⟨w.heap.size + 1, 4, none⟩ = some (.int .i64 s.mode) := HC1.out.cell 4
  have s5 : w1.cell? ⟨w.heap.size + 1, 5, none⟩ = some (.int .i64 s.term) := HC1.out.cell 5
  by_cases h_l : a1 < 1
  · have d_l : decide (a1 < 1) = true := decide_eq_true h_l
    have HV : Hid ((doS c s (9, a1, a2, a3, a4, a5, a6)).2 = 4) := Lib.hid (by rw [do_jobN (by unfold jobOf; rw [if_neg (by omega)]) (by decide) (by decide)])
    clear h_l
    go_wp2
    all_goals
      go_ret
      exact ⟨congrArg (fun n => Ending.returned (.int .i64 n)) HV.out.symm, HXE.out _ _ _ _⟩
  have d_l : decide (a1 < 1) = false := decide_eq_false h_l
  by_cases h_n : (s.jobs.length : Int) < a1
  · have d_n : decide ((s.jobs.length : Int) < a1) = true := decide_eq_true h_n
    have HV : Hid ((doS c s (9, a1, a2, a3, a4, a5, a6)).2 = 4) := Lib.hid (by rw [do_jobN (by unfold jobOf; rw [if_pos (by omega)]; exact List.getElem?_eq_none (by omega)) (by decide) (by decide)])
    clear h_n h_l
    go_wp2
    all_goals
      go_ret
      exact ⟨congrArg (fun n => Ending.returned (.int .i64 n)) HV.out.symm, HXE.out _ _ _ _⟩
  have d_n : decide ((s.jobs.length : Int) < a1) = false := decide_eq_false h_n
  obtain ⟨k, hk1⟩ : ∃ k : Nat, a1 - 1 = (k : Int) := ⟨(a1 - 1).toNat, by omega⟩
  obtain ⟨j, hj⟩ : ∃ j, s.jobs[k]? = some j := ⟨_, List.getElem?_eq_getElem (by omega)⟩
  have HJK := Lib.hid hj
  have hk2 : (a1 - 1).toNat = k := by omega
  have HDO : Hid (doS c s (9, a1, a2, a3, a4, a5, a6) = jobOp c s 9 k j a2) := Lib.hid (by have := do_job (c := c) (s := s) (kd := 9) (a := a1) (b := a2) (t := (a3, a4, a5, a6)) (j := j) (by unfold jobOf; rw [if_pos (by omega), hk2]; exact hj) (by decide) (by decide); rw [hk2] at this; exact this)
  obtain ⟨bk, o, rfl, hb, hat⟩ := HJJ.out k j hj
  obtain ⟨n0, n1, n2, n3, n4, n5, n6, n7, n8, n9, n10, n11⟩ := hat.ext HX1.out hb
  have hbl : bk < w1.heap.size := Nat.lt_of_lt_of_le hb HX1.out.size
  have x1 : (0 : Int) ≤ (k : Int) ∧ (k : Int) < (s.jobs.length : Int) := by omega
  have hwk : IntKind.i64.wrap (a1 - 1) = (k : Int) := by rw [hk1]; exact IntWalk.i64_in _ (by omega)
  have hwk' : wrap64 (a1 - 1) = (k : Int) := by rw [hk1]; exact IntWalk.wrap64_in _ (by omega)
  clear hj hat hb h_n h_l hk2 hk1 ha0
  by_cases h_p : ¬ j.phase = 0
  · have d_p : (j.phase == 0) = false := by rw [beq_eq_false_iff_ne]; exact h_p
    have HV : Hid ((doS c s (9, a1, a2, a3, a4, a5, a6)).2 = 5) := Lib.hid (by rw [HDO.out]; unfold jobOp; rw [if_neg (by decide), if_pos (by rfl)]; unfold holdS; rw [if_neg h_p])
    clear h_p
    go_wp2
    all_goals
      go_ret
      exact ⟨congrArg (fun n => Ending.returned (.int .i64 n)) HV.out.symm, HXE.out _ _ _ _⟩
  have hp := Classical.not_not.1 h_p
  have d_p : (j.phase == 0) = true := by rw [hp]; rfl
  obtain ⟨bf, hbf⟩ : ∃ bf : Bool, (bf = true ↔ FitsP s j a2) := by
    by_cases hp : FitsP s j a2
    · exact ⟨true, ⟨fun _ => hp, fun _ => rfl⟩⟩
    · exact ⟨false, ⟨(fun h => by cases h), fun h => absurd h hp⟩⟩
  have hi9 := (HRP.out.job k j HJK.out).i9
  have HDV : Hid ((doS c s (9, a1, a2, a3, a4, a5, a6)).2 = if (bf && decide (j.inc < 1000000) && allFree s.nodes a2) = true then 0 else 8) := Lib.hid (by
    rw [HDO.out]
    unfold jobOp
    rw [if_neg (by decide), if_pos (by rfl)]
    unfold holdS
    rw [if_pos hp]
    by_cases hx : FitsP s j a2 ∧ allFree s.nodes a2 = true ∧ j.inc ≠ 1000000
    · rw [if_pos hx, if_pos (by rw [hbf.2 hx.1, hx.2.1, decide_eq_true (show j.inc < 1000000 by have := hx.2.2; omega)]; rfl)]
    · rw [if_neg hx, if_neg (fun h => hx (by simp only [Bool.and_eq_true, decide_eq_true_eq] at h; exact ⟨hbf.1 h.1.1, h.2, by omega⟩))])
  obtain ⟨f0, hf0⟩ : ∃ f0, f0 = decide (j.inc < 1000000) := ⟨_, rfl⟩
  rw [← hf0] at HDV
  have hf0' : decide (j.inc < 1000000) = f0 := hf0.symm
  have hver : ∀ (i : Nat) (n : Nd), s.nodes[i]? = some n → 1 ≤ n.version := fun i n hn => (HRP.out.node i n hn).v1
  obtain ⟨w5, hw5, hx5, hbj, hbn⟩ := two_blocks w1 56 45 #[.int .i64 j.queue, .int .i64 j.prio, .int .i64 j.least, .int .i64 j.most, .int .i64 j.work, .int .i64 j.pin, .int .i64 j.phase, .int .i64 j.inc, .int .i64 j.nodes, .int .i64 j.since, .int .i64 j.til, .int .i64 j.epoch] #[.bool false, .bool false, .bool false, .int .i64 0, .int .i64 0]
  have HX5 := Lib.hid (HX1.out.trans hx5)
  have HBJ := Lib.hid hbj
  have HS5 := Lib.hid (HC1.out.ext hx5)
  have HO5 := Lib.hid (HC2.out.ext hx5)
  have HFT : Hid (Calls Tryd.prog 48 #[.agg #[.slice An s.nodes.length cn, .slice (some ⟨bk, o, none⟩) s.jobs.length cj, .int .i64 s.goal, .int .i64 s.prior, .int .i64 s.mode, .int .i64 s.term], .agg #[.int .i64 j.queue, .int .i64 j.prio, .int .i64 j.least, .int .i64 j.most, .int .i64 j.work, .int .i64 j.pin, .int .i64 j.phase, .int .i64 j.inc, .int .i64 j.nodes, .int .i64 j.since, .int .i64 j.til, .int .i64 j.epoch], .int .i64 a2] w5 fun e w' => e = .returned (.bool bf) ∧ Ext w5 w') := Lib.hid ((RefFits_any _ _ s j a2 w5 (HH.out.nodes.ext HX5.out) hR6 hver).mono (by rintro e w' ⟨x, rfl, hx, hy⟩; rw [Bool.eq_iff_iff.2 (hx.trans hbf.symm)]; exact ⟨rfl, hy⟩))
  have HN6 := Lib.hid hR6
  clear hx5 hbj hbn hp h_p hbf hi9 hf0 hver
  go_upto_region 89 with (fail)
  all_goals
    rw [← hw5]
    clear hw5 n0 n1 n2 n3 n4 n5 n6 n7 n8 n9 n10 n11 hbl x1 hwk hwk' o0 o1 o2 o3 o4 o5 o6 s0 s1 s2 s3 s4 s5
    have s0 : w5.cell? ⟨w.heap.size + 1, 0, none⟩ = some (.slice An s.nodes.length cn) := HS5.out.cell 0
    have s1 : w5.cell? ⟨w.heap.size + 1, 1, none⟩ = some (.slice (some ⟨bk, o, none⟩) s.jobs.length cj) := HS5.out.cell 1
    have s2 : w5.cell? ⟨w.heap.size + 1, 2, none⟩ = some (.int .i64 s.goal) := HS5.out.cell 2
    have s3 : w5.cell? ⟨w.heap.size + 1, 3, none⟩ = some (.int .i64 s.prior) := HS5.out.cell 3
    have s4 : w5.cell? ⟨w.heap.size + 1, 4, none⟩ = some (.int .i64 s.mode) := HS5.out.cell 4
    have s5 : w5.cell? ⟨w.heap.size + 1, 5, none⟩ = some (.int .i64 s.term) := HS5.out.cell 5
    have q0 : w5.cell? ⟨w1.heap.size, 0, none⟩ = some (.int .i64 j.queue) := HBJ.out.cell 0
    have q1 : w5.cell? ⟨w1.heap.size, 1, none⟩ = some (.int .i64 j.prio) := HBJ.out.cell 1
    have q2 : w5.cell? ⟨w1.heap.size, 2, none⟩ = some (.int .i64 j.least) := HBJ.out.cell 2
    have q3 : w5.cell? ⟨w1.heap.size, 3, none⟩ = some (.int .i64 j.most) := HBJ.out.cell 3
    have q4 : w5.cell? ⟨w1.heap.size, 4, none⟩ = some (.int .i64 j.work) := HBJ.out.cell 4
    have q5 : w5.cell? ⟨w1.heap.size, 5, none⟩ = some (.int .i64 j.pin) := HBJ.out.cell 5
    have q6 : w5.cell? ⟨w1.heap.size, 6, none⟩ = some (.int .i64 j.phase) := HBJ.out.cell 6
    have q7 : w5.cell? ⟨w1.heap.size, 7, none⟩ = some (.int .i64 j.inc) := HBJ.out.cell 7
    have q8 : w5.cell? ⟨w1.heap.size, 8, none⟩ = some (.int .i64 j.nodes) := HBJ.out.cell 8
    have q9 : w5.cell? ⟨w1.heap.size, 9, none⟩ = some (.int .i64 j.since) := HBJ.out.cell 9
    have q10 : w5.cell? ⟨w1.heap.size, 10, none⟩ = some (.int .i64 j.til) := HBJ.out.cell 10
    have q11 : w5.cell? ⟨w1.heap.size, 11, none⟩ = some (.int .i64 j.epoch) := HBJ.out.cell 11
    have o2 : w5.cell? ⟨w.heap.size + 2, 2, none⟩ = some (.int .i64 a2) := HO5.out.cell 2
    go_wp2_with fail
    refine HFT.out.mono ?_
    rintro e6 w6 ⟨rfl, hx6⟩
    have HX6 := Lib.hid (HX5.out.trans hx6)
    have HS6 := Lib.hid (HS5.out.ext hx6)
    have HO6 := Lib.hid (HO5.out.ext hx6)
    have HB6 := Lib.hid (HBJ.out.ext hx6)
    clear hx6 HX5 HS5 HO5 HBJ HFT s0 s1 s2 s3 s4 s5 q0 q1 q2 q3 q4 q5 q6 q7 q8 q9 q10 q11 o2
    have q7 : w6.cell? ⟨w1.heap.size, 7, none⟩ = some (.int .i64 j.inc) := HB6.out.cell 7
    have HE : Hid (∀ b, b = (bf && f0) → (if b = true ∧ afK s.nodes a2 s.nodes.length = true then (0 : Int) else 8) = (doS c s (9, a1, a2, a3, a4, a5, a6)).2) := Lib.hid fun b hb => by
      rw [HDV.out, hb, show allFree s.nodes a2 = afK s.nodes a2 s.nodes.length from rfl]
      simp only [Bool.and_eq_true]
    obtain ⟨ff, hff⟩ : ∃ ff, ff = (bf && f0) := ⟨_, rfl⟩
    have HFF := Lib.hid hff
    clear hff
    cases bf
    all_goals
      go_upto_region 90 with (fail)
      all_goals
        go_wp2_with fail
        go_loopg [11, 12] s.nodes.length (fun gg t i wr => ∃ q : Nat, i = .int .i64 q ∧ t = .bool (ff && afK s.nodes a2 q) ∧ q ≤ s.nodes.length ∧ gg = s.nodes.length - q ∧ Hid (Ext w6 wr))
        case atStart => exact ⟨0, rfl, by rw [afK_zero, HFF.out]; simp, Nat.zero_le _, by omega, Lib.hid (Ext.refl _)⟩
        case round =>
          obtain ⟨q, rfl, rfl, hq, rfl, HX⟩ := hrel
          have s0 := (HS6.out.ext HX.out).cell 0
          simp only [List.getElem?_toArray, List.getElem?_cons_zero] at s0
          have hn6 : s.nodes.length ≤ 6 := HN6.out
          by_cases hlt : q < s.nodes.length
          · have d1 : decide ((q : Int) < (s.nodes.length : Int)) = true := decide_eq_true (by omega)
            have d1' : decide (q < s.nodes.length) = true := decide_eq_true hlt
            obtain ⟨n, hn⟩ : ∃ n, s.nodes[q]? = some n := ⟨_, List.getElem?_eq_getElem hlt⟩
            obtain ⟨b1, p1, rfl, hb1, hat1⟩ := HNN.out q n hn
            obtain ⟨m0, m1, m2, m3, m4⟩ := hat1.ext (HX6.out.trans HX.out) hb1
            have o2 : wr.cell? ⟨w.heap.size + 2, 2, none⟩ = some (.int .i64 a2) := (HO6.out.ext HX.out).cell 2
            have x2 : (0 : Int) ≤ (q : Int) ∧ (q : Int) < (s.nodes.length : Int) := by omega
            have HSN := Lib.hid (afK_snoc (set := a2) hn)
            have HLT := Lib.hid hlt
            have HHQ := Lib.hid fun W => RefHas_any a2 q (by omega) W
            have HFQ : Hid (∀ W, Calls Tryd.prog 19 #[.agg #[.bool n.up, .bool n.cordon, .bool n.moving, .int .i64 n.version, .int .i64 n.job]] W fun e w' => e = .returned (.bool (freeN n)) ∧ Ext W w') := Lib.hid fun W => RefFree_any n W
            clear hn hat1 hb1 hlt
            obtain ⟨cur, hcur⟩ : ∃ cur, cur = (ff && afK s.nodes a2 q) := ⟨_, rfl⟩
            have HCUR := Lib.hid hcur
            rw [← hcur]
            clear hcur
            cases cur
            · go_wp2_with fail
              go_roundg (s.nodes.length - (q + 1))
              case measure => have := HLT.out; omega
              case rel => exact ⟨q + 1, by go_num, by rw [HSN.out]; exact congrArg Value.bool (by rw [← Bool.and_assoc, ← HCUR.out]; rfl), HLT.out, rfl, Lib.hid HX.out⟩
            go_wp2_with fail
            refine (HHQ.out _).mono ?_
            rintro e7 w7 ⟨rfl, rfl⟩
            cases hs : hasS a2 q
            · have HSS := Lib.hid hs
              clear hs
              go_wp2_with fail
              go_roundg (s.nodes.length - (q + 1))
              case measure => have := HLT.out; omega
              case rel => exact ⟨q + 1, by go_num, by rw [HSN.out]; exact congrArg Value.bool (by rw [← Bool.and_assoc, ← HCUR.out]; rw [HSS.out]; rfl), HLT.out, rfl, Lib.hid HX.out⟩
            have HSS := Lib.hid hs
            clear hs
            go_wp2_with fail
            refine (HFQ.out _).mono ?_
            rintro e8 w8 ⟨rfl, hx8⟩
            have HX8 := Lib.hid (HX.out.trans hx8)
            clear hx8
            cases hfr : freeN n
            · have HFR := Lib.hid hfr
              clear hfr
              go_wp2_with fail
              go_roundg (s.nodes.length - (q + 1))
              case measure => have := HLT.out; omega
              case rel => exact ⟨q + 1, by go_num, by rw [HSN.out]; exact congrArg Value.bool (by rw [← Bool.and_assoc, ← HCUR.out]; rw [HSS.out, HFR.out]; rfl), HLT.out, rfl, Lib.hid HX8.out⟩
            · have HFR := Lib.hid hfr
              clear hfr
              go_wp2_with fail
              go_roundg (s.nodes.length - (q + 1))
              case measure => have := HLT.out; omega
              case rel => exact ⟨q + 1, by go_num, by rw [HSN.out]; exact congrArg Value.bool (by rw [← Bool.and_assoc, ← HCUR.out]; rw [HSS.out, HFR.out]; rfl), HLT.out, rfl, Lib.hid HX8.out⟩
          · have d1 : decide ((q : Int) < (s.nodes.length : Int)) = false := decide_eq_false (by omega)
            have d1' : decide (q < s.nodes.length) = false := decide_eq_false hlt
            obtain rfl : q = s.nodes.length := by omega
            have HXF := Lib.hid (HX6.out.trans HX.out)
            have HEE := Lib.hid (HE.out ff HFF.out)
            clear hlt hq HX hn6
            generalize afK s.nodes a2 s.nodes.length = af at *
            cases ff <;> cases af
            all_goals
              have HV := Lib.hid HEE.out
              simp only [Bool.and_self, Bool.and_true, Bool.and_false]
              go_wp2
              go_ret
              exact ⟨congrArg (fun n => Ending.returned (.int .i64 n)) (by have := HV.out; simpa using this), HXF.out⟩

end Go.Proofs.YtbfjlhddebollaaDoor

/- The reference of layer 9: Why, at a kind. -/
namespace Go.Proofs.YtbfjlhddebollaaDoor
open Go.RowKit

set_option maxRecDepth 100000 in
set_option maxHeartbeats 4000000 in
theorem Why_10 (c : Cf) (vn vj : Value) (s : St) (a1 a2 a3 a4 a5 a6 : Int) (w : World) (h : RdSt w vn vj s) (hR : RightP c s) (hr : rightO (10, a1, a2, a3, a4, a5, a6) = true) :
    Calls Tryd.prog 29 #[cfV c, stV vn vj s, .agg #[.int .i64 10, .int .i64 a1, .int .i64 a2, .int .i64 a3, .int .i64 a4, .int .i64 a5, .int .i64 a6]] w fun e w' => e = .returned (.int .i64 (doS c s (10, a1, a2, a3, a4, a5, a6)).2) ∧ Ext w w' := by
  have hR6 := hR.len.2
  have hj24 := hR.nj
  have hin := op_in hr
  dsimp only at hin
  obtain ⟨⟨ha0, ha9_⟩, ⟨hb0_, hb9_⟩⟩ := hin
  have HA9 := Lib.hid ha9_
  have HB9 := Lib.hid hb9_
  clear ha9_ hb9_ hb0_
  obtain ⟨An, cn, rfl, hnc, hcm, hNN⟩ := has_cells h.nodes
  obtain ⟨Aj, cj, rfl, hjc, hjm, hJJ⟩ := jobs_cells h.jobs
  obtain ⟨W3, hW3, hx3, hb0, hb1, hb2⟩ := three_blocks w 23 30 36 #[.int .i64 c.nodes, .int .i64 c.queues, .int .i64 c.quota, .int .i64 c.wave, .int .i64 c.lease, .int .i64 c.retry, .int .i64 c.deadline, .int .i64 c.room, .int .i64 c.disk] #[.slice An s.nodes.length cn, .slice Aj s.jobs.length cj, .int .i64 s.goal, .int .i64 s.prior, .int .i64 s.mode, .int .i64 s.term] #[.int .i64 10, .int .i64 a1, .int .i64 a2, .int .i64 a3, .int .i64 a4, .int .i64 a5, .int .i64 a6]
  have HRR := Lib.hid (RefRight08 (10, a1, a2, a3, a4, a5, a6) W3)
  rw [hr] at HRR
  have HX3 := Lib.hid hx3
  have HB0 := Lib.hid hb0
  have HB1 := Lib.hid hb1
  have HB2 := Lib.hid hb2
  have HNN := Lib.hid hNN
  have HJJ := Lib.hid hJJ
  have HH := Lib.hid h
  have HRP := Lib.hid hR
  have o0 : W3.cell? ⟨w.heap.size + 2, 0, none⟩ = some (.int .i64 10) := hb2.cell 0
  have o1 : W3.cell? ⟨w.heap.size + 2, 1, none⟩ = some (.int .i64 a1) := hb2.cell 1
  have o2 : W3.cell? ⟨w.heap.size + 2, 2, none⟩ = some (.int .i64 a2) := hb2.cell 2
  have o3 : W3.cell? ⟨w.heap.size + 2, 3, none⟩ = some (.int .i64 a3) := hb2.cell 3
  have o4 : W3.cell? ⟨w.heap.size + 2, 4, none⟩ = some (.int .i64 a4) := hb2.cell 4
  have o5 : W3.cell? ⟨w.heap.size + 2, 5, none⟩ = some (.int .i64 a5) := hb2.cell 5
  have o6 : W3.cell? ⟨w.heap.size + 2, 6, none⟩ = some (.int .i64 a6) := hb2.cell 6
  rw [show opV (10, a1, a2, a3, a4, a5, a6) = .agg #[.int .i64 10, .int .i64 a1, .int .i64 a2, .int .i64 a3, .int .i64 a4, .int .i64 a5, .int .i64 a6] from rfl] at *
  unfold cfV stV
  clear hx3 hb0 hb1 hb2 hNN hJJ h hR hr
  go_enter Tryd.func29, Tryd.ntmps29
  go_wp2_with fail
  rw [← hW3]
  clear hW3
  refine HRR.out.mono ?_
  rintro e1 w1 ⟨rfl, hx1⟩
  have HX1 := Lib.hid (HX3.out.trans hx1)
  have HC0 := Lib.hid (HB0.out.ext hx1)
  have HC1 := Lib.hid (HB1.out.ext hx1)
  have HC2 := Lib.hid (HB2.out.ext hx1)
  clear hx1 HX3 HB0 HB1 HB2 HRR o0 o1 o2 o3 o4 o5 o6
  have hlw : w.heap.size + 2 < w1.heap.size := HC2.out.lt
  have hlw1 : w.heap.size + 1 < w1.heap.size := by omega
  have hlw0 : w.heap.size < w1.heap.size := by omega
  have HXE : Hid (∀ c1 t1 c2 t2, Ext w ((w1.alloc (.cells c1 t1)).alloc (.cells c2 t2))) := Lib.hid fun c1 t1 c2 t2 => (HX1.out.alloc HX1.out.size _).alloc (by have := HX1.out.size; simp; omega) _
  have o0 : w1.cell? ⟨w.heap.size + 2, 0, none⟩ = some (.int .i64 10) := HC2.out.cell 0
  have o1 : w1.cell? ⟨w.heap.size + 2, 1, none⟩ = some (.int .i64 a1) := HC2.out.cell 1
  have o2 : w1.cell? ⟨w.heap.size + 2, 2, none⟩ = some (.int .i64 a2) := HC2.out.cell 2
  have o3 : w1.cell? ⟨w.heap.size + 2, 3, none⟩ = some (.int .i64 a3) := HC2.out.cell 3
  have o4 : w1.cell? ⟨w.heap.size + 2, 4, none⟩ = some (.int .i64 a4) := HC2.out.cell 4
  have o5 : w1.cell? ⟨w.heap.size + 2, 5, none⟩ = some (.int .i64 a5) := HC2.out.cell 5
  have o6 : w1.cell? ⟨w.heap.size + 2, 6, none⟩ = some (.int .i64 a6) := HC2.out.cell 6
  have s0 : w1.cell? ⟨w.heap.size + 1, 0, none⟩ = some (.slice An s.nodes.length cn) := HC1.out.cell 0
  have s1 : w1.cell? ⟨w.heap.size + 1, 1, none⟩ = some (.slice Aj s.jobs.length cj) := HC1.out.cell 1
  have s2 : w1.cell? ⟨w.heap.size + 1, 2, none⟩ = some (.int .i64 s.goal) := HC1.out.cell 2
  have s3 : w1.cell? ⟨w.heap.size + 1, 3, none⟩ = some (.int .i64 s.prior) := HC1.out.cell 3
  have s4 : w1.cell? ⟨w.heap.size + 1, 4, none⟩ = some (.int .i64 s.mode) := HC1.out.cell 4
  have s5 : w1.cell? ⟨w.heap.size + 1, 5, none⟩ = some (.int .i64 s.term) := HC1.out.cell 5
  by_cases h_l : a1 < 1
  · have d_l : decide (a1 < 1) = true := decide_eq_true h_l
    have HV : Hid ((doS c s (10, a1, a2, a3, a4, a5, a6)).2 = 4) := Lib.hid (by rw [do_jobN (by unfold jobOf; rw [if_neg (by omega)]) (by decide) (by decide)])
    clear h_l
    go_wp2
    all_goals
      go_ret
      exact ⟨congrArg (fun n => Ending.returned (.int .i64 n)) HV.out.symm, HXE.out _ _ _ _⟩
  have d_l : decide (a1 < 1) = false := decide_eq_false h_l
  by_cases h_n : (s.jobs.length : Int) < a1
  · have d_n : decide ((s.jobs.length : Int) < a1) = true := decide_eq_true h_n
    have HV : Hid ((doS c s (10, a1, a2, a3, a4, a5, a6)).2 = 4) := Lib.hid (by rw [do_jobN (by unfold jobOf; rw [if_pos (by omega)]; exact List.getElem?_eq_none (by omega)) (by decide) (by decide)])
    clear h_n h_l
    go_wp2
    all_goals
      go_ret
      exact ⟨congrArg (fun n => Ending.returned (.int .i64 n)) HV.out.symm, HXE.out _ _ _ _⟩
  have d_n : decide ((s.jobs.length : Int) < a1) = false := decide_eq_false h_n
  obtain ⟨k, hk1⟩ : ∃ k : Nat, a1 - 1 = (k : Int) := ⟨(a1 - 1).toNat, by omega⟩
  obtain ⟨j, hj⟩ : ∃ j, s.jobs[k]? = some j := ⟨_, List.getElem?_eq_getElem (by omega)⟩
  have HJK := Lib.hid hj
  have hk2 : (a1 - 1).toNat = k := by omega
  have HDO : Hid (doS c s (10, a1, a2, a3, a4, a5, a6) = jobOp c s 10 k j a2) := Lib.hid (by have := do_job (c := c) (s := s) (kd := 10) (a := a1) (b := a2) (t := (a3, a4, a5, a6)) (j := j) (by unfold jobOf; rw [if_pos (by omega), hk2]; exact hj) (by decide) (by decide); rw [hk2] at this; exact this)
  obtain ⟨bk, o, rfl, hb, hat⟩ := HJJ.out k j hj
  obtain ⟨n0, n1, n2, n3, n4, n5, n6, n7, n8, n9, n10, n11⟩ := hat.ext HX1.out hb
  have hbl : bk < w1.heap.size := Nat.lt_of_lt_of_le hb HX1.out.size
  have x1 : (0 : Int) ≤ (k : Int) ∧ (k : Int) < (s.jobs.length : Int) := by omega
  have hwk : IntKind.i64.wrap (a1 - 1) = (k : Int) := by rw [hk1]; exact IntWalk.i64_in _ (by omega)
  have hwk' : wrap64 (a1 - 1) = (k : Int) := by rw [hk1]; exact IntWalk.wrap64_in _ (by omega)
  clear hj hat hb h_n h_l hk2 hk1 ha0
  by_cases h_p : ¬ j.phase = 1
  · have d_p : (j.phase == 1) = false := by rw [beq_eq_false_iff_ne]; exact h_p
    have HV : Hid ((doS c s (10, a1, a2, a3, a4, a5, a6)).2 = 5) := Lib.hid (by rw [HDO.out]; unfold jobOp startS; simp [h_p])
    clear h_p
    go_wp2
    all_goals
      go_ret
      exact ⟨congrArg (fun n => Ending.returned (.int .i64 n)) HV.out.symm, HXE.out _ _ _ _⟩
  have hp := Classical.not_not.1 h_p
  have d_p : (j.phase == 1) = true := by rw [hp]; rfl
  have HV : Hid ((doS c s (10, a1, a2, a3, a4, a5, a6)).2 = 0) := Lib.hid (by rw [HDO.out]; unfold jobOp startS; simp [hp])
  clear h_p hp
  go_wp2
  all_goals
    go_ret
    exact ⟨congrArg (fun n => Ending.returned (.int .i64 n)) HV.out.symm, HXE.out _ _ _ _⟩

end Go.Proofs.YtbfjlhddebollaaDoor

/- The reference of layer 9: Why, at a kind. -/
namespace Go.Proofs.YtbfjlhddebollaaDoor
open Go.RowKit

set_option maxRecDepth 100000 in
set_option maxHeartbeats 4000000 in
theorem Why_11 (c : Cf) (vn vj : Value) (s : St) (a1 a2 a3 a4 a5 a6 : Int) (w : World) (h : RdSt w vn vj s) (hR : RightP c s) (hr : rightO (11, a1, a2, a3, a4, a5, a6) = true) :
    Calls Tryd.prog 29 #[cfV c, stV vn vj s, .agg #[.int .i64 11, .int .i64 a1, .int .i64 a2, .int .i64 a3, .int .i64 a4, .int .i64 a5, .int .i64 a6]] w fun e w' => e = .returned (.int .i64 (doS c s (11, a1, a2, a3, a4, a5, a6)).2) ∧ Ext w w' := by
  have hR6 := hR.len.2
  have hj24 := hR.nj
  have hin := op_in hr
  dsimp only at hin
  obtain ⟨⟨ha0, ha9_⟩, ⟨hb0_, hb9_⟩⟩ := hin
  have HA9 := Lib.hid ha9_
  have HB9 := Lib.hid hb9_
  clear ha9_ hb9_
  obtain ⟨An, cn, rfl, hnc, hcm, hNN⟩ := has_cells h.nodes
  obtain ⟨Aj, cj, rfl, hjc, hjm, hJJ⟩ := jobs_cells h.jobs
  obtain ⟨W3, hW3, hx3, hb0, hb1, hb2⟩ := three_blocks w 23 30 36 #[.int .i64 c.nodes, .int .i64 c.queues, .int .i64 c.quota, .int .i64 c.wave, .int .i64 c.lease, .int .i64 c.retry, .int .i64 c.deadline, .int .i64 c.room, .int .i64 c.disk] #[.slice An s.nodes.length cn, .slice Aj s.jobs.length cj, .int .i64 s.goal, .int .i64 s.prior, .int .i64 s.mode, .int .i64 s.term] #[.int .i64 11, .int .i64 a1, .int .i64 a2, .int .i64 a3, .int .i64 a4, .int .i64 a5, .int .i64 a6]
  have HRR := Lib.hid (RefRight08 (11, a1, a2, a3, a4, a5, a6) W3)
  rw [hr] at HRR
  have HX3 := Lib.hid hx3
  have HB0 := Lib.hid hb0
  have HB1 := Lib.hid hb1
  have HB2 := Lib.hid hb2
  have HNN := Lib.hid hNN
  have HJJ := Lib.hid hJJ
  have HH := Lib.hid h
  have HRP := Lib.hid hR
  have o0 : W3.cell? ⟨w.heap.size + 2, 0, none⟩ = some (.int .i64 11) := hb2.cell 0
  have o1 : W3.cell? ⟨w.heap.size + 2, 1, none⟩ = some (.int .i64 a1) := hb2.cell 1
  have o2 : W3.cell? ⟨w.heap.size + 2, 2, none⟩ = some (.int .i64 a2) := hb2.cell 2
  have o3 : W3.cell? ⟨w.heap.size + 2, 3, none⟩ = some (.int .i64 a3) := hb2.cell 3
  have o4 : W3.cell? ⟨w.heap.size + 2, 4, none⟩ = some (.int .i64 a4) := hb2.cell 4
  have o5 : W3.cell? ⟨w.heap.size + 2, 5, none⟩ = some (.int .i64 a5) := hb2.cell 5
  have o6 : W3.cell? ⟨w.heap.size + 2, 6, none⟩ = some (.int .i64 a6) := hb2.cell 6
  rw [show opV (11, a1, a2, a3, a4, a5, a6) = .agg #[.int .i64 11, .int .i64 a1, .int .i64 a2, .int .i64 a3, .int .i64 a4, .int .i64 a5, .int .i64 a6] from rfl] at *
  unfold cfV stV
  clear hx3 hb0 hb1 hb2 hNN hJJ h hR hr
  go_enter Tryd.func29, Tryd.ntmps29
  go_wp2_with fail
  rw [← hW3]
  clear hW3
  refine HRR.out.mono ?_
  rintro e1 w1 ⟨rfl, hx1⟩
  have HX1 := Lib.hid (HX3.out.trans hx1)
  have HC0 := Lib.hid (HB0.out.ext hx1)
  have HC1 := Lib.hid (HB1.out.ext hx1)
  have HC2 := Lib.hid (HB2.out.ext hx1)
  clear hx1 HX3 HB0 HB1 HB2 HRR o0 o1 o2 o3 o4 o5 o6
  have hlw : w.heap.size + 2 < w1.heap.size := HC2.out.lt
  have hlw1 : w.heap.size + 1 < w1.heap.size := by omega
  have hlw0 : w.heap.size < w1.heap.size := by omega
  have HXE : Hid (∀ c1 t1 c2 t2, Ext w ((w1.alloc (.cells c1 t1)).alloc (.cells c2 t2))) := Lib.hid fun c1 t1 c2 t2 => (HX1.out.alloc HX1.out.size _).alloc (by have := HX1.out.size; simp; omega) _
  have o0 : w1.cell? ⟨w.heap.size + 2, 0, none⟩ = some (.int .i64 11) := HC2.out.cell 0
  have o1 : w1.cell? ⟨w.heap.size + 2, 1, none⟩ = some (.int .i64 a1) := HC2.out.cell 1
  have o2 : w1.cell? ⟨w.heap.size + 2, 2, none⟩ = some (.int .i64 a2) := HC2.out.cell 2
  have o3 : w1.cell? ⟨w.heap.size + 2, 3, none⟩ = some (.int .i64 a3) := HC2.out.cell 3
  have o4 : w1.cell? ⟨w.heap.size + 2, 4, none⟩ = some (.int .i64 a4) := HC2.out.cell 4
  have o5 : w1.cell? ⟨w.heap.size + 2, 5, none⟩ = some (.int .i64 a5) := HC2.out.cell 5
  have o6 : w1.cell? ⟨w.heap.size + 2, 6, none⟩ = some (.int .i64 a6) := HC2.out.cell 6
  have s0 : w1.cell? ⟨w.heap.size + 1, 0, none⟩ = some (.slice An s.nodes.length cn) := HC1.out.cell 0
  have s1 : w1.cell? ⟨w.heap.size + 1, 1, none⟩ = some (.slice Aj s.jobs.length cj) := HC1.out.cell 1
  have s2 : w1.cell? ⟨w.heap.size + 1, 2, none⟩ = some (.int .i64 s.goal) := HC1.out.cell 2
  have s3 : w1.cell? ⟨w.heap.size + 1, 3, none⟩ = some (.int .i64 s.prior) := HC1.out.cell 3
  have s4 : w1.cell? ⟨w.heap.size + 1, 4, none⟩ = some (.int .i64 s.mode) := HC1.out.cell 4
  have s5 : w1.cell? ⟨w.heap.size + 1, 5, none⟩ = some (.int .i64 s.term) := HC1.out.cell 5
  by_cases h_l : a1 < 1
  · have d_l : decide (a1 < 1) = true := decide_eq_true h_l
    have HV : Hid ((doS c s (11, a1, a2, a3, a4, a5, a6)).2 = 4) := Lib.hid (by rw [do_jobN (by unfold jobOf; rw [if_neg (by omega)]) (by decide) (by decide)])
    clear h_l
    go_wp2
    all_goals
      go_ret
      exact ⟨congrArg (fun n => Ending.returned (.int .i64 n)) HV.out.symm, HXE.out _ _ _ _⟩
  have d_l : decide (a1 < 1) = false := decide_eq_false h_l
  by_cases h_n : (s.jobs.length : Int) < a1
  · have d_n : decide ((s.jobs.length : Int) < a1) = true := decide_eq_true h_n
    have HV : Hid ((doS c s (11, a1, a2, a3, a4, a5, a6)).2 = 4) := Lib.hid (by rw [do_jobN (by unfold jobOf; rw [if_pos (by omega)]; exact List.getElem?_eq_none (by omega)) (by decide) (by decide)])
    clear h_n h_l
    go_wp2
    all_goals
      go_ret
      exact ⟨congrArg (fun n => Ending.returned (.int .i64 n)) HV.out.symm, HXE.out _ _ _ _⟩
  have d_n : decide ((s.jobs.length : Int) < a1) = false := decide_eq_false h_n
  obtain ⟨k, hk1⟩ : ∃ k : Nat, a1 - 1 = (k : Int) := ⟨(a1 - 1).toNat, by omega⟩
  obtain ⟨j, hj⟩ : ∃ j, s.jobs[k]? = some j := ⟨_, List.getElem?_eq_getElem (by omega)⟩
  have HJK := Lib.hid hj
  have hk2 : (a1 - 1).toNat = k := by omega
  have HDO : Hid (doS c s (11, a1, a2, a3, a4, a5, a6) = jobOp c s 11 k j a2) := Lib.hid (by have := do_job (c := c) (s := s) (kd := 11) (a := a1) (b := a2) (t := (a3, a4, a5, a6)) (j := j) (by unfold jobOf; rw [if_pos (by omega), hk2]; exact hj) (by decide) (by decide); rw [hk2] at this; exact this)
  obtain ⟨bk, o, rfl, hb, hat⟩ := HJJ.out k j hj
  obtain ⟨n0, n1, n2, n3, n4, n5, n6, n7, n8, n9, n10, n11⟩ := hat.ext HX1.out hb
  have hbl : bk < w1.heap.size := Nat.lt_of_lt_of_le hb HX1.out.size
  have x1 : (0 : Int) ≤ (k : Int) ∧ (k : Int) < (s.jobs.length : Int) := by omega
  have hwk : IntKind.i64.wrap (a1 - 1) = (k : Int) := by rw [hk1]; exact IntWalk.i64_in _ (by omega)
  have hwk' : wrap64 (a1 - 1) = (k : Int) := by rw [hk1]; exact IntWalk.wrap64_in _ (by omega)
  clear hj hat hb h_n h_l hk2 hk1 ha0
  by_cases h_p : ¬ j.phase = 1
  · have d_p : (j.phase == 1) = false := by rw [beq_eq_false_iff_ne]; exact h_p
    have HV : Hid ((doS c s (11, a1, a2, a3, a4, a5, a6)).2 = 5) := Lib.hid (by rw [HDO.out]; unfold jobOp unholdS; simp [h_p])
    clear h_p
    go_wp2
    all_goals
      go_ret
      exact ⟨congrArg (fun n => Ending.returned (.int .i64 n)) HV.out.symm, HXE.out _ _ _ _⟩
  have hp := Classical.not_not.1 h_p
  have d_p : (j.phase == 1) = true := by rw [hp]; rfl
  have HV : Hid ((doS c s (11, a1, a2, a3, a4, a5, a6)).2 = 0) := Lib.hid (by rw [HDO.out]; unfold jobOp unholdS; simp [hp])
  clear h_p hp
  go_wp2
  all_goals
    go_ret
    exact ⟨congrArg (fun n => Ending.returned (.int .i64 n)) HV.out.symm, HXE.out _ _ _ _⟩

end Go.Proofs.YtbfjlhddebollaaDoor

/- The reference of layer 9: Why, at a kind. -/
namespace Go.Proofs.YtbfjlhddebollaaDoor
open Go.RowKit

set_option maxRecDepth 100000 in
set_option maxHeartbeats 4000000 in
theorem Why_12 (c : Cf) (vn vj : Value) (s : St) (a1 a2 a3 a4 a5 a6 : Int) (w : World) (h : RdSt w vn vj s) (hR : RightP c s) (hr : rightO (12, a1, a2, a3, a4, a5, a6) = true) :
    Calls Tryd.prog 29 #[cfV c, stV vn vj s, .agg #[.int .i64 12, .int .i64 a1, .int .i64 a2, .int .i64 a3, .int .i64 a4, .int .i64 a5, .int .i64 a6]] w fun e w' => e = .returned (.int .i64 (doS c s (12, a1, a2, a3, a4, a5, a6)).2) ∧ Ext w w' := by
  have hR6 := hR.len.2
  have hj24 := hR.nj
  have hin := op_in hr
  dsimp only at hin
  obtain ⟨⟨ha0, ha9_⟩, ⟨hb0_, hb9_⟩⟩ := hin
  have HA9 := Lib.hid ha9_
  have HB9 := Lib.hid hb9_
  clear ha9_ hb9_
  obtain ⟨An, cn, rfl, hnc, hcm, hNN⟩ := has_cells h.nodes
  obtain ⟨Aj, cj, rfl, hjc, hjm, hJJ⟩ := jobs_cells h.jobs
  obtain ⟨W3, hW3, hx3, hb0, hb1, hb2⟩ := three_blocks w 23 30 36 #[.int .i64 c.nodes, .int .i64 c.queues, .int .i64 c.quota, .int .i64 c.wave, .int .i64 c.lease, .int .i64 c.retry, .int .i64 c.deadline, .int .i64 c.room, .int .i64 c.disk] #[.slice An s.nodes.length cn, .slice Aj s.jobs.length cj, .int .i64 s.goal, .int .i64 s.prior, .int .i64 s.mode, .int .i64 s.term] #[.int .i64 12, .int .i64 a1, .int .i64 a2, .int .i64 a3, .int .i64 a4, .int .i64 a5, .int .i64 a6]
  have HRR := Lib.hid (RefRight08 (12, a1, a2, a3, a4, a5, a6) W3)
  rw [hr] at HRR
  have HX3 := Lib.hid hx3
  have HB0 := Lib.hid hb0
  have HB1 := Lib.hid hb1
  have HB2 := Lib.hid hb2
  have HNN := Lib.hid hNN
  have HJJ := Lib.hid hJJ
  have HH := Lib.hid h
  have HRP := Lib.hid hR
  have o0 : W3.cell? ⟨w.heap.size + 2, 0, none⟩ = some (.int .i64 12) := hb2.cell 0
  have o1 : W3.cell? ⟨w.heap.size + 2, 1, none⟩ = some (.int .i64 a1) := hb2.cell 1
  have o2 : W3.cell? ⟨w.heap.size + 2, 2, none⟩ = some (.int .i64 a2) := hb2.cell 2
  have o3 : W3.cell? ⟨w.heap.size + 2, 3, none⟩ = some (.int .i64 a3) := hb2.cell 3
  have o4 : W3.cell? ⟨w.heap.size + 2, 4, none⟩ = some (.int .i64 a4) := hb2.cell 4
  have o5 : W3.cell? ⟨w.heap.size + 2, 5, none⟩ = some (.int .i64 a5) := hb2.cell 5
  have o6 : W3.cell? ⟨w.heap.size + 2, 6, none⟩ = some (.int .i64 a6) := hb2.cell 6
  rw [show opV (12, a1, a2, a3, a4, a5, a6) = .agg #[.int .i64 12, .int .i64 a1, .int .i64 a2, .int .i64 a3, .int .i64 a4, .int .i64 a5, .int .i64 a6] from rfl] at *
  unfold cfV stV
  clear hx3 hb0 hb1 hb2 hNN hJJ h hR hr
  go_enter Tryd.func29, Tryd.ntmps29
  go_wp2_with fail
  rw [← hW3]
  clear hW3
  refine HRR.out.mono ?_
  rintro e1 w1 ⟨rfl, hx1⟩
  have HX1 := Lib.hid (HX3.out.trans hx1)
  have HC0 := Lib.hid (HB0.out.ext hx1)
  have HC1 := Lib.hid (HB1.out.ext hx1)
  have HC2 := Lib.hid (HB2.out.ext hx1)
  clear hx1 HX3 HB0 HB1 HB2 HRR o0 o1 o2 o3 o4 o5 o6
  have hlw : w.heap.size + 2 < w1.heap.size := HC2.out.lt
  have hlw1 : w.heap.size + 1 < w1.heap.size := by omega
  have hlw0 : w.heap.size < w1.heap.size := by omega
  have HXE : Hid (∀ c1 t1 c2 t2, Ext w ((w1.alloc (.cells c1 t1)).alloc (.cells c2 t2))) := Lib.hid fun c1 t1 c2 t2 => (HX1.out.alloc HX1.out.size _).alloc (by have := HX1.out.size; simp; omega) _
  have o0 : w1.cell? ⟨w.heap.size + 2, 0, none⟩ = some (.int .i64 12) := HC2.out.cell 0
  have o1 : w1.cell? ⟨w.heap.size + 2, 1, none⟩ = some (.int .i64 a1) := HC2.out.cell 1
  have o2 : w1.cell? ⟨w.heap.size + 2, 2, none⟩ = some (.int .i64 a2) := HC2.out.cell 2
  have o3 : w1.cell? ⟨w.heap.size + 2, 3, none⟩ = some (.int .i64 a3) := HC2.out.cell 3
  have o4 : w1.cell? ⟨w.heap.size + 2, 4, none⟩ = some (.int .i64 a4) := HC2.out.cell 4
  have o5 : w1.cell? ⟨w.heap.size + 2, 5, none⟩ = some (.int .i64 a5) := HC2.out.cell 5
  have o6 : w1.cell? ⟨w.heap.size + 2, 6, none⟩ = some (.int .i64 a6) := HC2.out.cell 6
  have s0 : w1.cell? ⟨w.heap.size + 1, 0, none⟩ = some (.slice An s.nodes.length cn) := HC1.out.cell 0
  have s1 : w1.cell? ⟨w.heap.size + 1, 1, none⟩ = some (.slice Aj s.jobs.length cj) := HC1.out.cell 1
  have s2 : w1.cell? ⟨w.heap.size + 1, 2, none⟩ = some (.int .i64 s.goal) := HC1.out.cell 2
  have s3 : w1.cell? ⟨w.heap.size + 1, 3, none⟩ = some (.int .i64 s.prior) := HC1.out.cell 3
  have s4 : w1.cell? ⟨w.heap.size + 1, 4, none⟩ = some (.int .i64 s.mode) := HC1.out.cell 4
  have s5 : w1.cell? ⟨w.heap.size + 1, 5, none⟩ = some (.int .i64 s.term) := HC1.out.cell 5
  by_cases h_l : a1 < 1
  · have d_l : decide (a1 < 1) = true := decide_eq_true h_l
    have HV : Hid ((doS c s (12, a1, a2, a3, a4, a5, a6)).2 = 4) := Lib.hid (by rw [do_jobN (by unfold jobOf; rw [if_neg (by omega)]) (by decide) (by decide)])
    clear h_l
    go_wp2
    all_goals
      go_ret
      exact ⟨congrArg (fun n => Ending.returned (.int .i64 n)) HV.out.symm, HXE.out _ _ _ _⟩
  have d_l : decide (a1 < 1) = false := decide_eq_false h_l
  by_cases h_n : (s.jobs.length : Int) < a1
  · have d_n : decide ((s.jobs.length : Int) < a1) = true := decide_eq_true h_n
    have HV : Hid ((doS c s (12, a1, a2, a3, a4, a5, a6)).2 = 4) := Lib.hid (by rw [do_jobN (by unfold jobOf; rw [if_pos (by omega)]; exact List.getElem?_eq_none (by omega)) (by decide) (by decide)])
    clear h_n h_l
    go_wp2
    all_goals
      go_ret
      exact ⟨congrArg (fun n => Ending.returned (.int .i64 n)) HV.out.symm, HXE.out _ _ _ _⟩
  have d_n : decide ((s.jobs.length : Int) < a1) = false := decide_eq_false h_n
  obtain ⟨k, hk1⟩ : ∃ k : Nat, a1 - 1 = (k : Int) := ⟨(a1 - 1).toNat, by omega⟩
  obtain ⟨j, hj⟩ : ∃ j, s.jobs[k]? = some j := ⟨_, List.getElem?_eq_getElem (by omega)⟩
  have HJK := Lib.hid hj
  have hk2 : (a1 - 1).toNat = k := by omega
  have HDO : Hid (doS c s (12, a1, a2, a3, a4, a5, a6) = jobOp c s 12 k j a2) := Lib.hid (by have := do_job (c := c) (s := s) (kd := 12) (a := a1) (b := a2) (t := (a3, a4, a5, a6)) (j := j) (by unfold jobOf; rw [if_pos (by omega), hk2]; exact hj) (by decide) (by decide); rw [hk2] at this; exact this)
  obtain ⟨bk, o, rfl, hb, hat⟩ := HJJ.out k j hj
  obtain ⟨n0, n1, n2, n3, n4, n5, n6, n7, n8, n9, n10, n11⟩ := hat.ext HX1.out hb
  have hbl : bk < w1.heap.size := Nat.lt_of_lt_of_le hb HX1.out.size
  have x1 : (0 : Int) ≤ (k : Int) ∧ (k : Int) < (s.jobs.length : Int) := by omega
  have hwk : IntKind.i64.wrap (a1 - 1) = (k : Int) := by rw [hk1]; exact IntWalk.i64_in _ (by omega)
  have hwk' : wrap64 (a1 - 1) = (k : Int) := by rw [hk1]; exact IntWalk.wrap64_in _ (by omega)
  clear hj hat hb h_n h_l hk2 hk1 ha0
  by_cases h_p : ¬ j.phase = 2
  · have d_p : (j.phase == 2) = false := by rw [beq_eq_false_iff_ne]; exact h_p
    have HV : Hid ((doS c s (12, a1, a2, a3, a4, a5, a6)).2 = 5) := Lib.hid (by rw [HDO.out]; unfold jobOp drainS; simp [h_p])
    clear h_p
    go_wp2
    all_goals
      go_ret
      exact ⟨congrArg (fun n => Ending.returned (.int .i64 n)) HV.out.symm, HXE.out _ _ _ _⟩
  have hp := Classical.not_not.1 h_p
  have d_p : (j.phase == 2) = true := by rw [hp]; rfl
  have hq0 : 0 ≤ j.queue ∧ j.queue < c.queues := by
    have := (HRP.out.job k j HJK.out).asked
    simp only [askedJ, Bool.and_eq_true, inR_iff] at this
    omega
  have hdq : (drainsS s j.queue : Int) ≤ c.quota := by
    have := HRP.out.drains j.queue.toNat (by omega)
    rwa [show ((j.queue.toNat : Nat) : Int) = j.queue by omega] at this
  have HDV : Hid ((doS c s (12, a1, a2, a3, a4, a5, a6)).2 = if (drainsS s j.queue : Int) = c.quota then 7 else 0) := Lib.hid (by
    rw [HDO.out]
    unfold jobOp drainS
    rw [if_neg (by decide), if_neg (by decide), if_neg (by decide), if_neg (by decide), if_pos (by rfl), if_pos hp]
    split <;> rfl)
  obtain ⟨w5, hw5, hx5, hbj, hbn⟩ := two_blocks w1 56 45 #[.int .i64 j.queue, .int .i64 j.prio, .int .i64 j.least, .int .i64 j.most, .int .i64 j.work, .int .i64 j.pin, .int .i64 j.phase, .int .i64 j.inc, .int .i64 j.nodes, .int .i64 j.since, .int .i64 j.til, .int .i64 j.epoch] #[.bool false, .bool false, .bool false, .int .i64 0, .int .i64 0]
  have HX5 := Lib.hid (HX1.out.trans hx5)
  have HBJ := Lib.hid hbj
  have HS5 := Lib.hid (HC1.out.ext hx5)
  have HQ5 := Lib.hid (HC0.out.ext hx5)
  clear hx5 hbj hbn hp h_p hq0
  go_upto_region 97 with (fail)
  all_goals
    rw [← hw5]
    clear hw5 n0 n1 n2 n3 n4 n5 n6 n7 n8 n9 n10 n11 hbl x1 hwk hwk' o0 o1 o2 o3 o4 o5 o6 s0 s1 s2 s3 s4 s5
    have s0 : w5.cell? ⟨w.heap.size + 1, 0, none⟩ = some (.slice An s.nodes.length cn) := HS5.out.cell 0
    have s1 : w5.cell? ⟨w.heap.size + 1, 1, none⟩ = some (.slice (some ⟨bk, o, none⟩) s.jobs.length cj) := HS5.out.cell 1
    have s2 : w5.cell? ⟨w.heap.size + 1, 2, none⟩ = some (.int .i64 s.goal) := HS5.out.cell 2
    have s3 : w5.cell? ⟨w.heap.size + 1, 3, none⟩ = some (.int .i64 s.prior) := HS5.out.cell 3
    have s4 : w5.cell? ⟨w.heap.size + 1, 4, none⟩ = some (.int .i64 s.mode) := HS5.out.cell 4
    have s5 : w5.cell? ⟨w.heap.size + 1, 5, none⟩ = some (.int .i64 s.term) := HS5.out.cell 5
    have k2 : w5.cell? ⟨w.heap.size, 2, none⟩ = some (.int .i64 c.quota) := HQ5.out.cell 2
    have q0 : w5.cell? ⟨w1.heap.size, 0, none⟩ = some (.int .i64 j.queue) := HBJ.out.cell 0
    have HCC : Hid (∀ W, Ext w5 W → W.cell? ⟨w.heap.size + 1, 0, none⟩ = some (.slice An s.nodes.length cn) ∧ W.cell? ⟨w.heap.size + 1, 1, none⟩ = some (.slice (some ⟨bk, o, none⟩) s.jobs.length cj) ∧ W.cell? ⟨w.heap.size + 1, 2, none⟩ = some (.int .i64 s.goal) ∧ W.cell? ⟨w.heap.size + 1, 3, none⟩ = some (.int .i64 s.prior) ∧ W.cell? ⟨w.heap.size + 1, 4, none⟩ = some (.int .i64 s.mode) ∧ W.cell? ⟨w.heap.size + 1, 5, none⟩ = some (.int .i64 s.term) ∧ W.cell? ⟨w.heap.size, 2, none⟩ = some (.int .i64 c.quota) ∧ W.cell? ⟨w1.heap.size, 0, none⟩ = some (.int .i64 j.queue)) := Lib.hid fun W h => ⟨(HS5.out.ext h).cell 0, (HS5.out.ext h).cell 1, (HS5.out.ext h).cell 2, (HS5.out.ext h).cell 3, (HS5.out.ext h).cell 4, (HS5.out.ext h).cell 5, (HQ5.out.ext h).cell 2, (HBJ.out.ext h).cell 0⟩
    have HDQ : Hid (∀ W, Ext w5 W → Calls Tryd.prog 16 #[.agg #[.slice An s.nodes.length cn, .slice (some ⟨bk, o, none⟩) s.jobs.length cj, .int .i64 s.goal, .int .i64 s.prior, .int .i64 s.mode, .int .i64 s.term], .int .i64 j.queue] W fun e w'' => e = .returned (.int .i64 (drainsS s j.queue : Int)) ∧ Ext w5 w'') := Lib.hid fun W hx => (RefDrains_any _ _ s j.queue W (HH.out.jobs.ext (HX5.out.trans hx))).mono (by rintro e w'' ⟨h1, h2⟩; exact ⟨h1, hx.trans h2⟩)
    generalize (drainsS s j.queue : Int) = D at *
    by_cases h_q : D = c.quota
    · have d_q : decide (c.quota ≤ D) = true := decide_eq_true (by omega)
      have HV : Hid ((doS c s (12, a1, a2, a3, a4, a5, a6)).2 = 7) := Lib.hid (by rw [HDV.out, if_pos h_q])
      clear hdq h_q
      go_region_held3 (fun W => W.cell? ⟨w.heap.size + 1, 0, none⟩ = some (.slice An s.nodes.length cn) ∧ W.cell? ⟨w.heap.size + 1, 1, none⟩ = some (.slice (some ⟨bk, o, none⟩) s.jobs.length cj) ∧ W.cell? ⟨w.heap.size + 1, 2, none⟩ = some (.int .i64 s.goal) ∧ W.cell? ⟨w.heap.size + 1, 3, none⟩ = some (.int .i64 s.prior) ∧ W.cell? ⟨w.heap.size + 1, 4, none⟩ = some (.int .i64 s.mode) ∧ W.cell? ⟨w.heap.size + 1, 5, none⟩ = some (.int .i64 s.term) ∧ W.cell? ⟨w.heap.size, 2, none⟩ = some (.int .i64 c.quota) ∧ W.cell? ⟨w1.heap.size, 0, none⟩ = some (.int .i64 j.queue)) (first | exact HCC.out _ y1 | exact HCC.out _ (Ext.refl _) | exact HCC.out _ (ext_drew9 (Ext.refl _)) | go_keep) ((go_at_call 16; (first | (with_reducible refine (HDQ.out _ (Ext.refl w5)).mono ?_) | (with_reducible refine (HDQ.out _ (ext_drew9 (Ext.refl w5))).mono ?_)); rintro e9 w9 ⟨rfl, y1⟩))
      all_goals
        have HX9 := Lib.hid (HX5.out.trans y1)
        clear y1
        go_wp2
        go_ret
        exact ⟨congrArg (fun n => Ending.returned (.int .i64 n)) HV.out.symm, HX9.out⟩
    · have d_q : decide (c.quota ≤ D) = false := decide_eq_false (by omega)
      have HV : Hid ((doS c s (12, a1, a2, a3, a4, a5, a6)).2 = 0) := Lib.hid (by rw [HDV.out, if_neg h_q])
      clear hdq h_q
      go_region_held3 (fun W => W.cell? ⟨w.heap.size + 1, 0, none⟩ = some (.slice An s.nodes.length cn) ∧ W.cell? ⟨w.heap.size + 1, 1, none⟩ = some (.slice (some ⟨bk, o, none⟩) s.jobs.length cj) ∧ W.cell? ⟨w.heap.size + 1, 2, none⟩ = some (.int .i64 s.goal) ∧ W.cell? ⟨w.heap.size + 1, 3, none⟩ = some (.int .i64 s.prior) ∧ W.cell? ⟨w.heap.size + 1, 4, none⟩ = some (.int .i64 s.mode) ∧ W.cell? ⟨w.heap.size + 1, 5, none⟩ = some (.int .i64 s.term) ∧ W.cell? ⟨w.heap.size, 2, none⟩ = some (.int .i64 c.quota) ∧ W.cell? ⟨w1.heap.size, 0, none⟩ = some (.int .i64 j.queue)) (first | exact HCC.out _ y1 | exact HCC.out _ (Ext.refl _) | exact HCC.out _ (ext_drew9 (Ext.refl _)) | go_keep) ((go_at_call 16; (first | (with_reducible refine (HDQ.out _ (Ext.refl w5)).mono ?_) | (with_reducible refine (HDQ.out _ (ext_drew9 (Ext.refl w5))).mono ?_)); rintro e9 w9 ⟨rfl, y1⟩))
      all_goals
        have HX9 := Lib.hid (HX5.out.trans y1)
        clear y1
        go_wp2
        go_ret
        exact ⟨congrArg (fun n => Ending.returned (.int .i64 n)) HV.out.symm, HX9.out⟩

end Go.Proofs.YtbfjlhddebollaaDoor

/- The reference of layer 9: Why, at a kind. -/
namespace Go.Proofs.YtbfjlhddebollaaDoor
open Go.RowKit

set_option maxRecDepth 100000 in
set_option maxHeartbeats 4000000 in
theorem Why_13 (c : Cf) (vn vj : Value) (s : St) (a1 a2 a3 a4 a5 a6 : Int) (w : World) (h : RdSt w vn vj s) (hR : RightP c s) (hr : rightO (13, a1, a2, a3, a4, a5, a6) = true) :
    Calls Tryd.prog 29 #[cfV c, stV vn vj s, .agg #[.int .i64 13, .int .i64 a1, .int .i64 a2, .int .i64 a3, .int .i64 a4, .int .i64 a5, .int .i64 a6]] w fun e w' => e = .returned (.int .i64 (doS c s (13, a1, a2, a3, a4, a5, a6)).2) ∧ Ext w w' := by
  have hR6 := hR.len.2
  have hj24 := hR.nj
  have hin := op_in hr
  dsimp only at hin
  obtain ⟨⟨ha0, ha9_⟩, ⟨hb0_, hb9_⟩⟩ := hin
  have HA9 := Lib.hid ha9_
  have HB9 := Lib.hid hb9_
  clear ha9_ hb9_
  obtain ⟨An, cn, rfl, hnc, hcm, hNN⟩ := has_cells h.nodes
  obtain ⟨Aj, cj, rfl, hjc, hjm, hJJ⟩ := jobs_cells h.jobs
  obtain ⟨W3, hW3, hx3, hb0, hb1, hb2⟩ := three_blocks w 23 30 36 #[.int .i64 c.nodes, .int .i64 c.queues, .int .i64 c.quota, .int .i64 c.wave, .int .i64 c.lease, .int .i64 c.retry, .int .i64 c.deadline, .int .i64 c.room, .int .i64 c.disk] #[.slice An s.nodes.length cn, .slice Aj s.jobs.length cj, .int .i64 s.goal, .int .i64 s.prior, .int .i64 s.mode, .int .i64 s.term] #[.int .i64 13, .int .i64 a1, .int .i64 a2, .int .i64 a3, .int .i64 a4, .int .i64 a5, .int .i64 a6]
  have HRR := Lib.hid (RefRight08 (13, a1, a2, a3, a4, a5, a6) W3)
  rw [hr] at HRR
  have HX3 := Lib.hid hx3
  have HB0 := Lib.hid hb0
  have HB1 := Lib.hid hb1
  have HB2 := Lib.hid hb2
  have HNN := Lib.hid hNN
  have HJJ := Lib.hid hJJ
  have HH := Lib.hid h
  have HRP := Lib.hid hR
  have o0 : W3.cell? ⟨w.heap.size + 2, 0, none⟩ = some (.int .i64 13) := hb2.cell 0
  have o1 : W3.cell? ⟨w.heap.size + 2, 1, none⟩ = some (.int .i64 a1) := hb2.cell 1
  have o2 : W3.cell? ⟨w.heap.size + 2, 2, none⟩ = some (.int .i64 a2) := hb2.cell 2
  have o3 : W3.cell? ⟨w.heap.size + 2, 3, none⟩ = some (.int .i64 a3) := hb2.cell 3
  have o4 : W3.cell? ⟨w.heap.size + 2, 4, none⟩ = some (.int .i64 a4) := hb2.cell 4
  have o5 : W3.cell? ⟨w.heap.size + 2, 5, none⟩ = some (.int .i64 a5) := hb2.cell 5
  have o6 : W3.cell? ⟨w.heap.size + 2, 6, none⟩ = some (.int .i64 a6) := hb2.cell 6
  rw [show opV (13, a1, a2, a3, a4, a5, a6) = .agg #[.int .i64 13, .int .i64 a1, .int .i64 a2, .int .i64 a3, .int .i64 a4, .int .i64 a5, .int .i64 a6] from rfl] at *
  unfold cfV stV
  clear hx3 hb0 hb1 hb2 hNN hJJ h hR hr
  go_enter Tryd.func29, Tryd.ntmps29
  go_wp2_with fail
  rw [← hW3]
  clear hW3
  refine HRR.out.mono ?_
  rintro e1 w1 ⟨rfl, hx1⟩
  have HX1 := Lib.hid (HX3.out.trans hx1)
  have HC0 := Lib.hid (HB0.out.ext hx1)
  have HC1 := Lib.hid (HB1.out.ext hx1)
  have HC2 := Lib.hid (HB2.out.ext hx1)
  clear hx1 HX3 HB0 HB1 HB2 HRR o0 o1 o2 o3 o4 o5 o6
  have hlw : w.heap.size + 2 < w1.heap.size := HC2.out.lt
  have hlw1 : w.heap.size + 1 < w1.heap.size := by omega
  have hlw0 : w.heap.size < w1.heap.size := by omega
  have HXE : Hid (∀ c1 t1 c2 t2, Ext w ((w1.alloc (.cells c1 t1)).alloc (.cells c2 t2))) := Lib.hid fun c1 t1 c2 t2 => (HX1.out.alloc HX1.out.size _).alloc (by have := HX1.out.size; simp; omega) _
  have o0 : w1.cell? ⟨w.heap.size + 2, 0, none⟩ = some (.int .i64 13) := HC2.out.cell 0
  have o1 : w1.cell? ⟨w.heap.size + 2, 1, none⟩ = some (.int .i64 a1) := HC2.out.cell 1
  have o2 : w1.cell? ⟨w.heap.size + 2, 2, none⟩ = some (.int .i64 a2) := HC2.out.cell 2
  have o3 : w1.cell? ⟨w.heap.size + 2, 3, none⟩ = some (.int .i64 a3) := HC2.out.cell 3
  have o4 : w1.cell? ⟨w.heap.size + 2, 4, none⟩ = some (.int .i64 a4) := HC2.out.cell 4
  have o5 : w1.cell? ⟨w.heap.size + 2, 5, none⟩ = some (.int .i64 a5) := HC2.out.cell 5
  have o6 : w1.cell? ⟨w.heap.size + 2, 6, none⟩ = some (.int .i64 a6) := HC2.out.cell 6
  have s0 : w1.cell? ⟨w.heap.size + 1, 0, none⟩ = some (.slice An s.nodes.length cn) := HC1.out.cell 0
  have s1 : w1.cell? ⟨w.heap.size + 1, 1, none⟩ = some (.slice Aj s.jobs.length cj) := HC1.out.cell 1
  have s2 : w1.cell? ⟨w.heap.size + 1, 2, none⟩ = some (.int .i64 s.goal) := HC1.out.cell 2
  have s3 : w1.cell? ⟨w.heap.size + 1, 3, none⟩ = some (.int .i64 s.prior) := HC1.out.cell 3
  have s4 : w1.cell? ⟨w.heap.size + 1, 4, none⟩ = some (.int .i64 s.mode) := HC1.out.cell 4
  have s5 : w1.cell? ⟨w.heap.size + 1, 5, none⟩ = some (.int .i64 s.term) := HC1.out.cell 5
  by_cases h_l : a1 < 1
  · have d_l : decide (a1 < 1) = true := decide_eq_true h_l
    have HV : Hid ((doS c s (13, a1, a2, a3, a4, a5, a6)).2 = 4) := Lib.hid (by rw [do_jobN (by unfold jobOf; rw [if_neg (by omega)]) (by decide) (by decide)])
    clear h_l
    go_wp2
    all_goals
      go_ret
      exact ⟨congrArg (fun n => Ending.returned (.int .i64 n)) HV.out.symm, HXE.out _ _ _ _⟩
  have d_l : decide (a1 < 1) = false := decide_eq_false h_l
  by_cases h_n : (s.jobs.length : Int) < a1
  · have d_n : decide ((s.jobs.length : Int) < a1) = true := decide_eq_true h_n
    have HV : Hid ((doS c s (13, a1, a2, a3, a4, a5, a6)).2 = 4) := Lib.hid (by rw [do_jobN (by unfold jobOf; rw [if_pos (by omega)]; exact List.getElem?_eq_none (by omega)) (by decide) (by decide)])
    clear h_n h_l
    go_wp2
    all_goals
      go_ret
      exact ⟨congrArg (fun n => Ending.returned (.int .i64 n)) HV.out.symm, HXE.out _ _ _ _⟩
  have d_n : decide ((s.jobs.length : Int) < a1) = false := decide_eq_false h_n
  obtain ⟨k, hk1⟩ : ∃ k : Nat, a1 - 1 = (k : Int) := ⟨(a1 - 1).toNat, by omega⟩
  obtain ⟨j, hj⟩ : ∃ j, s.jobs[k]? = some j := ⟨_, List.getElem?_eq_getElem (by omega)⟩
  have HJK := Lib.hid hj
  have hk2 : (a1 - 1).toNat = k := by omega
  have HDO : Hid (doS c s (13, a1, a2, a3, a4, a5, a6) = jobOp c s 13 k j a2) := Lib.hid (by have := do_job (c := c) (s := s) (kd := 13) (a := a1) (b := a2) (t := (a3, a4, a5, a6)) (j := j) (by unfold jobOf; rw [if_pos (by omega), hk2]; exact hj) (by decide) (by decide); rw [hk2] at this; exact this)
  obtain ⟨bk, o, rfl, hb, hat⟩ := HJJ.out k j hj
  obtain ⟨n0, n1, n2, n3, n4, n5, n6, n7, n8, n9, n10, n11⟩ := hat.ext HX1.out hb
  have hbl : bk < w1.heap.size := Nat.lt_of_lt_of_le hb HX1.out.size
  have x1 : (0 : Int) ≤ (k : Int) ∧ (k : Int) < (s.jobs.length : Int) := by omega
  have hwk : IntKind.i64.wrap (a1 - 1) = (k : Int) := by rw [hk1]; exact IntWalk.i64_in _ (by omega)
  have hwk' : wrap64 (a1 - 1) = (k : Int) := by rw [hk1]; exact IntWalk.wrap64_in _ (by omega)
  clear hj hat hb h_n h_l hk2 hk1 ha0
  by_cases h_2 : j.phase = 2
  · have d_2 : (j.phase == 2) = true := by rw [h_2]; rfl
    by_cases h_i : ¬ a2 = j.inc
    · have d_i : (a2 != j.inc) = true := by rw [bne_iff_ne]; exact h_i
      have HV : Hid ((doS c s (13, a1, a2, a3, a4, a5, a6)).2 = 6) := Lib.hid (by rw [HDO.out]; unfold jobOp savedS; simp [h_2, h_i])
      clear h_i
      go_wp2
      all_goals
        go_ret
        exact ⟨congrArg (fun n => Ending.returned (.int .i64 n)) HV.out.symm, HXE.out _ _ _ _⟩
    have hi := Classical.not_not.1 h_i
    have d_i : (a2 != j.inc) = false := by rw [hi]; exact bne_self_eq_false _
    by_cases h_e : a2 ≤ j.epoch
    · have d_e : decide (a2 ≤ j.epoch) = true := decide_eq_true h_e
      have HV : Hid ((doS c s (13, a1, a2, a3, a4, a5, a6)).2 = 6) := Lib.hid (by rw [HDO.out]; unfold jobOp savedS; rw [if_neg (by decide), if_neg (by decide), if_neg (by decide), if_neg (by decide), if_neg (by decide), if_pos (by rfl), if_pos (by omega), if_neg (by omega)])
      clear h_e h_i hi
      go_wp2
      all_goals
        go_ret
        exact ⟨congrArg (fun n => Ending.returned (.int .i64 n)) HV.out.symm, HXE.out _ _ _ _⟩
    have d_e : decide (a2 ≤ j.epoch) = false := decide_eq_false h_e
    have HV : Hid ((doS c s (13, a1, a2, a3, a4, a5, a6)).2 = 0) := Lib.hid (by rw [HDO.out]; unfold jobOp savedS; rw [if_neg (by decide), if_neg (by decide), if_neg (by decide), if_neg (by decide), if_neg (by decide), if_pos (by rfl), if_pos (by omega), if_pos (by omega)])
    clear h_e h_i hi
    go_wp2
    all_goals
      go_ret
      exact ⟨congrArg (fun n => Ending.returned (.int .i64 n)) HV.out.symm, HXE.out _ _ _ _⟩
  have d_2 : (j.phase == 2) = false := by rw [beq_eq_false_iff_ne]; exact h_2
  by_cases h_3 : j.phase = 3
  · have d_3 : (j.phase == 3) = true := by rw [h_3]; rfl
    by_cases h_i : ¬ a2 = j.inc
    · have d_i : (a2 != j.inc) = true := by rw [bne_iff_ne]; exact h_i
      have HV : Hid ((doS c s (13, a1, a2, a3, a4, a5, a6)).2 = 6) := Lib.hid (by rw [HDO.out]; unfold jobOp savedS; simp [h_3, h_i])
      clear h_i
      go_wp2
      all_goals
        go_ret
        exact ⟨congrArg (fun n => Ending.returned (.int .i64 n)) HV.out.symm, HXE.out _ _ _ _⟩
    have hi := Classical.not_not.1 h_i
    have d_i : (a2 != j.inc) = false := by rw [hi]; exact bne_self_eq_false _
    by_cases h_e : a2 ≤ j.epoch
    · have d_e : decide (a2 ≤ j.epoch) = true := decide_eq_true h_e
      have HV : Hid ((doS c s (13, a1, a2, a3, a4, a5, a6)).2 = 6) := Lib.hid (by rw [HDO.out]; unfold jobOp savedS; rw [if_neg (by decide), if_neg (by decide), if_neg (by decide), if_neg (by decide), if_neg (by decide), if_pos (by rfl), if_pos (by omega), if_neg (by omega)])
      clear h_e h_i hi
      go_wp2
      all_goals
        go_ret
        exact ⟨congrArg (fun n => Ending.returned (.int .i64 n)) HV.out.symm, HXE.out _ _ _ _⟩
    have d_e : decide (a2 ≤ j.epoch) = false := decide_eq_false h_e
    have HV : Hid ((doS c s (13, a1, a2, a3, a4, a5, a6)).2 = 0) := Lib.hid (by rw [HDO.out]; unfold jobOp savedS; rw [if_neg (by decide), if_neg (by decide), if_neg (by decide), if_neg (by decide), if_neg (by decide), if_pos (by rfl), if_pos (by omega), if_pos (by omega)])
    clear h_e h_i hi
    go_wp2
    all_goals
      go_ret
      exact ⟨congrArg (fun n => Ending.returned (.int .i64 n)) HV.out.symm, HXE.out _ _ _ _⟩
  have d_3 : (j.phase == 3) = false := by rw [beq_eq_false_iff_ne]; exact h_3
  have HV : Hid ((doS c s (13, a1, a2, a3, a4, a5, a6)).2 = 5) := Lib.hid (by rw [HDO.out]; unfold jobOp savedS; simp [h_2, h_3])
  clear h_2 h_3
  go_wp2
  all_goals
    go_ret
    exact ⟨congrArg (fun n => Ending.returned (.int .i64 n)) HV.out.symm, HXE.out _ _ _ _⟩

end Go.Proofs.YtbfjlhddebollaaDoor

/- The reference of layer 9: Why, at a kind. -/
namespace Go.Proofs.YtbfjlhddebollaaDoor
open Go.RowKit

set_option maxRecDepth 100000 in
set_option maxHeartbeats 4000000 in
theorem Why_14 (c : Cf) (vn vj : Value) (s : St) (a1 a2 a3 a4 a5 a6 : Int) (w : World) (h : RdSt w vn vj s) (hR : RightP c s) (hr : rightO (14, a1, a2, a3, a4, a5, a6) = true) :
    Calls Tryd.prog 29 #[cfV c, stV vn vj s, .agg #[.int .i64 14, .int .i64 a1, .int .i64 a2, .int .i64 a3, .int .i64 a4, .int .i64 a5, .int .i64 a6]] w fun e w' => e = .returned (.int .i64 (doS c s (14, a1, a2, a3, a4, a5, a6)).2) ∧ Ext w w' := by
  have hR6 := hR.len.2
  have hj24 := hR.nj
  have hin := op_in hr
  dsimp only at hin
  obtain ⟨⟨ha0, ha9_⟩, ⟨hb0_, hb9_⟩⟩ := hin
  have HA9 := Lib.hid ha9_
  have HB9 := Lib.hid hb9_
  clear ha9_ hb9_
  obtain ⟨An, cn, rfl, hnc, hcm, hNN⟩ := has_cells h.nodes
  obtain ⟨Aj, cj, rfl, hjc, hjm, hJJ⟩ := jobs_cells h.jobs
  obtain ⟨W3, hW3, hx3, hb0, hb1, hb2⟩ := three_blocks w 23 30 36 #[.int .i64 c.nodes, .int .i64 c.queues, .int .i64 c.quota, .int .i64 c.wave, .int .i64 c.lease, .int .i64 c.retry, .int .i64 c.deadline, .int .i64 c.room, .int .i64 c.disk] #[.slice An s.nodes.length cn, .slice Aj s.jobs.length cj, .int .i64 s.goal, .int .i64 s.prior, .int .i64 s.mode, .int .i64 s.term] #[.int .i64 14, .int .i64 a1, .int .i64 a2, .int .i64 a3, .int .i64 a4, .int .i64 a5, .int .i64 a6]
  have HRR := Lib.hid (RefRight08 (14, a1, a2, a3, a4, a5, a6) W3)
  rw [hr] at HRR
  have HX3 := Lib.hid hx3
  have HB0 := Lib.hid hb0
  have HB1 := Lib.hid hb1
  have HB2 := Lib.hid hb2
  have HNN := Lib.hid hNN
  have HJJ := Lib.hid hJJ
  have HH := Lib.hid h
  have HRP := Lib.hid hR
  have o0 : W3.cell? ⟨w.heap.size + 2, 0, none⟩ = some (.int .i64 14) := hb2.cell 0
  have o1 : W3.cell? ⟨w.heap.size + 2, 1, none⟩ = some (.int .i64 a1) := hb2.cell 1
  have o2 : W3.cell? ⟨w.heap.size + 2, 2, none⟩ = some (.int .i64 a2) := hb2.cell 2
  have o3 : W3.cell? ⟨w.heap.size + 2, 3, none⟩ = some (.int .i64 a3) := hb2.cell 3
  have o4 : W3.cell? ⟨w.heap.size + 2, 4, none⟩ = some (.int .i64 a4) := hb2.cell 4
  have o5 : W3.cell? ⟨w.heap.size + 2, 5, none⟩ = some (.int .i64 a5) := hb2.cell 5
  have o6 : W3.cell? ⟨w.heap.size + 2, 6, none⟩ = some (.int .i64 a6) := hb2.cell 6
  rw [show opV (14, a1, a2, a3, a4, a5, a6) = .agg #[.int .i64 14, .int .i64 a1, .int .i64 a2, .int .i64 a3, .int .i64 a4, .int .i64 a5, .int .i64 a6] from rfl] at *
  unfold cfV stV
  clear hx3 hb0 hb1 hb2 hNN hJJ h hR hr
  go_enter Tryd.func29, Tryd.ntmps29
  go_wp2_with fail
  rw [← hW3]
  clear hW3
  refine HRR.out.mono ?_
  rintro e1 w1 ⟨rfl, hx1⟩
  have HX1 := Lib.hid (HX3.out.trans hx1)
  have HC0 := Lib.hid (HB0.out.ext hx1)
  have HC1 := Lib.hid (HB1.out.ext hx1)
  have HC2 := Lib.hid (HB2.out.ext hx1)
  clear hx1 HX3 HB0 HB1 HB2 HRR o0 o1 o2 o3 o4 o5 o6
  have hlw : w.heap.size + 2 < w1.heap.size := HC2.out.lt
  have hlw1 : w.heap.size + 1 < w1.heap.size := by omega
  have hlw0 : w.heap.size < w1.heap.size := by omega
  have HXE : Hid (∀ c1 t1 c2 t2, Ext w ((w1.alloc (.cells c1 t1)).alloc (.cells c2 t2))) := Lib.hid fun c1 t1 c2 t2 => (HX1.out.alloc HX1.out.size _).alloc (by have := HX1.out.size; simp; omega) _
  have o0 : w1.cell? ⟨w.heap.size + 2, 0, none⟩ = some (.int .i64 14) := HC2.out.cell 0
  have o1 : w1.cell? ⟨w.heap.size + 2, 1, none⟩ = some (.int .i64 a1) := HC2.out.cell 1
  have o2 : w1.cell? ⟨w.heap.size + 2, 2, none⟩ = some (.int .i64 a2) := HC2.out.cell 2
  have o3 : w1.cell? ⟨w.heap.size + 2, 3, none⟩ = some (.int .i64 a3) := HC2.out.cell 3
  have o4 : w1.cell? ⟨w.heap.size + 2, 4, none⟩ = some (.int .i64 a4) := HC2.out.cell 4
  have o5 : w1.cell? ⟨w.heap.size + 2, 5, none⟩ = some (.int .i64 a5) := HC2.out.cell 5
  have o6 : w1.cell? ⟨w.heap.size + 2, 6, none⟩ = some (.int .i64 a6) := HC2.out.cell 6
  have s0 : w1.cell? ⟨w.heap.size + 1, 0, none⟩ = some (.slice An s.nodes.length cn) := HC1.out.cell 0
  have s1 : w1.cell? ⟨w.heap.size + 1, 1, none⟩ = some (.slice Aj s.jobs.length cj) := HC1.out.cell 1
  have s2 : w1.cell? ⟨w.heap.size + 1, 2, none⟩ = some (.int .i64 s.goal) := HC1.out.cell 2
  have s3 : w1.cell? ⟨w.heap.size + 1, 3, none⟩ = some (.int .i64 s.prior) := HC1.out.cell 3
  have s4 : w1.cell? ⟨w.heap.size + 1, 4, none⟩ = some (.int .i64 s.mode) := HC1.out.cell 4
  have s5 : w1.cell? ⟨w.heap.size + 1, 5, none⟩ = some (.int .i64 s.term) := HC1.out.cell 5
  by_cases h_l : a1 < 1
  · have d_l : decide (a1 < 1) = true := decide_eq_true h_l
    have HV : Hid ((doS c s (14, a1, a2, a3, a4, a5, a6)).2 = 4) := Lib.hid (by rw [do_jobN (by unfold jobOf; rw [if_neg (by omega)]) (by decide) (by decide)])
    clear h_l
    go_wp2
    all_goals
      go_ret
      exact ⟨congrArg (fun n => Ending.returned (.int .i64 n)) HV.out.symm, HXE.out _ _ _ _⟩
  have d_l : decide (a1 < 1) = false := decide_eq_false h_l
  by_cases h_n : (s.jobs.length : Int) < a1
  · have d_n : decide ((s.jobs.length : Int) < a1) = true := decide_eq_true h_n
    have HV : Hid ((doS c s (14, a1, a2, a3, a4, a5, a6)).2 = 4) := Lib.hid (by rw [do_jobN (by unfold jobOf; rw [if_pos (by omega)]; exact List.getElem?_eq_none (by omega)) (by decide) (by decide)])
    clear h_n h_l
    go_wp2
    all_goals
      go_ret
      exact ⟨congrArg (fun n => Ending.returned (.int .i64 n)) HV.out.symm, HXE.out _ _ _ _⟩
  have d_n : decide ((s.jobs.length : Int) < a1) = false := decide_eq_false h_n
  obtain ⟨k, hk1⟩ : ∃ k : Nat, a1 - 1 = (k : Int) := ⟨(a1 - 1).toNat, by omega⟩
  obtain ⟨j, hj⟩ : ∃ j, s.jobs[k]? = some j := ⟨_, List.getElem?_eq_getElem (by omega)⟩
  have HJK := Lib.hid hj
  have hk2 : (a1 - 1).toNat = k := by omega
  have HDO : Hid (doS c s (14, a1, a2, a3, a4, a5, a6) = jobOp c s 14 k j a2) := Lib.hid (by have := do_job (c := c) (s := s) (kd := 14) (a := a1) (b := a2) (t := (a3, a4, a5, a6)) (j := j) (by unfold jobOf; rw [if_pos (by omega), hk2]; exact hj) (by decide) (by decide); rw [hk2] at this; exact this)
  obtain ⟨bk, o, rfl, hb, hat⟩ := HJJ.out k j hj
  obtain ⟨n0, n1, n2, n3, n4, n5, n6, n7, n8, n9, n10, n11⟩ := hat.ext HX1.out hb
  have hbl : bk < w1.heap.size := Nat.lt_of_lt_of_le hb HX1.out.size
  have x1 : (0 : Int) ≤ (k : Int) ∧ (k : Int) < (s.jobs.length : Int) := by omega
  have hwk : IntKind.i64.wrap (a1 - 1) = (k : Int) := by rw [hk1]; exact IntWalk.i64_in _ (by omega)
  have hwk' : wrap64 (a1 - 1) = (k : Int) := by rw [hk1]; exact IntWalk.wrap64_in _ (by omega)
  clear hj hat hb h_n h_l hk2 hk1 ha0
  by_cases h_p : ¬ j.phase = 3
  · have d_p : (j.phase == 3) = false := by rw [beq_eq_false_iff_ne]; exact h_p
    have HV : Hid ((doS c s (14, a1, a2, a3, a4, a5, a6)).2 = 5) := Lib.hid (by rw [HDO.out]; unfold jobOp evictS; simp [h_p])
    clear h_p
    go_wp2
    all_goals
      go_ret
      exact ⟨congrArg (fun n => Ending.returned (.int .i64 n)) HV.out.symm, HXE.out _ _ _ _⟩
  have hp := Classical.not_not.1 h_p
  have d_p : (j.phase == 3) = true := by rw [hp]; rfl
  have HV : Hid ((doS c s (14, a1, a2, a3, a4, a5, a6)).2 = 0) := Lib.hid (by rw [HDO.out]; unfold jobOp evictS; simp [hp])
  clear h_p hp
  go_wp2
  all_goals
    go_ret
    exact ⟨congrArg (fun n => Ending.returned (.int .i64 n)) HV.out.symm, HXE.out _ _ _ _⟩

end Go.Proofs.YtbfjlhddebollaaDoor

/- The reference of layer 9: Why, at a kind. -/
namespace Go.Proofs.YtbfjlhddebollaaDoor
open Go.RowKit

set_option maxRecDepth 100000 in
set_option maxHeartbeats 4000000 in
theorem Why_15 (c : Cf) (vn vj : Value) (s : St) (a1 a2 a3 a4 a5 a6 : Int) (w : World) (h : RdSt w vn vj s) (hR : RightP c s) (hr : rightO (15, a1, a2, a3, a4, a5, a6) = true) :
    Calls Tryd.prog 29 #[cfV c, stV vn vj s, .agg #[.int .i64 15, .int .i64 a1, .int .i64 a2, .int .i64 a3, .int .i64 a4, .int .i64 a5, .int .i64 a6]] w fun e w' => e = .returned (.int .i64 (doS c s (15, a1, a2, a3, a4, a5, a6)).2) ∧ Ext w w' := by
  have hR6 := hR.len.2
  have hj24 := hR.nj
  have hin := op_in hr
  dsimp only at hin
  obtain ⟨⟨ha0, ha9_⟩, ⟨hb0_, hb9_⟩⟩ := hin
  have HA9 := Lib.hid ha9_
  have HB9 := Lib.hid hb9_
  clear ha9_ hb9_
  obtain ⟨An, cn, rfl, hnc, hcm, hNN⟩ := has_cells h.nodes
  obtain ⟨Aj, cj, rfl, hjc, hjm, hJJ⟩ := jobs_cells h.jobs
  obtain ⟨W3, hW3, hx3, hb0, hb1, hb2⟩ := three_blocks w 23 30 36 #[.int .i64 c.nodes, .int .i64 c.queues, .int .i64 c.quota, .int .i64 c.wave, .int .i64 c.lease, .int .i64 c.retry, .int .i64 c.deadline, .int .i64 c.room, .int .i64 c.disk] #[.slice An s.nodes.length cn, .slice Aj s.jobs.length cj, .int .i64 s.goal, .int .i64 s.prior, .int .i64 s.mode, .int .i64 s.term] #[.int .i64 15, .int .i64 a1, .int .i64 a2, .int .i64 a3, .int .i64 a4, .int .i64 a5, .int .i64 a6]
  have HRR := Lib.hid (RefRight08 (15, a1, a2, a3, a4, a5, a6) W3)
  rw [hr] at HRR
  have HX3 := Lib.hid hx3
  have HB0 := Lib.hid hb0
  have HB1 := Lib.hid hb1
  have HB2 := Lib.hid hb2
  have HNN := Lib.hid hNN
  have HJJ := Lib.hid hJJ
  have HH := Lib.hid h
  have HRP := Lib.hid hR
  have o0 : W3.cell? ⟨w.heap.size + 2, 0, none⟩ = some (.int .i64 15) := hb2.cell 0
  have o1 : W3.cell? ⟨w.heap.size + 2, 1, none⟩ = some (.int .i64 a1) := hb2.cell 1
  have o2 : W3.cell? ⟨w.heap.size + 2, 2, none⟩ = some (.int .i64 a2) := hb2.cell 2
  have o3 : W3.cell? ⟨w.heap.size + 2, 3, none⟩ = some (.int .i64 a3) := hb2.cell 3
  have o4 : W3.cell? ⟨w.heap.size + 2, 4, none⟩ = some (.int .i64 a4) := hb2.cell 4
  have o5 : W3.cell? ⟨w.heap.size + 2, 5, none⟩ = some (.int .i64 a5) := hb2.cell 5
  have o6 : W3.cell? ⟨w.heap.size + 2, 6, none⟩ = some (.int .i64 a6) := hb2.cell 6
  rw [show opV (15, a1, a2, a3, a4, a5, a6) = .agg #[.int .i64 15, .int .i64 a1, .int .i64 a2, .int .i64 a3, .int .i64 a4, .int .i64 a5, .int .i64 a6] from rfl] at *
  unfold cfV stV
  clear hx3 hb0 hb1 hb2 hNN hJJ h hR hr
  go_enter Tryd.func29, Tryd.ntmps29
  go_wp2_with fail
  rw [← hW3]
  clear hW3
  refine HRR.out.mono ?_
  rintro e1 w1 ⟨rfl, hx1⟩
  have HX1 := Lib.hid (HX3.out.trans hx1)
  have HC0 := Lib.hid (HB0.out.ext hx1)
  have HC1 := Lib.hid (HB1.out.ext hx1)
  have HC2 := Lib.hid (HB2.out.ext hx1)
  clear hx1 HX3 HB0 HB1 HB2 HRR o0 o1 o2 o3 o4 o5 o6
  have hlw : w.heap.size + 2 < w1.heap.size := HC2.out.lt
  have hlw1 : w.heap.size + 1 < w1.heap.size := by omega
  have hlw0 : w.heap.size < w1.heap.size := by omega
  have HXE : Hid (∀ c1 t1 c2 t2, Ext w ((w1.alloc (.cells c1 t1)).alloc (.cells c2 t2))) := Lib.hid fun c1 t1 c2 t2 => (HX1.out.alloc HX1.out.size _).alloc (by have := HX1.out.size; simp; omega) _
  have o0 : w1.cell? ⟨w.heap.size + 2, 0, none⟩ = some (.int .i64 15) := HC2.out.cell 0
  have o1 : w1.cell? ⟨w.heap.size + 2, 1, none⟩ = some (.int .i64 a1) := HC2.out.cell 1
  have o2 : w1.cell? ⟨w.heap.size + 2, 2, none⟩ = some (.int .i64 a2) := HC2.out.cell 2
  have o3 : w1.cell? ⟨w.heap.size + 2, 3, none⟩ = some (.int .i64 a3) := HC2.out.cell 3
  have o4 : w1.cell? ⟨w.heap.size + 2, 4, none⟩ = some (.int .i64 a4) := HC2.out.cell 4
  have o5 : w1.cell? ⟨w.heap.size + 2, 5, none⟩ = some (.int .i64 a5) := HC2.out.cell 5
  have o6 : w1.cell? ⟨w.heap.size + 2, 6, none⟩ = some (.int .i64 a6) := HC2.out.cell 6
  have s0 : w1.cell? ⟨w.heap.size + 1, 0, none⟩ = some (.slice An s.nodes.length cn) := HC1.out.cell 0
  have s1 : w1.cell? ⟨w.heap.size + 1, 1, none⟩ = some (.slice Aj s.jobs.length cj) := HC1.out.cell 1
  have s2 : w1.cell? ⟨w.heap.size + 1, 2, none⟩ = some (.int .i64 s.goal) := HC1.out.cell 2
  have s3 : w1.cell? ⟨w.heap.size + 1, 3, none⟩ = some (.int .i64 s.prior) := HC1.out.cell 3
  have s4 : w1.cell? ⟨w.heap.size + 1, 4, none⟩ = some (.int .i64 s.mode) := HC1.out.cell 4
  have s5 : w1.cell? ⟨w.heap.size + 1, 5, none⟩ = some (.int .i64 s.term) := HC1.out.cell 5
  by_cases h_l : a1 < 1
  · have d_l : decide (a1 < 1) = true := decide_eq_true h_l
    have HV : Hid ((doS c s (15, a1, a2, a3, a4, a5, a6)).2 = 4) := Lib.hid (by rw [do_jobN (by unfold jobOf; rw [if_neg (by omega)]) (by decide) (by decide)])
    clear h_l
    go_wp2
    all_goals
      go_ret
      exact ⟨congrArg (fun n => Ending.returned (.int .i64 n)) HV.out.symm, HXE.out _ _ _ _⟩
  have d_l : decide (a1 < 1) = false := decide_eq_false h_l
  by_cases h_n : (s.jobs.length : Int) < a1
  · have d_n : decide ((s.jobs.length : Int) < a1) = true := decide_eq_true h_n
    have HV : Hid ((doS c s (15, a1, a2, a3, a4, a5, a6)).2 = 4) := Lib.hid (by rw [do_jobN (by unfold jobOf; rw [if_pos (by omega)]; exact List.getElem?_eq_none (by omega)) (by decide) (by decide)])
    clear h_n h_l
    go_wp2
    all_goals
      go_ret
      exact ⟨congrArg (fun n => Ending.returned (.int .i64 n)) HV.out.symm, HXE.out _ _ _ _⟩
  have d_n : decide ((s.jobs.length : Int) < a1) = false := decide_eq_false h_n
  obtain ⟨k, hk1⟩ : ∃ k : Nat, a1 - 1 = (k : Int) := ⟨(a1 - 1).toNat, by omega⟩
  obtain ⟨j, hj⟩ : ∃ j, s.jobs[k]? = some j := ⟨_, List.getElem?_eq_getElem (by omega)⟩
  have HJK := Lib.hid hj
  have hk2 : (a1 - 1).toNat = k := by omega
  have HDO : Hid (doS c s (15, a1, a2, a3, a4, a5, a6) = jobOp c s 15 k j a2) := Lib.hid (by have := do_job (c := c) (s := s) (kd := 15) (a := a1) (b := a2) (t := (a3, a4, a5, a6)) (j := j) (by unfold jobOf; rw [if_pos (by omega), hk2]; exact hj) (by decide) (by decide); rw [hk2] at this; exact this)
  obtain ⟨bk, o, rfl, hb, hat⟩ := HJJ.out k j hj
  obtain ⟨n0, n1, n2, n3, n4, n5, n6, n7, n8, n9, n10, n11⟩ := hat.ext HX1.out hb
  have hbl : bk < w1.heap.size := Nat.lt_of_lt_of_le hb HX1.out.size
  have x1 : (0 : Int) ≤ (k : Int) ∧ (k : Int) < (s.jobs.length : Int) := by omega
  have hwk : IntKind.i64.wrap (a1 - 1) = (k : Int) := by rw [hk1]; exact IntWalk.i64_in _ (by omega)
  have hwk' : wrap64 (a1 - 1) = (k : Int) := by rw [hk1]; exact IntWalk.wrap64_in _ (by omega)
  clear hj hat hb h_n h_l hk2 hk1 ha0
  by_cases h_2 : j.phase = 2
  · have d_2 : (j.phase == 2) = true := by rw [h_2]; rfl
    have HV : Hid ((doS c s (15, a1, a2, a3, a4, a5, a6)).2 = 0) := Lib.hid (by rw [HDO.out]; unfold jobOp doneS; simp [h_2])
    go_wp2
    all_goals
      go_ret
      exact ⟨congrArg (fun n => Ending.returned (.int .i64 n)) HV.out.symm, HXE.out _ _ _ _⟩
  have d_2 : (j.phase == 2) = false := by rw [beq_eq_false_iff_ne]; exact h_2
  by_cases h_3 : j.phase = 3
  · have d_3 : (j.phase == 3) = true := by rw [h_3]; rfl
    have HV : Hid ((doS c s (15, a1, a2, a3, a4, a5, a6)).2 = 0) := Lib.hid (by rw [HDO.out]; unfold jobOp doneS; simp [h_3])
    go_wp2
    all_goals
      go_ret
      exact ⟨congrArg (fun n => Ending.returned (.int .i64 n)) HV.out.symm, HXE.out _ _ _ _⟩
  have d_3 : (j.phase == 3) = false := by rw [beq_eq_false_iff_ne]; exact h_3
  have HV : Hid ((doS c s (15, a1, a2, a3, a4, a5, a6)).2 = 5) := Lib.hid (by rw [HDO.out]; unfold jobOp doneS; simp [h_2, h_3])
  clear h_2 h_3
  go_wp2
  all_goals
    go_ret
    exact ⟨congrArg (fun n => Ending.returned (.int .i64 n)) HV.out.symm, HXE.out _ _ _ _⟩

end Go.Proofs.YtbfjlhddebollaaDoor

/- The reference of layer 9: Why, at a kind. -/
namespace Go.Proofs.YtbfjlhddebollaaDoor
open Go.RowKit

set_option maxRecDepth 100000 in
set_option maxHeartbeats 4000000 in
theorem Why_16 (c : Cf) (vn vj : Value) (s : St) (a1 a2 a3 a4 a5 a6 : Int) (w : World) (h : RdSt w vn vj s) (hR : RightP c s) (hr : rightO (16, a1, a2, a3, a4, a5, a6) = true) :
    Calls Tryd.prog 29 #[cfV c, stV vn vj s, .agg #[.int .i64 16, .int .i64 a1, .int .i64 a2, .int .i64 a3, .int .i64 a4, .int .i64 a5, .int .i64 a6]] w fun e w' => e = .returned (.int .i64 (doS c s (16, a1, a2, a3, a4, a5, a6)).2) ∧ Ext w w' := by
  have hR6 := hR.len.2
  have hj24 := hR.nj
  have hin := op_in hr
  dsimp only at hin
  obtain ⟨⟨ha0, ha9_⟩, ⟨hb0_, hb9_⟩⟩ := hin
  have HA9 := Lib.hid ha9_
  have HB9 := Lib.hid hb9_
  clear ha9_ hb9_ hb0_
  obtain ⟨An, cn, rfl, hnc, hcm, hNN⟩ := has_cells h.nodes
  obtain ⟨Aj, cj, rfl, hjc, hjm, hJJ⟩ := jobs_cells h.jobs
  obtain ⟨W3, hW3, hx3, hb0, hb1, hb2⟩ := three_blocks w 23 30 36 #[.int .i64 c.nodes, .int .i64 c.queues, .int .i64 c.quota, .int .i64 c.wave, .int .i64 c.lease, .int .i64 c.retry, .int .i64 c.deadline, .int .i64 c.room, .int .i64 c.disk] #[.slice An s.nodes.length cn, .slice Aj s.jobs.length cj, .int .i64 s.goal, .int .i64 s.prior, .int .i64 s.mode, .int .i64 s.term] #[.int .i64 16, .int .i64 a1, .int .i64 a2, .int .i64 a3, .int .i64 a4, .int .i64 a5, .int .i64 a6]
  have HRR := Lib.hid (RefRight08 (16, a1, a2, a3, a4, a5, a6) W3)
  rw [hr] at HRR
  have HX3 := Lib.hid hx3
  have HB0 := Lib.hid hb0
  have HB1 := Lib.hid hb1
  have HB2 := Lib.hid hb2
  have HNN := Lib.hid hNN
  have HJJ := Lib.hid hJJ
  have HH := Lib.hid h
  have HRP := Lib.hid hR
  have o0 : W3.cell? ⟨w.heap.size + 2, 0, none⟩ = some (.int .i64 16) := hb2.cell 0
  have o1 : W3.cell? ⟨w.heap.size + 2, 1, none⟩ = some (.int .i64 a1) := hb2.cell 1
  have o2 : W3.cell? ⟨w.heap.size + 2, 2, none⟩ = some (.int .i64 a2) := hb2.cell 2
  have o3 : W3.cell? ⟨w.heap.size + 2, 3, none⟩ = some (.int .i64 a3) := hb2.cell 3
  have o4 : W3.cell? ⟨w.heap.size + 2, 4, none⟩ = some (.int .i64 a4) := hb2.cell 4
  have o5 : W3.cell? ⟨w.heap.size + 2, 5, none⟩ = some (.int .i64 a5) := hb2.cell 5
  have o6 : W3.cell? ⟨w.heap.size + 2, 6, none⟩ = some (.int .i64 a6) := hb2.cell 6
  rw [show opV (16, a1, a2, a3, a4, a5, a6) = .agg #[.int .i64 16, .int .i64 a1, .int .i64 a2, .int .i64 a3, .int .i64 a4, .int .i64 a5, .int .i64 a6] from rfl] at *
  unfold cfV stV
  clear hx3 hb0 hb1 hb2 hNN hJJ h hR hr
  go_enter Tryd.func29, Tryd.ntmps29
  go_wp2_with fail
  rw [← hW3]
  clear hW3
  refine HRR.out.mono ?_
  rintro e1 w1 ⟨rfl, hx1⟩
  have HX1 := Lib.hid (HX3.out.trans hx1)
  have HC0 := Lib.hid (HB0.out.ext hx1)
  have HC1 := Lib.hid (HB1.out.ext hx1)
  have HC2 := Lib.hid (HB2.out.ext hx1)
  clear hx1 HX3 HB0 HB1 HB2 HRR o0 o1 o2 o3 o4 o5 o6
  have hlw : w.heap.size + 2 < w1.heap.size := HC2.out.lt
  have hlw1 : w.heap.size + 1 < w1.heap.size := by omega
  have hlw0 : w.heap.size < w1.heap.size := by omega
  have HXE : Hid (∀ c1 t1 c2 t2, Ext w ((w1.alloc (.cells c1 t1)).alloc (.cells c2 t2))) := Lib.hid fun c1 t1 c2 t2 => (HX1.out.alloc HX1.out.size _).alloc (by have := HX1.out.size; simp; omega) _
  have o0 : w1.cell? ⟨w.heap.size + 2, 0, none⟩ = some (.int .i64 16) := HC2.out.cell 0
  have o1 : w1.cell? ⟨w.heap.size + 2, 1, none⟩ = some (.int .i64 a1) := HC2.out.cell 1
  have o2 : w1.cell? ⟨w.heap.size + 2, 2, none⟩ = some (.int .i64 a2) := HC2.out.cell 2
  have o3 : w1.cell? ⟨w.heap.size + 2, 3, none⟩ = some (.int .i64 a3) := HC2.out.cell 3
  have o4 : w1.cell? ⟨w.heap.size + 2, 4, none⟩ = some (.int .i64 a4) := HC2.out.cell 4
  have o5 : w1.cell? ⟨w.heap.size + 2, 5, none⟩ = some (.int .i64 a5) := HC2.out.cell 5
  have o6 : w1.cell? ⟨w.heap.size + 2, 6, none⟩ = some (.int .i64 a6) := HC2.out.cell 6
  have s0 : w1.cell? ⟨w.heap.size + 1, 0, none⟩ = some (.slice An s.nodes.length cn) := HC1.out.cell 0
  have s1 : w1.cell? ⟨w.heap.size + 1, 1, none⟩ = some (.slice Aj s.jobs.length cj) := HC1.out.cell 1
  have s2 : w1.cell? ⟨w.heap.size + 1, 2, none⟩ = some (.int .i64 s.goal) := HC1.out.cell 2
  have s3 : w1.cell? ⟨w.heap.size + 1, 3, none⟩ = some (.int .i64 s.prior) := HC1.out.cell 3
  have s4 : w1.cell? ⟨w.heap.size + 1, 4, none⟩ = some (.int .i64 s.mode) := HC1.out.cell 4
  have s5 : w1.cell? ⟨w.heap.size + 1, 5, none⟩ = some (.int .i64 s.term) := HC1.out.cell 5
  obtain ⟨i, rfl⟩ : ∃ i : Nat, a1 = (i : Int) := ⟨a1.toNat, by omega⟩
  by_cases h_n : s.nodes.length ≤ i
  · have d_n : decide ((s.nodes.length : Int) ≤ (i : Int)) = true := decide_eq_true (by omega)
    have d_n' : decide (s.nodes.length ≤ i) = true := decide_eq_true h_n
    have HV : Hid ((doS c s (16, (i : Int), a2, a3, a4, a5, a6)).2 = 4) := Lib.hid (by rw [do_nodeN (by simpa using h_n) (by decide)])
    clear h_n
    go_wp2
    all_goals
      go_ret
      exact ⟨congrArg (fun n => Ending.returned (.int .i64 n)) HV.out.symm, HXE.out _ _ _ _⟩
  have d_n : decide ((s.nodes.length : Int) ≤ (i : Int)) = false := decide_eq_false (by omega)
  have d_n' : decide (s.nodes.length ≤ i) = false := decide_eq_false h_n
  obtain ⟨⟨up, cd, mv, ver, job⟩, hn⟩ : ∃ n, s.nodes[i]? = some n := ⟨_, List.getElem?_eq_getElem (by omega)⟩
  have HNK := Lib.hid hn
  have HDO : Hid (doS c s (16, (i : Int), a2, a3, a4, a5, a6) = nodeOp s 16 i ⟨up, cd, mv, ver, job⟩ a2) := Lib.hid (by have := do_node (c := c) (s := s) (kd := 16) (a := (i : Int)) (b := a2) (t := (a3, a4, a5, a6)) (by simpa using hn) (by decide); simpa using this)
  obtain ⟨bk, o, rfl, hb, hat⟩ := HNN.out i _ hn
  obtain ⟨n0, n1, n2, n3, n4⟩ := hat.ext HX1.out hb
  dsimp only at n0 n1 n2 n3 n4
  have hbl : bk < w1.heap.size := Nat.lt_of_lt_of_le hb HX1.out.size
  have x1 : (0 : Int) ≤ (i : Int) ∧ (i : Int) < (s.nodes.length : Int) := by omega
  clear hn hat hb h_n
  cases up
  · have HV : Hid ((doS c s (16, (i : Int), a2, a3, a4, a5, a6)).2 = 5) := Lib.hid (by rw [HDO.out]; unfold nodeOp cordonS; simp [])
    go_wp2
    all_goals
      go_ret
      exact ⟨congrArg (fun n => Ending.returned (.int .i64 n)) HV.out.symm, HXE.out _ _ _ _⟩
  cases cd
  · have HV : Hid ((doS c s (16, (i : Int), a2, a3, a4, a5, a6)).2 = 0) := Lib.hid (by rw [HDO.out]; unfold nodeOp cordonS; simp [])
    go_wp2
    all_goals
      go_ret
      exact ⟨congrArg (fun n => Ending.returned (.int .i64 n)) HV.out.symm, HXE.out _ _ _ _⟩
  · have HV : Hid ((doS c s (16, (i : Int), a2, a3, a4, a5, a6)).2 = 5) := Lib.hid (by rw [HDO.out]; unfold nodeOp cordonS; simp [])
    go_wp2
    all_goals
      go_ret
      exact ⟨congrArg (fun n => Ending.returned (.int .i64 n)) HV.out.symm, HXE.out _ _ _ _⟩

end Go.Proofs.YtbfjlhddebollaaDoor

/- The reference of layer 9: Why, at a kind. -/
namespace Go.Proofs.YtbfjlhddebollaaDoor
open Go.RowKit

set_option maxRecDepth 100000 in
set_option maxHeartbeats 4000000 in
theorem Why_17 (c : Cf) (vn vj : Value) (s : St) (a1 a2 a3 a4 a5 a6 : Int) (w : World) (h : RdSt w vn vj s) (hR : RightP c s) (hr : rightO (17, a1, a2, a3, a4, a5, a6) = true) :
    Calls Tryd.prog 29 #[cfV c, stV vn vj s, .agg #[.int .i64 17, .int .i64 a1, .int .i64 a2, .int .i64 a3, .int .i64 a4, .int .i64 a5, .int .i64 a6]] w fun e w' => e = .returned (.int .i64 (doS c s (17, a1, a2, a3, a4, a5, a6)).2) ∧ Ext w w' := by
  have hR6 := hR.len.2
  have hj24 := hR.nj
  have hin := op_in hr
  dsimp only at hin
  obtain ⟨⟨ha0, ha9_⟩, ⟨hb0_, hb9_⟩⟩ := hin
  have HA9 := Lib.hid ha9_
  have HB9 := Lib.hid hb9_
  clear ha9_ hb9_ hb0_
  obtain ⟨An, cn, rfl, hnc, hcm, hNN⟩ := has_cells h.nodes
  obtain ⟨Aj, cj, rfl, hjc, hjm, hJJ⟩ := jobs_cells h.jobs
  obtain ⟨W3, hW3, hx3, hb0, hb1, hb2⟩ := three_blocks w 23 30 36 #[.int .i64 c.nodes, .int .i64 c.queues, .int .i64 c.quota, .int .i64 c.wave, .int .i64 c.lease, .int .i64 c.retry, .int .i64 c.deadline, .int .i64 c.room, .int .i64 c.disk] #[.slice An s.nodes.length cn, .slice Aj s.jobs.length cj, .int .i64 s.goal, .int .i64 s.prior, .int .i64 s.mode, .int .i64 s.term] #[.int .i64 17, .int .i64 a1, .int .i64 a2, .int .i64 a3, .int .i64 a4, .int .i64 a5, .int .i64 a6]
  have HRR := Lib.hid (RefRight08 (17, a1, a2, a3, a4, a5, a6) W3)
  rw [hr] at HRR
  have HX3 := Lib.hid hx3
  have HB0 := Lib.hid hb0
  have HB1 := Lib.hid hb1
  have HB2 := Lib.hid hb2
  have HNN := Lib.hid hNN
  have HJJ := Lib.hid hJJ
  have HH := Lib.hid h
  have HRP := Lib.hid hR
  have o0 : W3.cell? ⟨w.heap.size + 2, 0, none⟩ = some (.int .i64 17) := hb2.cell 0
  have o1 : W3.cell? ⟨w.heap.size + 2, 1, none⟩ = some (.int .i64 a1) := hb2.cell 1
  have o2 : W3.cell? ⟨w.heap.size + 2, 2, none⟩ = some (.int .i64 a2) := hb2.cell 2
  have o3 : W3.cell? ⟨w.heap.size + 2, 3, none⟩ = some (.int .i64 a3) := hb2.cell 3
  have o4 : W3.cell? ⟨w.heap.size + 2, 4, none⟩ = some (.int .i64 a4) := hb2.cell 4
  have o5 : W3.cell? ⟨w.heap.size + 2, 5, none⟩ = some (.int .i64 a5) := hb2.cell 5
  have o6 : W3.cell? ⟨w.heap.size + 2, 6, none⟩ = some (.int .i64 a6) := hb2.cell 6
  rw [show opV (17, a1, a2, a3, a4, a5, a6) = .agg #[.int .i64 17, .int .i64 a1, .int .i64 a2, .int .i64 a3, .int .i64 a4, .int .i64 a5, .int .i64 a6] from rfl] at *
  unfold cfV stV
  clear hx3 hb0 hb1 hb2 hNN hJJ h hR hr
  go_enter Tryd.func29, Tryd.ntmps29
  go_wp2_with fail
  rw [← hW3]
  clear hW3
  refine HRR.out.mono ?_
  rintro e1 w1 ⟨rfl, hx1⟩
  have HX1 := Lib.hid (HX3.out.trans hx1)
  have HC0 := Lib.hid (HB0.out.ext hx1)
  have HC1 := Lib.hid (HB1.out.ext hx1)
  have HC2 := Lib.hid (HB2.out.ext hx1)
  clear hx1 HX3 HB0 HB1 HB2 HRR o0 o1 o2 o3 o4 o5 o6
  have hlw : w.heap.size + 2 < w1.heap.size := HC2.out.lt
  have hlw1 : w.heap.size + 1 < w1.heap.size := by omega
  have hlw0 : w.heap.size < w1.heap.size := by omega
  have HXE : Hid (∀ c1 t1 c2 t2, Ext w ((w1.alloc (.cells c1 t1)).alloc (.cells c2 t2))) := Lib.hid fun c1 t1 c2 t2 => (HX1.out.alloc HX1.out.size _).alloc (by have := HX1.out.size; simp; omega) _
  have o0 : w1.cell? ⟨w.heap.size + 2, 0, none⟩ = some (.int .i64 17) := HC2.out.cell 0
  have o1 : w1.cell? ⟨w.heap.size + 2, 1, none⟩ = some (.int .i64 a1) := HC2.out.cell 1
  have o2 : w1.cell? ⟨w.heap.size + 2, 2, none⟩ = some (.int .i64 a2) := HC2.out.cell 2
  have o3 : w1.cell? ⟨w.heap.size + 2, 3, none⟩ = some (.int .i64 a3) := HC2.out.cell 3
  have o4 : w1.cell? ⟨w.heap.size + 2, 4, none⟩ = some (.int .i64 a4) := HC2.out.cell 4
  have o5 : w1.cell? ⟨w.heap.size + 2, 5, none⟩ = some (.int .i64 a5) := HC2.out.cell 5
  have o6 : w1.cell? ⟨w.heap.size + 2, 6, none⟩ = some (.int .i64 a6) := HC2.out.cell 6
  have s0 : w1.cell? ⟨w.heap.size + 1, 0, none⟩ = some (.slice An s.nodes.length cn) := HC1.out.cell 0
  have s1 : w1.cell? ⟨w.heap.size + 1, 1, none⟩ = some (.slice Aj s.jobs.length cj) := HC1.out.cell 1
  have s2 : w1.cell? ⟨w.heap.size + 1, 2, none⟩ = some (.int .i64 s.goal) := HC1.out.cell 2
  have s3 : w1.cell? ⟨w.heap.size + 1, 3, none⟩ = some (.int .i64 s.prior) := HC1.out.cell 3
  have s4 : w1.cell? ⟨w.heap.size + 1, 4, none⟩ = some (.int .i64 s.mode) := HC1.out.cell 4
  have s5 : w1.cell? ⟨w.heap.size + 1, 5, none⟩ = some (.int .i64 s.term) := HC1.out.cell 5
  obtain ⟨i, rfl⟩ : ∃ i : Nat, a1 = (i : Int) := ⟨a1.toNat, by omega⟩
  by_cases h_n : s.nodes.length ≤ i
  · have d_n : decide ((s.nodes.length : Int) ≤ (i : Int)) = true := decide_eq_true (by omega)
    have d_n' : decide (s.nodes.length ≤ i) = true := decide_eq_true h_n
    have HV : Hid ((doS c s (17, (i : Int), a2, a3, a4, a5, a6)).2 = 4) := Lib.hid (by rw [do_nodeN (by simpa using h_n) (by decide)])
    clear h_n
    go_wp2
    all_goals
      go_ret
      exact ⟨congrArg (fun n => Ending.returned (.int .i64 n)) HV.out.symm, HXE.out _ _ _ _⟩
  have d_n : decide ((s.nodes.length : Int) ≤ (i : Int)) = false := decide_eq_false (by omega)
  have d_n' : decide (s.nodes.length ≤ i) = false := decide_eq_false h_n
  obtain ⟨⟨up, cd, mv, ver, job⟩, hn⟩ : ∃ n, s.nodes[i]? = some n := ⟨_, List.getElem?_eq_getElem (by omega)⟩
  have HNK := Lib.hid hn
  have HDO : Hid (doS c s (17, (i : Int), a2, a3, a4, a5, a6) = nodeOp s 17 i ⟨up, cd, mv, ver, job⟩ a2) := Lib.hid (by have := do_node (c := c) (s := s) (kd := 17) (a := (i : Int)) (b := a2) (t := (a3, a4, a5, a6)) (by simpa using hn) (by decide); simpa using this)
  obtain ⟨bk, o, rfl, hb, hat⟩ := HNN.out i _ hn
  obtain ⟨n0, n1, n2, n3, n4⟩ := hat.ext HX1.out hb
  dsimp only at n0 n1 n2 n3 n4
  have hbl : bk < w1.heap.size := Nat.lt_of_lt_of_le hb HX1.out.size
  have x1 : (0 : Int) ≤ (i : Int) ∧ (i : Int) < (s.nodes.length : Int) := by omega
  clear hn hat hb h_n
  cases cd
  · have HV : Hid ((doS c s (17, (i : Int), a2, a3, a4, a5, a6)).2 = 5) := Lib.hid (by rw [HDO.out]; unfold nodeOp uncordonS; simp [])
    go_wp2
    all_goals
      go_ret
      exact ⟨congrArg (fun n => Ending.returned (.int .i64 n)) HV.out.symm, HXE.out _ _ _ _⟩
  cases mv
  · have HV : Hid ((doS c s (17, (i : Int), a2, a3, a4, a5, a6)).2 = 0) := Lib.hid (by rw [HDO.out]; unfold nodeOp uncordonS; simp [])
    go_wp2
    all_goals
      go_ret
      exact ⟨congrArg (fun n => Ending.returned (.int .i64 n)) HV.out.symm, HXE.out _ _ _ _⟩
  · have HV : Hid ((doS c s (17, (i : Int), a2, a3, a4, a5, a6)).2 = 5) := Lib.hid (by rw [HDO.out]; unfold nodeOp uncordonS; simp [])
    go_wp2
    all_goals
      go_ret
      exact ⟨congrArg (fun n => Ending.returned (.int .i64 n)) HV.out.symm, HXE.out _ _ _ _⟩

end Go.Proofs.YtbfjlhddebollaaDoor
