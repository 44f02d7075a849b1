/- Texts that the proof of X rests on, one behind the other. -/
import Derived.Test.YtgjidkhfnnghiaaXQ2
import Derived.Test.YtgjidkhfnnghiaaXQ3
import Derived.Test.YtgjidkhfnnghiaaXQ5
import Derived.Test.YtgjidkhfnnghiaaXQ6
import Derived.Deep.CutBlock
import Derived.Deep.DeepCutAuto
import Derived.OwnWalk
import Derived.Test.YtgjidkhfnnghiaaChecked
import Derived.Test.YtgjidkhfnnghiaaRows
import Derived.Lay
import Derived.PinnedBridge
import Derived.LaidMore
import Derived.Stop.Joined
import Derived.Stop.LaidErr
import Derived.Shelf.Vars
import Derived.Lib.SmallJoins

/- The reference of layer 15: the nodes for a queued job now. -/
namespace Go.Proofs.Ytgjidkhfnnghiaa
open Go.RowKit

set_option maxRecDepth 100000 in
set_option maxHeartbeats 8000000 in
theorem RefNow_any (vn vj : Value) (s : St) (job : Int) (w : World) (hrn : RdNd w vn s.nodes) (hr : RdJb w vj s.jobs) (hN : s.nodes.length ≤ 6) (hJ : s.jobs.length ≤ 1000) :
    Calls Try.prog 29 #[stV vn vj s, .int .i64 job] w fun e w' => e = .returned (.tuple #[.int .i64 (nowS s job).1, .bool (nowS s job).2]) ∧ Ext w w' := by
  have HRN := Lib.hid hrn
  obtain ⟨hx, hb⟩ := boxSt vn vj s w 27
  have HOP : Hid (∀ W, Ext w W → Calls Try.prog 50 #[stV vn vj s] W fun e w' => e = .returned (.int .i64 (openN s : Int)) ∧ Ext W w') := Lib.hid fun W hW => RefOpen_any vn vj s W (HRN.out.ext hW) hN
  have HPI : Hid (∀ x set W, Ext w W → Calls Try.prog 28 #[stV vn vj s, jbV x, .int .i64 set] W fun e w' => e = .returned (.tuple #[.int .i64 (pickS s x set).1, .bool (pickS s x set).2]) ∧ Ext W w') := Lib.hid fun x set W hW => RefPick_any vn vj s x set W (HRN.out.ext hW) hN
  unfold stV at HOP HPI
  unfold jbV at HPI
  unfold stV
  unfold stC at hx hb
  obtain ⟨A, c, rfl, hnc, hcm, hcell⟩ := jobs_cells hr
  have HC := Lib.hid hcell
  have h1 := hb.cell 1
  obtain ⟨PK, hPK⟩ : ∃ z, z = nowS s job := ⟨_, rfl⟩
  rw [← hPK]
  have HP := Lib.hid hPK
  have HX := Lib.hid hx
  have HB := Lib.hid hb
  clear hx hb hr hcell hPK hrn HRN
  by_cases j1 : job < 1
  · have HZ : Hid (PK = (0, false)) := Lib.hid (by rw [HP.out]; exact nowS_none (.inl j1))
    have d1 : decide (job < 1) = true := decide_eq_true j1
    clear j1
    go_enter Try.func29, Try.ntmps29
    go_wp2
    go_ret2
    exact ⟨by rw [HZ.out]; rfl, HX.out⟩
  · have d1 : decide (job < 1) = false := decide_eq_false j1
    by_cases j2 : (s.jobs.length : Int) < job
    · have HZ : Hid (PK = (0, false)) := Lib.hid (by rw [HP.out]; exact nowS_none (.inr j2))
      have d2 : decide ((s.jobs.length : Int) < job) = true := decide_eq_true j2
      clear j1 j2
      go_enter Try.func29, Try.ntmps29
      go_wp2
      go_ret2
      exact ⟨by rw [HZ.out]; rfl, HX.out⟩
    · have d2 : decide ((s.jobs.length : Int) < job) = false := decide_eq_false j2
      obtain ⟨i, hi⟩ : ∃ i : Nat, job = (i : Int) + 1 := ⟨(job - 1).toNat, by omega⟩
      have hil : i < s.jobs.length := by omega
      obtain ⟨x, hxi⟩ : ∃ x, s.jobs[i]? = some x := ⟨_, List.getElem?_eq_getElem hil⟩
      obtain ⟨b, o, rfl, hlt, hat⟩ := HC.out i x hxi
      have q6 := (hat.ext HX.out hlt).c6
      have wp : wrap64 (job - 1) = (i : Int) := by rw [IntWalk.wrap64_in _ (by omega)]; omega
      have d5 : decide (i < s.jobs.length) = true := decide_eq_true hil
      by_cases hph : x.phase = 0
      · have HZ : Hid (PK = pickS s x (openN s : Int)) := Lib.hid (by rw [HP.out, nowS_at hi hxi, if_pos hph])
        have e6 : (x.phase != 0) = false := by rw [hph]; rfl
        have HAT := Lib.hid hat
        have HLT := Lib.hid hlt
        have HOC := Lib.hid (fun W hW => HOP.out W hW)
        have HPC := Lib.hid (fun W hW => HPI.out x (openN s : Int) W hW)
        clear hph j1 j2 hi hxi hat hlt HOP HPI HC
        go_enter Try.func29, Try.ntmps29
        go_upto_region 3 with (fail)
        have wp2 : IntKind.i64.wrap (job - 1) = (i : Int) := (IntWalk.i64_left _).trans wp
        have d6 : (i : Int) < (s.jobs.length : Int) := by omega
        have d7 : (0 : Int) ≤ (i : Int) := by omega
        clear q6 h1
        obtain ⟨W0, hW0⟩ : ∃ W0, W0 = (w.alloc (.cells #[vn, .slice (some ⟨b, o, none⟩) s.jobs.length c, .int .i64 s.goal, .int .i64 s.prior, .int .i64 s.mode, .int .i64 s.term] 27)) := ⟨_, rfl⟩
        rw [← hW0] at HX HB ⊢
        clear hW0
        refine held_begin (by kernel_rfl) ?_
        refine held_more (S' := fun W' : World => Ext W0 W') (fun _ _ => True.intro) ?_
        have hSx : (fun W' : World => Ext W0 W') W0.drew := Below.drewN' (Ext.refl W0) 1
        refine held_take (i := 0) (v := ?_) rfl (by kernel_rfl) (by kernel_rfl) (by kernel_rfl) (by rfl) (by first | assumption | exact True.intro) ?_ ?_
        rotate_left
        · (intro W hSw; obtain ⟨g0, g1, g2, g3, g4, g5⟩ := Blk.six (HB.out.ext hSw); have q := HAT.out.ext (HX.out.trans hSw) HLT.out; obtain ⟨q0, q1, q2, q3, q4, q5, q6, q7, q8, q9, q10, q11⟩ := q; go_simp; (try with_reducible rfl))
        try simp only [Act.put, List.setIfInBounds_toArray, List.set_cons_zero, List.set_cons_succ]
        refine held_take (i := 1) (v := ?_) rfl (by kernel_rfl) (by kernel_rfl) (by kernel_rfl) (by rfl) (by first | assumption | exact True.intro) ?_ ?_
        rotate_left
        · (intro W hSw; obtain ⟨g0, g1, g2, g3, g4, g5⟩ := Blk.six (HB.out.ext hSw); have q := HAT.out.ext (HX.out.trans hSw) HLT.out; obtain ⟨q0, q1, q2, q3, q4, q5, q6, q7, q8, q9, q10, q11⟩ := q; go_simp; (try with_reducible rfl))
        try simp only [Act.put, List.setIfInBounds_toArray, List.set_cons_zero, List.set_cons_succ]
        refine held_take (i := 2) (v := ?_) rfl (by kernel_rfl) (by kernel_rfl) (by kernel_rfl) (by rfl) (by first | assumption | exact True.intro) ?_ ?_
        rotate_left
        · (intro W hSw; obtain ⟨g0, g1, g2, g3, g4, g5⟩ := Blk.six (HB.out.ext hSw); have q := HAT.out.ext (HX.out.trans hSw) HLT.out; obtain ⟨q0, q1, q2, q3, q4, q5, q6, q7, q8, q9, q10, q11⟩ := q; go_simp; (try with_reducible rfl))
        try simp only [Act.put, List.setIfInBounds_toArray, List.set_cons_zero, List.set_cons_succ]
        refine held_take (i := 3) (v := ?_) rfl (by kernel_rfl) (by kernel_rfl) (by kernel_rfl) (by rfl) (by first | assumption | exact True.intro) ?_ ?_
        rotate_left
        · (intro W hSw; obtain ⟨g0, g1, g2, g3, g4, g5⟩ := Blk.six (HB.out.ext hSw); have q := HAT.out.ext (HX.out.trans hSw) HLT.out; obtain ⟨q0, q1, q2, q3, q4, q5, q6, q7, q8, q9, q10, q11⟩ := q; go_simp; (try with_reducible rfl))
        try simp only [Act.put, List.setIfInBounds_toArray, List.set_cons_zero, List.set_cons_succ]
        refine held_take (i := 4) (v := ?_) rfl (by kernel_rfl) (by kernel_rfl) (by kernel_rfl) (by rfl) (by first | assumption | exact True.intro) ?_ ?_
        rotate_left
        · (intro W hSw; obtain ⟨g0, g1, g2, g3, g4, g5⟩ := Blk.six (HB.out.ext hSw); have q := HAT.out.ext (HX.out.trans hSw) HLT.out; obtain ⟨q0, q1, q2, q3, q4, q5, q6, q7, q8, q9, q10, q11⟩ := q; go_simp; (try with_reducible rfl))
        try simp only [Act.put, List.setIfInBounds_toArray, List.set_cons_zero, List.set_cons_succ]
        refine held_take (i := 5) (v := ?_) rfl (by kernel_rfl) (by kernel_rfl) (by kernel_rfl) (by rfl) (by first | assumption | exact True.intro) ?_ ?_
        rotate_left
        · (intro W hSw; obtain ⟨g0, g1, g2, g3, g4, g5⟩ := Blk.six (HB.out.ext hSw); have q := HAT.out.ext (HX.out.trans hSw) HLT.out; obtain ⟨q0, q1, q2, q3, q4, q5, q6, q7, q8, q9, q10, q11⟩ := q; go_simp; (try with_reducible rfl))
        try simp only [Act.put, List.setIfInBounds_toArray, List.set_cons_zero, List.set_cons_succ]
        refine held_take (i := 6) (v := ?_) rfl (by kernel_rfl) (by kernel_rfl) (by kernel_rfl) (by rfl) (by first | assumption | exact True.intro) ?_ ?_
        rotate_left
        · (intro W hSw; obtain ⟨g0, g1, g2, g3, g4, g5⟩ := Blk.six (HB.out.ext hSw); have q := HAT.out.ext (HX.out.trans hSw) HLT.out; obtain ⟨q0, q1, q2, q3, q4, q5, q6, q7, q8, q9, q10, q11⟩ := q; go_simp; (try with_reducible rfl))
        try simp only [Act.put, List.setIfInBounds_toArray, List.set_cons_zero, List.set_cons_succ]
        refine held_take (i := 7) (v := ?_) rfl (by kernel_rfl) (by kernel_rfl) (by kernel_rfl) (by rfl) (by first | assumption | exact True.intro) ?_ ?_
        rotate_left
        · (intro W hSw; obtain ⟨g0, g1, g2, g3, g4, g5⟩ := Blk.six (HB.out.ext hSw); have q := HAT.out.ext (HX.out.trans hSw) HLT.out; obtain ⟨q0, q1, q2, q3, q4, q5, q6, q7, q8, q9, q10, q11⟩ := q; go_simp; (try with_reducible rfl))
        try simp only [Act.put, List.setIfInBounds_toArray, List.set_cons_zero, List.set_cons_succ]
        clear hSx
        refine held_op (i := 8) (by kernel_rfl) rfl (fun K hK => ?_)
        go_simp
        go_at_call 50
        refine (HOC.out _ (HX.out.trans (Below.drewN' (Ext.refl W0) 1))).mono ?_
        rintro e3 w3 ⟨rfl, hx3⟩
        have HX3 : Hid (Ext W0 w3) := Lib.hid (Ext.trans (Below.drewN' (Ext.refl W0) 1) hx3)
        clear hx3
        refine hK _ _ (HX3.out) (fun hSx => ?_)
        clear hK K
        try simp only [Act.put, List.setIfInBounds_toArray, List.set_cons_zero, List.set_cons_succ]
        clear hSx
        refine held_op (i := 9) (by kernel_rfl) rfl (fun K hK => ?_)
        go_simp
        go_at_call 28
        refine (HPC.out _ (HX.out.trans HX3.out)).mono ?_
        rintro e4 w4 ⟨rfl, hx4⟩
        have HX4 : Hid (Ext W0 w4) := Lib.hid (Ext.trans HX3.out hx4)
        clear hx4
        refine hK _ _ (HX4.out) (fun hSx => ?_)
        clear hK K
        try simp only [Act.put, List.setIfInBounds_toArray, List.set_cons_zero, List.set_cons_succ]
        refine held_take (i := 10) (v := ?_) rfl (by kernel_rfl) (by kernel_rfl) (by kernel_rfl) (by rfl) (by first | assumption | exact True.intro) ?_ ?_
        rotate_left
        · (intro W hSw; go_simp; (try with_reducible rfl))
        try simp only [Act.put, List.setIfInBounds_toArray, List.set_cons_zero, List.set_cons_succ]
        refine held_take (i := 11) (v := ?_) rfl (by kernel_rfl) (by kernel_rfl) (by kernel_rfl) (by rfl) (by first | assumption | exact True.intro) ?_ ?_
        rotate_left
        · (intro W hSw; go_simp; (try with_reducible rfl))
        try simp only [Act.put, List.setIfInBounds_toArray, List.set_cons_zero, List.set_cons_succ]
        refine held_take (i := 12) (v := ?_) rfl (by kernel_rfl) (by kernel_rfl) (by kernel_rfl) (by rfl) (by first | assumption | exact True.intro) ?_ ?_
        rotate_left
        · (intro W hSw; go_simp; (try with_reducible rfl))
        try simp only [Act.put, List.setIfInBounds_toArray, List.set_cons_zero, List.set_cons_succ]
        refine held_take (i := 13) (v := ?_) rfl (by kernel_rfl) (by kernel_rfl) (by kernel_rfl) (by rfl) (by first | assumption | exact True.intro) ?_ ?_
        rotate_left
        · (intro W hSw; go_simp; (try with_reducible rfl))
        try simp only [Act.put, List.setIfInBounds_toArray, List.set_cons_zero, List.set_cons_succ]
        clear hSx
        refine wpAnyH_done (by kernel_rfl) ?_ _
        refine NoPanic.normal ?_
        go_wp2
        go_ret2
        exact ⟨by rw [HZ.out]; rfl, HX.out.trans HX4.out⟩
      · have HZ : Hid (PK = (0, false)) := Lib.hid (by rw [HP.out, nowS_at hi hxi, if_neg hph])
        have e6 : (x.phase != 0) = true := by simp only [bne_iff_ne, ne_eq]; exact hph
        clear hph j1 j2
        go_enter Try.func29, Try.ntmps29
        go_wp2
        go_ret2
        exact ⟨by rw [HZ.out]; rfl, HX.out⟩

end Go.Proofs.Ytgjidkhfnnghiaa

/- The reference of layer 16: a job's reservation. -/
namespace Go.Proofs.Ytgjidkhfnnghiaa
open Go.RowKit

set_option maxRecDepth 100000 in
set_option maxHeartbeats 16000000 in
theorem RefReserve_any (vn vj : Value) (s : St) (job now : Int) (w : World) (hrn : RdNd w vn s.nodes) (hr : RdJb w vj s.jobs) (hS : OkS s) (hn0 : 0 ≤ now) (hn1 : now ≤ 1000000) :
    Calls Try.prog 24 #[stV vn vj s, .int .i64 job, .int .i64 now] w fun e w' => e = .returned (.tuple #[.int .i64 (reserveS s job now).t, .int .i64 (reserveS s job now).n, .bool (reserveS s job now).ok]) ∧ Ext w w' := by
  have HRN := Lib.hid hrn
  have HRJ := Lib.hid hr
  obtain ⟨hx, hb⟩ := boxSt vn vj s w 27
  have HEN : Hid (∀ k W, Ext w W → Calls Try.prog 45 #[stV vn vj s, .int .i64 k, .int .i64 now] W fun e w' => e = .returned (.int .i64 (endS s k now)) ∧ Ext W w') := Lib.hid fun k W hW => RefEnd_any vn vj s k now W (HRJ.out.ext hW) hS.nj hS.jobs hn0 hn1
  have HAN : Hid (∀ time W, Ext w W → Calls Try.prog 46 #[stV vn vj s, .int .i64 now, .int .i64 time] W fun e w' => e = .returned (.int .i64 (atN s now time : Int)) ∧ Ext W w') := Lib.hid fun time W hW => RefAt_any vn vj s now time W (HRN.out.ext hW) (HRJ.out.ext hW) hS hn0 hn1
  have HPI : Hid (∀ x set W, Ext w W → Calls Try.prog 28 #[stV vn vj s, jbV x, .int .i64 set] W fun e w' => e = .returned (.tuple #[.int .i64 (pickS s x set).1, .bool (pickS s x set).2]) ∧ Ext W w') := Lib.hid fun x set W hW => RefPick_any vn vj s x set W (HRN.out.ext hW) hS.nn
  have hJ := hS.nj
  unfold stV at HEN HAN HPI
  unfold jbV at HPI
  unfold stV
  unfold stC at hx hb
  obtain ⟨A, c, rfl, hnc, hcm, hcell⟩ := jobs_cells hr
  have HC := Lib.hid hcell
  have h1 := hb.cell 1
  obtain ⟨PK, hPK⟩ : ∃ z, z = reserveS s job now := ⟨_, rfl⟩
  rw [← hPK]
  have HP := Lib.hid hPK
  have HX := Lib.hid hx
  have HB := Lib.hid hb
  clear hx hb hr hcell hPK hrn HRN HRJ
  by_cases j1 : job < 1
  · have HZ : Hid (PK = ⟨0, 0, false⟩) := Lib.hid (by rw [HP.out]; exact reserveS_none (.inl j1))
    have d1 : decide (job < 1) = true := decide_eq_true j1
    clear j1
    go_enter Try.func24, Try.ntmps24
    go_wp2
    go_ret3
    exact ⟨by rw [HZ.out]; rfl, HX.out⟩
  · have d1 : decide (job < 1) = false := decide_eq_false j1
    by_cases j2 : (s.jobs.length : Int) < job
    · have HZ : Hid (PK = ⟨0, 0, false⟩) := Lib.hid (by rw [HP.out]; exact reserveS_none (.inr j2))
      have d2 : decide ((s.jobs.length : Int) < job) = true := decide_eq_true j2
      clear j1 j2
      go_enter Try.func24, Try.ntmps24
      go_wp2
      go_ret3
      exact ⟨by rw [HZ.out]; rfl, HX.out⟩
    · have d2 : decide ((s.jobs.length : Int) < job) = false := decide_eq_false j2
      obtain ⟨i, hi⟩ : ∃ i : Nat, job = (i : Int) + 1 := ⟨(job - 1).toNat, by omega⟩
      have hil : i < s.jobs.length := by omega
      obtain ⟨x, hxi⟩ : ∃ x, s.jobs[i]? = some x := ⟨_, List.getElem?_eq_getElem hil⟩
      obtain ⟨b, o, rfl, hlt, hat⟩ := HC.out i x hxi
      have q6 := (hat.ext HX.out hlt).c6
      have wp : wrap64 (job - 1) = (i : Int) := by rw [IntWalk.wrap64_in _ (by omega)]; omega
      have d5 : decide (i < s.jobs.length) = true := decide_eq_true hil
      by_cases hph : x.phase = 0
      · have HZ : Hid (PK = resTo s x now (s.jobs.length + 1)) := Lib.hid (by rw [HP.out, reserveS_at hi hxi, if_pos hph])
        have HST : Hid (∀ q, resTo s x now (q + 1) = resStep s x now (resTo s x now q) (timeK s now q)) := Lib.hid fun q => rfl
        have e6 : (x.phase != 0) = false := by rw [hph]; rfl
        have HAT := Lib.hid hat
        have HLT := Lib.hid hlt
        have HIL := Lib.hid hil
        have HWP := Lib.hid wp
        have HPC := Lib.hid (fun set W hW => HPI.out x set W hW)
        clear hph j1 j2 hi hxi hat hlt HPI HC
        go_enter Try.func24, Try.ntmps24
        go_wp2_with fail
        obtain ⟨W0, hW0⟩ : ∃ W0, W0 = w.alloc (.cells #[vn, .slice (some ⟨b, o, none⟩) s.jobs.length c, .int .i64 s.goal, .int .i64 s.prior, .int .i64 s.mode, .int .i64 s.term] 27) := ⟨_, rfl⟩
        rw [← hW0] at HX HB ⊢
        clear hW0 q6 h1 wp d1 d2 d5 e6 hil
        go_loopw [9, 10, 11, 12] (fun t n ok k wr => ∃ (q : Nat), k = .int .i64 (q : Int) ∧ t = .int .i64 (resTo s x now q).t ∧ n = .int .i64 (resTo s x now q).n ∧ ok = .bool (resTo s x now q).ok ∧ q ≤ s.jobs.length + 1 ∧ Ext W0 wr) (fun _ _ _ k _ => s.jobs.length + 1 - (intOf k).toNat)
        case atStart => exact ⟨0, rfl, rfl, rfl, rfl, Nat.zero_le _, Ext.refl _⟩
        case round =>
          obtain ⟨q, rfl, rfl, rfl, rfl, hq, hxr⟩ := hrel
          have HXR : Hid (Ext W0 wr) := Lib.hid hxr
          have HXW := Lib.hid (Ext.trans HX.out hxr)
          have HBR := Lib.hid (HB.out.ext hxr)
          obtain ⟨g0, g1, g2, g3, g4, g5⟩ := Blk.six HBR.out
          have HSQ := Lib.hid (HST.out q)
          obtain ⟨⟨bt, bn, bok⟩, hbp⟩ : ∃ p, p = resTo s x now q := ⟨_, rfl⟩
          rw [← hbp] at HSQ ⊢
          have HBP := Lib.hid hbp
          clear hxr hbp
          by_cases hlt : q ≤ s.jobs.length
          · have d1 : decide ((q : Int) ≤ (s.jobs.length : Int)) = true := decide_eq_true (by omega)
            have d1n : decide (q ≤ s.jobs.length) = true := decide_eq_true hlt
            have wq : wrap64 ((q : Int) + 1) = (q : Int) + 1 := IntWalk.wrap64_in _ (by omega)
            have HLQ : Hid (q + 1 ≤ s.jobs.length + 1) := Lib.hid (by omega)
            go_upto_if 44 with (fail)
            clear d1 d1n
            go_cut [13] (fun t wx => ∃ T : Int, t = .int .i64 T ∧ T = timeK s now q ∧ Hid (Ext wr wx))
            case first =>
              by_cases hq0 : q = 0
              · have HT : Hid (timeK s now q = now) := Lib.hid (if_pos hq0)
                have f0 : decide ((0 : Int) < (q : Int)) = false := decide_eq_false (by omega)
                have f0n : decide (0 < q) = false := decide_eq_false (by omega)
                clear hq0 hlt hq
                first | rw [f0] | rw [f0n]
                go_wp2_with fail
                go_meet
                exact ⟨now, rfl, HT.out.symm, Lib.hid (Ext.refl _)⟩
              · have HT : Hid (timeK s now q = endS s (q : Int) now) := Lib.hid (if_neg hq0)
                have f0 : decide ((0 : Int) < (q : Int)) = true := decide_eq_true (by omega)
                have f0n : decide (0 < q) = true := decide_eq_true (by omega)
                have HEC := Lib.hid (HEN.out (q : Int) wr HXW.out)
                obtain ⟨E, hE⟩ : ∃ E, E = endS s (q : Int) now := ⟨_, rfl⟩
                rw [← hE] at HEC HT
                clear hE hq0 hlt hq
                first | rw [f0] | rw [f0n]
                go_wp2_with fail
                refine HEC.out.mono ?_
                rintro e1 w1 ⟨rfl, hx1⟩
                have HX1 := Lib.hid hx1
                clear hx1
                repeat (first | go_values | go_skip | go_guarded | go_step | go_upon | (simp only []))
                go_meet
                exact ⟨E, rfl, HT.out.symm, HX1⟩
            case rest =>
              obtain ⟨T, rfl, hT, HXC⟩ := hcut
              rw [← hT] at HSQ
              have HXT : Hid (Ext w wc) := Lib.hid (Ext.trans HXW.out HXC.out)
              have HBT := Lib.hid (HBR.out.ext HXC.out)
              have HXA : Hid (Ext W0 wc) := Lib.hid (Ext.trans HXR.out HXC.out)
              clear hT HXC g0 g1 g2 g3 g4 g5 hlt hq
              obtain ⟨WT, rfl⟩ : ∃ W, W = wc := ⟨_, rfl⟩
              obtain ⟨sk, hsk⟩ : ∃ z, z = (decide (T < 0) || (bok && decide (bt ≤ T))) := ⟨_, rfl⟩
              go_upto_region 10 with (fail)
              go_cut [58] (fun c wx => c = .bool sk ∧ wx = WT)
              case first =>
                by_cases a1 : T < 0
                · have f1 : decide (T < 0) = true := decide_eq_true a1
                  have HS : Hid (sk = true) := Lib.hid (by rw [hsk]; simp [a1])
                  clear hsk a1
                  go_wp2_with fail
                  go_meet
                  exact ⟨by rw [HS.out], rfl⟩
                · have f1 : decide (T < 0) = false := decide_eq_false a1
                  cases bok
                  · have HS : Hid (sk = false) := Lib.hid (by rw [hsk]; simp [a1])
                    clear hsk a1
                    go_wp2_with fail
                    go_meet
                    exact ⟨by rw [HS.out], rfl⟩
                  · by_cases a2 : bt ≤ T
                    · have f2 : decide (bt ≤ T) = true := decide_eq_true a2
                      have HS : Hid (sk = true) := Lib.hid (by rw [hsk]; simp [a1, a2])
                      clear hsk a1 a2
                      go_wp2_with fail
                      go_meet
                      exact ⟨by rw [HS.out], rfl⟩
                    · have f2 : decide (bt ≤ T) = false := decide_eq_false a2
                      have HS : Hid (sk = false) := Lib.hid (by rw [hsk]; simp [a1, a2])
                      clear hsk a1 a2
                      go_wp2_with fail
                      go_meet
                      exact ⟨by rw [HS.out], rfl⟩
              case rest =>
                obtain ⟨rfl, hw⟩ := hcut
                rw [hw]
                clear hw
                cases sk
                · have HSK := Lib.hid hsk.symm
                  clear hsk
                  have d6 : (i : Int) < (s.jobs.length : Int) := by have := HIL.out; omega
                  have d7 : (0 : Int) ≤ (i : Int) := by omega
                  have wp2 : IntKind.i64.wrap (job - 1) = (i : Int) := (IntWalk.i64_left _).trans HWP.out
                  go_upto_region 11 with (fail)
                  refine held_begin (by kernel_rfl) ?_
                  refine held_more (S' := fun W' : World => Ext WT W') (fun _ _ => True.intro) ?_
                  have hSx : (fun W' : World => Ext WT W') WT.drew := Below.drewN' (Ext.refl WT) 1
                  refine held_take (i := 0) (v := ?_) rfl (by kernel_rfl) (by kernel_rfl) (by kernel_rfl) (by rfl) (by first | assumption | exact True.intro) ?_ ?_
                  rotate_left
                  · (intro W hSw; obtain ⟨g0, g1, g2, g3, g4, g5⟩ := Blk.six (HBT.out.ext hSw); obtain ⟨q0, q1, q2, q3, q4, q5, q6, q7, q8, q9, q10, q11⟩ := HAT.out.ext (Ext.trans HXT.out hSw) HLT.out; go_simp; (try with_reducible rfl))
                  try simp only [Act.put, List.setIfInBounds_toArray, List.set_cons_zero, List.set_cons_succ]
                  refine held_take (i := 1) (v := ?_) rfl (by kernel_rfl) (by kernel_rfl) (by kernel_rfl) (by rfl) (by first | assumption | exact True.intro) ?_ ?_
                  rotate_left
                  · (intro W hSw; obtain ⟨g0, g1, g2, g3, g4, g5⟩ := Blk.six (HBT.out.ext hSw); obtain ⟨q0, q1, q2, q3, q4, q5, q6, q7, q8, q9, q10, q11⟩ := HAT.out.ext (Ext.trans HXT.out hSw) HLT.out; go_simp; (try with_reducible rfl))
                  try simp only [Act.put, List.setIfInBounds_toArray, List.set_cons_zero, List.set_cons_succ]
                  refine held_take (i := 2) (v := ?_) rfl (by kernel_rfl) (by kernel_rfl) (by kernel_rfl) (by rfl) (by first | assumption | exact True.intro) ?_ ?_
                  rotate_left
                  · (intro W hSw; obtain ⟨g0, g1, g2, g3, g4, g5⟩ := Blk.six (HBT.out.ext hSw); obtain ⟨q0, q1, q2, q3, q4, q5, q6, q7, q8, q9, q10, q11⟩ := HAT.out.ext (Ext.trans HXT.out hSw) HLT.out; go_simp; (try with_reducible rfl))
                  try simp only [Act.put, List.setIfInBounds_toArray, List.set_cons_zero, List.set_cons_succ]
                  refine held_take (i := 3) (v := ?_) rfl (by kernel_rfl) (by kernel_rfl) (by kernel_rfl) (by rfl) (by first | assumption | exact True.intro) ?_ ?_
                  rotate_left
                  · (intro W hSw; obtain ⟨g0, g1, g2, g3, g4, g5⟩ := Blk.six (HBT.out.ext hSw); obtain ⟨q0, q1, q2, q3, q4, q5, q6, q7, q8, q9, q10, q11⟩ := HAT.out.ext (Ext.trans HXT.out hSw) HLT.out; go_simp; (try with_reducible rfl))
                  try simp only [Act.put, List.setIfInBounds_toArray, List.set_cons_zero, List.set_cons_succ]
                  refine held_take (i := 4) (v := ?_) rfl (by kernel_rfl) (by kernel_rfl) (by kernel_rfl) (by rfl) (by first | assumption | exact True.intro) ?_ ?_
                  rotate_left
                  · (intro W hSw; obtain ⟨g0, g1, g2, g3, g4, g5⟩ := Blk.six (HBT.out.ext hSw); obtain ⟨q0, q1, q2, q3, q4, q5, q6, q7, q8, q9, q10, q11⟩ := HAT.out.ext (Ext.trans HXT.out hSw) HLT.out; go_simp; (try with_reducible rfl))
                  try simp only [Act.put, List.setIfInBounds_toArray, List.set_cons_zero, List.set_cons_succ]
                  refine held_take (i := 5) (v := ?_) rfl (by kernel_rfl) (by kernel_rfl) (by kernel_rfl) (by rfl) (by first | assumption | exact True.intro) ?_ ?_
                  rotate_left
                  · (intro W hSw; obtain ⟨g0, g1, g2, g3, g4, g5⟩ := Blk.six (HBT.out.ext hSw); obtain ⟨q0, q1, q2, q3, q4, q5, q6, q7, q8, q9, q10, q11⟩ := HAT.out.ext (Ext.trans HXT.out hSw) HLT.out; go_simp; (try with_reducible rfl))
                  try simp only [Act.put, List.setIfInBounds_toArray, List.set_cons_zero, List.set_cons_succ]
                  refine held_take (i := 6) (v := ?_) rfl (by kernel_rfl) (by kernel_rfl) (by kernel_rfl) (by rfl) (by first | assumption | exact True.intro) ?_ ?_
                  rotate_left
                  · (intro W hSw; obtain ⟨g0, g1, g2, g3, g4, g5⟩ := Blk.six (HBT.out.ext hSw); obtain ⟨q0, q1, q2, q3, q4, q5, q6, q7, q8, q9, q10, q11⟩ := HAT.out.ext (Ext.trans HXT.out hSw) HLT.out; go_simp; (try with_reducible rfl))
                  try simp only [Act.put, List.setIfInBounds_toArray, List.set_cons_zero, List.set_cons_succ]
                  refine held_take (i := 7) (v := ?_) rfl (by kernel_rfl) (by kernel_rfl) (by kernel_rfl) (by rfl) (by first | assumption | exact True.intro) ?_ ?_
                  rotate_left
                  · (intro W hSw; obtain ⟨g0, g1, g2, g3, g4, g5⟩ := Blk.six (HBT.out.ext hSw); obtain ⟨q0, q1, q2, q3, q4, q5, q6, q7, q8, q9, q10, q11⟩ := HAT.out.ext (Ext.trans HXT.out hSw) HLT.out; go_simp; (try with_reducible rfl))
                  try simp only [Act.put, List.setIfInBounds_toArray, List.set_cons_zero, List.set_cons_succ]
                  refine held_take (i := 8) (v := ?_) rfl (by kernel_rfl) (by kernel_rfl) (by kernel_rfl) (by rfl) (by first | assumption | exact True.intro) ?_ ?_
                  rotate_left
                  · (intro W hSw; obtain ⟨g0, g1, g2, g3, g4, g5⟩ := Blk.six (HBT.out.ext hSw); obtain ⟨q0, q1, q2, q3, q4, q5, q6, q7, q8, q9, q10, q11⟩ := HAT.out.ext (Ext.trans HXT.out hSw) HLT.out; go_simp; (try with_reducible rfl))
                  try simp only [Act.put, List.setIfInBounds_toArray, List.set_cons_zero, List.set_cons_succ]
                  refine held_take (i := 9) (v := ?_) rfl (by kernel_rfl) (by kernel_rfl) (by kernel_rfl) (by rfl) (by first | assumption | exact True.intro) ?_ ?_
                  rotate_left
                  · (intro W hSw; obtain ⟨g0, g1, g2, g3, g4, g5⟩ := Blk.six (HBT.out.ext hSw); obtain ⟨q0, q1, q2, q3, q4, q5, q6, q7, q8, q9, q10, q11⟩ := HAT.out.ext (Ext.trans HXT.out hSw) HLT.out; go_simp; (try with_reducible rfl))
                  try simp only [Act.put, List.setIfInBounds_toArray, List.set_cons_zero, List.set_cons_succ]
                  clear hSx
                  refine held_op (i := 10) (by kernel_rfl) rfl (fun K hK => ?_)
                  go_simp
                  go_at_call 46
                  refine (HAN.out T _ (Ext.trans HXT.out (Below.drewN' (Ext.refl WT) 1))).mono ?_
                  rintro e3 w3 ⟨rfl, hx3⟩
                  have HX3 : Hid (Ext WT w3) := Lib.hid (Ext.trans (Below.drewN' (Ext.refl WT) 1) hx3)
                  clear hx3
                  refine hK _ _ (HX3.out) (fun hSx => ?_)
                  clear hK K
                  try simp only [Act.put, List.setIfInBounds_toArray, List.set_cons_zero, List.set_cons_succ]
                  clear hSx
                  refine held_op (i := 11) (by kernel_rfl) rfl (fun K hK => ?_)
                  go_simp
                  go_at_call 28
                  refine (HPC.out _ _ (Ext.trans HXT.out HX3.out)).mono ?_
                  rintro e4 w4 ⟨rfl, hx4⟩
                  have HX4 : Hid (Ext WT w4) := Lib.hid (Ext.trans HX3.out hx4)
                  clear hx4
                  refine hK _ _ (HX4.out) (fun hSx => ?_)
                  clear hK K
                  try simp only [Act.put, List.setIfInBounds_toArray, List.set_cons_zero, List.set_cons_succ]
                  refine held_take (i := 12) (v := ?_) rfl (by kernel_rfl) (by kernel_rfl) (by kernel_rfl) (by rfl) (by first | assumption | exact True.intro) ?_ ?_
                  rotate_left
                  · (intro W hSw; go_simp; (try with_reducible rfl))
                  try simp only [Act.put, List.setIfInBounds_toArray, List.set_cons_zero, List.set_cons_succ]
                  refine held_take (i := 13) (v := ?_) rfl (by kernel_rfl) (by kernel_rfl) (by kernel_rfl) (by rfl) (by first | assumption | exact True.intro) ?_ ?_
                  rotate_left
                  · (intro W hSw; go_simp; (try with_reducible rfl))
                  try simp only [Act.put, List.setIfInBounds_toArray, List.set_cons_zero, List.set_cons_succ]
                  refine held_take (i := 14) (v := ?_) rfl (by kernel_rfl) (by kernel_rfl) (by kernel_rfl) (by rfl) (by first | assumption | exact True.intro) ?_ ?_
                  rotate_left
                  · (intro W hSw; go_simp; (try with_reducible rfl))
                  try simp only [Act.put, List.setIfInBounds_toArray, List.set_cons_zero, List.set_cons_succ]
                  refine held_take (i := 15) (v := ?_) rfl (by kernel_rfl) (by kernel_rfl) (by kernel_rfl) (by rfl) (by first | assumption | exact True.intro) ?_ ?_
                  rotate_left
                  · (intro W hSw; go_simp; (try with_reducible rfl))
                  try simp only [Act.put, List.setIfInBounds_toArray, List.set_cons_zero, List.set_cons_succ]
                  refine held_take (i := 16) (v := ?_) rfl (by kernel_rfl) (by kernel_rfl) (by kernel_rfl) (by rfl) (by first | assumption | exact True.intro) ?_ ?_
                  rotate_left
                  · (intro W hSw; go_simp; (try with_reducible rfl))
                  try simp only [Act.put, List.setIfInBounds_toArray, List.set_cons_zero, List.set_cons_succ]
                  clear hSx
                  refine wpAnyH_done (by kernel_rfl) ?_ _
                  refine NoPanic.normal ?_
                  have HXZ := Lib.hid (Ext.trans HXA.out HX4.out)
                  clear wp2 d6 d7
                  obtain ⟨⟨pn, pok⟩, hpp⟩ : ∃ p, p = pickS s x (atN s now T : Int) := ⟨_, rfl⟩
                  rw [← hpp]
                  have HPP := Lib.hid hpp
                  clear hpp
                  cases pok
                  · have HS : Hid (resTo s x now (q + 1) = (⟨bt, bn, bok⟩ : Rv)) := Lib.hid (by rw [HSQ.out]; exact resStep_no' HSK.out (by rw [← HPP.out]))
                    repeat (first | go_values | go_skip | go_guarded | go_step | go_upon | (simp only []))
                    go_roundw
                    case rel => exact ⟨q + 1, by first | (rw [wq]; rfl) | rfl, by rw [HS.out], by rw [HS.out], by rw [HS.out], HLQ.out, HXZ.out⟩
                    case measure => first | (rw [wq]; exact measQ (Nat.lt_of_succ_le HLQ.out)) | exact measQ (Nat.lt_of_succ_le HLQ.out)
                  · have HS : Hid (resTo s x now (q + 1) = (⟨T, pn, true⟩ : Rv)) := Lib.hid (by rw [HSQ.out]; exact (resStep_yes' HSK.out (by rw [← HPP.out])).trans (by rw [← HPP.out]))
                    repeat (first | go_values | go_skip | go_guarded | go_step | go_upon | (simp only []))
                    go_roundw
                    case rel => exact ⟨q + 1, by first | (rw [wq]; rfl) | rfl, by rw [HS.out], by rw [HS.out], by rw [HS.out], HLQ.out, HXZ.out⟩
                    case measure => first | (rw [wq]; exact measQ (Nat.lt_of_succ_le HLQ.out)) | exact measQ (Nat.lt_of_succ_le HLQ.out)
                · have HS : Hid (resTo s x now (q + 1) = (⟨bt, bn, bok⟩ : Rv)) := Lib.hid (by rw [HSQ.out]; exact resStep_skip hsk.symm)
                  clear hsk
                  repeat (first | go_values | go_skip | go_guarded | go_step | go_upon | (simp only []))
                  go_roundw
                  case rel => exact ⟨q + 1, by first | (rw [wq]; rfl) | rfl, by rw [HS.out], by rw [HS.out], by rw [HS.out], HLQ.out, HXA.out⟩
                  case measure => first | (rw [wq]; exact measQ (Nat.lt_of_succ_le HLQ.out)) | exact measQ (Nat.lt_of_succ_le HLQ.out)
          · have d1 : decide ((q : Int) ≤ (s.jobs.length : Int)) = false := decide_eq_false (by omega)
            have d1n : decide (q ≤ s.jobs.length) = false := decide_eq_false hlt
            have HE : Hid (PK = ⟨bt, bn, bok⟩) := Lib.hid (by rw [HZ.out, HBP.out, show q = s.jobs.length + 1 by omega])
            go_wp2
            go_ret3
            exact ⟨by rw [HE.out]; rfl, HXW.out⟩
      · have HZ : Hid (PK = ⟨0, 0, false⟩) := Lib.hid (by rw [HP.out, reserveS_at hi hxi, if_neg hph])
        have e6 : (x.phase != 0) = true := by simp only [bne_iff_ne, ne_eq]; exact hph
        clear hph j1 j2
        go_enter Try.func24, Try.ntmps24
        go_wp2
        go_ret3
        exact ⟨by rw [HZ.out]; rfl, HX.out⟩

end Go.Proofs.Ytgjidkhfnnghiaa

/- The reference of layer 16: the nodes by which a job may fill in. -/
namespace Go.Proofs.Ytgjidkhfnnghiaa
open Go.RowKit

set_option maxRecDepth 100000 in
set_option maxHeartbeats 16000000 in
theorem RefFill_any (vn vj : Value) (s : St) (job now : Int) (w : World) (hrn : RdNd w vn s.nodes) (hr : RdJb w vj s.jobs) (hS : OkS s) (hn0 : 0 ≤ now) (hn1 : now ≤ 1000000) :
    Calls Try.prog 8 #[stV vn vj s, .int .i64 job, .int .i64 now] w fun e w' => e = .returned (.tuple #[.int .i64 (fillS s job now).1, .bool (fillS s job now).2]) ∧ Ext w w' := by
  have HRN := Lib.hid hrn
  have HRJ := Lib.hid hr
  obtain ⟨hx, hb⟩ := boxSt vn vj s w 27
  have hJ := hS.nj
  have hN := hS.nn
  have HPL : Hid (∀ W, Ext w W → Calls Try.prog 23 #[stV vn vj s, .int .i64 job] W fun e w' => e = .returned (.int .i64 (placeI s.jobs job)) ∧ Ext W w') := Lib.hid fun W hW => RefPlace_any vn vj s job W (HRJ.out.ext hW) (by omega)
  have HLN : Hid (∀ W, Ext w W → Calls Try.prog 25 #[stV vn vj s] W fun e w' => ∃ v', e = .returned v' ∧ Grew W.heap.size 3 (.slice none 0 0) W ((lineL s.jobs).map J) v' w') := Lib.hid fun W hW => RefLine_any vn vj s W (HRJ.out.ext hW) (by omega)
  have HRS : Hid (∀ k W, Ext w W → Calls Try.prog 24 #[stV vn vj s, .int .i64 k, .int .i64 now] W fun e w' => e = .returned (.tuple #[.int .i64 (reserveS s k now).t, .int .i64 (reserveS s k now).n, .bool (reserveS s k now).ok]) ∧ Ext W w') := Lib.hid fun k W hW => RefReserve_any vn vj s k now W (HRN.out.ext hW) (HRJ.out.ext hW) hS hn0 hn1
  have HPI : Hid (∀ x set W, Ext w W → Calls Try.prog 28 #[stV vn vj s, jbV x, .int .i64 set] W fun e w' => e = .returned (.tuple #[.int .i64 (pickS s x set).1, .bool (pickS s x set).2]) ∧ Ext W w') := Lib.hid fun x set W hW => RefPick_any vn vj s x set W (HRN.out.ext hW) hN
  have HNW : Hid (∀ W, Ext w W → Calls Try.prog 29 #[stV vn vj s, .int .i64 job] W fun e w' => e = .returned (.tuple #[.int .i64 (nowS s job).1, .bool (nowS s job).2]) ∧ Ext W w') := Lib.hid fun W hW => RefNow_any vn vj s job W (HRN.out.ext hW) (HRJ.out.ext hW) hN (by omega)
  have HFR := Lib.hid fun n w' => RefFree_any n w'
  unfold stV at HPL HLN HRS HPI HNW
  unfold jbV at HPI
  unfold stV
  unfold stC at hx hb
  obtain ⟨A, c, rfl, hnc, hcm, hcell⟩ := jobs_cells hr
  obtain ⟨A', c', rfl, hnc', hcm', hcell'⟩ := has_cells hrn
  have HC := Lib.hid hcell
  have HC' := Lib.hid hcell'
  obtain ⟨PK, hPK⟩ : ∃ z, z = fillS s job now := ⟨_, rfl⟩
  rw [← hPK]
  have HP := Lib.hid hPK
  have HX := Lib.hid hx
  have HB := Lib.hid hb
  clear hx hb hr hcell hcell' hPK hrn HRN HRJ
  go_enter Try.func8, Try.ntmps8
  go_upto_region 1 with (fail)
  obtain ⟨W0, hW0⟩ : ∃ W0, W0 = w.alloc (.cells #[.slice A' s.nodes.length c', .slice A s.jobs.length c, .int .i64 s.goal, .int .i64 s.prior, .int .i64 s.mode, .int .i64 s.term] 27) := ⟨_, rfl⟩
  rw [← hW0] at HX HB ⊢
  clear hW0
  obtain ⟨g0, g1, g2, g3, g4, g5⟩ := Blk.six HB.out
  have HPC := Lib.hid (HPL.out W0 HX.out)
  have HPX : Hid ((placeI s.jobs job < 1 → False) → ∃ (i k : Nat) (x : Jb) (t : List Nat), job = (i : Int) + 1 ∧ s.jobs[i]? = some x ∧ x.phase = 0 ∧ lineL s.jobs = k :: t) := Lib.hid (fun h => placeI_some h)
  have HPN : Hid (placeI s.jobs job < 1 → PK = (0, false)) := Lib.hid (fun h => by rw [HP.out]; exact fillS_none h)
  have HPA : Hid ((placeI s.jobs job < 1 → False) → ∀ (i : Nat) (x : Jb) (r : Rv) (D : Nat), job = (i : Int) + 1 → s.jobs[i]? = some x → r = reserveS s (headS s) now → D = restN s r s.nodes.length → PK = if (pickS s x (D : Int)).2 = true then ((pickS s x (D : Int)).1, true) else if r.ok = true ∧ (nowS s job).2 = true ∧ now + x.work ≤ r.t then ((nowS s job).1, true) else (0, false)) := Lib.hid (fun h i x r D h1 h2 h3 h4 => by rw [HP.out]; exact fillS_at h h1 h2 h3 h4)
  obtain ⟨PI, hPI⟩ : ∃ z, z = placeI s.jobs job := ⟨_, rfl⟩
  rw [← hPI] at HPC HPX HPN HPA
  clear hPI HP HPL
  go_wp2_with fail
  refine HPC.out.mono ?_
  rintro e1 w1 ⟨rfl, hx1⟩
  have HX1 : Hid (Ext W0 w1) := Lib.hid hx1
  clear hx1 HPC g0 g1 g2 g3 g4 g5
  by_cases p1 : PI < 1
  · have f1 : decide (PI < 1) = true := decide_eq_true p1
    have HZ := Lib.hid (HPN.out p1)
    clear p1
    go_wp2
    go_ret2
    exact ⟨by rw [HZ.out]; rfl, Ext.trans HX.out HX1.out⟩
  · have f1 : decide (PI < 1) = false := decide_eq_false p1
    obtain ⟨i, k, x, t, hi, hxi, hph, hL⟩ := HPX.out p1
    have HA := Lib.hid (HPA.out p1)
    have HHD := Lib.hid (headS_at hL)
    have HLL := Lib.hid hL
    obtain ⟨b, o, rfl, hlt, hat⟩ := HC.out i x hxi
    have HAT := Lib.hid hat
    have HLT := Lib.hid hlt
    have HWP : Hid (wrap64 (job - 1) = (i : Int)) := Lib.hid (by have := (List.getElem?_eq_some_iff.1 hxi).1; rw [IntWalk.wrap64_in _ (by omega)]; omega)
    have HIL : Hid (i < s.jobs.length) := Lib.hid (List.getElem?_eq_some_iff.1 hxi).1
    have HWW : Hid (wrap64 (now + x.work) = now + x.work) := Lib.hid (by have := hS.jobs i x hxi; exact IntWalk.wrap64_in _ (by omega))
    have HHI := Lib.hid hi
    have HXI := Lib.hid hxi
    have HBS := Lib.hid (HB.out.ext HX1.out)
    clear p1 hi hxi hph hL hat hlt HC HPX HPN HPA hn0 hn1 hJ
    simp only []
    go_upto_region 3 with (fail)
    clear f1
    refine held_begin (by kernel_rfl) ?_
    refine held_more (S' := fun W' : World => Ext w1 W') (fun _ _ => True.intro) ?_
    have hSx : (fun W' : World => Ext w1 W') w1.drew := Below.drewN' (Ext.refl w1) 1
    refine held_take (i := 0) (v := ?_) rfl (by kernel_rfl) (by kernel_rfl) (by kernel_rfl) (by rfl) (by first | assumption | exact True.intro) ?_ ?_
    rotate_left
    · (intro W hSw; obtain ⟨g0, g1, g2, g3, g4, g5⟩ := Blk.six (HBS.out.ext (hSw)); go_simp; (try with_reducible rfl))
    try simp only [Act.put, List.setIfInBounds_toArray, List.set_cons_zero, List.set_cons_succ]
    refine held_take (i := 1) (v := ?_) rfl (by kernel_rfl) (by kernel_rfl) (by kernel_rfl) (by rfl) (by first | assumption | exact True.intro) ?_ ?_
    rotate_left
    · (intro W hSw; obtain ⟨g0, g1, g2, g3, g4, g5⟩ := Blk.six (HBS.out.ext (hSw)); go_simp; (try with_reducible rfl))
    try simp only [Act.put, List.setIfInBounds_toArray, List.set_cons_zero, List.set_cons_succ]
    refine held_take (i := 5) (v := ?_) rfl (by kernel_rfl) (by kernel_rfl) (by kernel_rfl) (by rfl) (by first | assumption | exact True.intro) ?_ ?_
    rotate_left
    · (intro W hSw; obtain ⟨g0, g1, g2, g3, g4, g5⟩ := Blk.six (HBS.out.ext (hSw)); go_simp; (try with_reducible rfl))
    try simp only [Act.put, List.setIfInBounds_toArray, List.set_cons_zero, List.set_cons_succ]
    clear hSx
    refine held_op (i := 2) (by kernel_rfl) rfl (fun K hK => ?_)
    go_simp
    go_at_call 25
    refine (HLN.out _ (Ext.trans HX.out (Ext.trans HX1.out (Below.drewN' (Ext.refl w1) 1)))).mono ?_
    rintro e3 w3 ⟨v3, rfl, hg3⟩
    have HX3 : Hid (Ext w1 w3) := Lib.hid (Ext.trans (Below.drewN' (Ext.refl w1) 1) hg3.ext)
    obtain ⟨N3, hN3⟩ : ∃ N : Nat, N = ((lineL s.jobs).map J).length := ⟨_, rfl⟩
    obtain ⟨A3, c3, e3, -, -, h3⟩ := Rd.own hg3.own
    rw [← hN3] at e3 h3
    subst e3
    have n3 : 0 < N3 := by rw [hN3, HLL.out]; simp
    obtain ⟨b3, o3, rfl, hb3, hc3⟩ := h3 n3
    have HZ3 := Lib.hid (hc3 0 (.int .i64 ((k : Int) + 1)) (by rw [HLL.out]; rfl))
    obtain ⟨hd, hhd⟩ : ∃ z, z = (k : Int) + 1 := ⟨_, rfl⟩
    rw [← hhd] at HZ3 HHD
    have HB3 := Lib.hid hb3
    clear hg3 hN3 h3 hc3 hb3 hhd
    refine hK _ _ (HX3.out) (fun hSx => ?_)
    clear hK K
    try simp only [Act.put, List.setIfInBounds_toArray, List.set_cons_zero, List.set_cons_succ]
    refine held_more (S' := fun W' : World => Ext w3 W') (fun W hW => Ext.trans HX3.out hW) ?_
    clear hSx
    have hSx : (fun W' : World => Ext w3 W') w3 := Ext.refl w3
    have d3 : (0 : Int) < (N3 : Int) := by omega
    refine held_take (i := 3) (v := ?_) rfl (by kernel_rfl) (by kernel_rfl) (by kernel_rfl) (by rfl) (by first | assumption | exact True.intro) ?_ ?_
    rotate_left
    · (intro W hSw; go_simp; (try with_reducible rfl))
    try simp only [Act.put, List.setIfInBounds_toArray, List.set_cons_zero, List.set_cons_succ]
    refine held_take (i := 4) (v := ?_) rfl (by kernel_rfl) (by kernel_rfl) (by kernel_rfl) (by rfl) (by first | assumption | exact True.intro) ?_ ?_
    rotate_left
    · (intro W hSw; have z3 : W.cell? ⟨b3, o3, none⟩ = some (.int .i64 hd) := hSw.cellOf HZ3.out HB3.out; go_simp; (try with_reducible rfl))
    try simp only [Act.put, List.setIfInBounds_toArray, List.set_cons_zero, List.set_cons_succ]
    clear hSx d3
    refine held_op (i := 6) (by kernel_rfl) rfl (fun K hK => ?_)
    go_simp
    go_at_call 24
    refine (HRS.out hd _ (Ext.trans HX.out (Ext.trans HX1.out HX3.out))).mono ?_
    rintro e4 w4 ⟨rfl, hx4⟩
    have HX4 : Hid (Ext w3 w4) := Lib.hid hx4
    clear hx4
    refine hK _ _ (HX4.out) (fun hSx => ?_)
    clear hK K
    try simp only [Act.put, List.setIfInBounds_toArray, List.set_cons_zero, List.set_cons_succ]
    refine held_take (i := 7) (v := ?_) rfl (by kernel_rfl) (by kernel_rfl) (by kernel_rfl) (by rfl) (by first | assumption | exact True.intro) ?_ ?_
    rotate_left
    · (intro W hSw; go_simp; (try with_reducible rfl))
    try simp only [Act.put, List.setIfInBounds_toArray, List.set_cons_zero, List.set_cons_succ]
    refine held_take (i := 8) (v := ?_) rfl (by kernel_rfl) (by kernel_rfl) (by kernel_rfl) (by rfl) (by first | assumption | exact True.intro) ?_ ?_
    rotate_left
    · (intro W hSw; go_simp; (try with_reducible rfl))
    try simp only [Act.put, List.setIfInBounds_toArray, List.set_cons_zero, List.set_cons_succ]
    refine held_take (i := 9) (v := ?_) rfl (by kernel_rfl) (by kernel_rfl) (by kernel_rfl) (by rfl) (by first | assumption | exact True.intro) ?_ ?_
    rotate_left
    · (intro W hSw; go_simp; (try with_reducible rfl))
    try simp only [Act.put, List.setIfInBounds_toArray, List.set_cons_zero, List.set_cons_succ]
    refine held_take (i := 10) (v := ?_) rfl (by kernel_rfl) (by kernel_rfl) (by kernel_rfl) (by rfl) (by first | assumption | exact True.intro) ?_ ?_
    rotate_left
    · (intro W hSw; go_simp; (try with_reducible rfl))
    try simp only [Act.put, List.setIfInBounds_toArray, List.set_cons_zero, List.set_cons_succ]
    refine held_take (i := 11) (v := ?_) rfl (by kernel_rfl) (by kernel_rfl) (by kernel_rfl) (by rfl) (by first | assumption | exact True.intro) ?_ ?_
    rotate_left
    · (intro W hSw; go_simp; (try with_reducible rfl))
    try simp only [Act.put, List.setIfInBounds_toArray, List.set_cons_zero, List.set_cons_succ]
    refine held_take (i := 12) (v := ?_) rfl (by kernel_rfl) (by kernel_rfl) (by kernel_rfl) (by rfl) (by first | assumption | exact True.intro) ?_ ?_
    rotate_left
    · (intro W hSw; go_simp; (try with_reducible rfl))
    try simp only [Act.put, List.setIfInBounds_toArray, List.set_cons_zero, List.set_cons_succ]
    refine held_take (i := 13) (v := ?_) rfl (by kernel_rfl) (by kernel_rfl) (by kernel_rfl) (by rfl) (by first | assumption | exact True.intro) ?_ ?_
    rotate_left
    · (intro W hSw; go_simp; (try with_reducible rfl))
    try simp only [Act.put, List.setIfInBounds_toArray, List.set_cons_zero, List.set_cons_succ]
    clear hSx
    refine wpAnyH_done (by kernel_rfl) ?_ _
    refine NoPanic.normal ?_
    obtain ⟨⟨rt, rn, rok⟩, hr⟩ : ∃ p, p = reserveS s hd now := ⟨_, rfl⟩
    rw [← hr]
    have HR : Hid ((⟨rt, rn, rok⟩ : Rv) = reserveS s (headS s) now) := Lib.hid (by rw [HHD.out]; exact hr)
    clear hr HRS HLN
    have HXL : Hid (Ext W0 w4) := Lib.hid (Ext.trans HX1.out (Ext.trans HX3.out HX4.out))
    obtain ⟨F, hF⟩ : ∃ F : Nat → Bool, F = fun i => nodeIs s.nodes freeN i && !(rok && hasS rn i) := ⟨_, rfl⟩
    have HFF : Hid (∀ q n, s.nodes[q]? = some n → F q = (freeN n && !(rok && hasS rn q))) := Lib.hid fun q n hn => by rw [hF]; show (nodeIs s.nodes freeN q && _) = _; rw [nodeIs_at hn]
    have HAA : Hid (∀ D : Nat, D = bitsF F s.nodes.length → PK = if (pickS s x (D : Int)).2 = true then ((pickS s x (D : Int)).1, true) else if rok = true ∧ (nowS s job).2 = true ∧ now + x.work ≤ rt then ((nowS s job).1, true) else (0, false)) := Lib.hid (fun D hD => HA.out i x ⟨rt, rn, rok⟩ D HHI.out HXI.out HR.out (by rw [hD, hF]; rfl))
    clear hF HA HR HHD HLL
    go_wp2_with fail
    go_loopw [11, 12, 13] (fun o b i wr => ∃ q B : Nat, i = .int .i64 q ∧ o = .int .i64 (bitsF F q : Int) ∧ b = .int .i64 (B : Int) ∧ B = 2 ^ q ∧ q ≤ s.nodes.length ∧ Ext W0 wr) (fun _ _ i _ => s.nodes.length - (intOf i).toNat)
    case atStart => exact ⟨0, 1, rfl, rfl, rfl, rfl, Nat.zero_le _, HXL.out⟩
    case round =>
      obtain ⟨q, B, rfl, rfl, rfl, hB, hq, hxr⟩ := hrel
      have HXR : Hid (Ext W0 wr) := Lib.hid hxr
      have HXW : Hid (Ext w wr) := Lib.hid (Ext.trans HX.out hxr)
      have HBR := Lib.hid (HB.out.ext hxr)
      have g0 := HBR.out.cell 0
      have hset := bitsF_lt F q
      have HST : Hid (bitsF F (q + 1) = bitsF F q + (if F q = true then 2 ^ q else 0)) := Lib.hid rfl
      generalize hP : bitsF F q = P at *
      have HPP := Lib.hid hP
      clear hxr hP
      by_cases hlt : q < s.nodes.length
      · have d1 : decide ((q : Int) < (s.nodes.length : Int)) = true := decide_eq_true (by omega)
        have d1' : decide (q < s.nodes.length) = true := decide_eq_true hlt
        obtain ⟨n, hn⟩ : ∃ n, s.nodes[q]? = some n := ⟨_, List.getElem?_eq_getElem hlt⟩
        obtain ⟨b2, o2, rfl, hlt', hat'⟩ := HC'.out q n hn
        obtain ⟨c0, c1, c2, c3, c4⟩ := hat'.ext HXW.out hlt'
        have HQ64 : Hid (q < 64) := Lib.hid (by omega)
        have hp2 := two_pows (q := q) (by omega)
        have HB2 : Hid (2 ^ (q + 1) = B * 2) := Lib.hid (by rw [hp2.2, ← hB])
        have HLQ := Lib.hid hlt
        have wq : wrap64 ((q : Int) + 1) = (q : Int) + 1 := IntWalk.wrap64_in _ (by omega)
        have wb : wrap64 ((B : Int) * 2) = ((B * 2 : Nat) : Int) := IntWalk.wrap64_in _ (by omega)
        have wp : wrap64 ((P : Int) + (B : Int)) = ((P + B : Nat) : Int) := IntWalk.wrap64_in _ (by omega)
        have HFQ := Lib.hid (HFF.out q n hn)
        have HBQ := Lib.hid hB
        have HHS := Lib.hid (fun W => RefHas_any rn q HQ64.out W)
        have HFC := Lib.hid (HFR.out n wr)
        unfold ndV at HFC
        clear hat' hn hset hp2 hB hlt hq hlt'
        go_wp2_with fail
        refine HFC.out.mono ?_
        rintro e9 w9 ⟨rfl, hx9⟩
        have HX9 : Hid (Ext W0 w9) := Lib.hid (Ext.trans HXR.out hx9)
        clear hx9 HFC
        cases hf : freeN n
        · have HS : Hid (bitsF F (q + 1) = P) := Lib.hid (by rw [HST.out, HFQ.out]; simp [hf])
          repeat (first | go_values | go_skip | go_guarded | go_step | go_upon | (simp only []))
          go_roundw
          case rel => exact ⟨q + 1, B * 2, by first | (rw [wq]; rfl) | rfl, by rw [HS.out], by first | rfl | rw [wb], HB2.out.symm, HLQ.out, HX9.out⟩
          case measure => first | (rw [wq]; exact measQ HLQ.out) | exact measQ HLQ.out
        · cases rok
          · have HS : Hid (bitsF F (q + 1) = P + B) := Lib.hid (by rw [HST.out, HFQ.out]; simp [hf]; exact HBQ.out.symm)
            repeat (first | go_values | go_skip | go_guarded | go_step | go_upon | (simp only []))
            go_roundw
            case rel => exact ⟨q + 1, B * 2, by first | (rw [wq]; rfl) | rfl, by rw [HS.out]; first | rfl | rw [wp], by first | rfl | rw [wb], HB2.out.symm, HLQ.out, HX9.out⟩
            case measure => first | (rw [wq]; exact measQ HLQ.out) | exact measQ HLQ.out
          · repeat (first | go_values | go_skip | go_guarded | go_step | go_upon | (simp only []))
            refine (HHS.out _).mono ?_
            rintro e8 w8 ⟨rfl, rfl⟩
            cases hh : hasS rn q
            · have HS : Hid (bitsF F (q + 1) = P + B) := Lib.hid (by rw [HST.out, HFQ.out]; simp [hf, hh]; exact HBQ.out.symm)
              repeat (first | go_values | go_skip | go_guarded | go_step | go_upon | (simp only []))
              go_roundw
              case rel => exact ⟨q + 1, B * 2, by first | (rw [wq]; rfl) | rfl, by rw [HS.out]; first | rfl | rw [wp], by first | rfl | rw [wb], HB2.out.symm, HLQ.out, HX9.out⟩
              case measure => first | (rw [wq]; exact measQ HLQ.out) | exact measQ HLQ.out
            · have HS : Hid (bitsF F (q + 1) = P) := Lib.hid (by rw [HST.out, HFQ.out]; simp [hf, hh])
              repeat (first | go_values | go_skip | go_guarded | go_step | go_upon | (simp only []))
              go_roundw
              case rel => exact ⟨q + 1, B * 2, by first | (rw [wq]; rfl) | rfl, by rw [HS.out], by first | rfl | rw [wb], HB2.out.symm, HLQ.out, HX9.out⟩
              case measure => first | (rw [wq]; exact measQ HLQ.out) | exact measQ HLQ.out
      · have d1 : decide ((q : Int) < (s.nodes.length : Int)) = false := decide_eq_false (by omega)
        have d1' : decide (q < s.nodes.length) = false := decide_eq_false hlt
        have HE := Lib.hid (HAA.out P (by rw [← HPP.out, show q = s.nodes.length by omega]))
        have HPC := Lib.hid (fun W hW => HPI.out x (P : Int) W hW)
        clear HAA HST HPI hset hlt hq hB
        obtain ⟨W5, rfl⟩ : ∃ W, W = wr := ⟨_, rfl⟩
        go_upto_region 12 with (fail)
        clear d1 d1' g0
        have d6 : (i : Int) < (s.jobs.length : Int) := by have := HIL.out; omega
        have d7 : (0 : Int) ≤ (i : Int) := by omega
        have wp2 : IntKind.i64.wrap (job - 1) = (i : Int) := (IntWalk.i64_left _).trans HWP.out
        refine held_begin (by kernel_rfl) ?_
        refine held_more (S' := fun W' : World => Ext W5 W') (fun _ _ => True.intro) ?_
        have hSx : (fun W' : World => Ext W5 W') W5.drew := Below.drewN' (Ext.refl W5) 1
        refine held_take (i := 0) (v := ?_) rfl (by kernel_rfl) (by kernel_rfl) (by kernel_rfl) (by rfl) (by first | assumption | exact True.intro) ?_ ?_
        rotate_left
        · (intro W hSw; obtain ⟨g0, g1, g2, g3, g4, g5⟩ := Blk.six (HBR.out.ext hSw); obtain ⟨q0, q1, q2, q3, q4, q5, q6, q7, q8, q9, q10, q11⟩ := HAT.out.ext (Ext.trans HXW.out hSw) HLT.out; go_simp; (try with_reducible rfl))
        try simp only [Act.put, List.setIfInBounds_toArray, List.set_cons_zero, List.set_cons_succ]
        refine held_take (i := 1) (v := ?_) rfl (by kernel_rfl) (by kernel_rfl) (by kernel_rfl) (by rfl) (by first | assumption | exact True.intro) ?_ ?_
        rotate_left
        · (intro W hSw; obtain ⟨g0, g1, g2, g3, g4, g5⟩ := Blk.six (HBR.out.ext hSw); obtain ⟨q0, q1, q2, q3, q4, q5, q6, q7, q8, q9, q10, q11⟩ := HAT.out.ext (Ext.trans HXW.out hSw) HLT.out; go_simp; (try with_reducible rfl))
        try simp only [Act.put, List.setIfInBounds_toArray, List.set_cons_zero, List.set_cons_succ]
        refine held_take (i := 2) (v := ?_) rfl (by kernel_rfl) (by kernel_rfl) (by kernel_rfl) (by rfl) (by first | assumption | exact True.intro) ?_ ?_
        rotate_left
        · (intro W hSw; obtain ⟨g0, g1, g2, g3, g4, g5⟩ := Blk.six (HBR.out.ext hSw); obtain ⟨q0, q1, q2, q3, q4, q5, q6, q7, q8, q9, q10, q11⟩ := HAT.out.ext (Ext.trans HXW.out hSw) HLT.out; go_simp; (try with_reducible rfl))
        try simp only [Act.put, List.setIfInBounds_toArray, List.set_cons_zero, List.set_cons_succ]
        refine held_take (i := 3) (v := ?_) rfl (by kernel_rfl) (by kernel_rfl) (by kernel_rfl) (by rfl) (by first | assumption | exact True.intro) ?_ ?_
        rotate_left
        · (intro W hSw; obtain ⟨g0, g1, g2, g3, g4, g5⟩ := Blk.six (HBR.out.ext hSw); obtain ⟨q0, q1, q2, q3, q4, q5, q6, q7, q8, q9, q10, q11⟩ := HAT.out.ext (Ext.trans HXW.out hSw) HLT.out; go_simp; (try with_reducible rfl))
        try simp only [Act.put, List.setIfInBounds_toArray, List.set_cons_zero, List.set_cons_succ]
        refine held_take (i := 4) (v := ?_) rfl (by kernel_rfl) (by kernel_rfl) (by kernel_rfl) (by rfl) (by first | assumption | exact True.intro) ?_ ?_
        rotate_left
        · (intro W hSw; obtain ⟨g0, g1, g2, g3, g4, g5⟩ := Blk.six (HBR.out.ext hSw); obtain ⟨q0, q1, q2, q3, q4, q5, q6, q7, q8, q9, q10, q11⟩ := HAT.out.ext (Ext.trans HXW.out hSw) HLT.out; go_simp; (try with_reducible rfl))
        try simp only [Act.put, List.setIfInBounds_toArray, List.set_cons_zero, List.set_cons_succ]
        refine held_take (i := 5) (v := ?_) rfl (by kernel_rfl) (by kernel_rfl) (by kernel_rfl) (by rfl) (by first | assumption | exact True.intro) ?_ ?_
        rotate_left
        · (intro W hSw; obtain ⟨g0, g1, g2, g3, g4, g5⟩ := Blk.six (HBR.out.ext hSw); obtain ⟨q0, q1, q2, q3, q4, q5, q6, q7, q8, q9, q10, q11⟩ := HAT.out.ext (Ext.trans HXW.out hSw) HLT.out; go_simp; (try with_reducible rfl))
        try simp only [Act.put, List.setIfInBounds_toArray, List.set_cons_zero, List.set_cons_succ]
        refine held_take (i := 6) (v := ?_) rfl (by kernel_rfl) (by kernel_rfl) (by kernel_rfl) (by rfl) (by first | assumption | exact True.intro) ?_ ?_
        rotate_left
        · (intro W hSw; obtain ⟨g0, g1, g2, g3, g4, g5⟩ := Blk.six (HBR.out.ext hSw); obtain ⟨q0, q1, q2, q3, q4, q5, q6, q7, q8, q9, q10, q11⟩ := HAT.out.ext (Ext.trans HXW.out hSw) HLT.out; go_simp; (try with_reducible rfl))
        try simp only [Act.put, List.setIfInBounds_toArray, List.set_cons_zero, List.set_cons_succ]
        refine held_take (i := 7) (v := ?_) rfl (by kernel_rfl) (by kernel_rfl) (by kernel_rfl) (by rfl) (by first | assumption | exact True.intro) ?_ ?_
        rotate_left
        · (intro W hSw; obtain ⟨g0, g1, g2, g3, g4, g5⟩ := Blk.six (HBR.out.ext hSw); obtain ⟨q0, q1, q2, q3, q4, q5, q6, q7, q8, q9, q10, q11⟩ := HAT.out.ext (Ext.trans HXW.out hSw) HLT.out; go_simp; (try with_reducible rfl))
        try simp only [Act.put, List.setIfInBounds_toArray, List.set_cons_zero, List.set_cons_succ]
        clear hSx
        refine held_op (i := 8) (by kernel_rfl) rfl (fun K hK => ?_)
        go_simp
        go_at_call 28
        refine (HPC.out _ (Ext.trans HXW.out (Below.drewN' (Ext.refl W5) 1))).mono ?_
        rintro e6 w6 ⟨rfl, hx6⟩
        have HX6 : Hid (Ext W5 w6) := Lib.hid (Ext.trans (Below.drewN' (Ext.refl W5) 1) hx6)
        clear hx6
        refine hK _ _ (HX6.out) (fun hSx => ?_)
        clear hK K
        try simp only [Act.put, List.setIfInBounds_toArray, List.set_cons_zero, List.set_cons_succ]
        refine held_take (i := 9) (v := ?_) rfl (by kernel_rfl) (by kernel_rfl) (by kernel_rfl) (by rfl) (by first | assumption | exact True.intro) ?_ ?_
        rotate_left
        · (intro W hSw; go_simp; (try with_reducible rfl))
        try simp only [Act.put, List.setIfInBounds_toArray, List.set_cons_zero, List.set_cons_succ]
        refine held_take (i := 10) (v := ?_) rfl (by kernel_rfl) (by kernel_rfl) (by kernel_rfl) (by rfl) (by first | assumption | exact True.intro) ?_ ?_
        rotate_left
        · (intro W hSw; go_simp; (try with_reducible rfl))
        try simp only [Act.put, List.setIfInBounds_toArray, List.set_cons_zero, List.set_cons_succ]
        refine held_take (i := 11) (v := ?_) rfl (by kernel_rfl) (by kernel_rfl) (by kernel_rfl) (by rfl) (by first | assumption | exact True.intro) ?_ ?_
        rotate_left
        · (intro W hSw; go_simp; (try with_reducible rfl))
        try simp only [Act.put, List.setIfInBounds_toArray, List.set_cons_zero, List.set_cons_succ]
        refine held_take (i := 12) (v := ?_) rfl (by kernel_rfl) (by kernel_rfl) (by kernel_rfl) (by rfl) (by first | assumption | exact True.intro) ?_ ?_
        rotate_left
        · (intro W hSw; go_simp; (try with_reducible rfl))
        try simp only [Act.put, List.setIfInBounds_toArray, List.set_cons_zero, List.set_cons_succ]
        refine held_take (i := 13) (v := ?_) rfl (by kernel_rfl) (by kernel_rfl) (by kernel_rfl) (by rfl) (by first | assumption | exact True.intro) ?_ ?_
        rotate_left
        · (intro W hSw; go_simp; (try with_reducible rfl))
        try simp only [Act.put, List.setIfInBounds_toArray, List.set_cons_zero, List.set_cons_succ]
        clear hSx
        refine wpAnyH_done (by kernel_rfl) ?_ _
        refine NoPanic.normal ?_
        clear wp2 d6 d7
        obtain ⟨⟨pn, pok⟩, hpp⟩ : ∃ p, p = pickS s x (P : Int) := ⟨_, rfl⟩
        rw [← hpp] at HE ⊢
        clear hpp
        have HX7 : Hid (Ext w w6) := Lib.hid (Ext.trans HXW.out HX6.out)
        have HB7 := Lib.hid (HBR.out.ext HX6.out)
        have HA7 := Lib.hid (HAT.out.ext HX7.out HLT.out)
        cases pok
        · obtain ⟨g0, g1, g2, g3, g4, g5⟩ := Blk.six HB7.out
          have HNC := Lib.hid (HNW.out w6 HX7.out)
          obtain ⟨⟨nn, nok⟩, hnn⟩ : ∃ p, p = nowS s job := ⟨_, rfl⟩
          rw [← hnn] at HE HNC
          clear hnn
          go_wp2_with fail
          refine HNC.out.mono ?_
          rintro e8 w8 ⟨rfl, hx8⟩
          have HX8 : Hid (Ext w w8) := Lib.hid (Ext.trans HX7.out hx8)
          have HB8 := Lib.hid (HB7.out.ext hx8)
          have HA8 := Lib.hid (HAT.out.ext HX8.out HLT.out)
          clear hx8 HNC g0 g1 g2 g3 g4 g5
          cases rok
          · have HZ : Hid (PK = (0, false)) := Lib.hid (by rw [HE.out]; simp)
            go_wp2
            go_ret2
            exact ⟨by rw [HZ.out]; rfl, HX8.out⟩
          · cases nok
            · have HZ : Hid (PK = (0, false)) := Lib.hid (by rw [HE.out]; simp)
              go_wp2
              go_ret2
              exact ⟨by rw [HZ.out]; rfl, HX8.out⟩
            · have g1 := HB8.out.cell 1
              have q4 := HA8.out.c4
              have wp := HWP.out
              have d5 : decide (i < s.jobs.length) = true := decide_eq_true HIL.out
              have ww := HWW.out
              by_cases a1 : now + x.work ≤ rt
              · have f1 : decide (now + x.work ≤ rt) = true := decide_eq_true a1
                have HZ : Hid (PK = (nn, true)) := Lib.hid (by rw [HE.out]; simp [a1])
                go_wp2
                go_ret2
                exact ⟨by rw [HZ.out]; rfl, HX8.out⟩
              · have f1 : decide (now + x.work ≤ rt) = false := decide_eq_false a1
                have HZ : Hid (PK = (0, false)) := Lib.hid (by rw [HE.out]; simp [a1])
                go_wp2
                go_ret2
                exact ⟨by rw [HZ.out]; rfl, HX8.out⟩
        · have HZ : Hid (PK = (pn, true)) := Lib.hid (by rw [HE.out]; simp)
          go_wp2
          go_ret2
          exact ⟨by rw [HZ.out]; rfl, HX7.out⟩

end Go.Proofs.Ytgjidkhfnnghiaa

/- The reference of layer 16: who starts. -/
namespace Go.Proofs.Ytgjidkhfnnghiaa
open Go.RowKit

set_option maxRecDepth 100000 in
set_option maxHeartbeats 16000000 in
theorem RefNext_any (vn vj : Value) (s : St) (now : Int) (w : World) (hrn : RdNd w vn s.nodes) (hr : RdJb w vj s.jobs) (hS : OkS s) (hn0 : 0 ≤ now) (hn1 : now ≤ 1000000) :
    Calls Try.prog 10 #[stV vn vj s, .int .i64 now] w fun e w' => e = .returned (.tuple #[.int .i64 (nextS s now).t, .int .i64 (nextS s now).n, .bool (nextS s now).ok]) ∧ Ext w w' := by
  have HRN := Lib.hid hrn
  have HRJ := Lib.hid hr
  obtain ⟨hx, hb⟩ := boxSt vn vj s w 27
  have hJ := hS.nj
  have hN := hS.nn
  have HLN : Hid (∀ W, Ext w W → Calls Try.prog 25 #[stV vn vj s] W fun e w' => ∃ v', e = .returned v' ∧ Grew W.heap.size 3 (.slice none 0 0) W ((lineL s.jobs).map J) v' w') := Lib.hid fun W hW => RefLine_any vn vj s W (HRJ.out.ext hW) (by omega)
  have HFI : Hid (∀ z W, Ext w W → Calls Try.prog 8 #[stV vn vj s, .int .i64 z, .int .i64 now] W fun e w' => e = .returned (.tuple #[.int .i64 (fillS s z now).1, .bool (fillS s z now).2]) ∧ Ext W w') := Lib.hid fun z W hW => RefFill_any vn vj s z now W (HRN.out.ext hW) (HRJ.out.ext hW) hS hn0 hn1
  have HNW : Hid (∀ z W, Ext w W → Calls Try.prog 29 #[stV vn vj s, .int .i64 z] W fun e w' => e = .returned (.tuple #[.int .i64 (nowS s z).1, .bool (nowS s z).2]) ∧ Ext W w') := Lib.hid fun z W hW => RefNow_any vn vj s z W (HRN.out.ext hW) (HRJ.out.ext hW) hN (by omega)
  unfold stV at HLN HFI HNW
  unfold stV
  unfold stC at hx hb
  obtain ⟨PK, hPK⟩ : ∃ z, z = nextS s now := ⟨_, rfl⟩
  rw [← hPK]
  have HLL : Hid ((lineL s.jobs).length ≤ 1000000) := Lib.hid (Nat.le_trans (lineTo_len s.jobs s.jobs.length) (Nat.le_trans (Nat.mul_le_mul hJ hJ) (by decide)))
  obtain ⟨L, hL⟩ : ∃ L, L = lineL s.jobs := ⟨_, rfl⟩
  have HP : Hid (PK = nextF s now 0 L) := Lib.hid (by rw [hPK, hL]; rfl)
  rw [← hL] at HLN HLL
  have HX := Lib.hid hx
  have HB := Lib.hid hb
  clear hx hb hr hPK hrn HRN HRJ hL hJ hN hn0 hn1
  go_enter Try.func10, Try.ntmps10
  go_upto_region 1 with (fail)
  obtain ⟨W0, hW0⟩ : ∃ W0, W0 = w.alloc (.cells #[vn, vj, .int .i64 s.goal, .int .i64 s.prior, .int .i64 s.mode, .int .i64 s.term] 27) := ⟨_, rfl⟩
  rw [← hW0] at HX HB ⊢
  clear hW0
  obtain ⟨g0, g1, g2, g3, g4, g5⟩ := Blk.six HB.out
  have HLC := Lib.hid (HLN.out W0 HX.out)
  clear HLN
  go_wp2_with fail
  refine HLC.out.mono ?_
  rintro e1 w1 ⟨v1, rfl, hg1⟩
  have HX1 : Hid (Ext W0 w1) := Lib.hid hg1.ext
  obtain ⟨N1, hN1⟩ : ∃ N : Nat, N = L.length := ⟨_, rfl⟩
  obtain ⟨A1, c1, e1, -, -, h1⟩ := Rd.own hg1.own
  rw [List.length_map, ← hN1] at e1 h1
  subst e1
  have HC1 : Hid (∀ (q : Nat) (p : Nat), L[q]? = some p → ∃ b o, A1 = some ⟨b, o, none⟩ ∧ b < w1.heap.size ∧ w1.cell? ⟨b, o + q, none⟩ = some (.int .i64 ((p : Int) + 1))) := Lib.hid fun q p hq => by
    obtain ⟨b, o, hA, hb, hc⟩ := h1 (by rw [hN1]; have := (List.getElem?_eq_some_iff.1 hq).1; omega)
    exact ⟨b, o, hA, hb, hc q _ (by rw [List.getElem?_map, hq]; rfl)⟩
  have HNL : Hid (N1 = L.length ∧ N1 ≤ 1000000) := Lib.hid ⟨hN1, by rw [hN1]; exact HLL.out⟩
  clear hg1 hN1 h1 HLC HLL g0 g1 g2 g3 g4 g5
  simp only []
  go_wp2_with fail
  go_loopw [8] (fun i wr => ∃ q : Nat, i = .int .i64 q ∧ q ≤ N1 ∧ PK = nextF s now q (L.drop q) ∧ Ext w1 wr) (fun i _ => N1 - (intOf i).toNat)
  case atStart => exact ⟨0, rfl, Nat.zero_le _, HP.out, Ext.refl _⟩
  case round =>
    obtain ⟨q, rfl, hq, hpk, hxr⟩ := hrel
    have HXR : Hid (Ext w1 wr) := Lib.hid hxr
    have HXW : Hid (Ext w wr) := Lib.hid (Ext.trans HX.out (Ext.trans HX1.out hxr))
    have HBR := Lib.hid (HB.out.ext (Ext.trans HX1.out hxr))
    have HPK := Lib.hid hpk
    clear hpk hxr
    by_cases hlt : q < N1
    · have d1 : decide ((q : Int) < (N1 : Int)) = true := decide_eq_true (by omega)
      have d1' : decide (q < N1) = true := decide_eq_true hlt
      have HLT := Lib.hid hlt
      obtain ⟨p, hp⟩ : ∃ p, L[q]? = some p := ⟨_, List.getElem?_eq_getElem (by rw [← HNL.out.1]; exact hlt)⟩
      obtain ⟨b, o, rfl, hlt', hcp⟩ := HC1.out q p hp
      have HST : Hid (nextF s now q (L.drop q) = if (if q = 0 then nowS s ((p : Int) + 1) else fillS s ((p : Int) + 1) now).2 = true then ⟨(p : Int) + 1, (if q = 0 then nowS s ((p : Int) + 1) else fillS s ((p : Int) + 1) now).1, true⟩ else nextF s now (q + 1) (L.drop (q + 1))) := Lib.hid (by rw [List.drop_eq_getElem_cons (by rw [← HNL.out.1]; exact hlt)]; rw [show L[q]'(by rw [← HNL.out.1]; exact hlt) = p by have := List.getElem?_eq_getElem (l := L) (i := q) (by rw [← HNL.out.1]; exact hlt); rw [hp] at this; exact (Option.some.inj this).symm]; rfl)
      obtain ⟨z, hz⟩ : ∃ z, z = (p : Int) + 1 := ⟨_, rfl⟩
      rw [← hz] at hcp HST
      have HCP := Lib.hid (And.intro hcp hlt')
      have d6 : (q : Int) < (N1 : Int) := by omega
      have d7 : (0 : Int) ≤ (q : Int) := by omega
      have HWQ : Hid (wrap64 ((q : Int) + 1) = (q : Int) + 1) := Lib.hid (IntWalk.wrap64_in _ (by have := HNL.out.2; omega))
      clear hp hz hcp hlt' hlt hq
      obtain ⟨WR, rfl⟩ : ∃ W, W = wr := ⟨_, rfl⟩
      have g0 := HBR.out.cell 0
      go_upto_region 5 with (fail)
      clear d1 d1' g0
      refine held_begin (by kernel_rfl) ?_
      refine held_more (S' := fun W' : World => Ext WR W') (fun _ _ => True.intro) ?_
      have hSx : (fun W' : World => Ext WR W') WR.drew := Below.drewN' (Ext.refl WR) 1
      refine held_take (i := 0) (v := ?_) rfl (by kernel_rfl) (by kernel_rfl) (by kernel_rfl) (by rfl) (by first | assumption | exact True.intro) ?_ ?_
      rotate_left
      · (intro W hSw; obtain ⟨g0, g1, g2, g3, g4, g5⟩ := Blk.six (HBR.out.ext (hSw)); have zc : W.cell? ⟨b, o + q, none⟩ = some (.int .i64 z) := (Ext.trans HXR.out (hSw)).cellOf HCP.out.1 HCP.out.2; go_simp; (try with_reducible rfl))
      try simp only [Act.put, List.setIfInBounds_toArray, List.set_cons_zero, List.set_cons_succ]
      refine held_take (i := 1) (v := ?_) rfl (by kernel_rfl) (by kernel_rfl) (by kernel_rfl) (by rfl) (by first | assumption | exact True.intro) ?_ ?_
      rotate_left
      · (intro W hSw; obtain ⟨g0, g1, g2, g3, g4, g5⟩ := Blk.six (HBR.out.ext (hSw)); have zc : W.cell? ⟨b, o + q, none⟩ = some (.int .i64 z) := (Ext.trans HXR.out (hSw)).cellOf HCP.out.1 HCP.out.2; go_simp; (try with_reducible rfl))
      try simp only [Act.put, List.setIfInBounds_toArray, List.set_cons_zero, List.set_cons_succ]
      refine held_take (i := 2) (v := ?_) rfl (by kernel_rfl) (by kernel_rfl) (by kernel_rfl) (by rfl) (by first | assumption | exact True.intro) ?_ ?_
      rotate_left
      · (intro W hSw; obtain ⟨g0, g1, g2, g3, g4, g5⟩ := Blk.six (HBR.out.ext (hSw)); have zc : W.cell? ⟨b, o + q, none⟩ = some (.int .i64 z) := (Ext.trans HXR.out (hSw)).cellOf HCP.out.1 HCP.out.2; go_simp; (try with_reducible rfl))
      try simp only [Act.put, List.setIfInBounds_toArray, List.set_cons_zero, List.set_cons_succ]
      refine held_take (i := 3) (v := ?_) rfl (by kernel_rfl) (by kernel_rfl) (by kernel_rfl) (by rfl) (by first | assumption | exact True.intro) ?_ ?_
      rotate_left
      · (intro W hSw; obtain ⟨g0, g1, g2, g3, g4, g5⟩ := Blk.six (HBR.out.ext (hSw)); have zc : W.cell? ⟨b, o + q, none⟩ = some (.int .i64 z) := (Ext.trans HXR.out (hSw)).cellOf HCP.out.1 HCP.out.2; go_simp; (try with_reducible rfl))
      try simp only [Act.put, List.setIfInBounds_toArray, List.set_cons_zero, List.set_cons_succ]
      refine held_take (i := 4) (v := ?_) rfl (by kernel_rfl) (by kernel_rfl) (by kernel_rfl) (by rfl) (by first | assumption | exact True.intro) ?_ ?_
      rotate_left
      · (intro W hSw; obtain ⟨g0, g1, g2, g3, g4, g5⟩ := Blk.six (HBR.out.ext (hSw)); have zc : W.cell? ⟨b, o + q, none⟩ = some (.int .i64 z) := (Ext.trans HXR.out (hSw)).cellOf HCP.out.1 HCP.out.2; go_simp; (try with_reducible rfl))
      try simp only [Act.put, List.setIfInBounds_toArray, List.set_cons_zero, List.set_cons_succ]
      refine held_take (i := 5) (v := ?_) rfl (by kernel_rfl) (by kernel_rfl) (by kernel_rfl) (by rfl) (by first | assumption | exact True.intro) ?_ ?_
      rotate_left
      · (intro W hSw; obtain ⟨g0, g1, g2, g3, g4, g5⟩ := Blk.six (HBR.out.ext (hSw)); have zc : W.cell? ⟨b, o + q, none⟩ = some (.int .i64 z) := (Ext.trans HXR.out (hSw)).cellOf HCP.out.1 HCP.out.2; go_simp; (try with_reducible rfl))
      try simp only [Act.put, List.setIfInBounds_toArray, List.set_cons_zero, List.set_cons_succ]
      clear hSx
      refine held_op (i := 6) (by kernel_rfl) rfl (fun K hK => ?_)
      go_simp
      go_at_call 8
      refine (HFI.out z _ (Ext.trans HXW.out (Below.drewN' (Ext.refl WR) 1))).mono ?_
      rintro e4 w4 ⟨rfl, hx4⟩
      have HX4 : Hid (Ext WR w4) := Lib.hid (Ext.trans (Below.drewN' (Ext.refl WR) 1) hx4)
      clear hx4
      refine hK _ _ (HX4.out) (fun hSx => ?_)
      clear hK K
      try simp only [Act.put, List.setIfInBounds_toArray, List.set_cons_zero, List.set_cons_succ]
      refine held_take (i := 7) (v := ?_) rfl (by kernel_rfl) (by kernel_rfl) (by kernel_rfl) (by rfl) (by first | assumption | exact True.intro) ?_ ?_
      rotate_left
      · (intro W hSw; go_simp; (try with_reducible rfl))
      try simp only [Act.put, List.setIfInBounds_toArray, List.set_cons_zero, List.set_cons_succ]
      refine held_take (i := 8) (v := ?_) rfl (by kernel_rfl) (by kernel_rfl) (by kernel_rfl) (by rfl) (by first | assumption | exact True.intro) ?_ ?_
      rotate_left
      · (intro W hSw; go_simp; (try with_reducible rfl))
      try simp only [Act.put, List.setIfInBounds_toArray, List.set_cons_zero, List.set_cons_succ]
      refine held_take (i := 9) (v := ?_) rfl (by kernel_rfl) (by kernel_rfl) (by kernel_rfl) (by rfl) (by first | assumption | exact True.intro) ?_ ?_
      rotate_left
      · (intro W hSw; go_simp; (try with_reducible rfl))
      try simp only [Act.put, List.setIfInBounds_toArray, List.set_cons_zero, List.set_cons_succ]
      refine held_take (i := 10) (v := ?_) rfl (by kernel_rfl) (by kernel_rfl) (by kernel_rfl) (by rfl) (by first | assumption | exact True.intro) ?_ ?_
      rotate_left
      · (intro W hSw; go_simp; (try with_reducible rfl))
      try simp only [Act.put, List.setIfInBounds_toArray, List.set_cons_zero, List.set_cons_succ]
      refine held_take (i := 11) (v := ?_) rfl (by kernel_rfl) (by kernel_rfl) (by kernel_rfl) (by rfl) (by first | assumption | exact True.intro) ?_ ?_
      rotate_left
      · (intro W hSw; go_simp; (try with_reducible rfl))
      try simp only [Act.put, List.setIfInBounds_toArray, List.set_cons_zero, List.set_cons_succ]
      clear hSx
      refine wpAnyH_done (by kernel_rfl) ?_ _
      refine NoPanic.normal ?_
      obtain ⟨⟨fn, fok⟩, hfp⟩ : ∃ p, p = fillS s z now := ⟨_, rfl⟩
      rw [← hfp] at HST ⊢
      clear hfp
      by_cases hq0 : q = 0
      · have f0 : ((q : Int) == 0) = true := by rw [hq0]; rfl
        rw [if_pos hq0] at HST
        clear hq0
        go_upto_region 7 with (fail)
        clear f0
        refine held_begin (by kernel_rfl) ?_
        refine held_more (S' := fun W' : World => Ext w4 W') (fun _ _ => True.intro) ?_
        have hSx : (fun W' : World => Ext w4 W') w4.drew := Below.drewN' (Ext.refl w4) 1
        refine held_take (i := 0) (v := ?_) rfl (by kernel_rfl) (by kernel_rfl) (by kernel_rfl) (by rfl) (by first | assumption | exact True.intro) ?_ ?_
        rotate_left
        · (intro W hSw; obtain ⟨g0, g1, g2, g3, g4, g5⟩ := Blk.six (HBR.out.ext (Ext.trans HX4.out hSw)); have zc : W.cell? ⟨b, o + q, none⟩ = some (.int .i64 z) := (Ext.trans HXR.out (Ext.trans HX4.out <| hSw)).cellOf HCP.out.1 HCP.out.2; go_simp; (try with_reducible rfl))
        try simp only [Act.put, List.setIfInBounds_toArray, List.set_cons_zero, List.set_cons_succ]
        refine held_take (i := 1) (v := ?_) rfl (by kernel_rfl) (by kernel_rfl) (by kernel_rfl) (by rfl) (by first | assumption | exact True.intro) ?_ ?_
        rotate_left
        · (intro W hSw; obtain ⟨g0, g1, g2, g3, g4, g5⟩ := Blk.six (HBR.out.ext (Ext.trans HX4.out hSw)); have zc : W.cell? ⟨b, o + q, none⟩ = some (.int .i64 z) := (Ext.trans HXR.out (Ext.trans HX4.out <| hSw)).cellOf HCP.out.1 HCP.out.2; go_simp; (try with_reducible rfl))
        try simp only [Act.put, List.setIfInBounds_toArray, List.set_cons_zero, List.set_cons_succ]
        refine held_take (i := 2) (v := ?_) rfl (by kernel_rfl) (by kernel_rfl) (by kernel_rfl) (by rfl) (by first | assumption | exact True.intro) ?_ ?_
        rotate_left
        · (intro W hSw; obtain ⟨g0, g1, g2, g3, g4, g5⟩ := Blk.six (HBR.out.ext (Ext.trans HX4.out hSw)); have zc : W.cell? ⟨b, o + q, none⟩ = some (.int .i64 z) := (Ext.trans HXR.out (Ext.trans HX4.out <| hSw)).cellOf HCP.out.1 HCP.out.2; go_simp; (try with_reducible rfl))
        try simp only [Act.put, List.setIfInBounds_toArray, List.set_cons_zero, List.set_cons_succ]
        refine held_take (i := 3) (v := ?_) rfl (by kernel_rfl) (by kernel_rfl) (by kernel_rfl) (by rfl) (by first | assumption | exact True.intro) ?_ ?_
        rotate_left
        · (intro W hSw; obtain ⟨g0, g1, g2, g3, g4, g5⟩ := Blk.six (HBR.out.ext (Ext.trans HX4.out hSw)); have zc : W.cell? ⟨b, o + q, none⟩ = some (.int .i64 z) := (Ext.trans HXR.out (Ext.trans HX4.out <| hSw)).cellOf HCP.out.1 HCP.out.2; go_simp; (try with_reducible rfl))
        try simp only [Act.put, List.setIfInBounds_toArray, List.set_cons_zero, List.set_cons_succ]
        refine held_take (i := 4) (v := ?_) rfl (by kernel_rfl) (by kernel_rfl) (by kernel_rfl) (by rfl) (by first | assumption | exact True.intro) ?_ ?_
        rotate_left
        · (intro W hSw; obtain ⟨g0, g1, g2, g3, g4, g5⟩ := Blk.six (HBR.out.ext (Ext.trans HX4.out hSw)); have zc : W.cell? ⟨b, o + q, none⟩ = some (.int .i64 z) := (Ext.trans HXR.out (Ext.trans HX4.out <| hSw)).cellOf HCP.out.1 HCP.out.2; go_simp; (try with_reducible rfl))
        try simp only [Act.put, List.setIfInBounds_toArray, List.set_cons_zero, List.set_cons_succ]
        clear hSx
        refine held_op (i := 5) (by kernel_rfl) rfl (fun K hK => ?_)
        go_simp
        go_at_call 29
        refine (HNW.out z _ (Ext.trans HXW.out (Ext.trans HX4.out (Below.drewN' (Ext.refl w4) 1)))).mono ?_
        rintro e6 w6 ⟨rfl, hx6⟩
        have HX6 : Hid (Ext w4 w6) := Lib.hid (Ext.trans (Below.drewN' (Ext.refl w4) 1) hx6)
        clear hx6
        refine hK _ _ (HX6.out) (fun hSx => ?_)
        clear hK K
        try simp only [Act.put, List.setIfInBounds_toArray, List.set_cons_zero, List.set_cons_succ]
        refine held_take (i := 6) (v := ?_) rfl (by kernel_rfl) (by kernel_rfl) (by kernel_rfl) (by rfl) (by first | assumption | exact True.intro) ?_ ?_
        rotate_left
        · (intro W hSw; go_simp; (try with_reducible rfl))
        try simp only [Act.put, List.setIfInBounds_toArray, List.set_cons_zero, List.set_cons_succ]
        refine held_take (i := 7) (v := ?_) rfl (by kernel_rfl) (by kernel_rfl) (by kernel_rfl) (by rfl) (by first | assumption | exact True.intro) ?_ ?_
        rotate_left
        · (intro W hSw; go_simp; (try with_reducible rfl))
        try simp only [Act.put, List.setIfInBounds_toArray, List.set_cons_zero, List.set_cons_succ]
        refine held_take (i := 8) (v := ?_) rfl (by kernel_rfl) (by kernel_rfl) (by kernel_rfl) (by rfl) (by first | assumption | exact True.intro) ?_ ?_
        rotate_left
        · (intro W hSw; go_simp; (try with_reducible rfl))
        try simp only [Act.put, List.setIfInBounds_toArray, List.set_cons_zero, List.set_cons_succ]
        refine held_take (i := 9) (v := ?_) rfl (by kernel_rfl) (by kernel_rfl) (by kernel_rfl) (by rfl) (by first | assumption | exact True.intro) ?_ ?_
        rotate_left
        · (intro W hSw; go_simp; (try with_reducible rfl))
        try simp only [Act.put, List.setIfInBounds_toArray, List.set_cons_zero, List.set_cons_succ]
        refine held_take (i := 10) (v := ?_) rfl (by kernel_rfl) (by kernel_rfl) (by kernel_rfl) (by rfl) (by first | assumption | exact True.intro) ?_ ?_
        rotate_left
        · (intro W hSw; go_simp; (try with_reducible rfl))
        try simp only [Act.put, List.setIfInBounds_toArray, List.set_cons_zero, List.set_cons_succ]
        clear hSx
        refine wpAnyH_done (by kernel_rfl) ?_ _
        refine NoPanic.normal ?_
        have HX7 : Hid (Ext WR w6) := Lib.hid (Ext.trans HX4.out HX6.out)
        obtain ⟨⟨nn, nok⟩, hnp⟩ : ∃ p, p = nowS s z := ⟨_, rfl⟩
        rw [← hnp] at HST ⊢
        clear hnp
        cases nok
        · have HZ : Hid (PK = nextF s now (q + 1) (L.drop (q + 1))) := Lib.hid (by rw [HPK.out, HST.out]; simp [])
          have wq := HWQ.out
          clear HST d6 d7
          repeat (first | go_values | go_skip | go_guarded | go_step | go_upon | (simp only []))
          go_roundw
          case rel => exact ⟨q + 1, by first | (rw [wq]; rfl) | rfl, HLT.out, HZ.out, Ext.trans HXR.out HX7.out⟩
          case measure => first | (rw [wq]; exact measQ HLT.out) | exact measQ HLT.out
        · have HZ : Hid (PK = ⟨z, nn, true⟩) := Lib.hid (by rw [HPK.out, HST.out]; simp [])
          have HBZ := Lib.hid (HBR.out.ext HX7.out)
          have zc := (Ext.trans HXR.out HX7.out).cellOf HCP.out.1 HCP.out.2
          clear HST
          go_wp2
          go_ret3
          exact ⟨by rw [HZ.out]; rfl, Ext.trans HXW.out HX7.out⟩
      · have f0 : ((q : Int) == 0) = false := by rw [beq_eq_false_iff_ne]; omega
        rw [if_neg hq0] at HST
        clear hq0
        cases fok
        · have HZ : Hid (PK = nextF s now (q + 1) (L.drop (q + 1))) := Lib.hid (by rw [HPK.out, HST.out]; simp [])
          have wq := HWQ.out
          clear HST d6 d7
          repeat (first | go_values | go_skip | go_guarded | go_step | go_upon | (simp only []))
          go_roundw
          case rel => exact ⟨q + 1, by first | (rw [wq]; rfl) | rfl, HLT.out, HZ.out, Ext.trans HXR.out HX4.out⟩
          case measure => first | (rw [wq]; exact measQ HLT.out) | exact measQ HLT.out
        · have HZ : Hid (PK = ⟨z, fn, true⟩) := Lib.hid (by rw [HPK.out, HST.out]; simp [])
          have HBZ := Lib.hid (HBR.out.ext HX4.out)
          have zc := (Ext.trans HXR.out HX4.out).cellOf HCP.out.1 HCP.out.2
          clear HST
          go_wp2
          go_ret3
          exact ⟨by rw [HZ.out]; rfl, Ext.trans HXW.out HX4.out⟩
    · have d1 : decide ((q : Int) < (N1 : Int)) = false := decide_eq_false (by omega)
      have d1' : decide (q < N1) = false := decide_eq_false hlt
      have HZ : Hid (PK = ⟨0, 0, false⟩) := Lib.hid (by rw [HPK.out, List.drop_eq_nil_of_le (by rw [← HNL.out.1]; omega)]; rfl)
      go_wp2
      go_ret3
      exact ⟨by rw [HZ.out]; rfl, HXW.out⟩

end Go.Proofs.Ytgjidkhfnnghiaa

/- From a contract to the row of a law that lists package-level variables; structs of numbers, slices of structs, and states as arguments. No function of the program is named here. -/
namespace Go.Proofs.Ytgjidkhfnnghiaa
open Go.Joins Go.ChangeShapes Go.WideShapes Go.ChangeAt Go.RowKit Go.Deep

section
variable {H : Type} {enc : TypeId × Value → H} {P : Program}
theorem law_liftL {C : Checked} {os : Os} {f : FuncId} {fn : Func} {s : ChangeSpec} {tb : TypeId} (L : List (String × DataW Unit)) (own : ownKnob C.prog.godebug = none) (started : os.Started) (noInit : C.prog.inits.idxOf? f = none) (hfn : C.prog.funcs[f]? = some fn)
    (hl : laidOutB C.prog = true) (hp : (fn.params.toList.all fun t => C.prog.readableRec t && decide (t < C.prog.types.size)) = true) (hres : fn.resultTypes = #[tb]) (htb : C.prog.underlying tb = some .bool) (hv : s.vars = []) (hpv : s.plain.varTypes C.prog = [])
    (hs : ∀ ds : List (DataW H), ds.length = fn.params.toList.length → s.fn H ds = { results := [.lit (.bool true)], args := ds })
    (witness : ∃ (w : World) (tape : Tape) (i : Input), w.os = os ∧ (w.forCall tape i).Shaped C.prog ∧ i.vars = [] ∧ Input.okWide C.prog (w.forCall tape i) .any w.heap.size f i ∧
      ((s.pre enc C.prog fn [] false (w.forCall tape i).memory i.args ∧ laidMetH C.prog L (w.forCall tape i).memory) ∧ sizedMet enc C.prog fn (OpenSpec.ofChange s) false (w.forCall tape i).memory i.args) ∧ ({} : Assume).holds C.prog (lone (Frame.enter C.prog f i.args .normal) [] (w.forCall tape i)))
    (contract : ∀ (W : World) (base : Nat) (args : Array Value) (ds : List (DataW H)) (p : List MemPlace), (∀ (j : Nat) t v, fn.params[j]? = some t → args[j]? = some v → Value.okWide C.prog W .any base t v) →
      DataW.TrodAll enc C.prog W 0 (fun _ => true) true fn.params.toList args.toList ds p → (DataW.weightsEach C.prog fn.params.toList ds).all (· ≤ reachBytes) = true → laidMetH C.prog L W → W.ShapedOpen C.prog →
      Calls C.prog f args W fun e W' => e = .returned (.bool true) ∧ Ext W W') :
    ReturnsInHanded {} C os f .any (fun w args => (s.pre enc C.prog fn [] false w args ∧ laidMetH C.prog L w) ∧ sizedMet enc C.prog fn (OpenSpec.ofChange s) false w args) (s.post enc C.prog fn false true false false) := by
  refine returnsInHanded_of_calls own started noInit witness ?_
  intro w tape i _ hsh _ hok hpre _
  obtain ⟨_, _, _, fn', hfn', _, _, _, _, hval⟩ := hok
  have e : fn' = fn := Option.some.inj (hfn'.symm.trans hfn)
  subst e
  obtain ⟨⟨⟨ds, gs, before, hw, _⟩, hx⟩, hz⟩ := hpre
  have hW := DataW.Whole.of_heap (w' := w.forCall tape i) (by rfl) hw
  have hL : laidMetH C.prog L (w.forCall tape i) := laidMetH.of_heap (by rfl) hx
  have hsz := hz.weights hw
  have hg : gs = [] := by
    obtain ⟨_, _, _, hV, _⟩ := hW
    rw [hv] at hV
    cases gs with
    | nil => rfl
    | cons _ _ => exact hV.elim
  subst hg
  have hsz' : (DataW.weightsEach C.prog fn'.params.toList ds).all (· ≤ reachBytes) = true := by
    have h1 : (DataW.weightsEach C.prog (fn'.params.toList ++ s.plain.varTypes C.prog) (ds ++ [])).all (· ≤ reachBytes) = true := hsz
    rwa [hpv, List.append_nil, List.append_nil] at h1
  have hW' := hW
  obtain ⟨p, q, hA, _, _, _, _⟩ := hW
  have hlen := trodAll_len _ _ _ _ hA
  refine (contract (w.forCall tape i) w.heap.size i.args ds p hval hA hsz' hL hsh).mono fun e W' ⟨he, hx⟩ => ?_
  subst he
  exact ChangeSpec.post_blind (post_true hl hp hres htb hv hW' (hs ds hlen) hx)

/-- A listed variable, wherever it stands on the list. -/
theorem laid_at {n : String} {d : DataW Unit} {W : World} : ∀ (L : List (String × DataW Unit)), (n, d) ∈ L → laidMet P L W → ∃ r, laidMet P ((n, d) :: r) W
  | x :: L, hm, h => by
    rcases List.mem_cons.1 hm with e | hm
    · rw [e]
      exact ⟨L, h⟩
    · exact laid_at L hm h.tail


/-! ### Structs of numbers -/

theorem dec_nums {w : World} {base : Nat} {held : Bool} {r : Reach} {b0 : Nat} {t : TypeId} {fs : Array Field} {v : Value} {d : DataW H} {p : List MemPlace} (hs : P.underlying t = some (.struct fs)) (hone : oneCellFields P fs = true) (hC : P.cellsOf t = fs.size)
    {ti : TypeId} (hta : (fs.all fun f => f.type == ti) = true) (hi : P.underlying ti = some (.int .i64)) (hv : Value.okWide P w r b0 t v) (h : DataW.Trod enc P w base (fun _ => true) held t v d p) : ∃ l : List Int, l.length = fs.size ∧ v = .agg (l.map (Value.int .i64)).toArray := by
  obtain ⟨cs, rfl, hsz⟩ := okWide_struct hs hv
  obtain ⟨fuel, hf⟩ := h
  have hti : ∀ f ∈ fs, P.underlying f.type = some (.int .i64) := fun f hf => by
    obtain ⟨i, hlt, rfl⟩ := Array.getElem_of_mem hf
    have := Array.all_eq_true.1 hta i hlt
    rw [beq_iff_eq] at this
    rw [this]
    exact hi
  obtain ⟨hl, hp⟩ := struct_parts hs hone hC hf
  have hl' : cs.size = fs.size := hsz.trans hC
  refine ⟨cs.toList.map intOf, by simpa using hl', ?_⟩
  congr 1
  apply Array.ext'
  apply List.ext_getElem?
  intro i
  by_cases hi : i < fs.size
  · obtain ⟨u, n, y, hu, hy⟩ := hp i fs[i] (Array.getElem?_eq_getElem hi)
    obtain ⟨z, hz, _, _⟩ := DataW.trod_int (hti _ (Array.getElem_mem hi)) hy
    simp only [List.cons.injEq, and_true] at hz
    subst hz
    have hu' : cs.toList[i]? = some (.int .i64 z) := hu
    simp only [List.getElem?_map, hu', Option.map_some, intOf]
  · rw [List.getElem?_eq_none (by simp; omega), List.getElem?_eq_none (by simp; omega)]

/-! ### Slices of structs -/
/-- As structs_at, of a cell that holds the slice. -/
theorem structs_tr {w : World} {base : Nat} {held : Bool} {m0 : Nat} {t e : TypeId} {fs : Array Field} {V : Value} {x : DataW H × List MemPlace} (ht : P.underlying t = some (.slice e)) (he : P.underlying e = some (.struct fs)) (hone : oneCellFields P fs = true)
    (hC : P.cellsOf e = fs.size) (h0 : 0 < fs.size) (hf : DataW.trod enc P w base (fun _ => true) held m0 t [V] = some x) :
    ∃ A n c, V = .slice A n c ∧ n ≤ c ∧ c ≤ maxLen ∧ (0 < n → ∃ b o, A = some ⟨b, o, none⟩ ∧ b < w.heap.size ∧
      ∀ i, i < n → ∀ (j : Nat) (f : Field), fs[j]? = some f → ∃ u k y, w.cell? ⟨b, o + (i * fs.size + j), none⟩ = some u ∧ DataW.trod enc P w base (fun _ => true) held k f.type [u] = some y) := by
  rcases open_slice ht hf with ⟨hcs, _⟩ | ⟨a, len, cap, m, n, D, Pl, hcs, _, hl, hm, hmm, _, hx⟩
  · simp only [List.cons.injEq, and_true] at hcs
    subst hcs
    exact ⟨none, 0, 0, rfl, Nat.le_refl _, Nat.zero_le _, fun h => absurd h (by omega)⟩
  · simp only [List.cons.injEq, and_true] at hcs
    subst hcs
    simp only [if_true] at hmm
    subst hmm
    have hcell : ∀ i, i < m → ∀ (j : Nat) (f : Field), fs[j]? = some f → ∃ u k y, w.cell? (a.add (i * fs.size + j)) = some u ∧ DataW.trod enc P w base (fun _ => true) held k f.type [u] = some y := by
      intro i hi j f hj
      obtain ⟨cs', hc, htr⟩ := hx i hi
      obtain ⟨hlen, hparts⟩ := struct_parts he hone hC htr
      obtain ⟨u, k, y, hu, hy⟩ := hparts j f hj
      obtain ⟨_, hcl, hat⟩ := World.cells?_some hc
      have hjf : j < fs.size := (Array.getElem?_eq_some_iff.1 hj).1
      have h1 := hat j (by rw [hC]; exact hjf)
      rw [hC, add_of_add, hu] at h1
      exact ⟨u, k, y, h1, hy⟩
    refine ⟨some a, len, m, rfl, hl, hm, fun hn0 => ?_⟩
    obtain ⟨u, _, _, hu, _⟩ := hcell 0 (by omega) 0 fs[0] (Array.getElem?_eq_getElem h0)
    obtain ⟨b, o, spot⟩ := a
    have hspot : spot = none := by simpa [Addr.add] using World.cell?_spot hu
    subst hspot
    refine ⟨b, o, rfl, ?_, fun i hi j f hj => ?_⟩
    · have := World.block_lt_of_cell? w _ hu
      simpa [block_of_add] using this
    · obtain ⟨u, k, y, h1, h2⟩ := hcell i (by omega) j f hj
      rw [Addr.add_lit] at h1
      exact ⟨u, k, y, h1, h2⟩

theorem list_of {α : Type} {n : Nat} {R : Nat → α → Prop} (h : ∀ i, i < n → ∃ x, R i x) : ∃ l : List α, l.length = n ∧ ∀ i x, l[i]? = some x → R i x := by
  induction n with
  | zero => exact ⟨[], rfl, fun i x hx => by simp at hx⟩
  | succ n ih =>
    obtain ⟨l, hl, hr⟩ := ih fun i hi => h i (by omega)
    obtain ⟨y, hy⟩ := h n (by omega)
    refine ⟨l ++ [y], by simp [hl], fun i x hx => ?_⟩
    by_cases hi : i < l.length
    · rw [List.getElem?_append_left hi] at hx
      exact hr i x hx
    · rw [List.getElem?_append_right (by omega)] at hx
      have : i - l.length = 0 := by
        rcases Nat.eq_zero_or_pos (i - l.length) with h0 | h0
        · exact h0
        · rw [List.getElem?_eq_none (by simp; omega)] at hx
          cases hx
      rw [this] at hx
      simp at hx
      subst hx
      have : i = n := by omega
      subst this
      exact hy

theorem flat_inv {α : Type} {f : α → List Value} {K : Nat} (hf : ∀ x, (f x).length = K) {l : List α} {j : Nat} {u : Value} (h : (l.flatMap f)[j]? = some u) : ∃ (i r : Nat) (x : α), l[i]? = some x ∧ r < K ∧ j = i * K + r ∧ (f x)[r]? = some u := by
  induction l generalizing j with
  | nil => simp at h
  | cons y l ih =>
    rw [List.flatMap_cons] at h
    by_cases hj : j < (f y).length
    · rw [List.getElem?_append_left hj] at h
      exact ⟨0, j, y, rfl, by rw [← hf y]; exact hj, by omega, h⟩
    · rw [List.getElem?_append_right (by omega)] at h
      obtain ⟨i, r, x, h1, h2, h3, h4⟩ := ih h
      rw [hf] at h3 hj
      exact ⟨i + 1, r, x, by simpa using h1, h2, by rw [Nat.succ_mul]; omega, h4⟩

/-- A slice of structs whose cells are those of plain things reads as a list of these. -/
theorem rdS_of {α : Type} {w : World} {K : Nat} {f : α → List Value} (hf : ∀ x, (f x).length = K) {V A : _} {n c : Nat} (hV : V = Value.slice A n c) (hnc : n ≤ c) (hcm : c ≤ maxLen)
    (h : 0 < n → ∃ b o, A = some ⟨b, o, none⟩ ∧ b < w.heap.size ∧ ∀ i, i < n → ∃ x : α, ∀ (r : Nat) u, (f x)[r]? = some u → w.cell? ⟨b, o + (i * K + r), none⟩ = some u) :
    ∃ l : List α, l.length = n ∧ RdS K w V l.length (l.flatMap f) := by
  by_cases hn : 0 < n
  · obtain ⟨b, o, hA, hb, hc⟩ := h hn
    obtain ⟨l, hl, hr⟩ := list_of hc
    refine ⟨l, hl, flat_len hf l, A, c, by rw [hV, hl], by omega, hcm, fun _ => ⟨b, o, hA, hb, fun j u hu => ?_⟩⟩
    obtain ⟨i, r, x, h1, _, h3, h4⟩ := flat_inv hf hu
    rw [h3]
    exact hr i x h1 r u h4
  · have : n = 0 := by omega
    subst this
    exact ⟨[], rfl, by simp, A, c, hV, by simp, hcm, fun h => absurd h (by simp)⟩
end

end Go.Proofs.Ytgjidkhfnnghiaa

/- Two closed facts on the program that every row asks. -/
namespace Go.Proofs.Ytgjidkhfnnghiaa
open Go.RowKit

theorem Try.ownKnob : ownKnob Try.prog.godebug = none := by kernel_rfl

theorem Try.laidOut : laidOutB Try.prog = true := by kernel_rfl

end Go.Proofs.Ytgjidkhfnnghiaa
