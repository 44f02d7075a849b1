/- Texts that the proof of X rests on, one behind the other. -/
import Derived.Test.YtgjidkhfnnghiaaXQ3
import Derived.Test.YtgjidkhfnnghiaaXQ7
import Derived.Test.YtgjidkhfnnghiaaXQ9
import Derived.Test.YtgjidkhfnnghiaaXQ11
import Derived.Test.YtgjidkhfnnghiaaXQ12
import Derived.Deep.CutBlock
import Derived.Deep.DeepCutAuto
import Derived.OwnWalk

/- Package ahead: Reserve. -/
namespace Go.Proofs.Ytgjidkhfnnghiaa
open Go.RowKit Go.Maps

theorem placeI_no {l : List Jb} {job : Int} (h : placeI l job < 0) : ¬ (1 ≤ job ∧ queuedL l (job - 1).toNat = true) := by
  intro h1
  unfold placeI at h
  rw [if_pos h1] at h
  omega
theorem placeI_yes {l : List Jb} {job : Int} (h : ¬ placeI l job < 0) : ∃ (i : Nat) (x : Jb), job = (i : Int) + 1 ∧ l[i]? = some x ∧ x.phase = 0 := by
  unfold placeI at h
  split at h
  · rename_i h1
    have hq := h1.2
    have hlt := queuedL_lt hq
    have hx := List.getElem?_eq_getElem hlt
    have hp : (l[(job - 1).toNat]).phase = 0 := by
      have := queuedL_at hx
      rw [hq] at this
      exact of_decide_eq_true this.symm
    exact ⟨_, _, by omega, hx, hp⟩
  · omega
theorem reserveS_no {s : St} {job now : Int} (h : placeI s.jobs job < 0) : reserveS s job now = ⟨0, 0, false⟩ := by
  have h1 := placeI_no h
  unfold reserveS
  split
  · rename_i x hx
    rw [if_neg]
    rintro ⟨h2, h3⟩
    exact h1 ⟨h2, by rw [queuedL_at hx]; exact decide_eq_true h3⟩
  · rfl

set_option maxRecDepth 100000 in
set_option maxHeartbeats 8000000 in
theorem Reserve_any (vn vj : Value) (s : St) (job now : Int) (w : World) (hrn : RdNd w vn s.nodes) (hr : RdJb w vj s.jobs) (hA : OkA s) (hn0 : 0 ≤ now) (hn1 : now ≤ 1000000) :
    Calls Try.prog 11 #[stV vn vj s, .int .i64 job, .int .i64 now] w fun e w' => e = .returned (.tuple #[.int .i64 (reserveS s job now).t, .int .i64 (reserveS s job now).n, .bool (reserveS s job now).ok]) ∧ Ext w w' := by
  have hN := hA.ok.nn
  have hJ := hA.ok.nj
  have HRJ := Lib.hid hr
  have HRN := Lib.hid hrn
  obtain ⟨hx, hb⟩ := boxSt vn vj s w 27
  have HPL : Hid (∀ W, Ext w W → Calls Try.prog 20 #[stV vn vj s, .int .i64 job] W fun e w' => e = .returned (.int .i64 (placeI s.jobs job)) ∧ Ext W w') := Lib.hid fun W hW => Place_any vn vj s job W (HRJ.out.ext hW) (by omega)
  have HOP : Hid (∀ W, Ext w W → Calls Try.prog 31 #[stV vn vj s] W fun e w' => e = .returned (.int .i64 (openN s : Int)) ∧ Ext W w') := Lib.hid fun W hW => Open_any vn vj s W (HRN.out.ext hW) hN
  have HBA : Hid (∀ W, Ext w W → Calls Try.prog 32 #[stV vn vj s, .int .i64 now] W fun e w' => ∃ B : Nat, e = .returned (.map (some B)) ∧ W.heap.size ≤ B ∧ w'.ownsMap Try.prog 3 (plainElem (H := Unit) Try.prog 3) B 25 (dB s now s.jobs.length) ∧ Ext W w') := Lib.hid fun W hW => backAt_any vn vj s now W (HRJ.out.ext hW) hA hn0 hn1
  have HPI : Hid (∀ x (m : Nat) W, m < 64 → OkP x → Ext w W → Calls Try.prog 35 #[stV vn vj s, jbV x, .int .i64 (m : Int)] W fun e w' => e = .returned (.tuple #[.int .i64 (pickS s x (m : Int)).1, .bool (pickS s x (m : Int)).2]) ∧ Ext W w') := Lib.hid fun x m W hm hx hW => Pick_any vn vj s x m W (HRN.out.ext hW) hN hm hx
  unfold stV at HPL HOP HBA HPI
  unfold jbV at HPI
  unfold stV
  unfold stC at hx hb
  obtain ⟨A, c, rfl, hnc, hcm, hcell⟩ := jobs_cells hr
  have HC := Lib.hid hcell
  obtain ⟨R, hR⟩ : ∃ R, R = reserveS s job now := ⟨_, rfl⟩
  rw [← hR]
  have HR := Lib.hid hR
  have HX := Lib.hid hx
  have HB := Lib.hid hb
  have HNO : Hid (placeI s.jobs job < 0 → R = ⟨0, 0, false⟩) := Lib.hid fun h => by rw [HR.out]; exact reserveS_no h
  have HYES : Hid (¬ placeI s.jobs job < 0 → ∃ (i : Nat) (x : Jb), job = (i : Int) + 1 ∧ s.jobs[i]? = some x ∧ x.phase = 0) := Lib.hid fun h => placeI_yes h
  obtain ⟨P, hP⟩ : ∃ P, P = placeI s.jobs job := ⟨_, rfl⟩
  rw [← hP] at HNO HYES HPL
  clear hx hb hr hcell hR hrn HRN HRJ hP
  go_enter Try.func11, Try.ntmps11
  go_wp2_with fail
  go_step3
  go_upto_region 1 with (fail)
  obtain ⟨W0, hW0⟩ : ∃ W0, W0 = w.alloc (.cells #[vn, .slice A s.jobs.length c, .int .i64 s.goal, .int .i64 s.prior, .int .i64 s.mode, .int .i64 s.term] 27) := ⟨_, rfl⟩
  rw [← hW0] at HX HB ⊢
  clear hW0
  obtain ⟨g0, g1, g2, g3, g4, g5⟩ := Blk.six HB.out
  have HPC := Lib.hid (HPL.out W0 HX.out)
  go_wp2_with fail
  refine HPC.out.mono ?_
  rintro e1 w1 ⟨rfl, hx1⟩
  have HX1 : Hid (Ext w w1) := Lib.hid (Ext.trans HX.out hx1)
  have HB1 := Lib.hid (HB.out.ext hx1)
  clear hx1 HPC g0 g1 g2 g3 g4 g5
  simp only []
  by_cases hp : P < 0
  · have d1 : decide (P < 0) = true := decide_eq_true hp
    have HZ : Hid (R = ⟨0, 0, false⟩) := Lib.hid (HNO.out hp)
    clear hp
    go_wp2
    rw [Exit.noGoto_ret]
    go_ret3
    exact ⟨by rw [HZ.out]; rfl, HX1.out⟩
  · have d1 : decide (P < 0) = false := decide_eq_false hp
    obtain ⟨i, x, hi, hxi, hph⟩ := HYES.out (by omega)
    obtain ⟨b, o, rfl, hlt, hat⟩ := HC.out i x hxi
    have hil : i < s.jobs.length := (List.getElem?_eq_some_iff.1 hxi).1
    have d6 : (i : Int) < (s.jobs.length : Int) := by omega
    have d7 : (0 : Int) ≤ (i : Int) := by omega
    have HOK := Lib.hid (hA.jobs i x hxi).1
    have HAT := Lib.hid hat
    have HLT := Lib.hid hlt
    have HRV : Hid (R = resTo s x now (s.jobs.length + 1)) := Lib.hid (by rw [HR.out, reserveS_at hi hxi, if_pos hph])
    have HDL : Hid (decide (i < s.jobs.length) = true) := Lib.hid (decide_eq_true hil)
    have HWP : Hid (wrap64 (job - 1) = (i : Int)) := Lib.hid (by rw [IntWalk.wrap64_in _ (by omega)]; omega)
    clear hp HNO HYES hi hxi hph hat hlt hil HC
    go_upto_region 3 with (fail)
    refine held_begin (by kernel_rfl) ?_
    refine held_more (S' := fun W' : World => Ext w1 W') (fun _ _ => True.intro) ?_
    have hSx : (fun W' : World => Ext w1 W') w1.drew := Below.drewN' (Ext.refl w1) 1
    refine held_take (i := 0) (v := ?_) rfl (by kernel_rfl) (by kernel_rfl) (by kernel_rfl) (by rfl) (by first | assumption | exact True.intro) ?_ ?_
    rotate_left
    · (intro W hSw; obtain ⟨g0, g1, g2, g3, g4, g5⟩ := Blk.six (HB1.out.ext hSw); go_simp; (try with_reducible rfl))
    try simp only [Act.put, List.setIfInBounds_toArray, List.set_cons_zero, List.set_cons_succ]
    refine held_take (i := 2) (v := ?_) rfl (by kernel_rfl) (by kernel_rfl) (by kernel_rfl) (by rfl) (by first | assumption | exact True.intro) ?_ ?_
    rotate_left
    · (intro W hSw; obtain ⟨g0, g1, g2, g3, g4, g5⟩ := Blk.six (HB1.out.ext hSw); go_simp; (try with_reducible rfl))
    try simp only [Act.put, List.setIfInBounds_toArray, List.set_cons_zero, List.set_cons_succ]
    refine held_take (i := 3) (v := ?_) rfl (by kernel_rfl) (by kernel_rfl) (by kernel_rfl) (by rfl) (by first | assumption | exact True.intro) ?_ ?_
    rotate_left
    · (intro W hSw; obtain ⟨g0, g1, g2, g3, g4, g5⟩ := Blk.six (HB1.out.ext hSw); go_simp; (try with_reducible rfl))
    try simp only [Act.put, List.setIfInBounds_toArray, List.set_cons_zero, List.set_cons_succ]
    clear hSx
    refine held_op (i := 1) (by kernel_rfl) rfl (fun K hK => ?_)
    go_simp
    go_at_call 31
    refine (HOP.out _ (Ext.trans HX1.out (Below.drewN' (Ext.refl w1) 1))).mono ?_
    rintro e3 w3 ⟨rfl, hx3⟩
    have HX3 : Hid (Ext w1 w3) := Lib.hid (Ext.trans (Below.drewN' (Ext.refl w1) 1) hx3)
    clear hx3
    refine hK _ _ (HX3.out) (fun hSx => ?_)
    clear hK K
    try simp only [Act.put, List.setIfInBounds_toArray, List.set_cons_zero, List.set_cons_succ]
    clear hSx
    refine held_op (i := 4) (by kernel_rfl) rfl (fun K hK => ?_)
    go_simp
    go_at_call 32
    refine (HBA.out _ (Ext.trans HX1.out HX3.out)).mono ?_
    rintro e4 w4 ⟨B, rfl, hB4, hm4, hx4⟩
    have HX4 : Hid (Ext w1 w4) := Lib.hid (Ext.trans HX3.out hx4)
    have HM4 := Lib.hid hm4
    clear hx4 hB4 hm4
    refine hK _ _ (HX4.out) (fun hSx => ?_)
    clear hK K
    try simp only [Act.put, List.setIfInBounds_toArray, List.set_cons_zero, List.set_cons_succ]
    refine held_take (i := 5) (v := ?_) rfl (by kernel_rfl) (by kernel_rfl) (by kernel_rfl) (by rfl) (by first | assumption | exact True.intro) ?_ ?_
    rotate_left
    · (intro W hSw; go_simp; (try with_reducible rfl))
    try simp only [Act.put, List.setIfInBounds_toArray, List.set_cons_zero, List.set_cons_succ]
    refine held_take (i := 6) (v := ?_) rfl (by kernel_rfl) (by kernel_rfl) (by kernel_rfl) (by rfl) (by first | assumption | exact True.intro) ?_ ?_
    rotate_left
    · (intro W hSw; go_simp; (try with_reducible rfl))
    try simp only [Act.put, List.setIfInBounds_toArray, List.set_cons_zero, List.set_cons_succ]
    clear hSx
    refine wpAnyH_done (by kernel_rfl) ?_ _
    refine NoPanic.normal ?_
    go_wp2_with fail
    go_step3
    go_upto_region 4 with (fail)
    go_wp2_with fail
    have hk := keys_spec HM4.out (int_keyed Try.underlying3) Try.underlying3
    have hsz := hk.2.2
    have HSC := Lib.hid (Sorted_any B 25 _ _ w4 HM4.out (by unfold maxLen; omega) (by omega))
    clear hk hsz
    refine (Keys_any (some B) w4).mono ?_
    rintro e5 w5 ⟨rfl, rfl⟩
    simp only []
    go_wp2_with fail
    refine HSC.out.mono ?_
    rintro e6 w6 ⟨v6, ss, rfl, hS, hrow, hx6⟩
    have HTM := Lib.hid (times_of hA hn0 hn1 HM4.out (int_keyed Try.underlying3) Try.underlying3 hS)
    have hss : ss.length ≤ 25 := by have := keys_spec HM4.out (int_keyed Try.underlying3) Try.underlying3; rw [hS.length_eq]; have h9 := this.2.2; obtain ⟨es, hD⟩ := dB_map s now s.jobs.length; rw [hD] at h9 ⊢; show (es.map _).length ≤ 25; rw [List.length_map]; exact h9
    obtain ⟨L, hL⟩ : ∃ L, L = ss.mergeSort (fun x y => decide (x ≤ y)) := ⟨_, rfl⟩
    have hLl : L.length = ss.length := by rw [hL, List.length_mergeSort]
    rw [← hL] at HTM hrow
    have hrd := Rd.own hrow
    obtain ⟨n, hn⟩ : ∃ n, n = L.length := ⟨_, rfl⟩
    obtain ⟨A6, c6, rfl, hnc6, hcm6, hc6⟩ := hrd
    rw [List.length_map, ← hn] at hnc6 hc6 ⊢
    have HC6 : Hid (∀ q t, L[q]? = some t → ∃ b o, A6 = some ⟨b, o, none⟩ ∧ b < w6.heap.size ∧ w6.cell? ⟨b, o + q, none⟩ = some (.int .i64 t)) := Lib.hid fun q t hq => by
      obtain ⟨b, o, hA6, hb6, hc⟩ := hc6 (by have := (List.getElem?_eq_some_iff.1 hq).1; omega)
      exact ⟨b, o, hA6, hb6, hc q _ (by rw [List.getElem?_map, hq]; rfl)⟩
    have HN25 : Hid (n ≤ 25) := Lib.hid (by omega)
    have HNL := Lib.hid hn
    have HX6 : Hid (Ext w4 w6) := Lib.hid (Ext.trans ((Below.refl _ w4).alloc (Nat.le_refl _) _) hx6)
    have HRL : Hid (R = resL s x now L) := Lib.hid (by rw [HRV.out, res_list x HTM.out hn0])
    clear hx6 hS hrow hss hL hLl hn hnc6 hc6 HSC HRV
    simp only []
    go_wp2_with fail
    have HOS := Lib.hid hA.own
    have hn9 := HN25.out
    go_loopw [9, 28] (fun st i wr => ∃ q : Nat, i = .int .i64 (q : Int) ∧ st = .int .i64 (tN s now L q : Int) ∧ q ≤ n ∧ Hid (resL s x now (L.drop q) = resL s x now L) ∧ Hid (Ext w6 wr)) (fun _ i _ => n - (Go.RowKit.intOf i).toNat)
    case atStart => exact ⟨0, rfl, by rw [tN_zero], Nat.zero_le _, Lib.hid rfl, Lib.hid (Ext.refl _)⟩
    case round =>
      obtain ⟨q, rfl, rfl, hq, HRS, HXR⟩ := hrel
      have HXW : Hid (Ext w1 wr) := Lib.hid (Ext.trans HX4.out (Ext.trans HX6.out HXR.out))
      by_cases hlt : q < n
      · have e1 : decide ((q : Int) < (n : Int)) = true := decide_eq_true (by omega)
        have e1' : decide (q < n) = true := decide_eq_true hlt
        have HQL := Lib.hid hlt
        obtain ⟨t, ht⟩ : ∃ t, L[q]? = some t := ⟨_, List.getElem?_eq_getElem (by rw [← HNL.out]; exact hlt)⟩
        obtain ⟨b6, o6, rfl, hb6, hc6⟩ := HC6.out q t ht
        have ct := HXR.out.cellOf hc6 hb6
        have ht0 : 0 ≤ t ∧ t ≤ 2000000 := by
          have hm := List.mem_of_getElem? ht
          refine ⟨HTM.out.pos hn0 hm, ?_⟩
          rcases (HTM.out.mem t).1 hm with h | ⟨k, _, h, h2⟩
          · omega
          · rcases endS_in hA hn0 hn1 ((k : Int) + 1) with h1 | h1 <;> omega
        have HT1 : Hid (tN s now L (q + 1) = atN s now t) := Lib.hid (tN_at HTM.out hn0 ht)
        have h64 : ∀ k, tN s now L k < 64 := fun k => Nat.lt_of_lt_of_le (gN_lt _ _ _) (Nat.pow_le_pow_right (by decide) hN)
        have hbo : bits .or .i64 (tN s now L q : Int) (orTo s now t s.jobs.length : Int) = (atN s now t : Int) := by rw [or_nat _ (h64 q) _ (orTo_lt HOS.out now t _ (Nat.le_refl _)), tN_succ HOS.out ht ht0.1, HT1.out]
        have hlk : (Instr.lookup 55 (.map (some B)) (.int .i64 t) false).run Try.prog wr = .ok (.int .i64 (orTo s now t s.jobs.length : Int)) wr := by
          obtain ⟨z, h1, h2, -⟩ := (map_ext HM4.out (Ext.trans HX6.out HXR.out)).lookup_int (int_keyed Try.underlying3) Try.underlying55 Try.underlying3 (Try.zeroInt _) (keyOf_int_mk Try.underlying3 (WalkArith.wf_i64 (n := t) (by omega)))
          rw [dB_at s now t ht0.1] at h2
          rw [h1]
          cases h2
          rfl
        have HT64 : Hid (atN s now t < 64) := Lib.hid (by rw [← HT1.out]; exact h64 _)
        have HDR : Hid (L.drop q = t :: L.drop (q + 1)) := Lib.hid (by have h1 := (List.getElem?_eq_some_iff.1 ht); obtain ⟨h2, rfl⟩ := h1; exact List.drop_eq_getElem_cons h2)
        obtain ⟨T0, hT0⟩ : ∃ T, T = tN s now L q := ⟨_, rfl⟩
        obtain ⟨T1, hT1⟩ : ∃ T, T = atN s now t := ⟨_, rfl⟩
        obtain ⟨O, hO⟩ : ∃ T, T = orTo s now t s.jobs.length := ⟨_, rfl⟩
        rw [← hT0, ← hO, ← hT1] at hbo
        rw [← hO] at hlk
        rw [← hT1] at HT1 HT64
        rw [← hT0]
        have HT1E := Lib.hid hT1
        clear hT0 hT1 hO ht0 ht h64 hc6 hb6 hlt
        go_upto_region 8 with (fail)
        clear hbo hlk ct e1 e1'
        have wp2 : IntKind.i64.wrap (job - 1) = (i : Int) := (IntWalk.i64_left _).trans HWP.out
        have wp3 : wrap64 (job - 1) = (i : Int) := HWP.out
        have d5 := HDL.out
        obtain ⟨PK, hPK⟩ : ∃ z, z = pickS s x (T1 : Int) := ⟨_, rfl⟩
        have HPC : Hid (∀ W, Ext w W → Calls Try.prog 35 _ W _) := Lib.hid fun W hW => HPI.out x T1 W HT64.out HOK.out hW
        rw [← hPK] at HPC
        have HPK := Lib.hid hPK
        clear hPK
        refine held_begin (by kernel_rfl) ?_
        refine held_more (S' := fun W' : World => Ext wr W') (fun _ _ => True.intro) ?_
        have hSx : (fun W' : World => Ext wr W') wr.drew := Below.drewN' (Ext.refl wr) 1
        refine held_take (i := 0) (v := ?_) rfl (by kernel_rfl) (by kernel_rfl) (by kernel_rfl) (by rfl) (by first | assumption | exact True.intro) ?_ ?_
        rotate_left
        · (intro W hSw; obtain ⟨g0, g1, g2, g3, g4, g5⟩ := Blk.six (HB1.out.ext (Ext.trans HXW.out hSw)); obtain ⟨q0, q1, q2, q3, q4, q5, q6, q7, q8, q9, q10, q11⟩ := HAT.out.ext (Ext.trans HX1.out (Ext.trans HXW.out hSw)) HLT.out; go_simp; (try with_reducible rfl))
        try simp only [Act.put, List.setIfInBounds_toArray, List.set_cons_zero, List.set_cons_succ]
        refine held_take (i := 1) (v := ?_) rfl (by kernel_rfl) (by kernel_rfl) (by kernel_rfl) (by rfl) (by first | assumption | exact True.intro) ?_ ?_
        rotate_left
        · (intro W hSw; obtain ⟨g0, g1, g2, g3, g4, g5⟩ := Blk.six (HB1.out.ext (Ext.trans HXW.out hSw)); obtain ⟨q0, q1, q2, q3, q4, q5, q6, q7, q8, q9, q10, q11⟩ := HAT.out.ext (Ext.trans HX1.out (Ext.trans HXW.out hSw)) HLT.out; go_simp; (try with_reducible rfl))
        try simp only [Act.put, List.setIfInBounds_toArray, List.set_cons_zero, List.set_cons_succ]
        refine held_take (i := 2) (v := ?_) rfl (by kernel_rfl) (by kernel_rfl) (by kernel_rfl) (by rfl) (by first | assumption | exact True.intro) ?_ ?_
        rotate_left
        · (intro W hSw; obtain ⟨g0, g1, g2, g3, g4, g5⟩ := Blk.six (HB1.out.ext (Ext.trans HXW.out hSw)); obtain ⟨q0, q1, q2, q3, q4, q5, q6, q7, q8, q9, q10, q11⟩ := HAT.out.ext (Ext.trans HX1.out (Ext.trans HXW.out hSw)) HLT.out; go_simp; (try with_reducible rfl))
        try simp only [Act.put, List.setIfInBounds_toArray, List.set_cons_zero, List.set_cons_succ]
        refine held_take (i := 3) (v := ?_) rfl (by kernel_rfl) (by kernel_rfl) (by kernel_rfl) (by rfl) (by first | assumption | exact True.intro) ?_ ?_
        rotate_left
        · (intro W hSw; obtain ⟨g0, g1, g2, g3, g4, g5⟩ := Blk.six (HB1.out.ext (Ext.trans HXW.out hSw)); obtain ⟨q0, q1, q2, q3, q4, q5, q6, q7, q8, q9, q10, q11⟩ := HAT.out.ext (Ext.trans HX1.out (Ext.trans HXW.out hSw)) HLT.out; go_simp; (try with_reducible rfl))
        try simp only [Act.put, List.setIfInBounds_toArray, List.set_cons_zero, List.set_cons_succ]
        refine held_take (i := 4) (v := ?_) rfl (by kernel_rfl) (by kernel_rfl) (by kernel_rfl) (by rfl) (by first | assumption | exact True.intro) ?_ ?_
        rotate_left
        · (intro W hSw; obtain ⟨g0, g1, g2, g3, g4, g5⟩ := Blk.six (HB1.out.ext (Ext.trans HXW.out hSw)); obtain ⟨q0, q1, q2, q3, q4, q5, q6, q7, q8, q9, q10, q11⟩ := HAT.out.ext (Ext.trans HX1.out (Ext.trans HXW.out hSw)) HLT.out; go_simp; (try with_reducible rfl))
        try simp only [Act.put, List.setIfInBounds_toArray, List.set_cons_zero, List.set_cons_succ]
        refine held_take (i := 5) (v := ?_) rfl (by kernel_rfl) (by kernel_rfl) (by kernel_rfl) (by rfl) (by first | assumption | exact True.intro) ?_ ?_
        rotate_left
        · (intro W hSw; obtain ⟨g0, g1, g2, g3, g4, g5⟩ := Blk.six (HB1.out.ext (Ext.trans HXW.out hSw)); obtain ⟨q0, q1, q2, q3, q4, q5, q6, q7, q8, q9, q10, q11⟩ := HAT.out.ext (Ext.trans HX1.out (Ext.trans HXW.out hSw)) HLT.out; go_simp; (try with_reducible rfl))
        try simp only [Act.put, List.setIfInBounds_toArray, List.set_cons_zero, List.set_cons_succ]
        refine held_take (i := 6) (v := ?_) rfl (by kernel_rfl) (by kernel_rfl) (by kernel_rfl) (by rfl) (by first | assumption | exact True.intro) ?_ ?_
        rotate_left
        · (intro W hSw; obtain ⟨g0, g1, g2, g3, g4, g5⟩ := Blk.six (HB1.out.ext (Ext.trans HXW.out hSw)); obtain ⟨q0, q1, q2, q3, q4, q5, q6, q7, q8, q9, q10, q11⟩ := HAT.out.ext (Ext.trans HX1.out (Ext.trans HXW.out hSw)) HLT.out; go_simp; (try with_reducible rfl))
        try simp only [Act.put, List.setIfInBounds_toArray, List.set_cons_zero, List.set_cons_succ]
        refine held_take (i := 7) (v := ?_) rfl (by kernel_rfl) (by kernel_rfl) (by kernel_rfl) (by rfl) (by first | assumption | exact True.intro) ?_ ?_
        rotate_left
        · (intro W hSw; obtain ⟨g0, g1, g2, g3, g4, g5⟩ := Blk.six (HB1.out.ext (Ext.trans HXW.out hSw)); obtain ⟨q0, q1, q2, q3, q4, q5, q6, q7, q8, q9, q10, q11⟩ := HAT.out.ext (Ext.trans HX1.out (Ext.trans HXW.out hSw)) HLT.out; go_simp; (try with_reducible rfl))
        try simp only [Act.put, List.setIfInBounds_toArray, List.set_cons_zero, List.set_cons_succ]
        clear hSx
        refine held_op (i := 8) (by kernel_rfl) rfl (fun K hK => ?_)
        go_simp
        go_at_call 35
        refine (HPC.out _ (Ext.trans HX1.out (Ext.trans HXW.out (Below.drewN' (Ext.refl wr) 1)))).mono ?_
        rintro e7 w7 ⟨rfl, hx7⟩
        have HX7 : Hid (Ext wr w7) := Lib.hid (Ext.trans (Below.drewN' (Ext.refl wr) 1) hx7)
        clear hx7
        refine hK _ _ (HX7.out) (fun hSx => ?_)
        clear hK K
        try simp only [Act.put, List.setIfInBounds_toArray, List.set_cons_zero, List.set_cons_succ]
        refine held_take (i := 9) (v := ?_) rfl (by kernel_rfl) (by kernel_rfl) (by kernel_rfl) (by rfl) (by first | assumption | exact True.intro) ?_ ?_
        rotate_left
        · (intro W hSw; go_simp; (try with_reducible rfl))
        try simp only [Act.put, List.setIfInBounds_toArray, List.set_cons_zero, List.set_cons_succ]
        refine held_take (i := 10) (v := ?_) rfl (by kernel_rfl) (by kernel_rfl) (by kernel_rfl) (by rfl) (by first | assumption | exact True.intro) ?_ ?_
        rotate_left
        · (intro W hSw; go_simp; (try with_reducible rfl))
        try simp only [Act.put, List.setIfInBounds_toArray, List.set_cons_zero, List.set_cons_succ]
        refine held_take (i := 11) (v := ?_) rfl (by kernel_rfl) (by kernel_rfl) (by kernel_rfl) (by rfl) (by first | assumption | exact True.intro) ?_ ?_
        rotate_left
        · (intro W hSw; go_simp; (try with_reducible rfl))
        try simp only [Act.put, List.setIfInBounds_toArray, List.set_cons_zero, List.set_cons_succ]
        refine held_take (i := 12) (v := ?_) rfl (by kernel_rfl) (by kernel_rfl) (by kernel_rfl) (by rfl) (by first | assumption | exact True.intro) ?_ ?_
        rotate_left
        · (intro W hSw; go_simp; (try with_reducible rfl))
        try simp only [Act.put, List.setIfInBounds_toArray, List.set_cons_zero, List.set_cons_succ]
        refine held_take (i := 13) (v := ?_) rfl (by kernel_rfl) (by kernel_rfl) (by kernel_rfl) (by rfl) (by first | assumption | exact True.intro) ?_ ?_
        rotate_left
        · (intro W hSw; go_simp; (try with_reducible rfl))
        try simp only [Act.put, List.setIfInBounds_toArray, List.set_cons_zero, List.set_cons_succ]
        clear hSx
        refine wpAnyH_done (by kernel_rfl) ?_ _
        refine NoPanic.normal ?_
        have wq : wrap64 ((q : Int) + 1) = (q : Int) + 1 := IntWalk.wrap64_in _ (by have := HQL.out; have := HN25.out; omega)
        cases hok : PK.2 with
        | true =>
          have HZ : Hid (R = ⟨t, PK.1, true⟩) := Lib.hid (by rw [HRL.out, ← HRS.out, HDR.out]; show (if _ then _ else _) = _; rw [← HT1E.out, ← HPK.out, if_pos hok])
          clear hok
          go_wp2
          rw [Exit.noGoto_ret]
          go_ret3
          exact ⟨by rw [HZ.out]; rfl, Ext.trans HX1.out (Ext.trans HXW.out HX7.out)⟩
        | false =>
          have HZ : Hid (resL s x now (L.drop (q + 1)) = resL s x now L) := Lib.hid (by rw [← HRS.out, HDR.out]; show _ = (if _ then _ else _); rw [← HT1E.out, ← HPK.out, if_neg (by rw [hok]; simp)])
          clear hok
          repeat (first | go_values | go_skip | go_guarded | go_step | go_upon | (simp only []))
          go_roundw
          case rel => exact ⟨q + 1, by first | (rw [wq]; rfl) | rfl, by rw [HT1.out], HQL.out, HZ, Lib.hid (Ext.trans HXR.out HX7.out)⟩
          case measure => first | (rw [wq]; exact measQ HQL.out) | exact measQ HQL.out
      · have e1 : decide ((q : Int) < (n : Int)) = false := decide_eq_false (by omega)
        have e1' : decide (q < n) = false := decide_eq_false hlt
        have HZ : Hid (R = ⟨0, 0, false⟩) := Lib.hid (by rw [HRL.out, ← HRS.out, show q = L.length by rw [← HNL.out]; omega, List.drop_length]; rfl)
        go_wp2
        rw [Exit.noGoto_ret]
        go_ret3
        exact ⟨by rw [HZ.out]; rfl, Ext.trans HX1.out HXW.out⟩

end Go.Proofs.Ytgjidkhfnnghiaa

/- Package ahead: who may fill in beside a reservation. -/
namespace Go.Proofs.Ytgjidkhfnnghiaa
open Go.RowKit Go.Maps

theorem Now_any (vn vj : Value) (s : St) (job : Int) (w : World) (hrn : RdNd w vn s.nodes) (hr : RdJb w vj s.jobs) (hA : OkA s) :
    Calls Try.prog 30 #[stV vn vj s, .int .i64 job] w fun e w' => e = .returned (.tuple #[.int .i64 (nowS s job).1, .bool (nowS s job).2]) ∧ Ext w w' :=
  Now_over Pick_any vn vj s job w hrn hr hA.ok.nn (by have := hA.ok.nj; omega) (fun i x hx => (hA.jobs i x hx).1)

set_option maxRecDepth 100000 in
set_option maxHeartbeats 8000000 in
theorem beside_any (vn vj : Value) (s : St) (x : Jb) (i : Nat) (job now : Int) (r : Rv) (w : World) (hrn : RdNd w vn s.nodes) (hr : RdJb w vj s.jobs) (hA : OkA s) (hn0 : 0 ≤ now) (hn1 : now ≤ 1000000) (hi : job = (i : Int) + 1) (hxi : s.jobs[i]? = some x) (hok : OkR r) :
    Calls Try.prog 22 #[stV vn vj s, .int .i64 job, .int .i64 now, .int .i64 r.t, .int .i64 r.n] w fun e w' => e = .returned (.tuple #[.int .i64 (besideS s x job now r).1, .bool (besideS s x job now r).2]) ∧ Ext w w' := by
  have hN := hA.ok.nn
  have hJ := hA.ok.nj
  have HRJ := Lib.hid hr
  have HRN := Lib.hid hrn
  obtain ⟨hx, hb⟩ := boxSt vn vj s w 27
  have HOP : Hid (∀ W, Ext w W → Calls Try.prog 31 #[stV vn vj s] W fun e w' => e = .returned (.int .i64 (openN s : Int)) ∧ Ext W w') := Lib.hid fun W hW => Open_any vn vj s W (HRN.out.ext hW) hN
  have HPI : Hid (∀ x (m : Nat) W, m < 64 → OkP x → Ext w W → Calls Try.prog 35 #[stV vn vj s, jbV x, .int .i64 (m : Int)] W fun e w' => e = .returned (.tuple #[.int .i64 (pickS s x (m : Int)).1, .bool (pickS s x (m : Int)).2]) ∧ Ext W w') := Lib.hid fun x m W hm hx hW => Pick_any vn vj s x m W (HRN.out.ext hW) hN hm hx
  have HNW : Hid (∀ job W, Ext w W → Calls Try.prog 30 #[stV vn vj s, .int .i64 job] W fun e w' => e = .returned (.tuple #[.int .i64 (nowS s job).1, .bool (nowS s job).2]) ∧ Ext W w') := Lib.hid fun job W hW => Now_any vn vj s job W (HRN.out.ext hW) (HRJ.out.ext hW) hA
  unfold stV at HOP HPI HNW
  unfold jbV at HPI
  unfold stV
  unfold stC at hx hb
  obtain ⟨A, c, rfl, hnc, hcm, hcell⟩ := jobs_cells hr
  obtain ⟨b, o, rfl, hlt, hat⟩ := hcell i x hxi
  have HX := Lib.hid hx
  have HB := Lib.hid hb
  have hil : i < s.jobs.length := (List.getElem?_eq_some_iff.1 hxi).1
  have d6 : (i : Int) < (s.jobs.length : Int) := by omega
  have d7 : (0 : Int) ≤ (i : Int) := by omega
  have d5 : decide (i < s.jobs.length) = true := decide_eq_true hil
  have wp : wrap64 (job - 1) = (i : Int) := by rw [IntWalk.wrap64_in _ (by omega)]; omega
  have HJX := Lib.hid (hA.jobs i x hxi)
  have HWK := Lib.hid (hA.ok.jobs i x hxi)
  obtain ⟨D, hD⟩ : ∃ D, D = restN s r s.nodes.length := ⟨_, rfl⟩
  have HD64 : Hid (D < 64) := Lib.hid (by rw [hD]; exact Nat.lt_of_lt_of_le (bitsF_lt _ _) (Nat.pow_le_pow_right (by decide) hN))
  have hand : bits .andNot .i64 (openN s : Int) r.n = (D : Int) := by rw [rest_and hok hN, hD]
  obtain ⟨PK, hPK⟩ : ∃ z, z = pickS s x (D : Int) := ⟨_, rfl⟩
  have HPC : Hid (∀ W, Ext w W → Calls Try.prog 35 _ W _) := Lib.hid fun W hW => HPI.out x D W HD64.out HJX.out.1 hW
  rw [← hPK] at HPC
  obtain ⟨BS, hBS⟩ : ∃ z, z = besideS s x job now r := ⟨_, rfl⟩
  rw [← hBS]
  have HBS : Hid (BS = if PK.2 = true then (PK.1, true) else if r.t < now + x.work then (0, false) else nowS s job) := Lib.hid (by rw [hBS, hPK, hD]; rfl)
  obtain ⟨q0, q1, q2, q3, q4, q5, q6, q7, q8, q9, q10, q11⟩ := hat.ext hx hlt
  have HAND := Lib.hid hand
  have HRT : Hid (0 ≤ r.t) := Lib.hid hok.t0
  clear hx hb hr hcell hD hand hPK hBS hat hlt hxi hi hil hrn HRN HRJ hok
  obtain ⟨rt, hrt⟩ : ∃ z, z = r.t := ⟨_, rfl⟩
  obtain ⟨rn, hrn⟩ : ∃ z, z = r.n := ⟨_, rfl⟩
  rw [← hrt] at HBS HRT ⊢
  rw [← hrn] at HAND ⊢
  clear hrt hrn
  go_enter Try.func22, Try.ntmps22
  go_upto_region 1 with (fail)
  obtain ⟨W0, hW0⟩ : ∃ W0, W0 = w.alloc (.cells #[vn, .slice (some ⟨b, o, none⟩) s.jobs.length c, .int .i64 s.goal, .int .i64 s.prior, .int .i64 s.mode, .int .i64 s.term] 27) := ⟨_, rfl⟩
  rw [← hW0] at HX HB q0 q1 q2 q3 q4 q5 q6 q7 q8 q9 q10 q11 ⊢
  clear hW0
  obtain ⟨g0, g1, g2, g3, g4, g5⟩ := Blk.six HB.out
  go_upto_region 2 with (fail)
  obtain ⟨wn, hwn⟩ : ∃ wn, wn = W0.alloc (.cells #[.int .i64 x.queue, .int .i64 x.prio, .int .i64 x.least, .int .i64 x.most, .int .i64 x.work, .int .i64 x.pin, .int .i64 x.phase, .int .i64 x.inc, .int .i64 x.nodes, .int .i64 x.since, .int .i64 x.til, .int .i64 x.epoch] 39) := ⟨_, rfl⟩
  have HXN : Hid (Ext W0 wn) := Lib.hid (by rw [hwn]; exact (Below.refl _ _).alloc (Nat.le_refl _) _)
  have HBN : Hid (Blk wn W0.heap.size 39 #[.int .i64 x.queue, .int .i64 x.prio, .int .i64 x.least, .int .i64 x.most, .int .i64 x.work, .int .i64 x.pin, .int .i64 x.phase, .int .i64 x.inc, .int .i64 x.nodes, .int .i64 x.since, .int .i64 x.til, .int .i64 x.epoch]) := Lib.hid (by rw [hwn]; exact Blk.new _ _ _)
  rw [← hwn]
  obtain ⟨gx, hgx⟩ : ∃ g, g = W0.heap.size := ⟨_, rfl⟩
  rw [← hgx] at HBN ⊢
  have HX0 : Hid (Ext w wn) := Lib.hid (Ext.trans HX.out HXN.out)
  have HB0 := Lib.hid (HB.out.ext HXN.out)
  clear hwn hgx q0 q1 q2 q3 q4 q5 q6 q7 q8 q9 q10 q11 g0 g1 g2 g3 g4 g5 wp d5
  refine held_begin (by kernel_rfl) ?_
  refine held_more (S' := fun W' : World => Ext wn W') (fun _ _ => True.intro) ?_
  have hSx : (fun W' : World => Ext wn W') wn.drew := Below.drewN' (Ext.refl wn) 1
  refine held_take (i := 0) (v := ?_) rfl (by kernel_rfl) (by kernel_rfl) (by kernel_rfl) (by rfl) (by first | assumption | exact True.intro) ?_ ?_
  rotate_left
  · (intro W hSw; obtain ⟨g0, g1, g2, g3, g4, g5⟩ := Blk.six (HB0.out.ext hSw); have q0 := (HBN.out.ext hSw).cell 0; have q1 := (HBN.out.ext hSw).cell 1; have q2 := (HBN.out.ext hSw).cell 2; have q3 := (HBN.out.ext hSw).cell 3; have q4 := (HBN.out.ext hSw).cell 4; have q5 := (HBN.out.ext hSw).cell 5; have q6 := (HBN.out.ext hSw).cell 6; have q7 := (HBN.out.ext hSw).cell 7; have q8 := (HBN.out.ext hSw).cell 8; have q9 := (HBN.out.ext hSw).cell 9; have q10 := (HBN.out.ext hSw).cell 10; have q11 := (HBN.out.ext hSw).cell 11; go_simp; (try with_reducible rfl))
  try simp only [Act.put, List.setIfInBounds_toArray, List.set_cons_zero, List.set_cons_succ]
  refine held_take (i := 1) (v := ?_) rfl (by kernel_rfl) (by kernel_rfl) (by kernel_rfl) (by rfl) (by first | assumption | exact True.intro) ?_ ?_
  rotate_left
  · (intro W hSw; obtain ⟨g0, g1, g2, g3, g4, g5⟩ := Blk.six (HB0.out.ext hSw); have q0 := (HBN.out.ext hSw).cell 0; have q1 := (HBN.out.ext hSw).cell 1; have q2 := (HBN.out.ext hSw).cell 2; have q3 := (HBN.out.ext hSw).cell 3; have q4 := (HBN.out.ext hSw).cell 4; have q5 := (HBN.out.ext hSw).cell 5; have q6 := (HBN.out.ext hSw).cell 6; have q7 := (HBN.out.ext hSw).cell 7; have q8 := (HBN.out.ext hSw).cell 8; have q9 := (HBN.out.ext hSw).cell 9; have q10 := (HBN.out.ext hSw).cell 10; have q11 := (HBN.out.ext hSw).cell 11; go_simp; (try with_reducible rfl))
  try simp only [Act.put, List.setIfInBounds_toArray, List.set_cons_zero, List.set_cons_succ]
  refine held_take (i := 2) (v := ?_) rfl (by kernel_rfl) (by kernel_rfl) (by kernel_rfl) (by rfl) (by first | assumption | exact True.intro) ?_ ?_
  rotate_left
  · (intro W hSw; obtain ⟨g0, g1, g2, g3, g4, g5⟩ := Blk.six (HB0.out.ext hSw); have q0 := (HBN.out.ext hSw).cell 0; have q1 := (HBN.out.ext hSw).cell 1; have q2 := (HBN.out.ext hSw).cell 2; have q3 := (HBN.out.ext hSw).cell 3; have q4 := (HBN.out.ext hSw).cell 4; have q5 := (HBN.out.ext hSw).cell 5; have q6 := (HBN.out.ext hSw).cell 6; have q7 := (HBN.out.ext hSw).cell 7; have q8 := (HBN.out.ext hSw).cell 8; have q9 := (HBN.out.ext hSw).cell 9; have q10 := (HBN.out.ext hSw).cell 10; have q11 := (HBN.out.ext hSw).cell 11; go_simp; (try with_reducible rfl))
  try simp only [Act.put, List.setIfInBounds_toArray, List.set_cons_zero, List.set_cons_succ]
  refine held_take (i := 4) (v := ?_) rfl (by kernel_rfl) (by kernel_rfl) (by kernel_rfl) (by rfl) (by first | assumption | exact True.intro) ?_ ?_
  rotate_left
  · (intro W hSw; obtain ⟨g0, g1, g2, g3, g4, g5⟩ := Blk.six (HB0.out.ext hSw); have q0 := (HBN.out.ext hSw).cell 0; have q1 := (HBN.out.ext hSw).cell 1; have q2 := (HBN.out.ext hSw).cell 2; have q3 := (HBN.out.ext hSw).cell 3; have q4 := (HBN.out.ext hSw).cell 4; have q5 := (HBN.out.ext hSw).cell 5; have q6 := (HBN.out.ext hSw).cell 6; have q7 := (HBN.out.ext hSw).cell 7; have q8 := (HBN.out.ext hSw).cell 8; have q9 := (HBN.out.ext hSw).cell 9; have q10 := (HBN.out.ext hSw).cell 10; have q11 := (HBN.out.ext hSw).cell 11; go_simp; (try with_reducible rfl))
  try simp only [Act.put, List.setIfInBounds_toArray, List.set_cons_zero, List.set_cons_succ]
  clear hSx
  refine held_op (i := 3) (by kernel_rfl) rfl (fun K hK => ?_)
  go_simp
  go_at_call 31
  refine (HOP.out _ (Ext.trans HX0.out (Below.drewN' (Ext.refl wn) 1))).mono ?_
  rintro e3 w3 ⟨rfl, hx3⟩
  have HX3 : Hid (Ext wn w3) := Lib.hid (Ext.trans (Below.drewN' (Ext.refl wn) 1) hx3)
  clear hx3
  have ha := HAND.out
  refine hK _ _ (HX3.out) (fun hSx => ?_)
  clear hK K
  try simp only [Act.put, List.setIfInBounds_toArray, List.set_cons_zero, List.set_cons_succ]
  refine held_take (i := 5) (v := ?_) rfl (by kernel_rfl) (by kernel_rfl) (by kernel_rfl) (by rfl) (by first | assumption | exact True.intro) ?_ ?_
  rotate_left
  · (intro W hSw; go_simp; (try with_reducible rfl))
  try simp only [Act.put, List.setIfInBounds_toArray, List.set_cons_zero, List.set_cons_succ]
  clear hSx
  refine held_op (i := 6) (by kernel_rfl) rfl (fun K hK => ?_)
  go_simp
  go_at_call 35
  refine (HPC.out _ (Ext.trans HX0.out HX3.out)).mono ?_
  rintro e4 w4 ⟨rfl, hx4⟩
  have HX4 : Hid (Ext wn w4) := Lib.hid (Ext.trans HX3.out hx4)
  clear hx4
  refine hK _ _ (HX4.out) (fun hSx => ?_)
  clear hK K
  try simp only [Act.put, List.setIfInBounds_toArray, List.set_cons_zero, List.set_cons_succ]
  refine held_take (i := 7) (v := ?_) rfl (by kernel_rfl) (by kernel_rfl) (by kernel_rfl) (by rfl) (by first | assumption | exact True.intro) ?_ ?_
  rotate_left
  · (intro W hSw; go_simp; (try with_reducible rfl))
  try simp only [Act.put, List.setIfInBounds_toArray, List.set_cons_zero, List.set_cons_succ]
  refine held_take (i := 8) (v := ?_) rfl (by kernel_rfl) (by kernel_rfl) (by kernel_rfl) (by rfl) (by first | assumption | exact True.intro) ?_ ?_
  rotate_left
  · (intro W hSw; go_simp; (try with_reducible rfl))
  try simp only [Act.put, List.setIfInBounds_toArray, List.set_cons_zero, List.set_cons_succ]
  refine held_take (i := 9) (v := ?_) rfl (by kernel_rfl) (by kernel_rfl) (by kernel_rfl) (by rfl) (by first | assumption | exact True.intro) ?_ ?_
  rotate_left
  · (intro W hSw; go_simp; (try with_reducible rfl))
  try simp only [Act.put, List.setIfInBounds_toArray, List.set_cons_zero, List.set_cons_succ]
  refine held_take (i := 10) (v := ?_) rfl (by kernel_rfl) (by kernel_rfl) (by kernel_rfl) (by rfl) (by first | assumption | exact True.intro) ?_ ?_
  rotate_left
  · (intro W hSw; go_simp; (try with_reducible rfl))
  try simp only [Act.put, List.setIfInBounds_toArray, List.set_cons_zero, List.set_cons_succ]
  refine held_take (i := 11) (v := ?_) rfl (by kernel_rfl) (by kernel_rfl) (by kernel_rfl) (by rfl) (by first | assumption | exact True.intro) ?_ ?_
  rotate_left
  · (intro W hSw; go_simp; (try with_reducible rfl))
  try simp only [Act.put, List.setIfInBounds_toArray, List.set_cons_zero, List.set_cons_succ]
  clear hSx ha
  refine wpAnyH_done (by kernel_rfl) ?_ _
  refine NoPanic.normal ?_
  have HXW : Hid (Ext w w4) := Lib.hid (Ext.trans HX0.out HX4.out)
  have HB4 := Lib.hid (HB0.out.ext HX4.out)
  have c4 := (HBN.out.ext HX4.out).cell 4
  have ww : wrap64 (now + x.work) = now + x.work := IntWalk.wrap64_in _ (by have := HWK.out; omega)
  cases hp : PK.2 with
  | true =>
    have HZ : Hid (BS = (PK.1, true)) := Lib.hid (by rw [HBS.out, if_pos hp])
    clear hp
    go_wp2
    go_ret2
    exact ⟨by rw [HZ.out]; rfl, HXW.out⟩
  | false =>
    by_cases hl : rt < now + x.work
    · have d1 : decide (rt < now + x.work) = true := decide_eq_true hl
      have HZ : Hid (BS = (0, false)) := Lib.hid (by rw [HBS.out, if_neg (by rw [hp]; simp), if_pos hl])
      clear hp hl
      go_wp2
      go_ret2
      exact ⟨by rw [HZ.out]; rfl, HXW.out⟩
    · have d1 : decide (rt < now + x.work) = false := decide_eq_false hl
      have HZ : Hid (BS = nowS s job) := Lib.hid (by rw [HBS.out, if_neg (by rw [hp]; simp), if_neg hl])
      clear hp hl
      have HNC := Lib.hid (HNW.out job w4 HXW.out)
      obtain ⟨NW, hNW⟩ : ∃ z, z = nowS s job := ⟨_, rfl⟩
      rw [← hNW] at HNC HZ
      clear hNW
      obtain ⟨g0, g1, g2, g3, g4, g5⟩ := Blk.six HB4.out
      go_wp2_with fail
      refine HNC.out.mono ?_
      rintro e5 w5 ⟨rfl, hx5⟩
      have HX5 : Hid (Ext w w5) := Lib.hid (Ext.trans HXW.out hx5)
      clear hx5 HNC
      simp only []
      go_wp2
      go_ret2
      exact ⟨by rw [HZ.out]; rfl, HX5.out⟩

end Go.Proofs.Ytgjidkhfnnghiaa

/- Package ahead: Fill. -/
namespace Go.Proofs.Ytgjidkhfnnghiaa
open Go.RowKit Go.Maps

set_option maxRecDepth 100000 in
set_option maxHeartbeats 8000000 in
theorem Fill_any (vn vj : Value) (s : St) (job now : Int) (w : World) (hrn : RdNd w vn s.nodes) (hr : RdJb w vj s.jobs) (hA : OkA s) (hn0 : 0 ≤ now) (hn1 : now ≤ 1000000) :
    Calls Try.prog 7 #[stV vn vj s, .int .i64 job, .int .i64 now] w fun e w' => e = .returned (.tuple #[.int .i64 (fillS s job now).1, .bool (fillS s job now).2]) ∧ Ext w w' := by
  have hN := hA.ok.nn
  have hJ := hA.ok.nj
  have HRJ := Lib.hid hr
  have HRN := Lib.hid hrn
  obtain ⟨hx, hb⟩ := boxSt vn vj s w 27
  have HPL : Hid (∀ W, Ext w W → Calls Try.prog 20 #[stV vn vj s, .int .i64 job] W fun e w' => e = .returned (.int .i64 (placeI s.jobs job)) ∧ Ext W w') := Lib.hid fun W hW => Place_any vn vj s job W (HRJ.out.ext hW) (by omega)
  have HLN : Hid (∀ W, Ext w W → Calls Try.prog 21 #[stV vn vj s] W fun e w' => ∃ v', e = .returned v' ∧ Rd w' v' ((lineL s.jobs).map J) ∧ Ext W w') := Lib.hid fun W hW => Line_any vn vj s W (HRJ.out.ext hW) (by omega)
  have HRS : Hid (∀ k W, Ext w W → Calls Try.prog 11 #[stV vn vj s, .int .i64 k, .int .i64 now] W fun e w' => e = .returned (.tuple #[.int .i64 (reserveS s k now).t, .int .i64 (reserveS s k now).n, .bool (reserveS s k now).ok]) ∧ Ext W w') := Lib.hid fun k W hW => Reserve_any vn vj s k now W (HRN.out.ext hW) (HRJ.out.ext hW) hA hn0 hn1
  have HBE : Hid (∀ (x : Jb) (i : Nat) (r : Rv) W, job = (i : Int) + 1 → s.jobs[i]? = some x → OkR r → Ext w W → Calls Try.prog 22 #[stV vn vj s, .int .i64 job, .int .i64 now, .int .i64 r.t, .int .i64 r.n] W fun e w' => e = .returned (.tuple #[.int .i64 (besideS s x job now r).1, .bool (besideS s x job now r).2]) ∧ Ext W w') := Lib.hid fun x i r W h1 h2 h3 hW => beside_any vn vj s x i job now r W (HRN.out.ext hW) (HRJ.out.ext hW) hA hn0 hn1 h1 h2 h3
  unfold stV at HPL HLN HRS HBE
  unfold stV
  unfold stC at hx hb
  obtain ⟨FS, hFS⟩ : ∃ z, z = fillS s job now := ⟨_, rfl⟩
  rw [← hFS]
  have HP := Lib.hid hFS
  have HX := Lib.hid hx
  have HB := Lib.hid hb
  clear hx hb hr hFS hrn HRN HRJ
  go_enter Try.func7, Try.ntmps7
  go_upto_region 1 with (fail)
  obtain ⟨W0, hW0⟩ : ∃ W0, W0 = w.alloc (.cells #[vn, vj, .int .i64 s.goal, .int .i64 s.prior, .int .i64 s.mode, .int .i64 s.term] 27) := ⟨_, rfl⟩
  rw [← hW0] at HX HB ⊢
  clear hW0
  obtain ⟨g0, g1, g2, g3, g4, g5⟩ := Blk.six HB.out
  have HPC := Lib.hid (HPL.out W0 HX.out)
  have HPX : Hid ((placeI s.jobs job < 1 → False) → ∃ (i k : Nat) (x : Jb) (t : List Nat), job = (i : Int) + 1 ∧ s.jobs[i]? = some x ∧ x.phase = 0 ∧ lineL s.jobs = k :: t) := Lib.hid (fun h => placeI_some h)
  have HPN : Hid (placeI s.jobs job < 1 → FS = (0, false)) := Lib.hid (fun h => by rw [HP.out]; exact fillS_none h)
  have HPA : Hid ((placeI s.jobs job < 1 → False) → ∀ (i : Nat) (x : Jb), job = (i : Int) + 1 → s.jobs[i]? = some x → FS = besideS s x job now (reserveS s (headS s) now)) := Lib.hid (fun h i x h1 h2 => by rw [HP.out]; exact fill_beside h h1 h2 (by have := (hA.jobs i x h2).2.1; omega))
  obtain ⟨PI, hPI⟩ : ∃ z, z = placeI s.jobs job := ⟨_, rfl⟩
  rw [← hPI] at HPC HPX HPN HPA
  clear hPI HP HPL
  go_wp2_with fail
  refine HPC.out.mono ?_
  rintro e1 w1 ⟨rfl, hx1⟩
  have HX1 : Hid (Ext w w1) := Lib.hid (Ext.trans HX.out hx1)
  have HB1 := Lib.hid (HB.out.ext hx1)
  clear hx1 HPC g0 g1 g2 g3 g4 g5
  simp only []
  by_cases p1 : PI < 1
  · have f1 : decide (PI < 1) = true := decide_eq_true p1
    have HZ := Lib.hid (HPN.out p1)
    clear p1
    go_wp2
    go_ret2
    exact ⟨by rw [HZ.out]; rfl, HX1.out⟩
  · have f1 : decide (PI < 1) = false := decide_eq_false p1
    obtain ⟨i, k, x, t, hi, hxi, hph, hL⟩ := HPX.out p1
    have HHD := Lib.hid (headS_at hL)
    have HLL := Lib.hid hL
    have HZ : Hid (FS = besideS s x job now (reserveS s (headS s) now)) := Lib.hid (HPA.out p1 i x hi hxi)
    have HBC := Lib.hid (fun r W h hW => HBE.out x i r W hi hxi h hW)
    clear p1 hi hxi hph hL HPX HPN HPA hn0 hn1 hJ HBE
    go_upto_region 3 with (fail)
    clear f1
    refine held_begin (by kernel_rfl) ?_
    refine held_more (S' := fun W' : World => Ext w1 W') (fun _ _ => True.intro) ?_
    have hSx : (fun W' : World => Ext w1 W') w1.drew := Below.drewN' (Ext.refl w1) 1
    refine held_take (i := 0) (v := ?_) rfl (by kernel_rfl) (by kernel_rfl) (by kernel_rfl) (by rfl) (by first | assumption | exact True.intro) ?_ ?_
    rotate_left
    · (intro W hSw; obtain ⟨g0, g1, g2, g3, g4, g5⟩ := Blk.six (HB1.out.ext hSw); go_simp; (try with_reducible rfl))
    try simp only [Act.put, List.setIfInBounds_toArray, List.set_cons_zero, List.set_cons_succ]
    refine held_take (i := 1) (v := ?_) rfl (by kernel_rfl) (by kernel_rfl) (by kernel_rfl) (by rfl) (by first | assumption | exact True.intro) ?_ ?_
    rotate_left
    · (intro W hSw; obtain ⟨g0, g1, g2, g3, g4, g5⟩ := Blk.six (HB1.out.ext hSw); go_simp; (try with_reducible rfl))
    try simp only [Act.put, List.setIfInBounds_toArray, List.set_cons_zero, List.set_cons_succ]
    refine held_take (i := 5) (v := ?_) rfl (by kernel_rfl) (by kernel_rfl) (by kernel_rfl) (by rfl) (by first | assumption | exact True.intro) ?_ ?_
    rotate_left
    · (intro W hSw; obtain ⟨g0, g1, g2, g3, g4, g5⟩ := Blk.six (HB1.out.ext hSw); go_simp; (try with_reducible rfl))
    try simp only [Act.put, List.setIfInBounds_toArray, List.set_cons_zero, List.set_cons_succ]
    clear hSx
    refine held_op (i := 2) (by kernel_rfl) rfl (fun K hK => ?_)
    go_simp
    go_at_call 21
    refine (HLN.out _ (Ext.trans HX1.out (Below.drewN' (Ext.refl w1) 1))).mono ?_
    rintro e3 w3 ⟨v3, rfl, hr3, hx3⟩
    have HX3 : Hid (Ext w1 w3) := Lib.hid (Ext.trans (Below.drewN' (Ext.refl w1) 1) hx3)
    obtain ⟨N3, hN3⟩ : ∃ N : Nat, N = ((lineL s.jobs).map J).length := ⟨_, rfl⟩
    obtain ⟨A3, c3, e3, -, -, h3⟩ := hr3
    rw [← hN3] at e3 h3
    subst e3
    have n3 : 0 < N3 := by rw [hN3, HLL.out]; simp
    obtain ⟨b3, o3, rfl, hb3, hc3⟩ := h3 n3
    have HZ3 := Lib.hid (hc3 0 (.int .i64 ((k : Int) + 1)) (by rw [HLL.out]; rfl))
    have HB3 := Lib.hid hb3
    obtain ⟨hd, hhd⟩ : ∃ z : Int, z = (k : Int) + 1 := ⟨_, rfl⟩
    rw [← hhd] at HZ3 HHD
    clear hx3 h3 hc3 hb3 hhd hN3
    refine hK _ _ (HX3.out) (fun hSx => ?_)
    clear hK K
    try simp only [Act.put, List.setIfInBounds_toArray, List.set_cons_zero, List.set_cons_succ]
    refine held_more (S' := fun W' : World => Ext w3 W') (fun W hW => Ext.trans HX3.out hW) ?_
    clear hSx
    have hSx : (fun W' : World => Ext w3 W') w3 := Ext.refl w3
    have d3 : (0 : Int) < (N3 : Int) := by omega
    refine held_take (i := 3) (v := ?_) rfl (by kernel_rfl) (by kernel_rfl) (by kernel_rfl) (by rfl) (by first | assumption | exact True.intro) ?_ ?_
    rotate_left
    · (intro W hSw; go_simp; (try with_reducible rfl))
    try simp only [Act.put, List.setIfInBounds_toArray, List.set_cons_zero, List.set_cons_succ]
    refine held_take (i := 4) (v := ?_) rfl (by kernel_rfl) (by kernel_rfl) (by kernel_rfl) (by rfl) (by first | assumption | exact True.intro) ?_ ?_
    rotate_left
    · (intro W hSw; have z3 : W.cell? ⟨b3, o3, none⟩ = some (.int .i64 hd) := hSw.cellOf HZ3.out HB3.out; go_simp; (try with_reducible rfl))
    try simp only [Act.put, List.setIfInBounds_toArray, List.set_cons_zero, List.set_cons_succ]
    clear hSx d3
    refine held_op (i := 6) (by kernel_rfl) rfl (fun K hK => ?_)
    go_simp
    go_at_call 11
    refine (HRS.out hd _ (Ext.trans HX1.out HX3.out)).mono ?_
    rintro e4 w4 ⟨rfl, hx4⟩
    have HX4 : Hid (Ext w3 w4) := Lib.hid hx4
    clear hx4
    refine hK _ _ (HX4.out) (fun hSx => ?_)
    clear hK K
    try simp only [Act.put, List.setIfInBounds_toArray, List.set_cons_zero, List.set_cons_succ]
    refine held_take (i := 7) (v := ?_) rfl (by kernel_rfl) (by kernel_rfl) (by kernel_rfl) (by rfl) (by first | assumption | exact True.intro) ?_ ?_
    rotate_left
    · (intro W hSw; go_simp; (try with_reducible rfl))
    try simp only [Act.put, List.setIfInBounds_toArray, List.set_cons_zero, List.set_cons_succ]
    refine held_take (i := 8) (v := ?_) rfl (by kernel_rfl) (by kernel_rfl) (by kernel_rfl) (by rfl) (by first | assumption | exact True.intro) ?_ ?_
    rotate_left
    · (intro W hSw; go_simp; (try with_reducible rfl))
    try simp only [Act.put, List.setIfInBounds_toArray, List.set_cons_zero, List.set_cons_succ]
    refine held_take (i := 9) (v := ?_) rfl (by kernel_rfl) (by kernel_rfl) (by kernel_rfl) (by rfl) (by first | assumption | exact True.intro) ?_ ?_
    rotate_left
    · (intro W hSw; go_simp; (try with_reducible rfl))
    try simp only [Act.put, List.setIfInBounds_toArray, List.set_cons_zero, List.set_cons_succ]
    refine held_take (i := 10) (v := ?_) rfl (by kernel_rfl) (by kernel_rfl) (by kernel_rfl) (by rfl) (by first | assumption | exact True.intro) ?_ ?_
    rotate_left
    · (intro W hSw; go_simp; (try with_reducible rfl))
    try simp only [Act.put, List.setIfInBounds_toArray, List.set_cons_zero, List.set_cons_succ]
    refine held_take (i := 11) (v := ?_) rfl (by kernel_rfl) (by kernel_rfl) (by kernel_rfl) (by rfl) (by first | assumption | exact True.intro) ?_ ?_
    rotate_left
    · (intro W hSw; go_simp; (try with_reducible rfl))
    try simp only [Act.put, List.setIfInBounds_toArray, List.set_cons_zero, List.set_cons_succ]
    refine held_take (i := 12) (v := ?_) rfl (by kernel_rfl) (by kernel_rfl) (by kernel_rfl) (by rfl) (by first | assumption | exact True.intro) ?_ ?_
    rotate_left
    · (intro W hSw; go_simp; (try with_reducible rfl))
    try simp only [Act.put, List.setIfInBounds_toArray, List.set_cons_zero, List.set_cons_succ]
    refine held_take (i := 13) (v := ?_) rfl (by kernel_rfl) (by kernel_rfl) (by kernel_rfl) (by rfl) (by first | assumption | exact True.intro) ?_ ?_
    rotate_left
    · (intro W hSw; go_simp; (try with_reducible rfl))
    try simp only [Act.put, List.setIfInBounds_toArray, List.set_cons_zero, List.set_cons_succ]
    clear hSx
    refine wpAnyH_done (by kernel_rfl) ?_ _
    refine NoPanic.normal ?_
    rw [HHD.out] at HZ
    have HOKR := Lib.hid (reserveS_ok s hd now)
    obtain ⟨r, hr⟩ : ∃ r, r = reserveS s hd now := ⟨_, rfl⟩
    rw [← hr] at HZ HOKR ⊢
    clear hr HRS HLN
    have HXL : Hid (Ext w w4) := Lib.hid (Ext.trans HX1.out (Ext.trans HX3.out HX4.out))
    obtain ⟨g0, g1, g2, g3, g4, g5⟩ := Blk.six (HB1.out.ext (Ext.trans HX3.out HX4.out))
    have HBD := Lib.hid (HBC.out r w4 HOKR.out HXL.out)
    obtain ⟨BS, hBS⟩ : ∃ z, z = besideS s x job now r := ⟨_, rfl⟩
    rw [← hBS] at HBD HZ
    clear hBS HBC
    go_wp2_with fail
    refine HBD.out.mono ?_
    rintro e5 w5 ⟨rfl, hx5⟩
    have HX5 : Hid (Ext w w5) := Lib.hid (Ext.trans HXL.out hx5)
    clear hx5 HBD
    simp only []
    go_wp2
    go_ret2
    exact ⟨by rw [HZ.out]; rfl, HX5.out⟩

end Go.Proofs.Ytgjidkhfnnghiaa

/- Package ahead: Next. -/
namespace Go.Proofs.Ytgjidkhfnnghiaa
open Go.RowKit Go.Maps

theorem nextF_yes {s : St} {now : Int} {i p : Nat} {l : List Nat} (hi : i ≠ 0) (h : (fillS s ((p : Int) + 1) now).2 = true) : nextF s now i (p :: l) = ⟨(p : Int) + 1, (fillS s ((p : Int) + 1) now).1, true⟩ := by
  unfold nextF
  rw [if_neg hi, if_pos h]
theorem nextF_no {s : St} {now : Int} {i p : Nat} {l : List Nat} (hi : i ≠ 0) (h : (fillS s ((p : Int) + 1) now).2 = false) : nextF s now i (p :: l) = nextF s now (i + 1) l := by
  conv => lhs; unfold nextF
  rw [if_neg hi, if_neg (by rw [h]; simp)]
theorem nextF_one {s : St} {now : Int} {i k : Nat} {l : List Nat} (hi : i ≠ 0) (hk : k ≠ 0) : nextF s now i l = nextF s now k l := by
  induction l generalizing i k with
  | nil => rfl
  | cons p l ih =>
    cases h : (fillS s ((p : Int) + 1) now).2 with
    | true => rw [nextF_yes hi h, nextF_yes hk h]
    | false => rw [nextF_no hi h, nextF_no hk h]; exact ih (by omega) (by omega)
theorem nextS_nil {s : St} {now : Int} (h : lineL s.jobs = []) : nextS s now = ⟨0, 0, false⟩ := by
  unfold nextS
  rw [h]
  rfl
theorem nextS_head {s : St} {now : Int} {k : Nat} {t : List Nat} (h : lineL s.jobs = k :: t) (hn : (nowS s ((k : Int) + 1)).2 = true) : nextS s now = ⟨(k : Int) + 1, (nowS s ((k : Int) + 1)).1, true⟩ := by
  unfold nextS
  rw [h]
  unfold nextF
  rw [if_pos rfl, if_pos hn]
theorem nextS_rest {s : St} {now : Int} {k : Nat} {t : List Nat} (h : lineL s.jobs = k :: t) (hn : (nowS s ((k : Int) + 1)).2 = false) : nextS s now = nextF s now 1 t := by
  unfold nextS
  rw [h]
  conv => lhs; unfold nextF
  rw [if_pos rfl, if_neg (by rw [hn]; simp)]

set_option maxRecDepth 100000 in
set_option maxHeartbeats 8000000 in
theorem Next_any (vn vj : Value) (s : St) (now : Int) (w : World) (hrn : RdNd w vn s.nodes) (hr : RdJb w vj s.jobs) (hA : OkA s) (hn0 : 0 ≤ now) (hn1 : now ≤ 1000000) :
    Calls Try.prog 9 #[stV vn vj s, .int .i64 now] w fun e w' => e = .returned (.tuple #[.int .i64 (nextS s now).t, .int .i64 (nextS s now).n, .bool (nextS s now).ok]) ∧ Ext w w' := by
  have hN := hA.ok.nn
  have hJ := hA.ok.nj
  have HRJ := Lib.hid hr
  have HRN := Lib.hid hrn
  obtain ⟨hx, hb⟩ := boxSt vn vj s w 27
  have HLN : Hid (∀ W, Ext w W → Calls Try.prog 21 #[stV vn vj s] W fun e w' => ∃ v', e = .returned v' ∧ Rd w' v' ((lineL s.jobs).map J) ∧ Ext W w') := Lib.hid fun W hW => Line_any vn vj s W (HRJ.out.ext hW) (by omega)
  have HNW : Hid (∀ job W, Ext w W → Calls Try.prog 30 #[stV vn vj s, .int .i64 job] W fun e w' => e = .returned (.tuple #[.int .i64 (nowS s job).1, .bool (nowS s job).2]) ∧ Ext W w') := Lib.hid fun job W hW => Now_any vn vj s job W (HRN.out.ext hW) (HRJ.out.ext hW) hA
  have HRS : Hid (∀ k W, Ext w W → Calls Try.prog 11 #[stV vn vj s, .int .i64 k, .int .i64 now] W fun e w' => e = .returned (.tuple #[.int .i64 (reserveS s k now).t, .int .i64 (reserveS s k now).n, .bool (reserveS s k now).ok]) ∧ Ext W w') := Lib.hid fun k W hW => Reserve_any vn vj s k now W (HRN.out.ext hW) (HRJ.out.ext hW) hA hn0 hn1
  have HBE : Hid (∀ job (x : Jb) (i : Nat) (r : Rv) W, job = (i : Int) + 1 → s.jobs[i]? = some x → OkR r → Ext w W → Calls Try.prog 22 #[stV vn vj s, .int .i64 job, .int .i64 now, .int .i64 r.t, .int .i64 r.n] W fun e w' => e = .returned (.tuple #[.int .i64 (besideS s x job now r).1, .bool (besideS s x job now r).2]) ∧ Ext W w') := Lib.hid fun job x i r W h1 h2 h3 hW => beside_any vn vj s x i job now r W (HRN.out.ext hW) (HRJ.out.ext hW) hA hn0 hn1 h1 h2 h3
  unfold stV at HLN HNW HRS HBE
  unfold stV
  unfold stC at hx hb
  obtain ⟨R, hR⟩ : ∃ z, z = nextS s now := ⟨_, rfl⟩
  rw [← hR]
  have HP := Lib.hid hR
  have HX := Lib.hid hx
  have HB := Lib.hid hb
  clear hx hb hr hR hrn HRN HRJ
  go_enter Try.func9, Try.ntmps9
  go_upto_region 1 with (fail)
  obtain ⟨W0, hW0⟩ : ∃ W0, W0 = w.alloc (.cells #[vn, vj, .int .i64 s.goal, .int .i64 s.prior, .int .i64 s.mode, .int .i64 s.term] 27) := ⟨_, rfl⟩
  rw [← hW0] at HX HB ⊢
  clear hW0
  obtain ⟨g0, g1, g2, g3, g4, g5⟩ := Blk.six HB.out
  have HLC := Lib.hid (HLN.out W0 HX.out)
  go_wp2_with fail
  refine HLC.out.mono ?_
  rintro e1 w1 ⟨v1, rfl, hr1, hx1⟩
  have HX1 : Hid (Ext w w1) := Lib.hid (Ext.trans HX.out hx1)
  have HB1 := Lib.hid (HB.out.ext hx1)
  clear hx1 HLC HLN g0 g1 g2 g3 g4 g5
  obtain ⟨L, hL⟩ : ∃ L, L = lineL s.jobs := ⟨_, rfl⟩
  rw [← hL] at hr1
  have hLn : L.length ≤ 1000000 := by rw [hL]; exact Nat.le_trans (lineTo_len s.jobs s.jobs.length) (Nat.le_trans (Nat.mul_le_mul hJ hJ) (by decide))
  obtain ⟨n, hn⟩ : ∃ n, n = L.length := ⟨_, rfl⟩
  obtain ⟨A1, c1, e1, hnc, hcm, h3⟩ := hr1
  rw [List.length_map, ← hn] at e1 hnc h3
  subst e1
  have HCL : Hid (∀ (q p : Nat), L[q]? = some p → ∃ b o, A1 = some ⟨b, o, none⟩ ∧ b < w1.heap.size ∧ w1.cell? ⟨b, o + q, none⟩ = some (.int .i64 ((p : Int) + 1))) := Lib.hid fun q p hq => by
    obtain ⟨b, o, hA1, hb1, hc⟩ := h3 (by have := (List.getElem?_eq_some_iff.1 hq).1; omega)
    exact ⟨b, o, hA1, hb1, hc q _ (by rw [List.getElem?_map, hq]; rfl)⟩
  have HLE := Lib.hid hL
  have HN := Lib.hid hn
  have hn9 : n ≤ 1000000 := by omega
  clear h3 hL hLn hn
  simp only []
  cases L with
  | nil =>
    obtain rfl : n = 0 := HN.out
    have HZ : Hid (R = ⟨0, 0, false⟩) := Lib.hid (by rw [HP.out]; exact nextS_nil HLE.out.symm)
    go_wp2
    go_ret3
    exact ⟨by rw [HZ.out]; rfl, HX1.out⟩
  | cons k t =>
    have hnt : n = t.length + 1 := HN.out
    obtain ⟨b1, o1, rfl, hb1, hc1⟩ := HCL.out 0 k rfl
    have HC0 := Lib.hid hc1
    have HBL := Lib.hid hb1
    have e0 : ((n : Int) == 0) = false := by rw [hnt]; simp; omega
    have d3 : (0 : Int) < (n : Int) := by omega
    have HNT := Lib.hid hnt
    obtain ⟨hd, hhd⟩ : ∃ z : Int, z = (k : Int) + 1 := ⟨_, rfl⟩
    rw [← hhd] at HC0
    have HHD := Lib.hid hhd
    clear hc1 hb1 hnt hhd
    go_upto_region 4 with (fail)
    clear e0
    refine held_begin (by kernel_rfl) ?_
    refine held_more (S' := fun W' : World => Ext w1 W') (fun _ _ => True.intro) ?_
    have hSx : (fun W' : World => Ext w1 W') w1.drew := Below.drewN' (Ext.refl w1) 1
    refine held_take (i := 0) (v := ?_) rfl (by kernel_rfl) (by kernel_rfl) (by kernel_rfl) (by rfl) (by first | assumption | exact True.intro) ?_ ?_
    rotate_left
    · (intro W hSw; have d3n : 0 < n := (by have := HNT.out; omega); have d3i : (0 : Int) < (n : Int) := (by omega); obtain ⟨g0, g1, g2, g3, g4, g5⟩ := Blk.six (HB1.out.ext hSw); have z3 : W.cell? ⟨b1, o1, none⟩ = some (.int .i64 hd) := hSw.cellOf HC0.out HBL.out; go_simp; (try with_reducible rfl))
    try simp only [Act.put, List.setIfInBounds_toArray, List.set_cons_zero, List.set_cons_succ]
    refine held_take (i := 1) (v := ?_) rfl (by kernel_rfl) (by kernel_rfl) (by kernel_rfl) (by rfl) (by first | assumption | exact True.intro) ?_ ?_
    rotate_left
    · (intro W hSw; have d3n : 0 < n := (by have := HNT.out; omega); have d3i : (0 : Int) < (n : Int) := (by omega); obtain ⟨g0, g1, g2, g3, g4, g5⟩ := Blk.six (HB1.out.ext hSw); have z3 : W.cell? ⟨b1, o1, none⟩ = some (.int .i64 hd) := hSw.cellOf HC0.out HBL.out; go_simp; (try with_reducible rfl))
    try simp only [Act.put, List.setIfInBounds_toArray, List.set_cons_zero, List.set_cons_succ]
    refine held_take (i := 2) (v := ?_) rfl (by kernel_rfl) (by kernel_rfl) (by kernel_rfl) (by rfl) (by first | assumption | exact True.intro) ?_ ?_
    rotate_left
    · (intro W hSw; have d3n : 0 < n := (by have := HNT.out; omega); have d3i : (0 : Int) < (n : Int) := (by omega); obtain ⟨g0, g1, g2, g3, g4, g5⟩ := Blk.six (HB1.out.ext hSw); have z3 : W.cell? ⟨b1, o1, none⟩ = some (.int .i64 hd) := hSw.cellOf HC0.out HBL.out; go_simp; (try with_reducible rfl))
    try simp only [Act.put, List.setIfInBounds_toArray, List.set_cons_zero, List.set_cons_succ]
    refine held_take (i := 3) (v := ?_) rfl (by kernel_rfl) (by kernel_rfl) (by kernel_rfl) (by rfl) (by first | assumption | exact True.intro) ?_ ?_
    rotate_left
    · (intro W hSw; have d3n : 0 < n := (by have := HNT.out; omega); have d3i : (0 : Int) < (n : Int) := (by omega); obtain ⟨g0, g1, g2, g3, g4, g5⟩ := Blk.six (HB1.out.ext hSw); have z3 : W.cell? ⟨b1, o1, none⟩ = some (.int .i64 hd) := hSw.cellOf HC0.out HBL.out; go_simp; (try with_reducible rfl))
    try simp only [Act.put, List.setIfInBounds_toArray, List.set_cons_zero, List.set_cons_succ]
    clear hSx
    refine held_op (i := 4) (by kernel_rfl) rfl (fun K hK => ?_)
    go_simp
    go_at_call 30
    refine (HNW.out hd _ (Ext.trans HX1.out (Below.drewN' (Ext.refl w1) 1))).mono ?_
    rintro e3 w3 ⟨rfl, hx3⟩
    have HX3 : Hid (Ext w1 w3) := Lib.hid (Ext.trans (Below.drewN' (Ext.refl w1) 1) hx3)
    clear hx3
    refine hK _ _ (HX3.out) (fun hSx => ?_)
    clear hK K
    try simp only [Act.put, List.setIfInBounds_toArray, List.set_cons_zero, List.set_cons_succ]
    refine held_take (i := 5) (v := ?_) rfl (by kernel_rfl) (by kernel_rfl) (by kernel_rfl) (by rfl) (by first | assumption | exact True.intro) ?_ ?_
    rotate_left
    · (intro W hSw; go_simp; (try with_reducible rfl))
    try simp only [Act.put, List.setIfInBounds_toArray, List.set_cons_zero, List.set_cons_succ]
    refine held_take (i := 6) (v := ?_) rfl (by kernel_rfl) (by kernel_rfl) (by kernel_rfl) (by rfl) (by first | assumption | exact True.intro) ?_ ?_
    rotate_left
    · (intro W hSw; go_simp; (try with_reducible rfl))
    try simp only [Act.put, List.setIfInBounds_toArray, List.set_cons_zero, List.set_cons_succ]
    refine held_take (i := 7) (v := ?_) rfl (by kernel_rfl) (by kernel_rfl) (by kernel_rfl) (by rfl) (by first | assumption | exact True.intro) ?_ ?_
    rotate_left
    · (intro W hSw; go_simp; (try with_reducible rfl))
    try simp only [Act.put, List.setIfInBounds_toArray, List.set_cons_zero, List.set_cons_succ]
    refine held_take (i := 8) (v := ?_) rfl (by kernel_rfl) (by kernel_rfl) (by kernel_rfl) (by rfl) (by first | assumption | exact True.intro) ?_ ?_
    rotate_left
    · (intro W hSw; go_simp; (try with_reducible rfl))
    try simp only [Act.put, List.setIfInBounds_toArray, List.set_cons_zero, List.set_cons_succ]
    refine held_take (i := 9) (v := ?_) rfl (by kernel_rfl) (by kernel_rfl) (by kernel_rfl) (by rfl) (by first | assumption | exact True.intro) ?_ ?_
    rotate_left
    · (intro W hSw; go_simp; (try with_reducible rfl))
    try simp only [Act.put, List.setIfInBounds_toArray, List.set_cons_zero, List.set_cons_succ]
    clear hSx
    refine wpAnyH_done (by kernel_rfl) ?_ _
    refine NoPanic.normal ?_
    obtain ⟨NW, hNW⟩ : ∃ z, z = nowS s hd := ⟨_, rfl⟩
    rw [← hNW]
    have HNE := Lib.hid hNW
    clear hNW
    have c10 : w3.cell? ⟨b1, o1, none⟩ = some (.int .i64 hd) := HX3.out.cellOf HC0.out HBL.out
    cases hok : NW.2 with
    | true =>
      have HZ : Hid (R = ⟨hd, NW.1, true⟩) := Lib.hid (by rw [HP.out, nextS_head HLE.out.symm (by rw [← HHD.out, ← HNE.out]; exact hok), ← HHD.out, ← HNE.out])
      clear hok
      go_wp2
      go_ret3
      exact ⟨by rw [HZ.out]; rfl, Ext.trans HX1.out HX3.out⟩
    | false =>
      have HZ : Hid (R = nextF s now 1 t) := Lib.hid (by rw [HP.out, nextS_rest HLE.out.symm (by rw [← HHD.out, ← HNE.out]; exact hok)])
      clear hok
      go_upto_region 7 with (fail)
      clear c10
      refine held_begin (by kernel_rfl) ?_
      refine held_more (S' := fun W' : World => Ext w3 W') (fun _ _ => True.intro) ?_
      have hSx : (fun W' : World => Ext w3 W') w3.drew := Below.drewN' (Ext.refl w3) 1
      refine held_take (i := 0) (v := ?_) rfl (by kernel_rfl) (by kernel_rfl) (by kernel_rfl) (by rfl) (by first | assumption | exact True.intro) ?_ ?_
      rotate_left
      · (intro W hSw; have d3n : 0 < n := (by have := HNT.out; omega); have d3i : (0 : Int) < (n : Int) := (by omega); obtain ⟨g0, g1, g2, g3, g4, g5⟩ := Blk.six (HB1.out.ext (Ext.trans HX3.out hSw)); have z3 : W.cell? ⟨b1, o1, none⟩ = some (.int .i64 hd) := (Ext.trans HX3.out hSw).cellOf HC0.out HBL.out; go_simp; (try with_reducible rfl))
      try simp only [Act.put, List.setIfInBounds_toArray, List.set_cons_zero, List.set_cons_succ]
      refine held_take (i := 1) (v := ?_) rfl (by kernel_rfl) (by kernel_rfl) (by kernel_rfl) (by rfl) (by first | assumption | exact True.intro) ?_ ?_
      rotate_left
      · (intro W hSw; have d3n : 0 < n := (by have := HNT.out; omega); have d3i : (0 : Int) < (n : Int) := (by omega); obtain ⟨g0, g1, g2, g3, g4, g5⟩ := Blk.six (HB1.out.ext (Ext.trans HX3.out hSw)); have z3 : W.cell? ⟨b1, o1, none⟩ = some (.int .i64 hd) := (Ext.trans HX3.out hSw).cellOf HC0.out HBL.out; go_simp; (try with_reducible rfl))
      try simp only [Act.put, List.setIfInBounds_toArray, List.set_cons_zero, List.set_cons_succ]
      refine held_take (i := 2) (v := ?_) rfl (by kernel_rfl) (by kernel_rfl) (by kernel_rfl) (by rfl) (by first | assumption | exact True.intro) ?_ ?_
      rotate_left
      · (intro W hSw; have d3n : 0 < n := (by have := HNT.out; omega); have d3i : (0 : Int) < (n : Int) := (by omega); obtain ⟨g0, g1, g2, g3, g4, g5⟩ := Blk.six (HB1.out.ext (Ext.trans HX3.out hSw)); have z3 : W.cell? ⟨b1, o1, none⟩ = some (.int .i64 hd) := (Ext.trans HX3.out hSw).cellOf HC0.out HBL.out; go_simp; (try with_reducible rfl))
      try simp only [Act.put, List.setIfInBounds_toArray, List.set_cons_zero, List.set_cons_succ]
      refine held_take (i := 3) (v := ?_) rfl (by kernel_rfl) (by kernel_rfl) (by kernel_rfl) (by rfl) (by first | assumption | exact True.intro) ?_ ?_
      rotate_left
      · (intro W hSw; have d3n : 0 < n := (by have := HNT.out; omega); have d3i : (0 : Int) < (n : Int) := (by omega); obtain ⟨g0, g1, g2, g3, g4, g5⟩ := Blk.six (HB1.out.ext (Ext.trans HX3.out hSw)); have z3 : W.cell? ⟨b1, o1, none⟩ = some (.int .i64 hd) := (Ext.trans HX3.out hSw).cellOf HC0.out HBL.out; go_simp; (try with_reducible rfl))
      try simp only [Act.put, List.setIfInBounds_toArray, List.set_cons_zero, List.set_cons_succ]
      refine held_take (i := 4) (v := ?_) rfl (by kernel_rfl) (by kernel_rfl) (by kernel_rfl) (by rfl) (by first | assumption | exact True.intro) ?_ ?_
      rotate_left
      · (intro W hSw; have d3n : 0 < n := (by have := HNT.out; omega); have d3i : (0 : Int) < (n : Int) := (by omega); obtain ⟨g0, g1, g2, g3, g4, g5⟩ := Blk.six (HB1.out.ext (Ext.trans HX3.out hSw)); have z3 : W.cell? ⟨b1, o1, none⟩ = some (.int .i64 hd) := (Ext.trans HX3.out hSw).cellOf HC0.out HBL.out; go_simp; (try with_reducible rfl))
      try simp only [Act.put, List.setIfInBounds_toArray, List.set_cons_zero, List.set_cons_succ]
      clear hSx
      refine held_op (i := 5) (by kernel_rfl) rfl (fun K hK => ?_)
      go_simp
      go_at_call 11
      refine (HRS.out hd _ (Ext.trans HX1.out (Ext.trans HX3.out (Below.drewN' (Ext.refl w3) 1)))).mono ?_
      rintro e4 w4 ⟨rfl, hx4⟩
      have HX4 : Hid (Ext w3 w4) := Lib.hid (Ext.trans (Below.drewN' (Ext.refl w3) 1) hx4)
      clear hx4
      refine hK _ _ (HX4.out) (fun hSx => ?_)
      clear hK K
      try simp only [Act.put, List.setIfInBounds_toArray, List.set_cons_zero, List.set_cons_succ]
      refine held_take (i := 6) (v := ?_) rfl (by kernel_rfl) (by kernel_rfl) (by kernel_rfl) (by rfl) (by first | assumption | exact True.intro) ?_ ?_
      rotate_left
      · (intro W hSw; go_simp; (try with_reducible rfl))
      try simp only [Act.put, List.setIfInBounds_toArray, List.set_cons_zero, List.set_cons_succ]
      refine held_take (i := 7) (v := ?_) rfl (by kernel_rfl) (by kernel_rfl) (by kernel_rfl) (by rfl) (by first | assumption | exact True.intro) ?_ ?_
      rotate_left
      · (intro W hSw; go_simp; (try with_reducible rfl))
      try simp only [Act.put, List.setIfInBounds_toArray, List.set_cons_zero, List.set_cons_succ]
      refine held_take (i := 8) (v := ?_) rfl (by kernel_rfl) (by kernel_rfl) (by kernel_rfl) (by rfl) (by first | assumption | exact True.intro) ?_ ?_
      rotate_left
      · (intro W hSw; go_simp; (try with_reducible rfl))
      try simp only [Act.put, List.setIfInBounds_toArray, List.set_cons_zero, List.set_cons_succ]
      refine held_take (i := 9) (v := ?_) rfl (by kernel_rfl) (by kernel_rfl) (by kernel_rfl) (by rfl) (by first | assumption | exact True.intro) ?_ ?_
      rotate_left
      · (intro W hSw; go_simp; (try with_reducible rfl))
      try simp only [Act.put, List.setIfInBounds_toArray, List.set_cons_zero, List.set_cons_succ]
      refine held_take (i := 10) (v := ?_) rfl (by kernel_rfl) (by kernel_rfl) (by kernel_rfl) (by rfl) (by first | assumption | exact True.intro) ?_ ?_
      rotate_left
      · (intro W hSw; go_simp; (try with_reducible rfl))
      try simp only [Act.put, List.setIfInBounds_toArray, List.set_cons_zero, List.set_cons_succ]
      refine held_take (i := 11) (v := ?_) rfl (by kernel_rfl) (by kernel_rfl) (by kernel_rfl) (by rfl) (by first | assumption | exact True.intro) ?_ ?_
      rotate_left
      · (intro W hSw; go_simp; (try with_reducible rfl))
      try simp only [Act.put, List.setIfInBounds_toArray, List.set_cons_zero, List.set_cons_succ]
      refine held_take (i := 12) (v := ?_) rfl (by kernel_rfl) (by kernel_rfl) (by kernel_rfl) (by rfl) (by first | assumption | exact True.intro) ?_ ?_
      rotate_left
      · (intro W hSw; go_simp; (try with_reducible rfl))
      try simp only [Act.put, List.setIfInBounds_toArray, List.set_cons_zero, List.set_cons_succ]
      clear hSx
      refine wpAnyH_done (by kernel_rfl) ?_ _
      refine NoPanic.normal ?_
      have HOKR := Lib.hid (reserveS_ok s hd now)
      obtain ⟨r, hr⟩ : ∃ r, r = reserveS s hd now := ⟨_, rfl⟩
      rw [← hr] at HOKR ⊢
      have HRE := Lib.hid hr
      clear hr HRS
      have HX14 : Hid (Ext w1 w4) := Lib.hid (Ext.trans HX3.out HX4.out)
      have HXL : Hid (Ext w w4) := Lib.hid (Ext.trans HX1.out HX14.out)
      have HB4 := Lib.hid (HB1.out.ext HX14.out)
      have HHS : Hid (headS s = hd) := Lib.hid (by rw [HHD.out]; exact headS_at HLE.out.symm)
      obtain ⟨m, hm⟩ : ∃ m, m = n - 1 := ⟨_, rfl⟩
      have HM : Hid (m = t.length) := Lib.hid (by rw [hm, HNT.out]; omega)
      have HMM : Hid (m ≤ 1000000) := Lib.hid (by omega)
      have HMN := Lib.hid hm
      have HNC : Hid (n ≤ c1) := Lib.hid hnc
      clear hm hnc
      by_cases hcc : c1 = 1
      · obtain ⟨g0, g1, g2, g3, g4, g5⟩ := Blk.six HB4.out
        have d3n : 0 < n := (by have := HNT.out; omega)
        have d3i : (0 : Int) < (n : Int) := (by omega)
        have HM0 : Hid (m = 0) := Lib.hid (by have := HMN.out; have := HNC.out; omega)
        subst hcc
        go_wp2_with fail
        rw [← HMN.out]
        clear g0 g1 g2 g3 g4 g5 d3n d3i hcm
        go_loopw [48] (fun i wr => ∃ q : Nat, i = .int .i64 (q : Int) ∧ q ≤ m ∧ Hid (R = nextF s now 1 (t.drop q)) ∧ Hid (Ext w4 wr)) (fun i _ => m - (Go.RowKit.intOf i).toNat)
        case atStart => exact ⟨0, rfl, Nat.zero_le _, HZ, Lib.hid (Ext.refl _)⟩
        case round =>
          obtain ⟨q, rfl, hq, HRQ, HXR⟩ := hrel
          have HXW : Hid (Ext w wr) := Lib.hid (Ext.trans HXL.out HXR.out)
          by_cases hlt : q < m
          · have e1 : decide ((q : Int) < (m : Int)) = true := decide_eq_true (by omega)
            have e1' : decide (q < m) = true := decide_eq_true hlt
            have HQL := Lib.hid hlt
            have := HM0.out
            omega
          · have e1 : decide ((q : Int) < (m : Int)) = false := decide_eq_false (by omega)
            have e1' : decide (q < m) = false := decide_eq_false hlt
            have HZZ : Hid (R = ⟨0, 0, false⟩) := Lib.hid (by rw [HRQ.out, show q = t.length by rw [← HM.out]; omega, List.drop_length]; rfl)
            go_wp2
            go_ret3
            exact ⟨by rw [HZZ.out]; rfl, HXW.out⟩
      · obtain ⟨g0, g1, g2, g3, g4, g5⟩ := Blk.six HB4.out
        have d3n : 0 < n := (by have := HNT.out; omega)
        have d3i : (0 : Int) < (n : Int) := (by omega)
        go_wp2_with fail
        rw [← HMN.out]
        clear g0 g1 g2 g3 g4 g5 d3n d3i hcm
        go_loopw [48] (fun i wr => ∃ q : Nat, i = .int .i64 (q : Int) ∧ q ≤ m ∧ Hid (R = nextF s now 1 (t.drop q)) ∧ Hid (Ext w4 wr)) (fun i _ => m - (Go.RowKit.intOf i).toNat)
        case atStart => exact ⟨0, rfl, Nat.zero_le _, HZ, Lib.hid (Ext.refl _)⟩
        case round =>
          obtain ⟨q, rfl, hq, HRQ, HXR⟩ := hrel
          have HXW : Hid (Ext w wr) := Lib.hid (Ext.trans HXL.out HXR.out)
          by_cases hlt : q < m
          · have e1 : decide ((q : Int) < (m : Int)) = true := decide_eq_true (by omega)
            have e1' : decide (q < m) = true := decide_eq_true hlt
            have HQL := Lib.hid hlt
            obtain ⟨p, hp⟩ : ∃ p, t[q]? = some p := ⟨_, List.getElem?_eq_getElem (by rw [← HM.out]; exact hlt)⟩
            obtain ⟨b', o', hbo, hb', hc'⟩ := HCL.out (q + 1) p hp
            cases hbo
            rw [show o1 + (q + 1) = o1 + 1 + q by omega] at hc'
            have cp := (Ext.trans HX14.out HXR.out).cellOf hc' hb'
            have hpl : placeI s.jobs ((p : Int) + 1) = ((q + 1 : Nat) : Int) := placeI_at (by rw [← HLE.out]; exact hp) rfl
            have hqq : queuedL s.jobs p = true := lineL_queued (by rw [← HLE.out]; exact List.mem_of_getElem? (show (k :: t)[q + 1]? = some p from hp))
            obtain ⟨x, hx⟩ : ∃ x, s.jobs[p]? = some x := ⟨_, List.getElem?_eq_getElem (queuedL_lt hqq)⟩
            have hfb := fill_beside (s := s) (now := now) (job := (p : Int) + 1) (by rw [hpl]; omega) rfl hx (by have := (hA.jobs p x hx).2.1; omega)
            rw [HHS.out, ← HRE.out] at hfb
            have HDR : Hid (t.drop q = p :: t.drop (q + 1)) := Lib.hid (by have h1 := (List.getElem?_eq_some_iff.1 hp); obtain ⟨h2, rfl⟩ := h1; exact List.drop_eq_getElem_cons h2)
            have HBD := Lib.hid (HBE.out ((p : Int) + 1) x p r wr rfl hx HOKR.out HXW.out)
            obtain ⟨BS, hBS⟩ : ∃ z, z = besideS s x ((p : Int) + 1) now r := ⟨_, rfl⟩
            rw [← hBS] at HBD hfb
            have HFB := Lib.hid hfb
            obtain ⟨pj, hpj⟩ : ∃ z : Int, z = (p : Int) + 1 := ⟨_, rfl⟩
            rw [← hpj] at cp HBD
            have HPJ := Lib.hid hpj
            have wq : wrap64 ((q : Int) + 1) = (q : Int) + 1 := IntWalk.wrap64_in _ (by have := HMM.out; have := HQL.out; omega)
            clear hBS hfb hpj hp hb' hc' hpl hqq hx hlt hq
            obtain ⟨g0, g1, g2, g3, g4, g5⟩ := Blk.six (HB4.out.ext HXR.out)
            go_wp2_with fail
            refine HBD.out.mono ?_
            rintro e6 w6 ⟨rfl, hx6⟩
            have HX6 : Hid (Ext w4 w6) := Lib.hid (Ext.trans HXR.out hx6)
            clear hx6 HBD g0 g1 g2 g3 g4 g5
            simp only []
            cases hok : BS.2 with
            | true =>
              have HZZ : Hid (R = ⟨pj, BS.1, true⟩) := Lib.hid (by rw [HRQ.out, HDR.out, nextF_yes (by decide) (by rw [HFB.out]; exact hok), HFB.out, HPJ.out])
              clear hok
              go_wp2
              go_ret3
              exact ⟨by rw [HZZ.out]; rfl, Ext.trans HXL.out HX6.out⟩
            | false =>
              have HZZ : Hid (R = nextF s now 1 (t.drop (q + 1))) := Lib.hid (by rw [HRQ.out, HDR.out, nextF_no (by decide) (by rw [HFB.out]; exact hok)]; exact nextF_one (by decide) (by decide))
              clear hok
              repeat (first | go_values | go_skip | go_guarded | go_step | go_upon | (simp only []))
              go_roundw
              case rel => exact ⟨q + 1, by first | (rw [wq]; rfl) | rfl, HQL.out, HZZ, HX6⟩
              case measure => first | (rw [wq]; exact measQ HQL.out) | exact measQ HQL.out
          · have e1 : decide ((q : Int) < (m : Int)) = false := decide_eq_false (by omega)
            have e1' : decide (q < m) = false := decide_eq_false hlt
            have HZZ : Hid (R = ⟨0, 0, false⟩) := Lib.hid (by rw [HRQ.out, show q = t.length by rw [← HM.out]; omega, List.drop_length]; rfl)
            go_wp2
            go_ret3
            exact ⟨by rw [HZZ.out]; rfl, HXW.out⟩

end Go.Proofs.Ytgjidkhfnnghiaa

/- Layer 16, the statements: what all of them ask first. -/
namespace Go.Proofs.Ytgjidkhfnnghiaa
open Go.RowKit Go.Maps

def exA1 : Jb := ⟨0, 0, 1, 1, 5, 0, 2, 1, 1, 3, 0, 0⟩
def exA2 : Jb := ⟨0, 0, 1, 1, 1, 0, 0, 0, 0, 0, 0, 0⟩
def exA : St := ⟨[⟨true, false, false, 1, 1⟩], [exA1, exA2], 1, 1, 0, 0⟩
theorem exA_jobs {P : Nat → Jb → Prop} (h1 : P 0 exA1) (h2 : P 1 exA2) : ∀ (i : Nat) (x : Jb), exA.jobs[i]? = some x → P i x := fun i x hx => by
  match i, hx with
  | 0, hx => cases hx; exact h1
  | 1, hx => cases hx; exact h2
theorem exA_ok : OkA exA := by
  refine ⟨⟨by decide, by decide, exA_jobs (by decide) (by decide)⟩, fun k x hx => exA_jobs (P := fun k x => x.nodes.toNat < 64 ∧ ∀ i : Nat, (x.nodes.toNat).testBit i = true ↔ ∃ n, exA.nodes[i]? = some n ∧ n.job = (k : Int) + 1) ⟨by decide, fun i => ?_⟩ ⟨by decide, fun i => ?_⟩ k x hx, exA_jobs ⟨⟨by decide, by decide, by decide⟩, by decide⟩ ⟨⟨by decide, by decide, by decide⟩, by decide⟩⟩
  · match i with
    | 0 => exact ⟨fun _ => ⟨_, rfl, rfl⟩, fun _ => by decide⟩
    | k + 1 =>
      constructor
      · intro h
        have : (1 : Nat) < 2 ^ (k + 1) := Nat.one_lt_two_pow (by omega)
        rw [show exA1.nodes.toNat = 1 from rfl, Nat.testBit_lt_two_pow this] at h
        cases h
      · rintro ⟨n, h, _⟩
        cases h
  · constructor
    · intro h
      rw [show exA2.nodes.toNat = 0 from rfl, Nat.zero_testBit] at h
      cases h
    · rintro ⟨n, h, h2⟩
      match i, h with
      | 0, h =>
        cases h
        exact absurd h2 (by decide)
theorem exA_reserve : (reserveS exA 2 4).t = 8 ∧ (reserveS exA 2 4).n = 1 ∧ (reserveS exA 2 4).ok = true := by decide +kernel
theorem exA_next : (nextS exA 4).ok = false := by decide +kernel
theorem exA_fill : (fillS exA 2 4).2 = false := by decide +kernel
theorem exA_end : endS exA 1 4 = 8 := by decide +kernel
theorem exA_at : atN exA 4 8 = 1 := by decide +kernel

theorem RdS.made {K n : Nat} {w' : World} {cs : Array Value} {e : TypeId} {g : Nat} (hb : Blk w' g e cs) (hc : cs.size = n * K) (hn : n ≤ maxLen) : RdS K w' (.slice (some ⟨g, 0, none⟩) n n) n cs.toList :=
  ⟨by rw [Array.length_toList, hc], some ⟨g, 0, none⟩, n, rfl, Nat.le_refl _, hn, fun _ => ⟨g, 0, rfl, hb.lt, fun j u hu => by
    rw [Nat.zero_add, hb.cell]
    simpa using hu⟩⟩

set_option maxRecDepth 100000 in
set_option maxHeartbeats 8000000 in
theorem alive16_any (w : World) : Calls Try.prog 4 #[] w fun e w' => e = .returned (.bool true) ∧ Ext w w' := by
  obtain ⟨W1, hW1⟩ : ∃ W, W = w.alloc (.cells #[.bool true, .bool false, .bool false, .int .i64 1, .int .i64 1] 37) := ⟨_, rfl⟩
  obtain ⟨W2, hW2⟩ : ∃ W, W = W1.alloc (.cells #[.int .i64 0, .int .i64 0, .int .i64 1, .int .i64 1, .int .i64 5, .int .i64 0, .int .i64 2, .int .i64 1, .int .i64 1, .int .i64 3, .int .i64 0, .int .i64 0, .int .i64 0, .int .i64 0, .int .i64 1, .int .i64 1, .int .i64 1, .int .i64 0, .int .i64 0, .int .i64 0, .int .i64 0, .int .i64 0, .int .i64 0, .int .i64 0] 39) := ⟨_, rfl⟩
  obtain ⟨W3, hW3⟩ : ∃ W, W = W2.alloc (.cells #[.slice (some ⟨w.heap.size, 0, none⟩) 1 1, .slice (some ⟨w.heap.size + 1, 0, none⟩) 2 2, .int .i64 1, .int .i64 1, .int .i64 0, .int .i64 0] 27) := ⟨_, rfl⟩
  have s1 : W1.heap.size = w.heap.size + 1 := by rw [hW1]; simp
  have s2 : W2.heap.size = w.heap.size + 1 + 1 := by rw [hW2]; simp [s1]
  have x1 : Ext w W1 := by rw [hW1]; exact (Below.refl _ _).alloc (Nat.le_refl _) _
  have x2 : Ext W1 W2 := by rw [hW2]; exact (Below.refl _ _).alloc (Nat.le_refl _) _
  have x3 : Ext W2 W3 := by rw [hW3]; exact (Below.refl _ _).alloc (Nat.le_refl _) _
  have b1 : Blk W3 w.heap.size 37 #[.bool true, .bool false, .bool false, .int .i64 1, .int .i64 1] := by
    have h : Blk W1 w.heap.size 37 #[.bool true, .bool false, .bool false, .int .i64 1, .int .i64 1] := by rw [hW1]; exact Blk.new _ _ _
    exact h.ext (Ext.trans x2 x3)
  have b2 : Blk W3 (w.heap.size + 1) 39 #[.int .i64 0, .int .i64 0, .int .i64 1, .int .i64 1, .int .i64 5, .int .i64 0, .int .i64 2, .int .i64 1, .int .i64 1, .int .i64 3, .int .i64 0, .int .i64 0, .int .i64 0, .int .i64 0, .int .i64 1, .int .i64 1, .int .i64 1, .int .i64 0, .int .i64 0, .int .i64 0, .int .i64 0, .int .i64 0, .int .i64 0, .int .i64 0] := by
    have h : Blk W2 W1.heap.size 39 #[.int .i64 0, .int .i64 0, .int .i64 1, .int .i64 1, .int .i64 5, .int .i64 0, .int .i64 2, .int .i64 1, .int .i64 1, .int .i64 3, .int .i64 0, .int .i64 0, .int .i64 0, .int .i64 0, .int .i64 1, .int .i64 1, .int .i64 1, .int .i64 0, .int .i64 0, .int .i64 0, .int .i64 0, .int .i64 0, .int .i64 0, .int .i64 0] := by rw [hW2]; exact Blk.new _ _ _
    rw [s1] at h
    exact h.ext x3
  have b3 : Blk W3 (w.heap.size + 1 + 1) 27 #[.slice (some ⟨w.heap.size, 0, none⟩) 1 1, .slice (some ⟨w.heap.size + 1, 0, none⟩) 2 2, .int .i64 1, .int .i64 1, .int .i64 0, .int .i64 0] := by
    have h : Blk W3 W2.heap.size 27 #[.slice (some ⟨w.heap.size, 0, none⟩) 1 1, .slice (some ⟨w.heap.size + 1, 0, none⟩) 2 2, .int .i64 1, .int .i64 1, .int .i64 0, .int .i64 0] := by rw [hW3]; exact Blk.new _ _ _
    rw [s2] at h
    exact h
  have HX3 : Hid (Ext w W3) := Lib.hid (Ext.trans x1 (Ext.trans x2 x3))
  have hn : RdNd W3 (.slice (some ⟨w.heap.size, 0, none⟩) 1 1) exA.nodes := RdS.made (K := 5) (n := 1) b1 rfl (by decide)
  have hj : RdJb W3 (.slice (some ⟨w.heap.size + 1, 0, none⟩) 2 2) exA.jobs := RdS.made (K := 12) (n := 2) b2 rfl (by decide)
  have HW3 : Hid (W3 = ((w.alloc (.cells #[.bool true, .bool false, .bool false, .int .i64 1, .int .i64 1] 37)).alloc (.cells #[.int .i64 0, .int .i64 0, .int .i64 1, .int .i64 1, .int .i64 5, .int .i64 0, .int .i64 2, .int .i64 1, .int .i64 1, .int .i64 3, .int .i64 0, .int .i64 0, .int .i64 0, .int .i64 0, .int .i64 1, .int .i64 1, .int .i64 1, .int .i64 0, .int .i64 0, .int .i64 0, .int .i64 0, .int .i64 0, .int .i64 0, .int .i64 0] 39)).alloc (.cells #[.slice (some ⟨w.heap.size, 0, none⟩) 1 1, .slice (some ⟨w.heap.size + 1, 0, none⟩) 2 2, .int .i64 1, .int .i64 1, .int .i64 0, .int .i64 0] 27)) := Lib.hid (by rw [hW3, hW2, hW1])
  clear hW3 hW2 hW1 s1 s2 x1 x2 x3 b1 b2
  obtain ⟨vn, hvn⟩ : ∃ v : Value, v = .slice (some ⟨w.heap.size, 0, none⟩) 1 1 := ⟨_, rfl⟩
  obtain ⟨vj, hvj⟩ : ∃ v : Value, v = .slice (some ⟨w.heap.size + 1, 0, none⟩) 2 2 := ⟨_, rfl⟩
  rw [← hvn] at hn
  rw [← hvj] at hj
  have HRS : Hid (∀ W, Ext W3 W → Calls Try.prog 11 #[.agg #[vn, vj, .int .i64 1, .int .i64 1, .int .i64 0, .int .i64 0], .int .i64 2, .int .i64 4] W fun e w' => e = .returned (.tuple #[.int .i64 8, .int .i64 1, .bool true]) ∧ Ext W w') := Lib.hid fun W hW => by
    have h := Reserve_any vn vj exA 2 4 W (hn.ext hW) (hj.ext hW) exA_ok (by decide) (by decide)
    rw [exA_reserve.1, exA_reserve.2.1, exA_reserve.2.2] at h
    exact h
  obtain ⟨nt, hnt⟩ : ∃ z, z = (nextS exA 4).t := ⟨_, rfl⟩
  obtain ⟨nn, hnn⟩ : ∃ z, z = (nextS exA 4).n := ⟨_, rfl⟩
  obtain ⟨fn, hfn⟩ : ∃ z, z = (fillS exA 2 4).1 := ⟨_, rfl⟩
  have HNX : Hid (∀ W, Ext W3 W → Calls Try.prog 9 #[.agg #[vn, vj, .int .i64 1, .int .i64 1, .int .i64 0, .int .i64 0], .int .i64 4] W fun e w' => e = .returned (.tuple #[.int .i64 nt, .int .i64 nn, .bool false]) ∧ Ext W w') := Lib.hid fun W hW => by
    have h := Next_any vn vj exA 4 W (hn.ext hW) (hj.ext hW) exA_ok (by decide) (by decide)
    rw [exA_next, ← hnt, ← hnn] at h
    exact h
  have HFL : Hid (∀ W, Ext W3 W → Calls Try.prog 7 #[.agg #[vn, vj, .int .i64 1, .int .i64 1, .int .i64 0, .int .i64 0], .int .i64 2, .int .i64 4] W fun e w' => e = .returned (.tuple #[.int .i64 fn, .bool false]) ∧ Ext W w') := Lib.hid fun W hW => by
    have h := Fill_any vn vj exA 2 4 W (hn.ext hW) (hj.ext hW) exA_ok (by decide) (by decide)
    rw [exA_fill, ← hfn] at h
    exact h
  have HEN : Hid (∀ W, Ext W3 W → Calls Try.prog 12 #[.agg #[vn, vj, .int .i64 1, .int .i64 1, .int .i64 0, .int .i64 0], .int .i64 1, .int .i64 4] W fun e w' => e = .returned (.int .i64 8) ∧ Ext W w') := Lib.hid fun W hW => by
    have h := End_any vn vj exA 1 4 W (hj.ext hW) exA_ok (by decide) (by decide)
    rw [exA_end] at h
    exact h
  have HAT : Hid (∀ W, Ext W3 W → Calls Try.prog 13 #[.agg #[vn, vj, .int .i64 1, .int .i64 1, .int .i64 0, .int .i64 0], .int .i64 4, .int .i64 8] W fun e w' => e = .returned (.int .i64 1) ∧ Ext W w') := Lib.hid fun W hW => by
    have h := At_any vn vj exA 4 8 W (hn.ext hW) (hj.ext hW) exA_ok (by decide) (by decide)
    rw [exA_at] at h
    exact h
  rw [hvn, hvj] at HRS HNX HFL HEN HAT
  have HB := Lib.hid b3
  clear hvn hvj hn hj hnt hnn hfn b3
  go_enter Try.func4, Try.ntmps4
  go_upto_region 2 with (fail)
  rw [← HW3.out]
  clear HW3
  have HC1 := Lib.hid (HRS.out W3 (Ext.refl _))
  obtain ⟨g0, g1, g2, g3, g4, g5⟩ := Blk.six HB.out
  go_wp2_with fail
  refine HC1.out.mono ?_
  rintro e4 w4 ⟨rfl, hx4⟩
  have HX4 : Hid (Ext W3 w4) := Lib.hid hx4
  have HC2 := Lib.hid (HNX.out w4 hx4)
  clear hx4 HC1 g0 g1 g2 g3 g4 g5
  obtain ⟨g0, g1, g2, g3, g4, g5⟩ := Blk.six (HB.out.ext HX4.out)
  simp only []
  go_wp2_with fail
  refine HC2.out.mono ?_
  rintro e5 w5 ⟨rfl, hx5⟩
  have HX5 : Hid (Ext W3 w5) := Lib.hid (Ext.trans HX4.out hx5)
  have HC3 := Lib.hid (HFL.out w5 HX5.out)
  clear hx5 HC2 g0 g1 g2 g3 g4 g5
  obtain ⟨g0, g1, g2, g3, g4, g5⟩ := Blk.six (HB.out.ext HX5.out)
  simp only []
  go_wp2_with fail
  refine HC3.out.mono ?_
  rintro e6 w6 ⟨rfl, hx6⟩
  have HX6 : Hid (Ext W3 w6) := Lib.hid (Ext.trans HX5.out hx6)
  have HC4 := Lib.hid (HEN.out w6 HX6.out)
  clear hx6 HC3 g0 g1 g2 g3 g4 g5
  obtain ⟨g0, g1, g2, g3, g4, g5⟩ := Blk.six (HB.out.ext HX6.out)
  simp only []
  go_wp2_with fail
  refine HC4.out.mono ?_
  rintro e7 w7 ⟨rfl, hx7⟩
  have HX7 : Hid (Ext W3 w7) := Lib.hid (Ext.trans HX6.out hx7)
  have HC5 := Lib.hid (HAT.out w7 HX7.out)
  clear hx7 HC4 g0 g1 g2 g3 g4 g5
  obtain ⟨g0, g1, g2, g3, g4, g5⟩ := Blk.six (HB.out.ext HX7.out)
  simp only []
  go_wp2_with fail
  refine HC5.out.mono ?_
  rintro e8 w8 ⟨rfl, hx8⟩
  have HX8 : Hid (Ext w w8) := Lib.hid (Ext.trans HX3.out (Ext.trans HX7.out hx8))
  clear hx8 HC5 g0 g1 g2 g3 g4 g5
  simp only []
  go_wp2
  go_ret
  exact ⟨rfl, HX8.out⟩

end Go.Proofs.Ytgjidkhfnnghiaa
