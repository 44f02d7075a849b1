/- Texts that the proof of A rests on, one behind the other. -/
import Derived.Test.YtddhbokknbmdfaaAQ10
import Derived.Test.YtddhbokknbmdfaaRows

/- Layer 13's statement AgentRests, walked. -/
namespace Go.Proofs.Ytddhbokknbmdfaa
open Go.RowKit

theorem rightM_kind {m : Ms} (h : rightM m = true) : 1 ≤ m.kind ∧ m.kind ≤ 6 := by
  unfold rightM at h
  simp only [Bool.and_eq_true, decide_eq_true_eq] at h
  exact h.1.2

set_option maxRecDepth 100000 in
set_option maxHeartbeats 1000000 in
theorem AgentRests_calls (a : Ag) (m : Ms) (now : Int) (w : World) : Calls Try.prog 12 #[agV a, msV m, .int .i64 now] w fun e w' => e = .returned (.bool true) ∧ Ext w w' := by
  obtain ⟨h1, h2, hx⟩ := two_new w #[.bool a.up, .int .i64 a.term, .int .i64 a.gen, .int .i64 a.mode, .int .i64 a.job, .int .i64 a.inc, .int .i64 a.ver, .int .i64 a.lease, .int .i64 a.worked, .int .i64 a.aim] #[.int .i64 m.node, .int .i64 m.kind, .int .i64 m.term, .int .i64 m.gen, .int .i64 m.job, .int .i64 m.inc, .int .i64 m.ver, .int .i64 m.epoch, .int .i64 m.til, .int .i64 m.mode, .int .i64 m.work] 81 49
  obtain ⟨W, hW⟩ : ∃ W, W = (w.alloc (.cells #[.bool a.up, .int .i64 a.term, .int .i64 a.gen, .int .i64 a.mode, .int .i64 a.job, .int .i64 a.inc, .int .i64 a.ver, .int .i64 a.lease, .int .i64 a.worked, .int .i64 a.aim] 81)).alloc (.cells #[.int .i64 m.node, .int .i64 m.kind, .int .i64 m.term, .int .i64 m.gen, .int .i64 m.job, .int .i64 m.inc, .int .i64 m.ver, .int .i64 m.epoch, .int .i64 m.til, .int .i64 m.mode, .int .i64 m.work] 49) := ⟨_, rfl⟩
  rw [← hW] at h1 h2 hx
  have HA : Hid (AgAt W w.heap.size a) := Lib.hid ⟨h1⟩
  have HM : Hid (MsAt W (w.heap.size + 1) m) := Lib.hid ⟨h2⟩
  have HX := Lib.hid hx
  clear h1 h2 hx
  unfold agV msV
  go_enter Try.func12, Try.ntmps12
  go_wp2_with fail
  rw [← hW]
  clear hW
  refine (alive13_any W).mono ?_
  rintro e0 w0 ⟨rfl, hx⟩
  replace HA := Lib.hid (HA.out.ext hx)
  replace HM := Lib.hid (HM.out.ext hx)
  replace HX := Lib.hid (HX.out.trans hx)
  clear hx
  have HR := Lib.hid (RefRight13_any a w0)
  unfold agV at HR
  obtain ⟨c0, c1, c2, c3, c4, c5, c6, c7, c8, c9⟩ := HA.out.cells
  cases hra : rightA a with
  | false =>
    rw [hra] at HR
    clear hra
    go_wp2_with fail
    refine HR.out.mono ?_
    rintro e1 w1 ⟨rfl, hx⟩
    have HX1 := Lib.hid (HX.out.trans hx)
    clear hx
    go_wp2
    go_ret
    exact ⟨rfl, HX1.out⟩
  | true =>
  have HRA := Lib.hid hra
  rw [hra] at HR
  clear hra
  go_wp2_with fail
  refine HR.out.mono ?_
  rintro e1 w1 ⟨rfl, hx⟩
  replace HA := Lib.hid (HA.out.ext hx)
  replace HM := Lib.hid (HM.out.ext hx)
  replace HX := Lib.hid (HX.out.trans hx)
  clear hx HR c0 c1 c2 c3 c4 c5 c6 c7 c8 c9
  have HR := Lib.hid (RefRight12_any m w1)
  unfold msV at HR
  obtain ⟨m0, m1, m2, m3, m4, m5, m6, m7, m8, m9, m10⟩ := HM.out.cells
  cases hrm : rightM m with
  | false =>
    rw [hrm] at HR
    clear hrm
    go_wp2_with fail
    refine HR.out.mono ?_
    rintro e2 w2 ⟨rfl, hx⟩
    have HX1 := Lib.hid (HX.out.trans hx)
    clear hx
    go_wp2
    go_ret
    exact ⟨rfl, HX1.out⟩
  | true =>
  have HRM := Lib.hid hrm
  rw [hrm] at HR
  clear hrm
  go_wp2_with fail
  refine HR.out.mono ?_
  rintro e2 w2 ⟨rfl, hx⟩
  replace HA := Lib.hid (HA.out.ext hx)
  replace HM := Lib.hid (HM.out.ext hx)
  replace HX := Lib.hid (HX.out.trans hx)
  clear hx HR m0 m1 m2 m3 m4 m5 m6 m7 m8 m9 m10
  obtain ⟨HWK⟩ : Nonempty (Hid (0 ≤ a.worked ∧ a.worked ≤ 1000000000)) := ⟨Lib.hid (by have h := HRA.out; unfold rightA at h; have h := of_decide_eq_true h; omega)⟩
  have hb := HM.out.blk
  have hq := (WB.start hb).set 1 (.int .i64 1)
  simp only [List.setIfInBounds_toArray, List.set_cons_zero, List.set_cons_succ] at hq
  have k1 := hb.cell 1
  have f1 := hb.frozen 1
  obtain ⟨wm, hwm⟩ : ∃ W, W = w2.setCell ⟨w.heap.size + 1, 1, none⟩ (.int .i64 1) := ⟨_, rfl⟩
  rw [← hwm] at hq
  obtain ⟨M, hM⟩ : ∃ M : Ms, M = { m with kind := 1 } := ⟨_, rfl⟩
  replace HM : Hid (MsAt wm (w.heap.size + 1) M) := Lib.hid (by rw [hM]; exact ⟨hq.blk⟩)
  have HMK : Hid (M.kind = 1) := Lib.hid (by rw [hM])
  replace HA := Lib.hid (HA.out.chg hq.chg (by intro h; have h : w.heap.size = w.heap.size + 1 := h; omega))
  replace HX := Lib.hid (hq.ext HX.out (by omega))
  have HTK := Lib.hid (Take_nil a M 0 now wm (by have := HMK.out; omega) HWK.out.1 (by have := HWK.out.2; omega))
  have HNS : Hid (nilS a M now = true) := Lib.hid (by unfold nilS asksA dueA; rw [HMK.out]; simp)
  rw [HNS.out] at HTK
  clear hb hq hM
  go_upto_region 6 with (fail)
  rw [← hwm]
  clear hwm k1 f1
  obtain ⟨c0, c1, c2, c3, c4, c5, c6, c7, c8, c9⟩ := HA.out.cells
  obtain ⟨m0, m1, m2, m3, m4, m5, m6, m7, m8, m9, m10⟩ := HM.out.cells
  rcases Bool.eq_false_or_eq_true a.up with hu | hu
  rotate_left
  · have HU := Lib.hid hu
    have hg : goesA a M = false := by unfold goesA; rw [hu]; rfl
    have hta : takeA a M now true = a := by unfold takeA; rw [hg]; rfl
    rw [hg, hta, if_neg (by decide)] at HTK
    clear hg hta
    unfold agV msV at HTK
    clear hu
    go_wp2_with fail
    refine HTK.out.mono ?_
    rintro e3 w3 ⟨rfl, hx⟩
    replace HA := Lib.hid (HA.out.ext hx)
    replace HX := Lib.hid (HX.out.trans hx)
    clear hx c0 c1 c2 c3 c4 c5 c6 c7 c8 c9 m0 m1 m2 m3 m4 m5 m6 m7 m8 m9 m10
    obtain ⟨b7, b8, hx⟩ := two_new w3 #[.bool a.up, .int .i64 a.term, .int .i64 a.gen, .int .i64 a.mode, .int .i64 a.job, .int .i64 a.inc, .int .i64 a.ver, .int .i64 a.lease, .int .i64 a.worked, .int .i64 a.aim] #[.int .i64 zMs.node, .int .i64 zMs.kind, .int .i64 zMs.term, .int .i64 zMs.gen, .int .i64 zMs.job, .int .i64 zMs.inc, .int .i64 zMs.ver, .int .i64 zMs.epoch, .int .i64 zMs.til, .int .i64 zMs.mode, .int .i64 zMs.work] 81 49
    obtain ⟨w4, hw4⟩ : ∃ W, W = (w3.alloc (.cells #[.bool a.up, .int .i64 a.term, .int .i64 a.gen, .int .i64 a.mode, .int .i64 a.job, .int .i64 a.inc, .int .i64 a.ver, .int .i64 a.lease, .int .i64 a.worked, .int .i64 a.aim] 81)).alloc (.cells #[.int .i64 zMs.node, .int .i64 zMs.kind, .int .i64 zMs.term, .int .i64 zMs.gen, .int .i64 zMs.job, .int .i64 zMs.inc, .int .i64 zMs.ver, .int .i64 zMs.epoch, .int .i64 zMs.til, .int .i64 zMs.mode, .int .i64 zMs.work] 49) := ⟨_, rfl⟩
    rw [← hw4] at b7 b8 hx
    have HB := Lib.hid b7
    replace HA := Lib.hid (HA.out.ext hx)
    replace HX := Lib.hid (HX.out.trans hx)
    clear b7 b8 hx
    have hac : actA a now = a := by unfold actA; rw [if_pos HU.out]
    have HAC := Lib.hid (fun W => Act_any a now W (by have := HWK.out.1; omega))
    rw [hac] at HAC
    clear hac
    go_upto_region 7 with (fail)
    rw [← hw4]
    clear hw4
    obtain ⟨c0, c1, c2, c3, c4, c5, c6, c7, c8, c9⟩ := HA.out.cells
    rw [HU.out] at c0
    go_wp2_with fail
    skip
    have HS : Hid (∀ W, Ext w4 W → (fun (W : World) => W.cell? ⟨w.heap.size, 0, none⟩ = some (.bool a.up) ∧ W.cell? ⟨w.heap.size, 1, none⟩ = some (.int .i64 a.term) ∧ W.cell? ⟨w.heap.size, 2, none⟩ = some (.int .i64 a.gen) ∧ W.cell? ⟨w.heap.size, 3, none⟩ = some (.int .i64 a.mode) ∧ W.cell? ⟨w.heap.size, 4, none⟩ = some (.int .i64 a.job) ∧ W.cell? ⟨w.heap.size, 5, none⟩ = some (.int .i64 a.inc) ∧ W.cell? ⟨w.heap.size, 6, none⟩ = some (.int .i64 a.ver) ∧ W.cell? ⟨w.heap.size, 7, none⟩ = some (.int .i64 a.lease) ∧ W.cell? ⟨w.heap.size, 8, none⟩ = some (.int .i64 a.worked) ∧ W.cell? ⟨w.heap.size, 9, none⟩ = some (.int .i64 a.aim) ∧ W.cell? ⟨w3.heap.size, 0, none⟩ = some (.bool a.up) ∧ W.cell? ⟨w3.heap.size, 1, none⟩ = some (.int .i64 a.term) ∧ W.cell? ⟨w3.heap.size, 2, none⟩ = some (.int .i64 a.gen) ∧ W.cell? ⟨w3.heap.size, 3, none⟩ = some (.int .i64 a.mode) ∧ W.cell? ⟨w3.heap.size, 4, none⟩ = some (.int .i64 a.job) ∧ W.cell? ⟨w3.heap.size, 5, none⟩ = some (.int .i64 a.inc) ∧ W.cell? ⟨w3.heap.size, 6, none⟩ = some (.int .i64 a.ver) ∧ W.cell? ⟨w3.heap.size, 7, none⟩ = some (.int .i64 a.lease) ∧ W.cell? ⟨w3.heap.size, 8, none⟩ = some (.int .i64 a.worked) ∧ W.cell? ⟨w3.heap.size, 9, none⟩ = some (.int .i64 a.aim)) W) := Lib.hid fun W h => ⟨(HA.out.ext h).blk.cell 0, (HA.out.ext h).blk.cell 1, (HA.out.ext h).blk.cell 2, (HA.out.ext h).blk.cell 3, (HA.out.ext h).blk.cell 4, (HA.out.ext h).blk.cell 5, (HA.out.ext h).blk.cell 6, (HA.out.ext h).blk.cell 7, (HA.out.ext h).blk.cell 8, (HA.out.ext h).blk.cell 9, (HB.out.ext h).cell 0, (HB.out.ext h).cell 1, (HB.out.ext h).cell 2, (HB.out.ext h).cell 3, (HB.out.ext h).cell 4, (HB.out.ext h).cell 5, (HB.out.ext h).cell 6, (HB.out.ext h).cell 7, (HB.out.ext h).cell 8, (HB.out.ext h).cell 9⟩
    unfold agV at HAC
    clear c0 c1 c2 c3 c4 c5 c6 c7 c8 c9
    refine held_begin (by kernel_rfl) ?_
    have hHeld0 : True := True.intro
    refine held_more (S' := fun (W : World) => W.cell? ⟨w.heap.size, 0, none⟩ = some (.bool a.up) ∧ W.cell? ⟨w.heap.size, 1, none⟩ = some (.int .i64 a.term) ∧ W.cell? ⟨w.heap.size, 2, none⟩ = some (.int .i64 a.gen) ∧ W.cell? ⟨w.heap.size, 3, none⟩ = some (.int .i64 a.mode) ∧ W.cell? ⟨w.heap.size, 4, none⟩ = some (.int .i64 a.job) ∧ W.cell? ⟨w.heap.size, 5, none⟩ = some (.int .i64 a.inc) ∧ W.cell? ⟨w.heap.size, 6, none⟩ = some (.int .i64 a.ver) ∧ W.cell? ⟨w.heap.size, 7, none⟩ = some (.int .i64 a.lease) ∧ W.cell? ⟨w.heap.size, 8, none⟩ = some (.int .i64 a.worked) ∧ W.cell? ⟨w.heap.size, 9, none⟩ = some (.int .i64 a.aim) ∧ W.cell? ⟨w3.heap.size, 0, none⟩ = some (.bool a.up) ∧ W.cell? ⟨w3.heap.size, 1, none⟩ = some (.int .i64 a.term) ∧ W.cell? ⟨w3.heap.size, 2, none⟩ = some (.int .i64 a.gen) ∧ W.cell? ⟨w3.heap.size, 3, none⟩ = some (.int .i64 a.mode) ∧ W.cell? ⟨w3.heap.size, 4, none⟩ = some (.int .i64 a.job) ∧ W.cell? ⟨w3.heap.size, 5, none⟩ = some (.int .i64 a.inc) ∧ W.cell? ⟨w3.heap.size, 6, none⟩ = some (.int .i64 a.ver) ∧ W.cell? ⟨w3.heap.size, 7, none⟩ = some (.int .i64 a.lease) ∧ W.cell? ⟨w3.heap.size, 8, none⟩ = some (.int .i64 a.worked) ∧ W.cell? ⟨w3.heap.size, 9, none⟩ = some (.int .i64 a.aim)) (fun _ _ => True.intro) ?_
    have hHeld1 : (fun (W : World) => W.cell? ⟨w.heap.size, 0, none⟩ = some (.bool a.up) ∧ W.cell? ⟨w.heap.size, 1, none⟩ = some (.int .i64 a.term) ∧ W.cell? ⟨w.heap.size, 2, none⟩ = some (.int .i64 a.gen) ∧ W.cell? ⟨w.heap.size, 3, none⟩ = some (.int .i64 a.mode) ∧ W.cell? ⟨w.heap.size, 4, none⟩ = some (.int .i64 a.job) ∧ W.cell? ⟨w.heap.size, 5, none⟩ = some (.int .i64 a.inc) ∧ W.cell? ⟨w.heap.size, 6, none⟩ = some (.int .i64 a.ver) ∧ W.cell? ⟨w.heap.size, 7, none⟩ = some (.int .i64 a.lease) ∧ W.cell? ⟨w.heap.size, 8, none⟩ = some (.int .i64 a.worked) ∧ W.cell? ⟨w.heap.size, 9, none⟩ = some (.int .i64 a.aim) ∧ W.cell? ⟨w3.heap.size, 0, none⟩ = some (.bool a.up) ∧ W.cell? ⟨w3.heap.size, 1, none⟩ = some (.int .i64 a.term) ∧ W.cell? ⟨w3.heap.size, 2, none⟩ = some (.int .i64 a.gen) ∧ W.cell? ⟨w3.heap.size, 3, none⟩ = some (.int .i64 a.mode) ∧ W.cell? ⟨w3.heap.size, 4, none⟩ = some (.int .i64 a.job) ∧ W.cell? ⟨w3.heap.size, 5, none⟩ = some (.int .i64 a.inc) ∧ W.cell? ⟨w3.heap.size, 6, none⟩ = some (.int .i64 a.ver) ∧ W.cell? ⟨w3.heap.size, 7, none⟩ = some (.int .i64 a.lease) ∧ W.cell? ⟨w3.heap.size, 8, none⟩ = some (.int .i64 a.worked) ∧ W.cell? ⟨w3.heap.size, 9, none⟩ = some (.int .i64 a.aim)) _ := HS.out _ (ext_dr13 w4)
    clear hHeld0
    refine held_take (i := 0) (v := ?_) rfl (by kernel_rfl) (by kernel_rfl) (by kernel_rfl) (by rfl) (by first | assumption | exact True.intro) ?_ ?_
    rotate_left
    · (intro w hSw; (try dsimp only at hSw); (try obtain ⟨k0, k1, k2, k3, k4, k5, k6, k7, k8, k9, k10, k11, k12, k13, k14, k15, k16, k17, k18, k19⟩ := hSw); go_simp; (try with_reducible rfl))
    try simp only [Act.put, List.setIfInBounds_toArray, List.set_cons_zero, List.set_cons_succ]
    refine held_take (i := 1) (v := ?_) rfl (by kernel_rfl) (by kernel_rfl) (by kernel_rfl) (by rfl) (by first | assumption | exact True.intro) ?_ ?_
    rotate_left
    · (intro w hSw; (try dsimp only at hSw); (try obtain ⟨k0, k1, k2, k3, k4, k5, k6, k7, k8, k9, k10, k11, k12, k13, k14, k15, k16, k17, k18, k19⟩ := hSw); go_simp; (try with_reducible rfl))
    try simp only [Act.put, List.setIfInBounds_toArray, List.set_cons_zero, List.set_cons_succ]
    refine held_take (i := 2) (v := ?_) rfl (by kernel_rfl) (by kernel_rfl) (by kernel_rfl) (by rfl) (by first | assumption | exact True.intro) ?_ ?_
    rotate_left
    · (intro w hSw; (try dsimp only at hSw); (try obtain ⟨k0, k1, k2, k3, k4, k5, k6, k7, k8, k9, k10, k11, k12, k13, k14, k15, k16, k17, k18, k19⟩ := hSw); go_simp; (try with_reducible rfl))
    try simp only [Act.put, List.setIfInBounds_toArray, List.set_cons_zero, List.set_cons_succ]
    refine held_take (i := 3) (v := ?_) rfl (by kernel_rfl) (by kernel_rfl) (by kernel_rfl) (by rfl) (by first | assumption | exact True.intro) ?_ ?_
    rotate_left
    · (intro w hSw; (try dsimp only at hSw); (try obtain ⟨k0, k1, k2, k3, k4, k5, k6, k7, k8, k9, k10, k11, k12, k13, k14, k15, k16, k17, k18, k19⟩ := hSw); go_simp; (try with_reducible rfl))
    try simp only [Act.put, List.setIfInBounds_toArray, List.set_cons_zero, List.set_cons_succ]
    refine held_take (i := 4) (v := ?_) rfl (by kernel_rfl) (by kernel_rfl) (by kernel_rfl) (by rfl) (by first | assumption | exact True.intro) ?_ ?_
    rotate_left
    · (intro w hSw; (try dsimp only at hSw); (try obtain ⟨k0, k1, k2, k3, k4, k5, k6, k7, k8, k9, k10, k11, k12, k13, k14, k15, k16, k17, k18, k19⟩ := hSw); go_simp; (try with_reducible rfl))
    try simp only [Act.put, List.setIfInBounds_toArray, List.set_cons_zero, List.set_cons_succ]
    refine held_take (i := 5) (v := ?_) rfl (by kernel_rfl) (by kernel_rfl) (by kernel_rfl) (by rfl) (by first | assumption | exact True.intro) ?_ ?_
    rotate_left
    · (intro w hSw; (try dsimp only at hSw); (try obtain ⟨k0, k1, k2, k3, k4, k5, k6, k7, k8, k9, k10, k11, k12, k13, k14, k15, k16, k17, k18, k19⟩ := hSw); go_simp; (try with_reducible rfl))
    try simp only [Act.put, List.setIfInBounds_toArray, List.set_cons_zero, List.set_cons_succ]
    refine held_take (i := 6) (v := ?_) rfl (by kernel_rfl) (by kernel_rfl) (by kernel_rfl) (by rfl) (by first | assumption | exact True.intro) ?_ ?_
    rotate_left
    · (intro w hSw; (try dsimp only at hSw); (try obtain ⟨k0, k1, k2, k3, k4, k5, k6, k7, k8, k9, k10, k11, k12, k13, k14, k15, k16, k17, k18, k19⟩ := hSw); go_simp; (try with_reducible rfl))
    try simp only [Act.put, List.setIfInBounds_toArray, List.set_cons_zero, List.set_cons_succ]
    refine held_take (i := 7) (v := ?_) rfl (by kernel_rfl) (by kernel_rfl) (by kernel_rfl) (by rfl) (by first | assumption | exact True.intro) ?_ ?_
    rotate_left
    · (intro w hSw; (try dsimp only at hSw); (try obtain ⟨k0, k1, k2, k3, k4, k5, k6, k7, k8, k9, k10, k11, k12, k13, k14, k15, k16, k17, k18, k19⟩ := hSw); go_simp; (try with_reducible rfl))
    try simp only [Act.put, List.setIfInBounds_toArray, List.set_cons_zero, List.set_cons_succ]
    refine held_take (i := 8) (v := ?_) rfl (by kernel_rfl) (by kernel_rfl) (by kernel_rfl) (by rfl) (by first | assumption | exact True.intro) ?_ ?_
    rotate_left
    · (intro w hSw; (try dsimp only at hSw); (try obtain ⟨k0, k1, k2, k3, k4, k5, k6, k7, k8, k9, k10, k11, k12, k13, k14, k15, k16, k17, k18, k19⟩ := hSw); go_simp; (try with_reducible rfl))
    try simp only [Act.put, List.setIfInBounds_toArray, List.set_cons_zero, List.set_cons_succ]
    refine held_take (i := 9) (v := ?_) rfl (by kernel_rfl) (by kernel_rfl) (by kernel_rfl) (by rfl) (by first | assumption | exact True.intro) ?_ ?_
    rotate_left
    · (intro w hSw; (try dsimp only at hSw); (try obtain ⟨k0, k1, k2, k3, k4, k5, k6, k7, k8, k9, k10, k11, k12, k13, k14, k15, k16, k17, k18, k19⟩ := hSw); go_simp; (try with_reducible rfl))
    try simp only [Act.put, List.setIfInBounds_toArray, List.set_cons_zero, List.set_cons_succ]
    refine held_take (i := 11) (v := ?_) rfl (by kernel_rfl) (by kernel_rfl) (by kernel_rfl) (by rfl) (by first | assumption | exact True.intro) ?_ ?_
    rotate_left
    · (intro w hSw; (try dsimp only at hSw); (try obtain ⟨k0, k1, k2, k3, k4, k5, k6, k7, k8, k9, k10, k11, k12, k13, k14, k15, k16, k17, k18, k19⟩ := hSw); go_simp; (try with_reducible rfl))
    try simp only [Act.put, List.setIfInBounds_toArray, List.set_cons_zero, List.set_cons_succ]
    refine held_op (i := 10) (by kernel_rfl) rfl (fun K hK => ?_)
    go_simp
    go_at_call 61
    (with_reducible refine (HAC.out _).mono ?_)
    rintro e5 w5 ⟨rfl, hx⟩
    refine hK _ _ ?_ (fun hHeld2 => ?_)
    · exact HS.out _ (Ext.trans (ext_dr13 w4) hx)
    clear hK K hHeld1
    try simp only [Act.put, List.setIfInBounds_toArray, List.set_cons_zero, List.set_cons_succ]
    refine held_take (i := 12) (v := ?_) rfl (by kernel_rfl) (by kernel_rfl) (by kernel_rfl) (by rfl) (by first | assumption | exact True.intro) ?_ ?_
    rotate_left
    · (intro w hSw; (try dsimp only at hSw); (try obtain ⟨k0, k1, k2, k3, k4, k5, k6, k7, k8, k9, k10, k11, k12, k13, k14, k15, k16, k17, k18, k19⟩ := hSw); go_simp; (try with_reducible rfl))
    try simp only [Act.put, List.setIfInBounds_toArray, List.set_cons_zero, List.set_cons_succ]
    refine held_take (i := 13) (v := ?_) rfl (by kernel_rfl) (by kernel_rfl) (by kernel_rfl) (by rfl) (by first | assumption | exact True.intro) ?_ ?_
    rotate_left
    · (intro w hSw; (try dsimp only at hSw); (try obtain ⟨k0, k1, k2, k3, k4, k5, k6, k7, k8, k9, k10, k11, k12, k13, k14, k15, k16, k17, k18, k19⟩ := hSw); go_simp; (try with_reducible rfl))
    try simp only [Act.put, List.setIfInBounds_toArray, List.set_cons_zero, List.set_cons_succ]
    refine held_take (i := 14) (v := ?_) rfl (by kernel_rfl) (by kernel_rfl) (by kernel_rfl) (by rfl) (by first | assumption | exact True.intro) ?_ ?_
    rotate_left
    · (intro w hSw; (try dsimp only at hSw); (try obtain ⟨k0, k1, k2, k3, k4, k5, k6, k7, k8, k9, k10, k11, k12, k13, k14, k15, k16, k17, k18, k19⟩ := hSw); go_simp; (try with_reducible rfl))
    try simp only [Act.put, List.setIfInBounds_toArray, List.set_cons_zero, List.set_cons_succ]
    refine wpAnyH_done (by kernel_rfl) ?_ _
    refine NoPanic.normal ?_
    clear hHeld2
    have HX5 := Lib.hid (HX.out.trans (Ext.trans (ext_dr13 w4) hx))
    clear hx
    go_wp2
    go_ret
    exact ⟨rfl, HX5.out⟩
  have HU := Lib.hid hu
  cases he : elderA a M with
  | true =>
    have hg : goesA a M = false := by unfold goesA; rw [he]; simp
    have hta : takeA a M now true = a := by unfold takeA; rw [hg]; rfl
    rw [hg, hta, if_neg (by decide)] at HTK
    clear hg hta
    unfold agV msV at HTK
    clear hu
    go_wp2_with fail
    refine HTK.out.mono ?_
    rintro e3 w3 ⟨rfl, hx⟩
    replace HA := Lib.hid (HA.out.ext hx)
    replace HX := Lib.hid (HX.out.trans hx)
    clear hx c0 c1 c2 c3 c4 c5 c6 c7 c8 c9 m0 m1 m2 m3 m4 m5 m6 m7 m8 m9 m10
    obtain ⟨b7, b8, hx⟩ := two_new w3 #[.bool a.up, .int .i64 a.term, .int .i64 a.gen, .int .i64 a.mode, .int .i64 a.job, .int .i64 a.inc, .int .i64 a.ver, .int .i64 a.lease, .int .i64 a.worked, .int .i64 a.aim] #[.int .i64 zMs.node, .int .i64 zMs.kind, .int .i64 zMs.term, .int .i64 zMs.gen, .int .i64 zMs.job, .int .i64 zMs.inc, .int .i64 zMs.ver, .int .i64 zMs.epoch, .int .i64 zMs.til, .int .i64 zMs.mode, .int .i64 zMs.work] 81 49
    obtain ⟨w4, hw4⟩ : ∃ W, W = (w3.alloc (.cells #[.bool a.up, .int .i64 a.term, .int .i64 a.gen, .int .i64 a.mode, .int .i64 a.job, .int .i64 a.inc, .int .i64 a.ver, .int .i64 a.lease, .int .i64 a.worked, .int .i64 a.aim] 81)).alloc (.cells #[.int .i64 zMs.node, .int .i64 zMs.kind, .int .i64 zMs.term, .int .i64 zMs.gen, .int .i64 zMs.job, .int .i64 zMs.inc, .int .i64 zMs.ver, .int .i64 zMs.epoch, .int .i64 zMs.til, .int .i64 zMs.mode, .int .i64 zMs.work] 49) := ⟨_, rfl⟩
    rw [← hw4] at b7 b8 hx
    have HB := Lib.hid b7
    replace HA := Lib.hid (HA.out.ext hx)
    replace HX := Lib.hid (HX.out.trans hx)
    clear b7 b8 hx
    go_upto_region 7 with (fail)
    rw [← hw4]
    clear hw4
    obtain ⟨c0, c1, c2, c3, c4, c5, c6, c7, c8, c9⟩ := HA.out.cells
    rw [HU.out] at c0
    have kb0 : w4.cell? ⟨w3.heap.size, 0, none⟩ = some (.bool a.up) := HB.out.cell 0
    have kb1 : w4.cell? ⟨w3.heap.size, 1, none⟩ = some (.int .i64 a.term) := HB.out.cell 1
    have kb2 : w4.cell? ⟨w3.heap.size, 2, none⟩ = some (.int .i64 a.gen) := HB.out.cell 2
    have kb3 : w4.cell? ⟨w3.heap.size, 3, none⟩ = some (.int .i64 a.mode) := HB.out.cell 3
    have kb4 : w4.cell? ⟨w3.heap.size, 4, none⟩ = some (.int .i64 a.job) := HB.out.cell 4
    have kb5 : w4.cell? ⟨w3.heap.size, 5, none⟩ = some (.int .i64 a.inc) := HB.out.cell 5
    have kb6 : w4.cell? ⟨w3.heap.size, 6, none⟩ = some (.int .i64 a.ver) := HB.out.cell 6
    have kb7 : w4.cell? ⟨w3.heap.size, 7, none⟩ = some (.int .i64 a.lease) := HB.out.cell 7
    have kb8 : w4.cell? ⟨w3.heap.size, 8, none⟩ = some (.int .i64 a.worked) := HB.out.cell 8
    have kb9 : w4.cell? ⟨w3.heap.size, 9, none⟩ = some (.int .i64 a.aim) := HB.out.cell 9
    rw [HU.out] at kb0
    go_wp2
    go_ret
    exact ⟨rfl, HX.out⟩
  | false =>
    have hg : goesA a M = true := by unfold goesA; rw [hu, he, HMK.out]; rfl
    by_cases h4 : a.mode = 4
    · have hta : takeA a M now true = toldA a M := by unfold takeA; rw [if_pos hg]; unfold doA; rw [if_pos HMK.out]; rw [if_pos (show (toldA a M).mode = 4 from h4)]
      rw [hg, hta, if_pos rfl] at HTK
      have HTK2 : Hid (Calls Try.prog 55 #[agV a, .int .i64 0, msV M, .int .i64 now, .pointer none] wm fun e w' => e = .returned (.tuple #[.agg #[.bool a.up, .int .i64 M.term, .int .i64 M.gen, .int .i64 a.mode, .int .i64 a.job, .int .i64 a.inc, .int .i64 a.ver, .int .i64 a.lease, .int .i64 a.worked, .int .i64 a.aim], .agg #[.int .i64 0, .int .i64 6, .int .i64 M.term, .int .i64 M.gen, .int .i64 a.job, .int .i64 a.inc, .int .i64 a.ver, .int .i64 0, .int .i64 0, .int .i64 a.mode, .int .i64 a.worked], .bool true]) ∧ Ext wm w') := HTK
      unfold agV msV at HTK2
      have H4 := Lib.hid h4
      clear hg hta he hu HTK h4
      go_wp2_with fail
      refine HTK2.out.mono ?_
      rintro e3 w3 ⟨rfl, hx⟩
      replace HA := Lib.hid (HA.out.ext hx)
      replace HX := Lib.hid (HX.out.trans hx)
      clear hx HTK2 c0 c1 c2 c3 c4 c5 c6 c7 c8 c9 m0 m1 m2 m3 m4 m5 m6 m7 m8 m9 m10
      obtain ⟨b7, b8, hx⟩ := two_new w3 #[.bool a.up, .int .i64 M.term, .int .i64 M.gen, .int .i64 a.mode, .int .i64 a.job, .int .i64 a.inc, .int .i64 a.ver, .int .i64 a.lease, .int .i64 a.worked, .int .i64 a.aim] #[.int .i64 0, .int .i64 6, .int .i64 M.term, .int .i64 M.gen, .int .i64 a.job, .int .i64 a.inc, .int .i64 a.ver, .int .i64 0, .int .i64 0, .int .i64 a.mode, .int .i64 a.worked] 81 49
      obtain ⟨w4, hw4⟩ : ∃ W, W = (w3.alloc (.cells #[.bool a.up, .int .i64 M.term, .int .i64 M.gen, .int .i64 a.mode, .int .i64 a.job, .int .i64 a.inc, .int .i64 a.ver, .int .i64 a.lease, .int .i64 a.worked, .int .i64 a.aim] 81)).alloc (.cells #[.int .i64 0, .int .i64 6, .int .i64 M.term, .int .i64 M.gen, .int .i64 a.job, .int .i64 a.inc, .int .i64 a.ver, .int .i64 0, .int .i64 0, .int .i64 a.mode, .int .i64 a.worked] 49) := ⟨_, rfl⟩
      rw [← hw4] at b7 b8 hx
      have HB := Lib.hid b7
      replace HA := Lib.hid (HA.out.ext hx)
      replace HX := Lib.hid (HX.out.trans hx)
      clear b7 b8 hx
      go_upto_region 7 with (fail)
      rw [← hw4]
      clear hw4
      obtain ⟨c0, c1, c2, c3, c4, c5, c6, c7, c8, c9⟩ := HA.out.cells
      rw [HU.out] at c0
      have kb0 : w4.cell? ⟨w3.heap.size, 0, none⟩ = some (.bool a.up) := HB.out.cell 0
      have kb1 : w4.cell? ⟨w3.heap.size, 1, none⟩ = some (.int .i64 M.term) := HB.out.cell 1
      have kb2 : w4.cell? ⟨w3.heap.size, 2, none⟩ = some (.int .i64 M.gen) := HB.out.cell 2
      have kb3 : w4.cell? ⟨w3.heap.size, 3, none⟩ = some (.int .i64 a.mode) := HB.out.cell 3
      have kb4 : w4.cell? ⟨w3.heap.size, 4, none⟩ = some (.int .i64 a.job) := HB.out.cell 4
      have kb5 : w4.cell? ⟨w3.heap.size, 5, none⟩ = some (.int .i64 a.inc) := HB.out.cell 5
      have kb6 : w4.cell? ⟨w3.heap.size, 6, none⟩ = some (.int .i64 a.ver) := HB.out.cell 6
      have kb7 : w4.cell? ⟨w3.heap.size, 7, none⟩ = some (.int .i64 a.lease) := HB.out.cell 7
      have kb8 : w4.cell? ⟨w3.heap.size, 8, none⟩ = some (.int .i64 a.worked) := HB.out.cell 8
      have kb9 : w4.cell? ⟨w3.heap.size, 9, none⟩ = some (.int .i64 a.aim) := HB.out.cell 9
      have d4 : (a.mode == 4) = true := by rw [H4.out]; rfl
      have dv : (a.ver == a.ver) = true := by simp
      go_wp2
      go_ret
      exact ⟨rfl, HX.out⟩
    · have hta : takeA a M now true = looseA (toldA a M) := by unfold takeA; rw [if_pos hg]; unfold doA; rw [if_pos HMK.out]; rw [if_neg (show ¬ (toldA a M).mode = 4 from h4)]
      rw [hg, hta, if_pos rfl] at HTK
      have HTK2 : Hid (Calls Try.prog 55 #[agV a, .int .i64 0, msV M, .int .i64 now, .pointer none] wm fun e w' => e = .returned (.tuple #[.agg #[.bool a.up, .int .i64 M.term, .int .i64 M.gen, .int .i64 0, .int .i64 0, .int .i64 0, .int .i64 a.ver, .int .i64 0, .int .i64 0, .int .i64 a.aim], .agg #[.int .i64 0, .int .i64 6, .int .i64 M.term, .int .i64 M.gen, .int .i64 0, .int .i64 0, .int .i64 a.ver, .int .i64 0, .int .i64 0, .int .i64 0, .int .i64 0], .bool true]) ∧ Ext wm w') := HTK
      unfold agV msV at HTK2
      have H4 := Lib.hid h4
      clear hg hta he hu HTK h4
      go_wp2_with fail
      refine HTK2.out.mono ?_
      rintro e3 w3 ⟨rfl, hx⟩
      replace HA := Lib.hid (HA.out.ext hx)
      replace HX := Lib.hid (HX.out.trans hx)
      clear hx HTK2 c0 c1 c2 c3 c4 c5 c6 c7 c8 c9 m0 m1 m2 m3 m4 m5 m6 m7 m8 m9 m10
      obtain ⟨b7, b8, hx⟩ := two_new w3 #[.bool a.up, .int .i64 M.term, .int .i64 M.gen, .int .i64 0, .int .i64 0, .int .i64 0, .int .i64 a.ver, .int .i64 0, .int .i64 0, .int .i64 a.aim] #[.int .i64 0, .int .i64 6, .int .i64 M.term, .int .i64 M.gen, .int .i64 0, .int .i64 0, .int .i64 a.ver, .int .i64 0, .int .i64 0, .int .i64 0, .int .i64 0] 81 49
      obtain ⟨w4, hw4⟩ : ∃ W, W = (w3.alloc (.cells #[.bool a.up, .int .i64 M.term, .int .i64 M.gen, .int .i64 0, .int .i64 0, .int .i64 0, .int .i64 a.ver, .int .i64 0, .int .i64 0, .int .i64 a.aim] 81)).alloc (.cells #[.int .i64 0, .int .i64 6, .int .i64 M.term, .int .i64 M.gen, .int .i64 0, .int .i64 0, .int .i64 a.ver, .int .i64 0, .int .i64 0, .int .i64 0, .int .i64 0] 49) := ⟨_, rfl⟩
      rw [← hw4] at b7 b8 hx
      have HB := Lib.hid b7
      replace HA := Lib.hid (HA.out.ext hx)
      replace HX := Lib.hid (HX.out.trans hx)
      clear b7 b8 hx
      go_upto_region 7 with (fail)
      rw [← hw4]
      clear hw4
      obtain ⟨c0, c1, c2, c3, c4, c5, c6, c7, c8, c9⟩ := HA.out.cells
      rw [HU.out] at c0
      have kb0 : w4.cell? ⟨w3.heap.size, 0, none⟩ = some (.bool a.up) := HB.out.cell 0
      have kb1 : w4.cell? ⟨w3.heap.size, 1, none⟩ = some (.int .i64 M.term) := HB.out.cell 1
      have kb2 : w4.cell? ⟨w3.heap.size, 2, none⟩ = some (.int .i64 M.gen) := HB.out.cell 2
      have kb3 : w4.cell? ⟨w3.heap.size, 3, none⟩ = some (.int .i64 0) := HB.out.cell 3
      have kb4 : w4.cell? ⟨w3.heap.size, 4, none⟩ = some (.int .i64 0) := HB.out.cell 4
      have kb5 : w4.cell? ⟨w3.heap.size, 5, none⟩ = some (.int .i64 0) := HB.out.cell 5
      have kb6 : w4.cell? ⟨w3.heap.size, 6, none⟩ = some (.int .i64 a.ver) := HB.out.cell 6
      have kb7 : w4.cell? ⟨w3.heap.size, 7, none⟩ = some (.int .i64 0) := HB.out.cell 7
      have kb8 : w4.cell? ⟨w3.heap.size, 8, none⟩ = some (.int .i64 0) := HB.out.cell 8
      have kb9 : w4.cell? ⟨w3.heap.size, 9, none⟩ = some (.int .i64 a.aim) := HB.out.cell 9
      have d4 : (a.mode == 4) = false := by simpa using H4.out
      have dv : (a.ver == a.ver) = true := by simp
      go_wp2
      go_ret
      exact ⟨rfl, HX.out⟩

end Go.Proofs.Ytddhbokknbmdfaa

/- Two closed facts on the program that every row asks. -/
namespace Go.Proofs.Ytddhbokknbmdfaa
open Go.RowKit

theorem Try.ownKnob : ownKnob Try.prog.godebug = none := by kernel_rfl

theorem Try.laidOut : laidOutB Try.prog = true := by kernel_rfl

end Go.Proofs.Ytddhbokknbmdfaa

/- Layer 13: agents and messages as arguments. -/
namespace Go.Proofs.Ytddhbokknbmdfaa
open Go.ChangeShapes Go.WideShapes Go.ChangeAt Go.RowKit Go.Deep

section
variable {H : Type} {enc : TypeId × Value → H} {P : Program}
theorem dec_nums13 {w : World} {base : Nat} {held : Bool} {r : Reach} {b0 : Nat} {t : TypeId} {fs : Array Field} {v : Value} {d : DataW H} {p : List MemPlace} (hs : P.underlying t = some (.struct fs)) (hone : oneCellFields P fs = true) (hC : P.cellsOf t = fs.size)
    {ti : TypeId} (hta : (fs.all fun f => f.type == ti) = true) (hi : P.underlying ti = some (.int .i64)) (hv : Value.okWide P w r b0 t v) (h : DataW.Trod enc P w base (fun _ => true) held t v d p) : ∃ l : List Int, l.length = fs.size ∧ v = .agg (l.map (Value.int .i64)).toArray := by
  obtain ⟨cs, rfl, hsz⟩ := okWide_struct hs hv
  obtain ⟨fuel, hf⟩ := h
  have hti : ∀ f ∈ fs, P.underlying f.type = some (.int .i64) := fun f hf => by
    obtain ⟨i, hlt, rfl⟩ := Array.getElem_of_mem hf
    have := Array.all_eq_true.1 hta i hlt
    rw [beq_iff_eq] at this
    rw [this]
    exact hi
  obtain ⟨hl, hp⟩ := struct_parts hs hone hC hf
  have hl' : cs.size = fs.size := hsz.trans hC
  refine ⟨cs.toList.map intOf, by simpa using hl', ?_⟩
  congr 1
  apply Array.ext'
  apply List.ext_getElem?
  intro i
  by_cases hi : i < fs.size
  · obtain ⟨u, n, y, hu, hy⟩ := hp i fs[i] (Array.getElem?_eq_getElem hi)
    obtain ⟨z, hz, _, _⟩ := DataW.trod_int (hti _ (Array.getElem_mem hi)) hy
    simp only [List.cons.injEq, and_true] at hz
    subst hz
    have hu' : cs.toList[i]? = some (.int .i64 z) := hu
    simp only [List.getElem?_map, hu', Option.map_some, intOf]
  · rw [List.getElem?_eq_none (by simp; omega), List.getElem?_eq_none (by simp; omega)]

/-! ### Slices of structs -/


end

section
variable {H : Type} {enc : TypeId × Value → H} {w : World} {base : Nat} {held : Bool} {r : Reach} {b0 : Nat}
set_option maxRecDepth 100000 in
theorem dec_msg {v : Value} {d : DataW H} {p : List MemPlace} (hv : Value.okWide Try.prog w r b0 49 v) (h : DataW.Trod enc Try.prog w base (fun _ => true) held 49 v d p) : ∃ m : Ms, v = msV m := by
  obtain ⟨l, hl, rfl⟩ := dec_nums13 Try.underlying49 (by kernel_rfl) (by kernel_rfl) (ti := 3) (by kernel_rfl) Try.underlying3 hv h
  match l, hl with
  | [a, b, c, d, e, f, g, h, i, j, k], _ => exact ⟨⟨a, b, c, d, e, f, g, h, i, j, k⟩, rfl⟩
theorem tr_int13 {m : Nat} {u : Value} {y : DataW H × List MemPlace} (h : DataW.trod enc Try.prog w base (fun _ => true) held m 3 [u] = some y) : ∃ z : Int, u = .int .i64 z := by
  obtain ⟨z, hz, _, _⟩ := DataW.trod_int Try.underlying3 h
  simp only [List.cons.injEq, and_true] at hz
  exact ⟨z, hz⟩
theorem tr_bool13 {m : Nat} {u : Value} {y : DataW H × List MemPlace} (h : DataW.trod enc Try.prog w base (fun _ => true) held m 4 [u] = some y) : ∃ z : Bool, u = .bool z := by
  obtain ⟨z, hz, _⟩ := DataW.trod_bool Try.underlying4 h
  simp only [List.cons.injEq, and_true] at hz
  exact ⟨z, hz⟩
set_option maxRecDepth 100000 in
theorem dec_agent {v : Value} {d : DataW H} {p : List MemPlace} (hv : Value.okWide Try.prog w r b0 81 v) (h : DataW.Trod enc Try.prog w base (fun _ => true) held 81 v d p) : ∃ a : Ag, v = agV a := by
  obtain ⟨cs, rfl, hsz⟩ := okWide_struct Try.underlying81 hv
  obtain ⟨fuel, hf⟩ := h
  obtain ⟨hl, hp⟩ := struct_parts Try.underlying81 (by kernel_rfl) (by kernel_rfl) hf
  obtain ⟨u0, k0, y0, c0, t0⟩ := hp 0 _ rfl
  obtain ⟨u1, k1, y1, c1, t1⟩ := hp 1 _ rfl
  obtain ⟨u2, k2, y2, c2, t2⟩ := hp 2 _ rfl
  obtain ⟨u3, k3, y3, c3, t3⟩ := hp 3 _ rfl
  obtain ⟨u4, k4, y4, c4, t4⟩ := hp 4 _ rfl
  obtain ⟨u5, k5, y5, c5, t5⟩ := hp 5 _ rfl
  obtain ⟨u6, k6, y6, c6, t6⟩ := hp 6 _ rfl
  obtain ⟨u7, k7, y7, c7, t7⟩ := hp 7 _ rfl
  obtain ⟨u8, k8, y8, c8, t8⟩ := hp 8 _ rfl
  obtain ⟨u9, k9, y9, c9, t9⟩ := hp 9 _ rfl
  obtain ⟨z0, rfl⟩ := tr_bool13 t0
  obtain ⟨z1, rfl⟩ := tr_int13 t1
  obtain ⟨z2, rfl⟩ := tr_int13 t2
  obtain ⟨z3, rfl⟩ := tr_int13 t3
  obtain ⟨z4, rfl⟩ := tr_int13 t4
  obtain ⟨z5, rfl⟩ := tr_int13 t5
  obtain ⟨z6, rfl⟩ := tr_int13 t6
  obtain ⟨z7, rfl⟩ := tr_int13 t7
  obtain ⟨z8, rfl⟩ := tr_int13 t8
  obtain ⟨z9, rfl⟩ := tr_int13 t9
  refine ⟨⟨z0, z1, z2, z3, z4, z5, z6, z7, z8, z9⟩, ?_⟩
  have hsz' : cs.toList.length = 10 := hl
  obtain ⟨l⟩ := cs
  match l, hsz' with
  | [a, b, c, d, e, f, g, h, i, j], _ =>
    simp only [Value.cells, List.getElem?_cons_zero, List.getElem?_cons_succ, Option.some.injEq] at c0 c1 c2 c3 c4 c5 c6 c7 c8 c9
    subst c0 c1 c2 c3 c4 c5 c6 c7 c8 c9
    rfl
end

end Go.Proofs.Ytddhbokknbmdfaa
