/- Texts that the proof of F rests on, one behind the other. -/
import Derived.Test.YtbfjlhddebollaaDoorFQ14
import Derived.Deep.Cut
import Derived.Deep.DeepCutAuto
import Derived.Deep.CutBlock

/- The reference of layer 9: Apply, kind 5. -/
namespace Go.Proofs.YtbfjlhddebollaaDoor
open Go.RowKit

set_option maxRecDepth 100000 in
set_option maxHeartbeats 4000000 in
theorem RefAp_5 (c : Cf) (vn vj : Value) (s : St) (a1 a2 a3 a4 a5 a6 : Int) (w : World) (h : RdSt w vn vj s) (hR : RightP c s) (hz : (applyS c s (5, a1, a2, a3, a4, a5, a6)).2 = 0) :
    Calls Tryd.prog 11 #[cfV c, stV vn vj s, .agg #[.int .i64 5, .int .i64 a1, .int .i64 a2, .int .i64 a3, .int .i64 a4, .int .i64 a5, .int .i64 a6]] w fun e w' => ∃ vn' vj', e = .returned (.tuple #[stV vn' vj' (applyS c s (5, a1, a2, a3, a4, a5, a6)).1, .int .i64 (applyS c s (5, a1, a2, a3, a4, a5, a6)).2]) ∧ RdSt w' vn' vj' (applyS c s (5, a1, a2, a3, a4, a5, a6)).1 ∧ Ext w w' ∧ ∀ k, vn'.ownBlock = some k ∨ vj'.ownBlock = some k → w.heap.size ≤ k := by
  have hR6 := hR.len.2
  have hj24 := hR.nj
  have he : (applyS c s (5, a1, a2, a3, a4, a5, a6)).1 = { s with mode := 0 } := by
    revert hz
    unfold applyS
    split
    · intro hz
      cases hz
    · unfold doS
      show (resumeS s).2 = 0 → (resumeS s).1 = _
      unfold resumeS
      split <;> intro hz <;> first | rfl | (cases hz)
  obtain ⟨S2, hS2⟩ : ∃ S2, S2 = (applyS c s (5, a1, a2, a3, a4, a5, a6)).1 := ⟨_, rfl⟩
  obtain ⟨er, her⟩ : ∃ er, er = (applyS c s (5, a1, a2, a3, a4, a5, a6)).2 := ⟨_, rfl⟩
  rw [← hS2, ← her]
  have HS2 := Lib.hid (hS2.trans he)
  rw [← her] at hz
  subst hz
  have HCP := Lib.hid fun W (hx : Ext w W) => RefCopy_any vn vj s W (h.ext hx) (by omega) (by omega)
  have HWY : Hid (∀ W vn' vj', RdSt W vn' vj' s → Calls Tryd.prog 29 #[cfV c, stV vn' vj' s, .agg #[.int .i64 5, .int .i64 a1, .int .i64 a2, .int .i64 a3, .int .i64 a4, .int .i64 a5, .int .i64 a6]] W fun e w' => e = .returned (.int .i64 0) ∧ Ext W w') := Lib.hid fun W vn' vj' hr => (RefWhy_any c vn' vj' s (5, a1, a2, a3, a4, a5, a6) W hr hR).mono (by rintro e w' ⟨h1, h2⟩; rw [← her] at h1; exact ⟨h1, h2⟩)
  obtain ⟨An, cn, rfl, -, -⟩ := h.nodes.slice_
  obtain ⟨Aj, cj, rfl, -, -⟩ := h.jobs.slice_
  obtain ⟨W4, hW4, hx4, hb0, hb1, hb2, hb3, hs4⟩ := four_blocks w 23 30 36 30 #[.int .i64 c.nodes, .int .i64 c.queues, .int .i64 c.quota, .int .i64 c.wave, .int .i64 c.lease, .int .i64 c.retry, .int .i64 c.deadline, .int .i64 c.room, .int .i64 c.disk] #[.slice An s.nodes.length cn, .slice Aj s.jobs.length cj, .int .i64 s.goal, .int .i64 s.prior, .int .i64 s.mode, .int .i64 s.term] #[.int .i64 5, .int .i64 a1, .int .i64 a2, .int .i64 a3, .int .i64 a4, .int .i64 a5, .int .i64 a6] #[.slice none 0 0, .slice none 0 0, .int .i64 0, .int .i64 0, .int .i64 0, .int .i64 0]
  have HX4 := Lib.hid hx4
  have HB0 := Lib.hid hb0
  have HB1 := Lib.hid hb1
  have HB2 := Lib.hid hb2
  have HB3 := Lib.hid hb3
  have HS4 := Lib.hid hs4
  unfold stV at HCP
  unfold stV cfV at HWY
  unfold stV cfV
  clear hx4 hb0 hb1 hb2 hb3 hs4 h hS2 her he hR6 hj24
  go_enter Tryd.func11, Tryd.ntmps11
  go_wp2_with fail
  rw [← hW4]
  clear hW4
  refine (HCP.out _ HX4.out).mono ?_
  rintro e1 w1 ⟨vn1, vj1, rfl, ho, hx1⟩
  have HRD : RdSt w1 vn1 vj1 s := ⟨RdS.own ho.nodes, RdS.own ho.jobs⟩
  obtain ⟨A1, c1, rfl, -, -⟩ := HRD.nodes.slice_
  obtain ⟨A2, c2, rfl, -, -⟩ := HRD.jobs.slice_
  clear HRD
  obtain ⟨w2, hw2⟩ : ∃ W, W = w1.alloc (.cells #[.slice A1 s.nodes.length c1, .slice A2 s.jobs.length c2, .int .i64 s.goal, .int .i64 s.prior, .int .i64 s.mode, .int .i64 s.term] 30) := ⟨_, rfl⟩
  have hx2 : Ext w1 w2 := by rw [hw2]; exact Below.alloc (Ext.refl _) (Nat.le_refl _) _
  have hsz : w2.heap.size = w1.heap.size + 1 := by rw [hw2]; simp
  obtain ⟨F, hsg, hF4⟩ : ∃ F : Fp, Sg F w2 w1.heap.size (.slice A1 s.nodes.length c1) (.slice A2 s.jobs.length c2) s ∧ ∀ k, F k → w.heap.size + 4 ≤ k := ⟨fun k => W4.heap.size ≤ k ∧ k < w2.heap.size, Sg.make (w0 := W4) (base := W4.heap.size) (by rw [hw2]; exact Blk.new _ _ _) hx1.size ⟨by rw [hw2]; exact ho.nodes.alloc _, by rw [hw2]; exact ho.jobs.alloc _, ho.off⟩ (Nat.le_refl _) (fun k hk => by
    rcases hk with hk | hk
    · have := (ho.nodes.lt k hk).2
      omega
    · have := (ho.jobs.lt k hk).2
      omega), fun k hk => by have := HS4.out; omega⟩
  have HX2 := Lib.hid (Ext.trans (Ext.trans HX4.out hx1) hx2)
  have HF4 := Lib.hid hF4
  have HSG := Lib.hid hsg
  have HC0 := Lib.hid ((HB0.out.ext hx1).ext hx2)
  have HC2 := Lib.hid ((HB2.out.ext hx1).ext hx2)
  have HC3 := Lib.hid ((HB3.out.ext hx1).ext hx2)
  clear ho hx1 hx2 hsz hsg hF4 HB0 HB1 HB2 HB3 HS4 HX4 HCP
  go_upto_region 2 with (fail)
  rw [← hw2]
  clear hw2
  have k0 : w2.cell? ⟨w.heap.size, 0, none⟩ = some (.int .i64 c.nodes) := HC0.out.cell 0
  have k1 : w2.cell? ⟨w.heap.size, 1, none⟩ = some (.int .i64 c.queues) := HC0.out.cell 1
  have k2 : w2.cell? ⟨w.heap.size, 2, none⟩ = some (.int .i64 c.quota) := HC0.out.cell 2
  have k3 : w2.cell? ⟨w.heap.size, 3, none⟩ = some (.int .i64 c.wave) := HC0.out.cell 3
  have k4 : w2.cell? ⟨w.heap.size, 4, none⟩ = some (.int .i64 c.lease) := HC0.out.cell 4
  have k5 : w2.cell? ⟨w.heap.size, 5, none⟩ = some (.int .i64 c.retry) := HC0.out.cell 5
  have k6 : w2.cell? ⟨w.heap.size, 6, none⟩ = some (.int .i64 c.deadline) := HC0.out.cell 6
  have k7 : w2.cell? ⟨w.heap.size, 7, none⟩ = some (.int .i64 c.room) := HC0.out.cell 7
  have k8 : w2.cell? ⟨w.heap.size, 8, none⟩ = some (.int .i64 c.disk) := HC0.out.cell 8
  have o0 : w2.cell? ⟨w.heap.size + 2, 0, none⟩ = some (.int .i64 5) := HC2.out.cell 0
  have o1 : w2.cell? ⟨w.heap.size + 2, 1, none⟩ = some (.int .i64 a1) := HC2.out.cell 1
  have o2 : w2.cell? ⟨w.heap.size + 2, 2, none⟩ = some (.int .i64 a2) := HC2.out.cell 2
  have o3 : w2.cell? ⟨w.heap.size + 2, 3, none⟩ = some (.int .i64 a3) := HC2.out.cell 3
  have o4 : w2.cell? ⟨w.heap.size + 2, 4, none⟩ = some (.int .i64 a4) := HC2.out.cell 4
  have o5 : w2.cell? ⟨w.heap.size + 2, 5, none⟩ = some (.int .i64 a5) := HC2.out.cell 5
  have o6 : w2.cell? ⟨w.heap.size + 2, 6, none⟩ = some (.int .i64 a6) := HC2.out.cell 6
  have s0 : w2.cell? ⟨w1.heap.size, 0, none⟩ = some (.slice A1 s.nodes.length c1) := HSG.out.blk.cell 0
  have s1 : w2.cell? ⟨w1.heap.size, 1, none⟩ = some (.slice A2 s.jobs.length c2) := HSG.out.blk.cell 1
  have s2 : w2.cell? ⟨w1.heap.size, 2, none⟩ = some (.int .i64 s.goal) := HSG.out.blk.cell 2
  have s3 : w2.cell? ⟨w1.heap.size, 3, none⟩ = some (.int .i64 s.prior) := HSG.out.blk.cell 3
  have s4 : w2.cell? ⟨w1.heap.size, 4, none⟩ = some (.int .i64 s.mode) := HSG.out.blk.cell 4
  have s5 : w2.cell? ⟨w1.heap.size, 5, none⟩ = some (.int .i64 s.term) := HSG.out.blk.cell 5
  go_wp2_with fail
  refine (HWY.out _ _ _ HSG.out.rd).mono ?_
  rintro e3 w3 ⟨rfl, hx3⟩
  have HX3 := Lib.hid (HX2.out.trans hx3)
  have HSG3 := Lib.hid (HSG.out.ext hx3)
  have HO3 := Lib.hid (HC2.out.ext hx3)
  have HV3 := Lib.hid (HC3.out.ext hx3)
  have HBX : Hid (∀ W, Chg F w3 W → Blk W (w.heap.size + 2) 36 #[.int .i64 5, .int .i64 a1, .int .i64 a2, .int .i64 a3, .int .i64 a4, .int .i64 a5, .int .i64 a6] ∧ Blk W (w.heap.size + 3) 30 #[.slice none 0 0, .slice none 0 0, .int .i64 0, .int .i64 0, .int .i64 0, .int .i64 0] ∧ Ext w W) := Lib.hid fun W hc => ⟨(hc.block _ HO3.out.lt (fun hf => by have := HF4.out _ hf; omega)).trans HO3.out, (hc.block _ HV3.out.lt (fun hf => by have := HF4.out _ hf; omega)).trans HV3.out, hc.ext HX3.out (fun k hf => by have := HF4.out _ hf; omega)⟩
  clear hx3 HX2 HSG HC0 HC2 HC3 HWY k0 k1 k2 k3 k4 k5 k6 k7 k8 o0 o1 o2 o3 o4 o5 o6 s0 s1 s2 s3 s4 s5
  have o0 : w3.cell? ⟨w.heap.size + 2, 0, none⟩ = some (.int .i64 5) := (HBX.out _ (Chg.refl F w3)).1.cell 0
  have o1 : w3.cell? ⟨w.heap.size + 2, 1, none⟩ = some (.int .i64 a1) := (HBX.out _ (Chg.refl F w3)).1.cell 1
  have o2 : w3.cell? ⟨w.heap.size + 2, 2, none⟩ = some (.int .i64 a2) := (HBX.out _ (Chg.refl F w3)).1.cell 2
  have o3 : w3.cell? ⟨w.heap.size + 2, 3, none⟩ = some (.int .i64 a3) := (HBX.out _ (Chg.refl F w3)).1.cell 3
  have s0 : w3.cell? ⟨w1.heap.size, 0, none⟩ = some (.slice A1 s.nodes.length c1) := HSG3.out.blk.cell 0
  have s1 : w3.cell? ⟨w1.heap.size, 1, none⟩ = some (.slice A2 s.jobs.length c2) := HSG3.out.blk.cell 1
  have s2 : w3.cell? ⟨w1.heap.size, 2, none⟩ = some (.int .i64 s.goal) := HSG3.out.blk.cell 2
  have s3 : w3.cell? ⟨w1.heap.size, 3, none⟩ = some (.int .i64 s.prior) := HSG3.out.blk.cell 3
  have s4 : w3.cell? ⟨w1.heap.size, 4, none⟩ = some (.int .i64 s.mode) := HSG3.out.blk.cell 4
  have s5 : w3.cell? ⟨w1.heap.size, 5, none⟩ = some (.int .i64 s.term) := HSG3.out.blk.cell 5
  have f0 := HSG3.out.fr 4
  have hs := HSG3.out.setG ({ s with mode := 0 }) 4 (.int .i64 0) rfl rfl rfl
  obtain ⟨v4, hw⟩ : ∃ W, W = w3.setCell ⟨w1.heap.size, 4, none⟩ (.int .i64 0) := ⟨_, rfl⟩
  rw [← hw] at hs
  have HSV4 := Lib.hid hs.1
  have HCV4 : Hid (Chg F w3 v4) := Lib.hid (Chg.trans (Chg.refl F w3) hs.2 (fun _ _ h => h))
  clear hs
  go_upto_region 70 with (fail)
  rw [← hw]
  clear hw f0 o0 o1 o2 o3 s0 s1 s2 s3 s4 s5
  have HSE := Lib.hid (show Sg F v4 w1.heap.size (.slice A1 s.nodes.length c1) (.slice A2 s.jobs.length c2) S2 by rw [HS2.out]; exact HSV4.out)
  have HCE : Hid (Chg F w3 v4) := Lib.hid HCV4.out
  have HQE := Lib.hid (HBX.out _ HCE.out)
  have m0 : v4.cell? ⟨w1.heap.size, 0, none⟩ = some (.slice A1 s.nodes.length c1) := HSE.out.blk.cell 0
  have m1 : v4.cell? ⟨w1.heap.size, 1, none⟩ = some (.slice A2 s.jobs.length c2) := HSE.out.blk.cell 1
  have m2 : v4.cell? ⟨w1.heap.size, 2, none⟩ = some (.int .i64 S2.goal) := HSE.out.blk.cell 2
  have m3 : v4.cell? ⟨w1.heap.size, 3, none⟩ = some (.int .i64 S2.prior) := HSE.out.blk.cell 3
  have m4 : v4.cell? ⟨w1.heap.size, 4, none⟩ = some (.int .i64 S2.mode) := HSE.out.blk.cell 4
  have m5 : v4.cell? ⟨w1.heap.size, 5, none⟩ = some (.int .i64 S2.term) := HSE.out.blk.cell 5
  have r0 : v4.cell? ⟨w.heap.size + 3, 0, none⟩ = some (.slice none 0 0) := HQE.out.2.1.cell 0
  have g0 : v4.frozen? ⟨w.heap.size + 3, 0, none⟩ = false := HQE.out.2.1.frozen 0
  have r1 : v4.cell? ⟨w.heap.size + 3, 1, none⟩ = some (.slice none 0 0) := HQE.out.2.1.cell 1
  have g1 : v4.frozen? ⟨w.heap.size + 3, 1, none⟩ = false := HQE.out.2.1.frozen 1
  have r2 : v4.cell? ⟨w.heap.size + 3, 2, none⟩ = some (.int .i64 0) := HQE.out.2.1.cell 2
  have g2 : v4.frozen? ⟨w.heap.size + 3, 2, none⟩ = false := HQE.out.2.1.frozen 2
  have r3 : v4.cell? ⟨w.heap.size + 3, 3, none⟩ = some (.int .i64 0) := HQE.out.2.1.cell 3
  have g3 : v4.frozen? ⟨w.heap.size + 3, 3, none⟩ = false := HQE.out.2.1.frozen 3
  have r4 : v4.cell? ⟨w.heap.size + 3, 4, none⟩ = some (.int .i64 0) := HQE.out.2.1.cell 4
  have g4 : v4.frozen? ⟨w.heap.size + 3, 4, none⟩ = false := HQE.out.2.1.frozen 4
  have r5 : v4.cell? ⟨w.heap.size + 3, 5, none⟩ = some (.int .i64 0) := HQE.out.2.1.cell 5
  have g5 : v4.frozen? ⟨w.heap.size + 3, 5, none⟩ = false := HQE.out.2.1.frozen 5
  go_wp2
  have hq := (((((PB.start HQE.out.2.1).set 0 (.slice A1 s.nodes.length c1)).set 1 (.slice A2 s.jobs.length c2)).set 2 (.int .i64 S2.goal)).set 3 (.int .i64 S2.prior)).set 4 (.int .i64 S2.mode)
  replace hq := hq.set 5 (.int .i64 S2.term)
  simp only [List.setIfInBounds_toArray, List.set_cons_zero, List.set_cons_succ] at hq
  obtain ⟨wf, hwf⟩ : ∃ W, W = ((((((v4.setCell ⟨w.heap.size + 3, 0, none⟩ (.slice A1 s.nodes.length c1)).setCell ⟨w.heap.size + 3, 1, none⟩ (.slice A2 s.jobs.length c2)).setCell ⟨w.heap.size + 3, 2, none⟩ (.int .i64 S2.goal)).setCell ⟨w.heap.size + 3, 3, none⟩ (.int .i64 S2.prior)).setCell ⟨w.heap.size + 3, 4, none⟩ (.int .i64 S2.mode)).setCell ⟨w.heap.size + 3, 5, none⟩ (.int .i64 S2.term)) := ⟨_, rfl⟩
  rw [← hwf] at hq
  have hc1 : Chg (fun x => x = w.heap.size + 3) v4 wf := hq.chg
  have hsf : Sg F wf w1.heap.size (.slice A1 s.nodes.length c1) (.slice A2 s.jobs.length c2) S2 := ObjF.chg HSE.out hc1 (fun x hx e => by have := HF4.out x hx; have e : x = w.heap.size + 3 := e; omega)
  have hxf := hq.below _ _ HQE.out.2.2 (by omega)
  rw [hwf] at hq hsf hxf
  exact bodyPost_ret (results_cell_tmp_row rfl _ _ (w.heap.size + 3) 30 _ (0, 0) _ rfl hq.blk rfl rfl (by kernel_rfl)) rfl ⟨.slice A1 s.nodes.length c1, .slice A2 s.jobs.length c2, rfl, hsf.rd, hxf, hsf.own4 HF4.out⟩

end Go.Proofs.YtbfjlhddebollaaDoor

/- The reference of layer 9: Apply, kind 6. -/
namespace Go.Proofs.YtbfjlhddebollaaDoor
open Go.RowKit

set_option maxRecDepth 100000 in
set_option maxHeartbeats 4000000 in
theorem RefAp_6 (c : Cf) (vn vj : Value) (s : St) (a1 a2 a3 a4 a5 a6 : Int) (w : World) (h : RdSt w vn vj s) (hR : RightP c s) (hz : (applyS c s (6, a1, a2, a3, a4, a5, a6)).2 = 0) :
    Calls Tryd.prog 11 #[cfV c, stV vn vj s, .agg #[.int .i64 6, .int .i64 a1, .int .i64 a2, .int .i64 a3, .int .i64 a4, .int .i64 a5, .int .i64 a6]] w fun e w' => ∃ vn' vj', e = .returned (.tuple #[stV vn' vj' (applyS c s (6, a1, a2, a3, a4, a5, a6)).1, .int .i64 (applyS c s (6, a1, a2, a3, a4, a5, a6)).2]) ∧ RdSt w' vn' vj' (applyS c s (6, a1, a2, a3, a4, a5, a6)).1 ∧ Ext w w' ∧ ∀ k, vn'.ownBlock = some k ∨ vj'.ownBlock = some k → w.heap.size ≤ k := by
  have hR6 := hR.len.2
  have hj24 := hR.nj
  have he : (applyS c s (6, a1, a2, a3, a4, a5, a6)).1 = { s with mode := 2 } := by
    revert hz
    unfold applyS
    split
    · intro hz
      cases hz
    · unfold doS
      show (abortS s).2 = 0 → (abortS s).1 = _
      unfold abortS
      split <;> intro hz <;> first | rfl | (cases hz)
  obtain ⟨S2, hS2⟩ : ∃ S2, S2 = (applyS c s (6, a1, a2, a3, a4, a5, a6)).1 := ⟨_, rfl⟩
  obtain ⟨er, her⟩ : ∃ er, er = (applyS c s (6, a1, a2, a3, a4, a5, a6)).2 := ⟨_, rfl⟩
  rw [← hS2, ← her]
  have HS2 := Lib.hid (hS2.trans he)
  rw [← her] at hz
  subst hz
  have HCP := Lib.hid fun W (hx : Ext w W) => RefCopy_any vn vj s W (h.ext hx) (by omega) (by omega)
  have HWY : Hid (∀ W vn' vj', RdSt W vn' vj' s → Calls Tryd.prog 29 #[cfV c, stV vn' vj' s, .agg #[.int .i64 6, .int .i64 a1, .int .i64 a2, .int .i64 a3, .int .i64 a4, .int .i64 a5, .int .i64 a6]] W fun e w' => e = .returned (.int .i64 0) ∧ Ext W w') := Lib.hid fun W vn' vj' hr => (RefWhy_any c vn' vj' s (6, a1, a2, a3, a4, a5, a6) W hr hR).mono (by rintro e w' ⟨h1, h2⟩; rw [← her] at h1; exact ⟨h1, h2⟩)
  obtain ⟨An, cn, rfl, -, -⟩ := h.nodes.slice_
  obtain ⟨Aj, cj, rfl, -, -⟩ := h.jobs.slice_
  obtain ⟨W4, hW4, hx4, hb0, hb1, hb2, hb3, hs4⟩ := four_blocks w 23 30 36 30 #[.int .i64 c.nodes, .int .i64 c.queues, .int .i64 c.quota, .int .i64 c.wave, .int .i64 c.lease, .int .i64 c.retry, .int .i64 c.deadline, .int .i64 c.room, .int .i64 c.disk] #[.slice An s.nodes.length cn, .slice Aj s.jobs.length cj, .int .i64 s.goal, .int .i64 s.prior, .int .i64 s.mode, .int .i64 s.term] #[.int .i64 6, .int .i64 a1, .int .i64 a2, .int .i64 a3, .int .i64 a4, .int .i64 a5, .int .i64 a6] #[.slice none 0 0, .slice none 0 0, .int .i64 0, .int .i64 0, .int .i64 0, .int .i64 0]
  have HX4 := Lib.hid hx4
  have HB0 := Lib.hid hb0
  have HB1 := Lib.hid hb1
  have HB2 := Lib.hid hb2
  have HB3 := Lib.hid hb3
  have HS4 := Lib.hid hs4
  unfold stV at HCP
  unfold stV cfV at HWY
  unfold stV cfV
  clear hx4 hb0 hb1 hb2 hb3 hs4 h hS2 her he hR6 hj24
  go_enter Tryd.func11, Tryd.ntmps11
  go_wp2_with fail
  rw [← hW4]
  clear hW4
  refine (HCP.out _ HX4.out).mono ?_
  rintro e1 w1 ⟨vn1, vj1, rfl, ho, hx1⟩
  have HRD : RdSt w1 vn1 vj1 s := ⟨RdS.own ho.nodes, RdS.own ho.jobs⟩
  obtain ⟨A1, c1, rfl, -, -⟩ := HRD.nodes.slice_
  obtain ⟨A2, c2, rfl, -, -⟩ := HRD.jobs.slice_
  clear HRD
  obtain ⟨w2, hw2⟩ : ∃ W, W = w1.alloc (.cells #[.slice A1 s.nodes.length c1, .slice A2 s.jobs.length c2, .int .i64 s.goal, .int .i64 s.prior, .int .i64 s.mode, .int .i64 s.term] 30) := ⟨_, rfl⟩
  have hx2 : Ext w1 w2 := by rw [hw2]; exact Below.alloc (Ext.refl _) (Nat.le_refl _) _
  have hsz : w2.heap.size = w1.heap.size + 1 := by rw [hw2]; simp
  obtain ⟨F, hsg, hF4⟩ : ∃ F : Fp, Sg F w2 w1.heap.size (.slice A1 s.nodes.length c1) (.slice A2 s.jobs.length c2) s ∧ ∀ k, F k → w.heap.size + 4 ≤ k := ⟨fun k => W4.heap.size ≤ k ∧ k < w2.heap.size, Sg.make (w0 := W4) (base := W4.heap.size) (by rw [hw2]; exact Blk.new _ _ _) hx1.size ⟨by rw [hw2]; exact ho.nodes.alloc _, by rw [hw2]; exact ho.jobs.alloc _, ho.off⟩ (Nat.le_refl _) (fun k hk => by
    rcases hk with hk | hk
    · have := (ho.nodes.lt k hk).2
      omega
    · have := (ho.jobs.lt k hk).2
      omega), fun k hk => by have := HS4.out; omega⟩
  have HX2 := Lib.hid (Ext.trans (Ext.trans HX4.out hx1) hx2)
  have HF4 := Lib.hid hF4
  have HSG := Lib.hid hsg
  have HC0 := Lib.hid ((HB0.out.ext hx1).ext hx2)
  have HC2 := Lib.hid ((HB2.out.ext hx1).ext hx2)
  have HC3 := Lib.hid ((HB3.out.ext hx1).ext hx2)
  clear ho hx1 hx2 hsz hsg hF4 HB0 HB1 HB2 HB3 HS4 HX4 HCP
  go_upto_region 2 with (fail)
  rw [← hw2]
  clear hw2
  have k0 : w2.cell? ⟨w.heap.size, 0, none⟩ = some (.int .i64 c.nodes) := HC0.out.cell 0
  have k1 : w2.cell? ⟨w.heap.size, 1, none⟩ = some (.int .i64 c.queues) := HC0.out.cell 1
  have k2 : w2.cell? ⟨w.heap.size, 2, none⟩ = some (.int .i64 c.quota) := HC0.out.cell 2
  have k3 : w2.cell? ⟨w.heap.size, 3, none⟩ = some (.int .i64 c.wave) := HC0.out.cell 3
  have k4 : w2.cell? ⟨w.heap.size, 4, none⟩ = some (.int .i64 c.lease) := HC0.out.cell 4
  have k5 : w2.cell? ⟨w.heap.size, 5, none⟩ = some (.int .i64 c.retry) := HC0.out.cell 5
  have k6 : w2.cell? ⟨w.heap.size, 6, none⟩ = some (.int .i64 c.deadline) := HC0.out.cell 6
  have k7 : w2.cell? ⟨w.heap.size, 7, none⟩ = some (.int .i64 c.room) := HC0.out.cell 7
  have k8 : w2.cell? ⟨w.heap.size, 8, none⟩ = some (.int .i64 c.disk) := HC0.out.cell 8
  have o0 : w2.cell? ⟨w.heap.size + 2, 0, none⟩ = some (.int .i64 6) := HC2.out.cell 0
  have o1 : w2.cell? ⟨w.heap.size + 2, 1, none⟩ = some (.int .i64 a1) := HC2.out.cell 1
  have o2 : w2.cell? ⟨w.heap.size + 2, 2, none⟩ = some (.int .i64 a2) := HC2.out.cell 2
  have o3 : w2.cell? ⟨w.heap.size + 2, 3, none⟩ = some (.int .i64 a3) := HC2.out.cell 3
  have o4 : w2.cell? ⟨w.heap.size + 2, 4, none⟩ = some (.int .i64 a4) := HC2.out.cell 4
  have o5 : w2.cell? ⟨w.heap.size + 2, 5, none⟩ = some (.int .i64 a5) := HC2.out.cell 5
  have o6 : w2.cell? ⟨w.heap.size + 2, 6, none⟩ = some (.int .i64 a6) := HC2.out.cell 6
  have s0 : w2.cell? ⟨w1.heap.size, 0, none⟩ = some (.slice A1 s.nodes.length c1) := HSG.out.blk.cell 0
  have s1 : w2.cell? ⟨w1.heap.size, 1, none⟩ = some (.slice A2 s.jobs.length c2) := HSG.out.blk.cell 1
  have s2 : w2.cell? ⟨w1.heap.size, 2, none⟩ = some (.int .i64 s.goal) := HSG.out.blk.cell 2
  have s3 : w2.cell? ⟨w1.heap.size, 3, none⟩ = some (.int .i64 s.prior) := HSG.out.blk.cell 3
  have s4 : w2.cell? ⟨w1.heap.size, 4, none⟩ = some (.int .i64 s.mode) := HSG.out.blk.cell 4
  have s5 : w2.cell? ⟨w1.heap.size, 5, none⟩ = some (.int .i64 s.term) := HSG.out.blk.cell 5
  go_wp2_with fail
  refine (HWY.out _ _ _ HSG.out.rd).mono ?_
  rintro e3 w3 ⟨rfl, hx3⟩
  have HX3 := Lib.hid (HX2.out.trans hx3)
  have HSG3 := Lib.hid (HSG.out.ext hx3)
  have HO3 := Lib.hid (HC2.out.ext hx3)
  have HV3 := Lib.hid (HC3.out.ext hx3)
  have HBX : Hid (∀ W, Chg F w3 W → Blk W (w.heap.size + 2) 36 #[.int .i64 6, .int .i64 a1, .int .i64 a2, .int .i64 a3, .int .i64 a4, .int .i64 a5, .int .i64 a6] ∧ Blk W (w.heap.size + 3) 30 #[.slice none 0 0, .slice none 0 0, .int .i64 0, .int .i64 0, .int .i64 0, .int .i64 0] ∧ Ext w W) := Lib.hid fun W hc => ⟨(hc.block _ HO3.out.lt (fun hf => by have := HF4.out _ hf; omega)).trans HO3.out, (hc.block _ HV3.out.lt (fun hf => by have := HF4.out _ hf; omega)).trans HV3.out, hc.ext HX3.out (fun k hf => by have := HF4.out _ hf; omega)⟩
  clear hx3 HX2 HSG HC0 HC2 HC3 HWY k0 k1 k2 k3 k4 k5 k6 k7 k8 o0 o1 o2 o3 o4 o5 o6 s0 s1 s2 s3 s4 s5
  have o0 : w3.cell? ⟨w.heap.size + 2, 0, none⟩ = some (.int .i64 6) := (HBX.out _ (Chg.refl F w3)).1.cell 0
  have o1 : w3.cell? ⟨w.heap.size + 2, 1, none⟩ = some (.int .i64 a1) := (HBX.out _ (Chg.refl F w3)).1.cell 1
  have o2 : w3.cell? ⟨w.heap.size + 2, 2, none⟩ = some (.int .i64 a2) := (HBX.out _ (Chg.refl F w3)).1.cell 2
  have o3 : w3.cell? ⟨w.heap.size + 2, 3, none⟩ = some (.int .i64 a3) := (HBX.out _ (Chg.refl F w3)).1.cell 3
  have s0 : w3.cell? ⟨w1.heap.size, 0, none⟩ = some (.slice A1 s.nodes.length c1) := HSG3.out.blk.cell 0
  have s1 : w3.cell? ⟨w1.heap.size, 1, none⟩ = some (.slice A2 s.jobs.length c2) := HSG3.out.blk.cell 1
  have s2 : w3.cell? ⟨w1.heap.size, 2, none⟩ = some (.int .i64 s.goal) := HSG3.out.blk.cell 2
  have s3 : w3.cell? ⟨w1.heap.size, 3, none⟩ = some (.int .i64 s.prior) := HSG3.out.blk.cell 3
  have s4 : w3.cell? ⟨w1.heap.size, 4, none⟩ = some (.int .i64 s.mode) := HSG3.out.blk.cell 4
  have s5 : w3.cell? ⟨w1.heap.size, 5, none⟩ = some (.int .i64 s.term) := HSG3.out.blk.cell 5
  have f0 := HSG3.out.fr 4
  have hs := HSG3.out.setG ({ s with mode := 2 }) 4 (.int .i64 2) rfl rfl rfl
  obtain ⟨v4, hw⟩ : ∃ W, W = w3.setCell ⟨w1.heap.size, 4, none⟩ (.int .i64 2) := ⟨_, rfl⟩
  rw [← hw] at hs
  have HSV4 := Lib.hid hs.1
  have HCV4 : Hid (Chg F w3 v4) := Lib.hid (Chg.trans (Chg.refl F w3) hs.2 (fun _ _ h => h))
  clear hs
  go_upto_region 70 with (fail)
  rw [← hw]
  clear hw f0 o0 o1 o2 o3 s0 s1 s2 s3 s4 s5
  have HSE := Lib.hid (show Sg F v4 w1.heap.size (.slice A1 s.nodes.length c1) (.slice A2 s.jobs.length c2) S2 by rw [HS2.out]; exact HSV4.out)
  have HCE : Hid (Chg F w3 v4) := Lib.hid HCV4.out
  have HQE := Lib.hid (HBX.out _ HCE.out)
  have m0 : v4.cell? ⟨w1.heap.size, 0, none⟩ = some (.slice A1 s.nodes.length c1) := HSE.out.blk.cell 0
  have m1 : v4.cell? ⟨w1.heap.size, 1, none⟩ = some (.slice A2 s.jobs.length c2) := HSE.out.blk.cell 1
  have m2 : v4.cell? ⟨w1.heap.size, 2, none⟩ = some (.int .i64 S2.goal) := HSE.out.blk.cell 2
  have m3 : v4.cell? ⟨w1.heap.size, 3, none⟩ = some (.int .i64 S2.prior) := HSE.out.blk.cell 3
  have m4 : v4.cell? ⟨w1.heap.size, 4, none⟩ = some (.int .i64 S2.mode) := HSE.out.blk.cell 4
  have m5 : v4.cell? ⟨w1.heap.size, 5, none⟩ = some (.int .i64 S2.term) := HSE.out.blk.cell 5
  have r0 : v4.cell? ⟨w.heap.size + 3, 0, none⟩ = some (.slice none 0 0) := HQE.out.2.1.cell 0
  have g0 : v4.frozen? ⟨w.heap.size + 3, 0, none⟩ = false := HQE.out.2.1.frozen 0
  have r1 : v4.cell? ⟨w.heap.size + 3, 1, none⟩ = some (.slice none 0 0) := HQE.out.2.1.cell 1
  have g1 : v4.frozen? ⟨w.heap.size + 3, 1, none⟩ = false := HQE.out.2.1.frozen 1
  have r2 : v4.cell? ⟨w.heap.size + 3, 2, none⟩ = some (.int .i64 0) := HQE.out.2.1.cell 2
  have g2 : v4.frozen? ⟨w.heap.size + 3, 2, none⟩ = false := HQE.out.2.1.frozen 2
  have r3 : v4.cell? ⟨w.heap.size + 3, 3, none⟩ = some (.int .i64 0) := HQE.out.2.1.cell 3
  have g3 : v4.frozen? ⟨w.heap.size + 3, 3, none⟩ = false := HQE.out.2.1.frozen 3
  have r4 : v4.cell? ⟨w.heap.size + 3, 4, none⟩ = some (.int .i64 0) := HQE.out.2.1.cell 4
  have g4 : v4.frozen? ⟨w.heap.size + 3, 4, none⟩ = false := HQE.out.2.1.frozen 4
  have r5 : v4.cell? ⟨w.heap.size + 3, 5, none⟩ = some (.int .i64 0) := HQE.out.2.1.cell 5
  have g5 : v4.frozen? ⟨w.heap.size + 3, 5, none⟩ = false := HQE.out.2.1.frozen 5
  go_wp2
  have hq := (((((PB.start HQE.out.2.1).set 0 (.slice A1 s.nodes.length c1)).set 1 (.slice A2 s.jobs.length c2)).set 2 (.int .i64 S2.goal)).set 3 (.int .i64 S2.prior)).set 4 (.int .i64 S2.mode)
  replace hq := hq.set 5 (.int .i64 S2.term)
  simp only [List.setIfInBounds_toArray, List.set_cons_zero, List.set_cons_succ] at hq
  obtain ⟨wf, hwf⟩ : ∃ W, W = ((((((v4.setCell ⟨w.heap.size + 3, 0, none⟩ (.slice A1 s.nodes.length c1)).setCell ⟨w.heap.size + 3, 1, none⟩ (.slice A2 s.jobs.length c2)).setCell ⟨w.heap.size + 3, 2, none⟩ (.int .i64 S2.goal)).setCell ⟨w.heap.size + 3, 3, none⟩ (.int .i64 S2.prior)).setCell ⟨w.heap.size + 3, 4, none⟩ (.int .i64 S2.mode)).setCell ⟨w.heap.size + 3, 5, none⟩ (.int .i64 S2.term)) := ⟨_, rfl⟩
  rw [← hwf] at hq
  have hc1 : Chg (fun x => x = w.heap.size + 3) v4 wf := hq.chg
  have hsf : Sg F wf w1.heap.size (.slice A1 s.nodes.length c1) (.slice A2 s.jobs.length c2) S2 := ObjF.chg HSE.out hc1 (fun x hx e => by have := HF4.out x hx; have e : x = w.heap.size + 3 := e; omega)
  have hxf := hq.below _ _ HQE.out.2.2 (by omega)
  rw [hwf] at hq hsf hxf
  exact bodyPost_ret (results_cell_tmp_row rfl _ _ (w.heap.size + 3) 30 _ (0, 0) _ rfl hq.blk rfl rfl (by kernel_rfl)) rfl ⟨.slice A1 s.nodes.length c1, .slice A2 s.jobs.length c2, rfl, hsf.rd, hxf, hsf.own4 HF4.out⟩

end Go.Proofs.YtbfjlhddebollaaDoor

/- The reference of layer 9: Apply, kind 7a. -/
namespace Go.Proofs.YtbfjlhddebollaaDoor
open Go.RowKit

set_option maxRecDepth 100000 in
set_option maxHeartbeats 4000000 in
theorem RefAp_7a (c : Cf) (vn vj : Value) (s : St) ( a2 a3 a4 a5 a6 : Int) (i : Nat) (n : Nd) (hjk : s.nodes[i]? = some n) (hj0 : n.job = 0) (w : World) (h : RdSt w vn vj s) (hR : RightP c s) (hz : (applyS c s (7, (i : Int), a2, a3, a4, a5, a6)).2 = 0) :
    Calls Tryd.prog 11 #[cfV c, stV vn vj s, .agg #[.int .i64 7, .int .i64 (i : Int), .int .i64 a2, .int .i64 a3, .int .i64 a4, .int .i64 a5, .int .i64 a6]] w fun e w' => ∃ vn' vj', e = .returned (.tuple #[stV vn' vj' (applyS c s (7, (i : Int), a2, a3, a4, a5, a6)).1, .int .i64 (applyS c s (7, (i : Int), a2, a3, a4, a5, a6)).2]) ∧ RdSt w' vn' vj' (applyS c s (7, (i : Int), a2, a3, a4, a5, a6)).1 ∧ Ext w w' ∧ ∀ k, vn'.ownBlock = some k ∨ vj'.ownBlock = some k → w.heap.size ≤ k := by
  have hR6 := hR.len.2
  have hj24 := hR.nj
  have he : (applyS c s (7, (i : Int), a2, a3, a4, a5, a6)).1 = setN s i { n with up := false, moving := false } := by
    obtain ⟨i', n', ha, hn', hz1, he1, hro⟩ := ok_node (by decide) hz
    obtain rfl : i = i' := by omega
    obtain rfl : n = n' := by rw [hjk] at hn'; exact Option.some.inj hn'
    rw [he1]
    change (downS s i n).2 = 0 at hz1
    change (downS s i n).1 = _
    have hd : dropS s n = s := by rw [dropS, hj0]; rfl
    revert hz1
    unfold downS
    split
    · intro _
      show setN (dropS s n) i _ = _
      rw [hd]
      congr 1
      rw [← hj0]
    · intro hz1
      cases hz1
  have HJK := Lib.hid hjk
  have hkl := (List.getElem?_eq_some_iff.1 hjk).1
  have x1 : (0 : Int) ≤ (i : Int) ∧ (i : Int) < (s.nodes.length : Int) := by omega
  have d_j : decide ((0 : Int) < n.job) = false := by rw [hj0]; rfl
  clear hjk hkl hj0
  obtain ⟨S2, hS2⟩ : ∃ S2, S2 = (applyS c s (7, (i : Int), a2, a3, a4, a5, a6)).1 := ⟨_, rfl⟩
  obtain ⟨er, her⟩ : ∃ er, er = (applyS c s (7, (i : Int), a2, a3, a4, a5, a6)).2 := ⟨_, rfl⟩
  rw [← hS2, ← her]
  have HS2 := Lib.hid (hS2.trans he)
  rw [← her] at hz
  subst hz
  have HCP := Lib.hid fun W (hx : Ext w W) => RefCopy_any vn vj s W (h.ext hx) (by omega) (by omega)
  have HWY : Hid (∀ W vn' vj', RdSt W vn' vj' s → Calls Tryd.prog 29 #[cfV c, stV vn' vj' s, .agg #[.int .i64 7, .int .i64 (i : Int), .int .i64 a2, .int .i64 a3, .int .i64 a4, .int .i64 a5, .int .i64 a6]] W fun e w' => e = .returned (.int .i64 0) ∧ Ext W w') := Lib.hid fun W vn' vj' hr => (RefWhy_any c vn' vj' s (7, (i : Int), a2, a3, a4, a5, a6) W hr hR).mono (by rintro e w' ⟨h1, h2⟩; rw [← her] at h1; exact ⟨h1, h2⟩)
  obtain ⟨An, cn, rfl, -, -⟩ := h.nodes.slice_
  obtain ⟨Aj, cj, rfl, -, -⟩ := h.jobs.slice_
  obtain ⟨W4, hW4, hx4, hb0, hb1, hb2, hb3, hs4⟩ := four_blocks w 23 30 36 30 #[.int .i64 c.nodes, .int .i64 c.queues, .int .i64 c.quota, .int .i64 c.wave, .int .i64 c.lease, .int .i64 c.retry, .int .i64 c.deadline, .int .i64 c.room, .int .i64 c.disk] #[.slice An s.nodes.length cn, .slice Aj s.jobs.length cj, .int .i64 s.goal, .int .i64 s.prior, .int .i64 s.mode, .int .i64 s.term] #[.int .i64 7, .int .i64 (i : Int), .int .i64 a2, .int .i64 a3, .int .i64 a4, .int .i64 a5, .int .i64 a6] #[.slice none 0 0, .slice none 0 0, .int .i64 0, .int .i64 0, .int .i64 0, .int .i64 0]
  have HX4 := Lib.hid hx4
  have HB0 := Lib.hid hb0
  have HB1 := Lib.hid hb1
  have HB2 := Lib.hid hb2
  have HB3 := Lib.hid hb3
  have HS4 := Lib.hid hs4
  unfold stV at HCP
  unfold stV cfV at HWY
  unfold stV cfV
  clear hx4 hb0 hb1 hb2 hb3 hs4 h hS2 her he hR6 hj24
  go_enter Tryd.func11, Tryd.ntmps11
  go_wp2_with fail
  rw [← hW4]
  clear hW4
  refine (HCP.out _ HX4.out).mono ?_
  rintro e1 w1 ⟨vn1, vj1, rfl, ho, hx1⟩
  have HRD : RdSt w1 vn1 vj1 s := ⟨RdS.own ho.nodes, RdS.own ho.jobs⟩
  obtain ⟨A1, c1, rfl, -, -⟩ := HRD.nodes.slice_
  obtain ⟨A2, c2, rfl, -, -⟩ := HRD.jobs.slice_
  clear HRD
  obtain ⟨w2, hw2⟩ : ∃ W, W = w1.alloc (.cells #[.slice A1 s.nodes.length c1, .slice A2 s.jobs.length c2, .int .i64 s.goal, .int .i64 s.prior, .int .i64 s.mode, .int .i64 s.term] 30) := ⟨_, rfl⟩
  have hx2 : Ext w1 w2 := by rw [hw2]; exact Below.alloc (Ext.refl _) (Nat.le_refl _) _
  have hsz : w2.heap.size = w1.heap.size + 1 := by rw [hw2]; simp
  obtain ⟨F, hsg, hF4⟩ : ∃ F : Fp, Sg F w2 w1.heap.size (.slice A1 s.nodes.length c1) (.slice A2 s.jobs.length c2) s ∧ ∀ k, F k → w.heap.size + 4 ≤ k := ⟨fun k => W4.heap.size ≤ k ∧ k < w2.heap.size, Sg.make (w0 := W4) (base := W4.heap.size) (by rw [hw2]; exact Blk.new _ _ _) hx1.size ⟨by rw [hw2]; exact ho.nodes.alloc _, by rw [hw2]; exact ho.jobs.alloc _, ho.off⟩ (Nat.le_refl _) (fun k hk => by
    rcases hk with hk | hk
    · have := (ho.nodes.lt k hk).2
      omega
    · have := (ho.jobs.lt k hk).2
      omega), fun k hk => by have := HS4.out; omega⟩
  have HX2 := Lib.hid (Ext.trans (Ext.trans HX4.out hx1) hx2)
  have HF4 := Lib.hid hF4
  have HSG := Lib.hid hsg
  have HC0 := Lib.hid ((HB0.out.ext hx1).ext hx2)
  have HC2 := Lib.hid ((HB2.out.ext hx1).ext hx2)
  have HC3 := Lib.hid ((HB3.out.ext hx1).ext hx2)
  clear ho hx1 hx2 hsz hsg hF4 HB0 HB1 HB2 HB3 HS4 HX4 HCP
  go_upto_region 2 with (fail)
  rw [← hw2]
  clear hw2
  have k0 : w2.cell? ⟨w.heap.size, 0, none⟩ = some (.int .i64 c.nodes) := HC0.out.cell 0
  have k1 : w2.cell? ⟨w.heap.size, 1, none⟩ = some (.int .i64 c.queues) := HC0.out.cell 1
  have k2 : w2.cell? ⟨w.heap.size, 2, none⟩ = some (.int .i64 c.quota) := HC0.out.cell 2
  have k3 : w2.cell? ⟨w.heap.size, 3, none⟩ = some (.int .i64 c.wave) := HC0.out.cell 3
  have k4 : w2.cell? ⟨w.heap.size, 4, none⟩ = some (.int .i64 c.lease) := HC0.out.cell 4
  have k5 : w2.cell? ⟨w.heap.size, 5, none⟩ = some (.int .i64 c.retry) := HC0.out.cell 5
  have k6 : w2.cell? ⟨w.heap.size, 6, none⟩ = some (.int .i64 c.deadline) := HC0.out.cell 6
  have k7 : w2.cell? ⟨w.heap.size, 7, none⟩ = some (.int .i64 c.room) := HC0.out.cell 7
  have k8 : w2.cell? ⟨w.heap.size, 8, none⟩ = some (.int .i64 c.disk) := HC0.out.cell 8
  have o0 : w2.cell? ⟨w.heap.size + 2, 0, none⟩ = some (.int .i64 7) := HC2.out.cell 0
  have o1 : w2.cell? ⟨w.heap.size + 2, 1, none⟩ = some (.int .i64 (i : Int)) := HC2.out.cell 1
  have o2 : w2.cell? ⟨w.heap.size + 2, 2, none⟩ = some (.int .i64 a2) := HC2.out.cell 2
  have o3 : w2.cell? ⟨w.heap.size + 2, 3, none⟩ = some (.int .i64 a3) := HC2.out.cell 3
  have o4 : w2.cell? ⟨w.heap.size + 2, 4, none⟩ = some (.int .i64 a4) := HC2.out.cell 4
  have o5 : w2.cell? ⟨w.heap.size + 2, 5, none⟩ = some (.int .i64 a5) := HC2.out.cell 5
  have o6 : w2.cell? ⟨w.heap.size + 2, 6, none⟩ = some (.int .i64 a6) := HC2.out.cell 6
  have s0 : w2.cell? ⟨w1.heap.size, 0, none⟩ = some (.slice A1 s.nodes.length c1) := HSG.out.blk.cell 0
  have s1 : w2.cell? ⟨w1.heap.size, 1, none⟩ = some (.slice A2 s.jobs.length c2) := HSG.out.blk.cell 1
  have s2 : w2.cell? ⟨w1.heap.size, 2, none⟩ = some (.int .i64 s.goal) := HSG.out.blk.cell 2
  have s3 : w2.cell? ⟨w1.heap.size, 3, none⟩ = some (.int .i64 s.prior) := HSG.out.blk.cell 3
  have s4 : w2.cell? ⟨w1.heap.size, 4, none⟩ = some (.int .i64 s.mode) := HSG.out.blk.cell 4
  have s5 : w2.cell? ⟨w1.heap.size, 5, none⟩ = some (.int .i64 s.term) := HSG.out.blk.cell 5
  go_wp2_with fail
  refine (HWY.out _ _ _ HSG.out.rd).mono ?_
  rintro e3 w3 ⟨rfl, hx3⟩
  have HX3 := Lib.hid (HX2.out.trans hx3)
  have HSG3 := Lib.hid (HSG.out.ext hx3)
  have HO3 := Lib.hid (HC2.out.ext hx3)
  have HV3 := Lib.hid (HC3.out.ext hx3)
  have HBX : Hid (∀ W, Chg F w3 W → Blk W (w.heap.size + 2) 36 #[.int .i64 7, .int .i64 (i : Int), .int .i64 a2, .int .i64 a3, .int .i64 a4, .int .i64 a5, .int .i64 a6] ∧ Blk W (w.heap.size + 3) 30 #[.slice none 0 0, .slice none 0 0, .int .i64 0, .int .i64 0, .int .i64 0, .int .i64 0] ∧ Ext w W) := Lib.hid fun W hc => ⟨(hc.block _ HO3.out.lt (fun hf => by have := HF4.out _ hf; omega)).trans HO3.out, (hc.block _ HV3.out.lt (fun hf => by have := HF4.out _ hf; omega)).trans HV3.out, hc.ext HX3.out (fun k hf => by have := HF4.out _ hf; omega)⟩
  clear hx3 HX2 HSG HC0 HC2 HC3 HWY k0 k1 k2 k3 k4 k5 k6 k7 k8 o0 o1 o2 o3 o4 o5 o6 s0 s1 s2 s3 s4 s5
  obtain ⟨b, cap, hv, -, -, -, -, -, -⟩ := HSG3.out.nodeAt HJK.out
  injection hv with hA _ hC
  subst hA hC
  have o0 : w3.cell? ⟨w.heap.size + 2, 0, none⟩ = some (.int .i64 7) := (HBX.out _ (Chg.refl F w3)).1.cell 0
  have o1 : w3.cell? ⟨w.heap.size + 2, 1, none⟩ = some (.int .i64 (i : Int)) := (HBX.out _ (Chg.refl F w3)).1.cell 1
  have o2 : w3.cell? ⟨w.heap.size + 2, 2, none⟩ = some (.int .i64 a2) := (HBX.out _ (Chg.refl F w3)).1.cell 2
  have o3 : w3.cell? ⟨w.heap.size + 2, 3, none⟩ = some (.int .i64 a3) := (HBX.out _ (Chg.refl F w3)).1.cell 3
  have s0 : w3.cell? ⟨w1.heap.size, 0, none⟩ = some (.slice (some ⟨b, 0, none⟩) s.nodes.length c1) := HSG3.out.blk.cell 0
  have s1 : w3.cell? ⟨w1.heap.size, 1, none⟩ = some (.slice A2 s.jobs.length c2) := HSG3.out.blk.cell 1
  have s2 : w3.cell? ⟨w1.heap.size, 2, none⟩ = some (.int .i64 s.goal) := HSG3.out.blk.cell 2
  have s3 : w3.cell? ⟨w1.heap.size, 3, none⟩ = some (.int .i64 s.prior) := HSG3.out.blk.cell 3
  have s4 : w3.cell? ⟨w1.heap.size, 4, none⟩ = some (.int .i64 s.mode) := HSG3.out.blk.cell 4
  have s5 : w3.cell? ⟨w1.heap.size, 5, none⟩ = some (.int .i64 s.term) := HSG3.out.blk.cell 5
  obtain ⟨hat, hfr⟩ := HSG3.out.nodeAt' HJK.out
  have p4 : w3.cell? ⟨b, i * 5 + 4, none⟩ = some (.int .i64 n.job) := hat.c4
  have p0 : w3.cell? ⟨b, i * 5, none⟩ = some (.bool n.up) := hat.c0
  have f0 : w3.frozen? ⟨b, i * 5, none⟩ = false := hfr (i * 5)
  clear hat hfr
  have hs := HSG3.out.setN' (n' := { n with up := false }) HJK.out 0 (by omega) (.bool false) rfl
  obtain ⟨v4, hw⟩ : ∃ W, W = w3.setCell ⟨b, i * 5, none⟩ (.bool false) := ⟨_, rfl⟩
  have hs : Sg F (w3.setCell ⟨b, i * 5, none⟩ (.bool false)) w1.heap.size (.slice (some ⟨b, 0, none⟩) s.nodes.length c1) (.slice A2 s.jobs.length c2) (setN (s) i { n with up := false }) ∧ Chg F w3 (w3.setCell ⟨b, i * 5, none⟩ (.bool false)) := hs
  rw [← hw] at hs
  have HSV4 := Lib.hid hs.1
  have HCV4 : Hid (Chg F w3 v4) := Lib.hid (Chg.trans (Chg.refl F w3) hs.2 (fun _ _ h => h))
  clear hs
  go_upto_region 25 with (fail)
  rw [← hw]
  clear hw f0 o0 o1 o2 o3 s0 s1 s2 s3 s4 s5 p0
  have o0 : v4.cell? ⟨w.heap.size + 2, 0, none⟩ = some (.int .i64 7) := (HBX.out _ HCV4.out).1.cell 0
  have o1 : v4.cell? ⟨w.heap.size + 2, 1, none⟩ = some (.int .i64 (i : Int)) := (HBX.out _ HCV4.out).1.cell 1
  have o2 : v4.cell? ⟨w.heap.size + 2, 2, none⟩ = some (.int .i64 a2) := (HBX.out _ HCV4.out).1.cell 2
  have o3 : v4.cell? ⟨w.heap.size + 2, 3, none⟩ = some (.int .i64 a3) := (HBX.out _ HCV4.out).1.cell 3
  have s0 : v4.cell? ⟨w1.heap.size, 0, none⟩ = some (.slice (some ⟨b, 0, none⟩) s.nodes.length c1) := HSV4.out.blk.cell 0
  have s1 : v4.cell? ⟨w1.heap.size, 1, none⟩ = some (.slice A2 s.jobs.length c2) := HSV4.out.blk.cell 1
  have s2 : v4.cell? ⟨w1.heap.size, 2, none⟩ = some (.int .i64 s.goal) := HSV4.out.blk.cell 2
  have s3 : v4.cell? ⟨w1.heap.size, 3, none⟩ = some (.int .i64 s.prior) := HSV4.out.blk.cell 3
  have s4 : v4.cell? ⟨w1.heap.size, 4, none⟩ = some (.int .i64 s.mode) := HSV4.out.blk.cell 4
  have s5 : v4.cell? ⟨w1.heap.size, 5, none⟩ = some (.int .i64 s.term) := HSV4.out.blk.cell 5
  obtain ⟨hat, hfr⟩ := HSV4.out.nodeAt' (setN_get HJK.out)
  have p0 : v4.cell? ⟨b, i * 5 + 2, none⟩ = some (.bool n.moving) := hat.c2
  have f0 : v4.frozen? ⟨b, i * 5 + 2, none⟩ = false := hfr (i * 5 + 2)
  clear hat hfr
  have hs := HSV4.out.setN' (n' := { n with up := false, moving := false }) (setN_get HJK.out) 2 (by omega) (.bool false) rfl
  obtain ⟨v5, hw⟩ : ∃ W, W = v4.setCell ⟨b, i * 5 + 2, none⟩ (.bool false) := ⟨_, rfl⟩
  rw [← hw] at hs
  have HSV5 := Lib.hid hs.1
  have HCV5 : Hid (Chg F w3 v5) := Lib.hid (Chg.trans HCV4.out hs.2 (fun _ _ h => h))
  clear hs
  go_upto_region 70 with (fail)
  rw [← hw]
  clear hw f0 o0 o1 o2 o3 s0 s1 s2 s3 s4 s5 p0
  have HSE := Lib.hid (show Sg F v5 w1.heap.size (.slice (some ⟨b, 0, none⟩) s.nodes.length c1) (.slice A2 s.jobs.length c2) S2 by rw [HS2.out]; exact (by have h := HSV5.out; rw [setN_setN] at h; exact h))
  have HCE : Hid (Chg F w3 v5) := Lib.hid HCV5.out
  have HQE := Lib.hid (HBX.out _ HCE.out)
  have m0 : v5.cell? ⟨w1.heap.size, 0, none⟩ = some (.slice (some ⟨b, 0, none⟩) s.nodes.length c1) := HSE.out.blk.cell 0
  have m1 : v5.cell? ⟨w1.heap.size, 1, none⟩ = some (.slice A2 s.jobs.length c2) := HSE.out.blk.cell 1
  have m2 : v5.cell? ⟨w1.heap.size, 2, none⟩ = some (.int .i64 S2.goal) := HSE.out.blk.cell 2
  have m3 : v5.cell? ⟨w1.heap.size, 3, none⟩ = some (.int .i64 S2.prior) := HSE.out.blk.cell 3
  have m4 : v5.cell? ⟨w1.heap.size, 4, none⟩ = some (.int .i64 S2.mode) := HSE.out.blk.cell 4
  have m5 : v5.cell? ⟨w1.heap.size, 5, none⟩ = some (.int .i64 S2.term) := HSE.out.blk.cell 5
  have r0 : v5.cell? ⟨w.heap.size + 3, 0, none⟩ = some (.slice none 0 0) := HQE.out.2.1.cell 0
  have g0 : v5.frozen? ⟨w.heap.size + 3, 0, none⟩ = false := HQE.out.2.1.frozen 0
  have r1 : v5.cell? ⟨w.heap.size + 3, 1, none⟩ = some (.slice none 0 0) := HQE.out.2.1.cell 1
  have g1 : v5.frozen? ⟨w.heap.size + 3, 1, none⟩ = false := HQE.out.2.1.frozen 1
  have r2 : v5.cell? ⟨w.heap.size + 3, 2, none⟩ = some (.int .i64 0) := HQE.out.2.1.cell 2
  have g2 : v5.frozen? ⟨w.heap.size + 3, 2, none⟩ = false := HQE.out.2.1.frozen 2
  have r3 : v5.cell? ⟨w.heap.size + 3, 3, none⟩ = some (.int .i64 0) := HQE.out.2.1.cell 3
  have g3 : v5.frozen? ⟨w.heap.size + 3, 3, none⟩ = false := HQE.out.2.1.frozen 3
  have r4 : v5.cell? ⟨w.heap.size + 3, 4, none⟩ = some (.int .i64 0) := HQE.out.2.1.cell 4
  have g4 : v5.frozen? ⟨w.heap.size + 3, 4, none⟩ = false := HQE.out.2.1.frozen 4
  have r5 : v5.cell? ⟨w.heap.size + 3, 5, none⟩ = some (.int .i64 0) := HQE.out.2.1.cell 5
  have g5 : v5.frozen? ⟨w.heap.size + 3, 5, none⟩ = false := HQE.out.2.1.frozen 5
  go_wp2
  have hq := (((((PB.start HQE.out.2.1).set 0 (.slice (some ⟨b, 0, none⟩) s.nodes.length c1)).set 1 (.slice A2 s.jobs.length c2)).set 2 (.int .i64 S2.goal)).set 3 (.int .i64 S2.prior)).set 4 (.int .i64 S2.mode)
  replace hq := hq.set 5 (.int .i64 S2.term)
  simp only [List.setIfInBounds_toArray, List.set_cons_zero, List.set_cons_succ] at hq
  obtain ⟨wf, hwf⟩ : ∃ W, W = ((((((v5.setCell ⟨w.heap.size + 3, 0, none⟩ (.slice (some ⟨b, 0, none⟩) s.nodes.length c1)).setCell ⟨w.heap.size + 3, 1, none⟩ (.slice A2 s.jobs.length c2)).setCell ⟨w.heap.size + 3, 2, none⟩ (.int .i64 S2.goal)).setCell ⟨w.heap.size + 3, 3, none⟩ (.int .i64 S2.prior)).setCell ⟨w.heap.size + 3, 4, none⟩ (.int .i64 S2.mode)).setCell ⟨w.heap.size + 3, 5, none⟩ (.int .i64 S2.term)) := ⟨_, rfl⟩
  rw [← hwf] at hq
  have hc1 : Chg (fun x => x = w.heap.size + 3) v5 wf := hq.chg
  have hsf : Sg F wf w1.heap.size (.slice (some ⟨b, 0, none⟩) s.nodes.length c1) (.slice A2 s.jobs.length c2) S2 := ObjF.chg HSE.out hc1 (fun x hx e => by have := HF4.out x hx; have e : x = w.heap.size + 3 := e; omega)
  have hxf := hq.below _ _ HQE.out.2.2 (by omega)
  rw [hwf] at hq hsf hxf
  exact bodyPost_ret (results_cell_tmp_row rfl _ _ (w.heap.size + 3) 30 _ (0, 0) _ rfl hq.blk rfl rfl (by kernel_rfl)) rfl ⟨.slice (some ⟨b, 0, none⟩) s.nodes.length c1, .slice A2 s.jobs.length c2, rfl, hsf.rd, hxf, hsf.own4 HF4.out⟩

end Go.Proofs.YtbfjlhddebollaaDoor

/- The reference of layer 9: Apply, kind 7b. -/
namespace Go.Proofs.YtbfjlhddebollaaDoor
open Go.RowKit

set_option maxRecDepth 100000 in
set_option maxHeartbeats 4000000 in
theorem RefAp_7b (c : Cf) (vn vj : Value) (s : St) ( a2 a3 a4 a5 a6 : Int) (i k : Nat) (n : Nd) (j : Jb) (hjk : s.nodes[i]? = some n) (hkj : s.jobs[k]? = some j) (hj0 : n.job = (k : Int) + 1) (w : World) (h : RdSt w vn vj s) (hR : RightP c s) (hz : (applyS c s (7, (i : Int), a2, a3, a4, a5, a6)).2 = 0) :
    Calls Tryd.prog 11 #[cfV c, stV vn vj s, .agg #[.int .i64 7, .int .i64 (i : Int), .int .i64 a2, .int .i64 a3, .int .i64 a4, .int .i64 a5, .int .i64 a6]] w fun e w' => ∃ vn' vj', e = .returned (.tuple #[stV vn' vj' (applyS c s (7, (i : Int), a2, a3, a4, a5, a6)).1, .int .i64 (applyS c s (7, (i : Int), a2, a3, a4, a5, a6)).2]) ∧ RdSt w' vn' vj' (applyS c s (7, (i : Int), a2, a3, a4, a5, a6)).1 ∧ Ext w w' ∧ ∀ k, vn'.ownBlock = some k ∨ vj'.ownBlock = some k → w.heap.size ≤ k := by
  have hR6 := hR.len.2
  have hj24 := hR.nj
  have he : (applyS c s (7, (i : Int), a2, a3, a4, a5, a6)).1 = setN (letGoS s k j 0) i { n with up := false, moving := false, job := 0 } := by
    obtain ⟨i', n', ha, hn', hz1, he1, hro⟩ := ok_node (by decide) hz
    obtain rfl : i = i' := by omega
    obtain rfl : n = n' := by rw [hjk] at hn'; exact Option.some.inj hn'
    rw [he1]
    change (downS s i n).2 = 0 at hz1
    change (downS s i n).1 = _
    have hd : dropS s n = letGoS s k j 0 := by unfold dropS jobOf; rw [hj0, if_pos (by omega), show ((k : Int) + 1 - 1).toNat = k by omega, hkj]
    revert hz1
    unfold downS
    split
    · intro _
      show setN (dropS s n) i _ = _
      rw [hd]
    · intro hz1
      cases hz1
  have hown := (hR.job k j hkj).own
  have hs := (hown i n hjk).1 hj0
  have HJG : Hid ((letGoS s k j 0).nodes[i]? = some { n with job := 0 }) := Lib.hid (by simp [letGoS, setJ, giveS, giveL, hjk, hs])
  have HLG : Hid (∀ (F : Fp) W g vn' vj', Sg F W g vn' vj' s → Calls Tryd.prog 30 #[.agg #[vn', vj', .int .i64 s.goal, .int .i64 s.prior, .int .i64 s.mode, .int .i64 s.term], .int .i64 n.job, .int .i64 0] W fun e w' => e = .returned (.agg #[vn', vj', .int .i64 s.goal, .int .i64 s.prior, .int .i64 s.mode, .int .i64 s.term]) ∧ Sg F w' g vn' vj' (letGoS s k j 0) ∧ Chg F W w') := Lib.hid fun F W g vn' vj' h => by
    rw [hj0]
    exact RefLetGo_any F W g k vn' vj' s j 0 h hkj hown hR.len.2 hR.nj
  have HJK := Lib.hid hjk
  have hkl := (List.getElem?_eq_some_iff.1 hjk).1
  have x1 : (0 : Int) ≤ (i : Int) ∧ (i : Int) < (s.nodes.length : Int) := by omega
  have d_j : decide ((0 : Int) < n.job) = true := decide_eq_true (by omega)
  clear hjk hkl hj0 hkj hown hs
  obtain ⟨S2, hS2⟩ : ∃ S2, S2 = (applyS c s (7, (i : Int), a2, a3, a4, a5, a6)).1 := ⟨_, rfl⟩
  obtain ⟨er, her⟩ : ∃ er, er = (applyS c s (7, (i : Int), a2, a3, a4, a5, a6)).2 := ⟨_, rfl⟩
  rw [← hS2, ← her]
  have HS2 := Lib.hid (hS2.trans he)
  rw [← her] at hz
  subst hz
  have HCP := Lib.hid fun W (hx : Ext w W) => RefCopy_any vn vj s W (h.ext hx) (by omega) (by omega)
  have HWY : Hid (∀ W vn' vj', RdSt W vn' vj' s → Calls Tryd.prog 29 #[cfV c, stV vn' vj' s, .agg #[.int .i64 7, .int .i64 (i : Int), .int .i64 a2, .int .i64 a3, .int .i64 a4, .int .i64 a5, .int .i64 a6]] W fun e w' => e = .returned (.int .i64 0) ∧ Ext W w') := Lib.hid fun W vn' vj' hr => (RefWhy_any c vn' vj' s (7, (i : Int), a2, a3, a4, a5, a6) W hr hR).mono (by rintro e w' ⟨h1, h2⟩; rw [← her] at h1; exact ⟨h1, h2⟩)
  obtain ⟨An, cn, rfl, -, -⟩ := h.nodes.slice_
  obtain ⟨Aj, cj, rfl, -, -⟩ := h.jobs.slice_
  obtain ⟨W4, hW4, hx4, hb0, hb1, hb2, hb3, hs4⟩ := four_blocks w 23 30 36 30 #[.int .i64 c.nodes, .int .i64 c.queues, .int .i64 c.quota, .int .i64 c.wave, .int .i64 c.lease, .int .i64 c.retry, .int .i64 c.deadline, .int .i64 c.room, .int .i64 c.disk] #[.slice An s.nodes.length cn, .slice Aj s.jobs.length cj, .int .i64 s.goal, .int .i64 s.prior, .int .i64 s.mode, .int .i64 s.term] #[.int .i64 7, .int .i64 (i : Int), .int .i64 a2, .int .i64 a3, .int .i64 a4, .int .i64 a5, .int .i64 a6] #[.slice none 0 0, .slice none 0 0, .int .i64 0, .int .i64 0, .int .i64 0, .int .i64 0]
  have HX4 := Lib.hid hx4
  have HB0 := Lib.hid hb0
  have HB1 := Lib.hid hb1
  have HB2 := Lib.hid hb2
  have HB3 := Lib.hid hb3
  have HS4 := Lib.hid hs4
  unfold stV at HCP
  unfold stV cfV at HWY
  unfold stV cfV
  clear hx4 hb0 hb1 hb2 hb3 hs4 h hS2 her he hR6 hj24
  go_enter Tryd.func11, Tryd.ntmps11
  go_wp2_with fail
  rw [← hW4]
  clear hW4
  refine (HCP.out _ HX4.out).mono ?_
  rintro e1 w1 ⟨vn1, vj1, rfl, ho, hx1⟩
  have HRD : RdSt w1 vn1 vj1 s := ⟨RdS.own ho.nodes, RdS.own ho.jobs⟩
  obtain ⟨A1, c1, rfl, -, -⟩ := HRD.nodes.slice_
  obtain ⟨A2, c2, rfl, -, -⟩ := HRD.jobs.slice_
  clear HRD
  obtain ⟨w2, hw2⟩ : ∃ W, W = w1.alloc (.cells #[.slice A1 s.nodes.length c1, .slice A2 s.jobs.length c2, .int .i64 s.goal, .int .i64 s.prior, .int .i64 s.mode, .int .i64 s.term] 30) := ⟨_, rfl⟩
  have hx2 : Ext w1 w2 := by rw [hw2]; exact Below.alloc (Ext.refl _) (Nat.le_refl _) _
  have hsz : w2.heap.size = w1.heap.size + 1 := by rw [hw2]; simp
  obtain ⟨F, hsg, hF4⟩ : ∃ F : Fp, Sg F w2 w1.heap.size (.slice A1 s.nodes.length c1) (.slice A2 s.jobs.length c2) s ∧ ∀ k, F k → w.heap.size + 4 ≤ k := ⟨fun k => W4.heap.size ≤ k ∧ k < w2.heap.size, Sg.make (w0 := W4) (base := W4.heap.size) (by rw [hw2]; exact Blk.new _ _ _) hx1.size ⟨by rw [hw2]; exact ho.nodes.alloc _, by rw [hw2]; exact ho.jobs.alloc _, ho.off⟩ (Nat.le_refl _) (fun k hk => by
    rcases hk with hk | hk
    · have := (ho.nodes.lt k hk).2
      omega
    · have := (ho.jobs.lt k hk).2
      omega), fun k hk => by have := HS4.out; omega⟩
  have HX2 := Lib.hid (Ext.trans (Ext.trans HX4.out hx1) hx2)
  have HF4 := Lib.hid hF4
  have HSG := Lib.hid hsg
  have HC0 := Lib.hid ((HB0.out.ext hx1).ext hx2)
  have HC2 := Lib.hid ((HB2.out.ext hx1).ext hx2)
  have HC3 := Lib.hid ((HB3.out.ext hx1).ext hx2)
  clear ho hx1 hx2 hsz hsg hF4 HB0 HB1 HB2 HB3 HS4 HX4 HCP
  go_upto_region 2 with (fail)
  rw [← hw2]
  clear hw2
  have k0 : w2.cell? ⟨w.heap.size, 0, none⟩ = some (.int .i64 c.nodes) := HC0.out.cell 0
  have k1 : w2.cell? ⟨w.heap.size, 1, none⟩ = some (.int .i64 c.queues) := HC0.out.cell 1
  have k2 : w2.cell? ⟨w.heap.size, 2, none⟩ = some (.int .i64 c.quota) := HC0.out.cell 2
  have k3 : w2.cell? ⟨w.heap.size, 3, none⟩ = some (.int .i64 c.wave) := HC0.out.cell 3
  have k4 : w2.cell? ⟨w.heap.size, 4, none⟩ = some (.int .i64 c.lease) := HC0.out.cell 4
  have k5 : w2.cell? ⟨w.heap.size, 5, none⟩ = some (.int .i64 c.retry) := HC0.out.cell 5
  have k6 : w2.cell? ⟨w.heap.size, 6, none⟩ = some (.int .i64 c.deadline) := HC0.out.cell 6
  have k7 : w2.cell? ⟨w.heap.size, 7, none⟩ = some (.int .i64 c.room) := HC0.out.cell 7
  have k8 : w2.cell? ⟨w.heap.size, 8, none⟩ = some (.int .i64 c.disk) := HC0.out.cell 8
  have o0 : w2.cell? ⟨w.heap.size + 2, 0, none⟩ = some (.int .i64 7) := HC2.out.cell 0
  have o1 : w2.cell? ⟨w.heap.size + 2, 1, none⟩ = some (.int .i64 (i : Int)) := HC2.out.cell 1
  have o2 : w2.cell? ⟨w.heap.size + 2, 2, none⟩ = some (.int .i64 a2) := HC2.out.cell 2
  have o3 : w2.cell? ⟨w.heap.size + 2, 3, none⟩ = some (.int .i64 a3) := HC2.out.cell 3
  have o4 : w2.cell? ⟨w.heap.size + 2, 4, none⟩ = some (.int .i64 a4) := HC2.out.cell 4
  have o5 : w2.cell? ⟨w.heap.size + 2, 5, none⟩ = some (.int .i64 a5) := HC2.out.cell 5
  have o6 : w2.cell? ⟨w.heap.size + 2, 6, none⟩ = some (.int .i64 a6) := HC2.out.cell 6
  have s0 : w2.cell? ⟨w1.heap.size, 0, none⟩ = some (.slice A1 s.nodes.length c1) := HSG.out.blk.cell 0
  have s1 : w2.cell? ⟨w1.heap.size, 1, none⟩ = some (.slice A2 s.jobs.length c2) := HSG.out.blk.cell 1
  have s2 : w2.cell? ⟨w1.heap.size, 2, none⟩ = some (.int .i64 s.goal) := HSG.out.blk.cell 2
  have s3 : w2.cell? ⟨w1.heap.size, 3, none⟩ = some (.int .i64 s.prior) := HSG.out.blk.cell 3
  have s4 : w2.cell? ⟨w1.heap.size, 4, none⟩ = some (.int .i64 s.mode) := HSG.out.blk.cell 4
  have s5 : w2.cell? ⟨w1.heap.size, 5, none⟩ = some (.int .i64 s.term) := HSG.out.blk.cell 5
  go_wp2_with fail
  refine (HWY.out _ _ _ HSG.out.rd).mono ?_
  rintro e3 w3 ⟨rfl, hx3⟩
  have HX3 := Lib.hid (HX2.out.trans hx3)
  have HSG3 := Lib.hid (HSG.out.ext hx3)
  have HO3 := Lib.hid (HC2.out.ext hx3)
  have HV3 := Lib.hid (HC3.out.ext hx3)
  have HBX : Hid (∀ W, Chg F w3 W → Blk W (w.heap.size + 2) 36 #[.int .i64 7, .int .i64 (i : Int), .int .i64 a2, .int .i64 a3, .int .i64 a4, .int .i64 a5, .int .i64 a6] ∧ Blk W (w.heap.size + 3) 30 #[.slice none 0 0, .slice none 0 0, .int .i64 0, .int .i64 0, .int .i64 0, .int .i64 0] ∧ Ext w W) := Lib.hid fun W hc => ⟨(hc.block _ HO3.out.lt (fun hf => by have := HF4.out _ hf; omega)).trans HO3.out, (hc.block _ HV3.out.lt (fun hf => by have := HF4.out _ hf; omega)).trans HV3.out, hc.ext HX3.out (fun k hf => by have := HF4.out _ hf; omega)⟩
  clear hx3 HX2 HSG HC0 HC2 HC3 HWY k0 k1 k2 k3 k4 k5 k6 k7 k8 o0 o1 o2 o3 o4 o5 o6 s0 s1 s2 s3 s4 s5
  obtain ⟨b, cap, hv, -, -, -, -, -, -⟩ := HSG3.out.nodeAt HJK.out
  injection hv with hA _ hC
  subst hA hC
  have o0 : w3.cell? ⟨w.heap.size + 2, 0, none⟩ = some (.int .i64 7) := (HBX.out _ (Chg.refl F w3)).1.cell 0
  have o1 : w3.cell? ⟨w.heap.size + 2, 1, none⟩ = some (.int .i64 (i : Int)) := (HBX.out _ (Chg.refl F w3)).1.cell 1
  have o2 : w3.cell? ⟨w.heap.size + 2, 2, none⟩ = some (.int .i64 a2) := (HBX.out _ (Chg.refl F w3)).1.cell 2
  have o3 : w3.cell? ⟨w.heap.size + 2, 3, none⟩ = some (.int .i64 a3) := (HBX.out _ (Chg.refl F w3)).1.cell 3
  have s0 : w3.cell? ⟨w1.heap.size, 0, none⟩ = some (.slice (some ⟨b, 0, none⟩) s.nodes.length c1) := HSG3.out.blk.cell 0
  have s1 : w3.cell? ⟨w1.heap.size, 1, none⟩ = some (.slice A2 s.jobs.length c2) := HSG3.out.blk.cell 1
  have s2 : w3.cell? ⟨w1.heap.size, 2, none⟩ = some (.int .i64 s.goal) := HSG3.out.blk.cell 2
  have s3 : w3.cell? ⟨w1.heap.size, 3, none⟩ = some (.int .i64 s.prior) := HSG3.out.blk.cell 3
  have s4 : w3.cell? ⟨w1.heap.size, 4, none⟩ = some (.int .i64 s.mode) := HSG3.out.blk.cell 4
  have s5 : w3.cell? ⟨w1.heap.size, 5, none⟩ = some (.int .i64 s.term) := HSG3.out.blk.cell 5
  obtain ⟨hat, hfr⟩ := HSG3.out.nodeAt' HJK.out
  have p4 : w3.cell? ⟨b, i * 5 + 4, none⟩ = some (.int .i64 n.job) := hat.c4
  clear hat hfr
  go_upto_region 23 with (fail)
  go_cut [] (fun wx => Hid (Sg F wx w1.heap.size (.slice (some ⟨b, 0, none⟩) s.nodes.length c1) (.slice A2 s.jobs.length c2) (letGoS s k j 0) ∧ Chg F w3 wx))
  case first =>
    refine held_begin (by kernel_rfl) ?_
    have hHeld0 : True := True.intro
    refine held_more (S' := fun (W : World) => W.cell? ⟨w1.heap.size, 0, none⟩ = some (.slice (some ⟨b, 0, none⟩) s.nodes.length c1) ∧ W.cell? ⟨w1.heap.size, 1, none⟩ = some (.slice A2 s.jobs.length c2) ∧ W.cell? ⟨w1.heap.size, 2, none⟩ = some (.int .i64 s.goal) ∧ W.cell? ⟨w1.heap.size, 3, none⟩ = some (.int .i64 s.prior) ∧ W.cell? ⟨w1.heap.size, 4, none⟩ = some (.int .i64 s.mode) ∧ W.cell? ⟨w1.heap.size, 5, none⟩ = some (.int .i64 s.term) ∧ W.cell? ⟨w.heap.size + 2, 1, none⟩ = some (.int .i64 (i : Int))) (fun _ _ => True.intro) ?_
    have hHeld1 : (fun (W : World) => W.cell? ⟨w1.heap.size, 0, none⟩ = some (.slice (some ⟨b, 0, none⟩) s.nodes.length c1) ∧ W.cell? ⟨w1.heap.size, 1, none⟩ = some (.slice A2 s.jobs.length c2) ∧ W.cell? ⟨w1.heap.size, 2, none⟩ = some (.int .i64 s.goal) ∧ W.cell? ⟨w1.heap.size, 3, none⟩ = some (.int .i64 s.prior) ∧ W.cell? ⟨w1.heap.size, 4, none⟩ = some (.int .i64 s.mode) ∧ W.cell? ⟨w1.heap.size, 5, none⟩ = some (.int .i64 s.term) ∧ W.cell? ⟨w.heap.size + 2, 1, none⟩ = some (.int .i64 (i : Int))) _ := ⟨s0, s1, s2, s3, s4, s5, o1⟩
    clear hHeld0
    refine held_take (i := 0) (v := ?_) rfl (by kernel_rfl) (by kernel_rfl) (by kernel_rfl) (by rfl) (by first | assumption | exact True.intro) ?_ ?_
    rotate_left
    · (intro w hSw; (try dsimp only at hSw); go_simp; (try with_reducible rfl))
    try simp only [Act.put, List.setIfInBounds_toArray, List.set_cons_zero, List.set_cons_succ]
    refine held_take (i := 1) (v := ?_) rfl (by kernel_rfl) (by kernel_rfl) (by kernel_rfl) (by rfl) (by first | assumption | exact True.intro) ?_ ?_
    rotate_left
    · (intro w hSw; (try dsimp only at hSw); go_simp; (try with_reducible rfl))
    try simp only [Act.put, List.setIfInBounds_toArray, List.set_cons_zero, List.set_cons_succ]
    refine held_take (i := 2) (v := ?_) rfl (by kernel_rfl) (by kernel_rfl) (by kernel_rfl) (by rfl) (by first | assumption | exact True.intro) ?_ ?_
    rotate_left
    · (intro w hSw; (try dsimp only at hSw); go_simp; (try with_reducible rfl))
    try simp only [Act.put, List.setIfInBounds_toArray, List.set_cons_zero, List.set_cons_succ]
    refine held_take (i := 3) (v := ?_) rfl (by kernel_rfl) (by kernel_rfl) (by kernel_rfl) (by rfl) (by first | assumption | exact True.intro) ?_ ?_
    rotate_left
    · (intro w hSw; (try dsimp only at hSw); go_simp; (try with_reducible rfl))
    try simp only [Act.put, List.setIfInBounds_toArray, List.set_cons_zero, List.set_cons_succ]
    refine held_take (i := 4) (v := ?_) rfl (by kernel_rfl) (by kernel_rfl) (by kernel_rfl) (by rfl) (by first | assumption | exact True.intro) ?_ ?_
    rotate_left
    · (intro w hSw; (try dsimp only at hSw); go_simp; (try with_reducible rfl))
    try simp only [Act.put, List.setIfInBounds_toArray, List.set_cons_zero, List.set_cons_succ]
    refine held_take (i := 5) (v := ?_) rfl (by kernel_rfl) (by kernel_rfl) (by kernel_rfl) (by rfl) (by first | assumption | exact True.intro) ?_ ?_
    rotate_left
    · (intro w hSw; (try dsimp only at hSw); go_simp; (try with_reducible rfl))
    try simp only [Act.put, List.setIfInBounds_toArray, List.set_cons_zero, List.set_cons_succ]
    refine held_take (i := 6) (v := ?_) rfl (by kernel_rfl) (by kernel_rfl) (by kernel_rfl) (by rfl) (by first | assumption | exact True.intro) ?_ ?_
    rotate_left
    · (intro w hSw; (try dsimp only at hSw); go_simp; (try with_reducible rfl))
    try simp only [Act.put, List.setIfInBounds_toArray, List.set_cons_zero, List.set_cons_succ]
    refine held_op (i := 7) (by kernel_rfl) rfl (fun K hK => ?_)
    go_simp
    refine hK _ _ ?_ (fun hHeld2 => ?_)
    · exact ⟨s0, s1, s2, s3, s4, s5, o1⟩
    clear hK K hHeld1
    try simp only [Act.put, List.setIfInBounds_toArray, List.set_cons_zero, List.set_cons_succ]
    refine held_op (i := 8) (by kernel_rfl) rfl (fun K hK => ?_)
    go_simp
    go_at_call 30
    (with_reducible refine (HLG.out _ _ _ _ _ (HSG3.out.ext (ext_drew9 (Ext.refl w3)))).mono ?_)
    rintro e5 w5 ⟨rfl, hs5, hc4⟩
    have hc5 : Chg F w3 w5 := Chg.trans (Chg.of_ext (F := F) (ext_drew9 (Ext.refl w3))) hc4 (fun _ _ h => h)
    have c0 : w5.cell? ⟨w1.heap.size, 0, none⟩ = some (.slice (some ⟨b, 0, none⟩) s.nodes.length c1) := hs5.blk.cell 0
    have c1 : w5.cell? ⟨w1.heap.size, 1, none⟩ = some (.slice A2 s.jobs.length c2) := hs5.blk.cell 1
    have c2 : w5.cell? ⟨w1.heap.size, 2, none⟩ = some (.int .i64 s.goal) := hs5.blk.cell 2
    have c3 : w5.cell? ⟨w1.heap.size, 3, none⟩ = some (.int .i64 s.prior) := hs5.blk.cell 3
    have c4 : w5.cell? ⟨w1.heap.size, 4, none⟩ = some (.int .i64 s.mode) := hs5.blk.cell 4
    have c5 : w5.cell? ⟨w1.heap.size, 5, none⟩ = some (.int .i64 s.term) := hs5.blk.cell 5
    have f0 : w5.frozen? ⟨w1.heap.size, 0, none⟩ = false := hs5.fr 0
    have f1 : w5.frozen? ⟨w1.heap.size, 1, none⟩ = false := hs5.fr 1
    have f2 : w5.frozen? ⟨w1.heap.size, 2, none⟩ = false := hs5.fr 2
    have f3 : w5.frozen? ⟨w1.heap.size, 3, none⟩ = false := hs5.fr 3
    have f4 : w5.frozen? ⟨w1.heap.size, 4, none⟩ = false := hs5.fr 4
    have f5 : w5.frozen? ⟨w1.heap.size, 5, none⟩ = false := hs5.fr 5
    have hag := hs5.again
    have hcag := Chg.trans hc5 hag.2 (fun _ _ h => h)
    refine hK _ _ ?_ (fun hHeld3 => ?_)
    · exact ⟨c0, c1, c2, c3, c4, c5, (HBX.out _ hc5).1.cell 1⟩
    clear hK K hHeld2
    try simp only [Act.put, List.setIfInBounds_toArray, List.set_cons_zero, List.set_cons_succ]
    refine held_op (i := 9) (by kernel_rfl) rfl (fun K hK => ?_)
    go_simp
    refine hK _ _ ?_ (fun hHeld4 => ?_)
    · exact ⟨hag.1.blk.cell 0, hag.1.blk.cell 1, hag.1.blk.cell 2, hag.1.blk.cell 3, hag.1.blk.cell 4, hag.1.blk.cell 5, (HBX.out _ hcag).1.cell 1⟩
    clear hK K hHeld3
    try simp only [Act.put, List.setIfInBounds_toArray, List.set_cons_zero, List.set_cons_succ]
    refine wpAnyH_done (by kernel_rfl) ?_ _
    refine NoPanic.normal ?_
    clear hHeld4
    go_wp2_with fail
    go_meet
    exact Lib.hid ⟨hag.1, hcag⟩
  case rest =>
  have HSG5 := Lib.hid hcut.out.1
  have HCH5 : Hid (Chg F w3 wc) := Lib.hid hcut.out.2
  clear hcut p4 HLG o0 o1 o2 o3 s0 s1 s2 s3 s4 s5
  have o0 : wc.cell? ⟨w.heap.size + 2, 0, none⟩ = some (.int .i64 7) := (HBX.out _ HCH5.out).1.cell 0
  have o1 : wc.cell? ⟨w.heap.size + 2, 1, none⟩ = some (.int .i64 (i : Int)) := (HBX.out _ HCH5.out).1.cell 1
  have o2 : wc.cell? ⟨w.heap.size + 2, 2, none⟩ = some (.int .i64 a2) := (HBX.out _ HCH5.out).1.cell 2
  have o3 : wc.cell? ⟨w.heap.size + 2, 3, none⟩ = some (.int .i64 a3) := (HBX.out _ HCH5.out).1.cell 3
  have s0 : wc.cell? ⟨w1.heap.size, 0, none⟩ = some (.slice (some ⟨b, 0, none⟩) s.nodes.length c1) := HSG5.out.blk.cell 0
  have s1 : wc.cell? ⟨w1.heap.size, 1, none⟩ = some (.slice A2 s.jobs.length c2) := HSG5.out.blk.cell 1
  have s2 : wc.cell? ⟨w1.heap.size, 2, none⟩ = some (.int .i64 s.goal) := HSG5.out.blk.cell 2
  have s3 : wc.cell? ⟨w1.heap.size, 3, none⟩ = some (.int .i64 s.prior) := HSG5.out.blk.cell 3
  have s4 : wc.cell? ⟨w1.heap.size, 4, none⟩ = some (.int .i64 s.mode) := HSG5.out.blk.cell 4
  have s5 : wc.cell? ⟨w1.heap.size, 5, none⟩ = some (.int .i64 s.term) := HSG5.out.blk.cell 5
  obtain ⟨hat, hfr⟩ := HSG5.out.nodeAt' HJG.out
  have p0 : wc.cell? ⟨b, i * 5, none⟩ = some (.bool n.up) := hat.c0
  have f0 : wc.frozen? ⟨b, i * 5, none⟩ = false := hfr (i * 5)
  clear hat hfr
  have hs := HSG5.out.setN' (n' := { n with up := false, job := 0 }) HJG.out 0 (by omega) (.bool false) rfl
  obtain ⟨v4, hw⟩ : ∃ W, W = wc.setCell ⟨b, i * 5, none⟩ (.bool false) := ⟨_, rfl⟩
  have hs : Sg F (wc.setCell ⟨b, i * 5, none⟩ (.bool false)) w1.heap.size (.slice (some ⟨b, 0, none⟩) s.nodes.length c1) (.slice A2 s.jobs.length c2) (setN (letGoS s k j 0) i { n with up := false, job := 0 }) ∧ Chg F wc (wc.setCell ⟨b, i * 5, none⟩ (.bool false)) := hs
  rw [← hw] at hs
  have HSV4 := Lib.hid hs.1
  have HCV4 : Hid (Chg F w3 v4) := Lib.hid (Chg.trans HCH5.out hs.2 (fun _ _ h => h))
  clear hs
  go_upto_region 25 with (fail)
  rw [← hw]
  clear hw f0 o0 o1 o2 o3 s0 s1 s2 s3 s4 s5 p0
  have o0 : v4.cell? ⟨w.heap.size + 2, 0, none⟩ = some (.int .i64 7) := (HBX.out _ HCV4.out).1.cell 0
  have o1 : v4.cell? ⟨w.heap.size + 2, 1, none⟩ = some (.int .i64 (i : Int)) := (HBX.out _ HCV4.out).1.cell 1
  have o2 : v4.cell? ⟨w.heap.size + 2, 2, none⟩ = some (.int .i64 a2) := (HBX.out _ HCV4.out).1.cell 2
  have o3 : v4.cell? ⟨w.heap.size + 2, 3, none⟩ = some (.int .i64 a3) := (HBX.out _ HCV4.out).1.cell 3
  have s0 : v4.cell? ⟨w1.heap.size, 0, none⟩ = some (.slice (some ⟨b, 0, none⟩) s.nodes.length c1) := HSV4.out.blk.cell 0
  have s1 : v4.cell? ⟨w1.heap.size, 1, none⟩ = some (.slice A2 s.jobs.length c2) := HSV4.out.blk.cell 1
  have s2 : v4.cell? ⟨w1.heap.size, 2, none⟩ = some (.int .i64 s.goal) := HSV4.out.blk.cell 2
  have s3 : v4.cell? ⟨w1.heap.size, 3, none⟩ = some (.int .i64 s.prior) := HSV4.out.blk.cell 3
  have s4 : v4.cell? ⟨w1.heap.size, 4, none⟩ = some (.int .i64 s.mode) := HSV4.out.blk.cell 4
  have s5 : v4.cell? ⟨w1.heap.size, 5, none⟩ = some (.int .i64 s.term) := HSV4.out.blk.cell 5
  obtain ⟨hat, hfr⟩ := HSV4.out.nodeAt' (setN_get HJG.out)
  have p0 : v4.cell? ⟨b, i * 5 + 2, none⟩ = some (.bool n.moving) := hat.c2
  have f0 : v4.frozen? ⟨b, i * 5 + 2, none⟩ = false := hfr (i * 5 + 2)
  clear hat hfr
  have hs := HSV4.out.setN' (n' := { n with up := false, moving := false, job := 0 }) (setN_get HJG.out) 2 (by omega) (.bool false) rfl
  obtain ⟨v5, hw⟩ : ∃ W, W = v4.setCell ⟨b, i * 5 + 2, none⟩ (.bool false) := ⟨_, rfl⟩
  rw [← hw] at hs
  have HSV5 := Lib.hid hs.1
  have HCV5 : Hid (Chg F w3 v5) := Lib.hid (Chg.trans HCV4.out hs.2 (fun _ _ h => h))
  clear hs
  go_upto_region 70 with (fail)
  rw [← hw]
  clear hw f0 o0 o1 o2 o3 s0 s1 s2 s3 s4 s5 p0
  have HSE := Lib.hid (show Sg F v5 w1.heap.size (.slice (some ⟨b, 0, none⟩) s.nodes.length c1) (.slice A2 s.jobs.length c2) S2 by rw [HS2.out]; exact (by have h := HSV5.out; rw [setN_setN] at h; exact h))
  have HCE : Hid (Chg F w3 v5) := Lib.hid HCV5.out
  have HQE := Lib.hid (HBX.out _ HCE.out)
  have m0 : v5.cell? ⟨w1.heap.size, 0, none⟩ = some (.slice (some ⟨b, 0, none⟩) s.nodes.length c1) := HSE.out.blk.cell 0
  have m1 : v5.cell? ⟨w1.heap.size, 1, none⟩ = some (.slice A2 s.jobs.length c2) := HSE.out.blk.cell 1
  have m2 : v5.cell? ⟨w1.heap.size, 2, none⟩ = some (.int .i64 S2.goal) := HSE.out.blk.cell 2
  have m3 : v5.cell? ⟨w1.heap.size, 3, none⟩ = some (.int .i64 S2.prior) := HSE.out.blk.cell 3
  have m4 : v5.cell? ⟨w1.heap.size, 4, none⟩ = some (.int .i64 S2.mode) := HSE.out.blk.cell 4
  have m5 : v5.cell? ⟨w1.heap.size, 5, none⟩ = some (.int .i64 S2.term) := HSE.out.blk.cell 5
  have r0 : v5.cell? ⟨w.heap.size + 3, 0, none⟩ = some (.slice none 0 0) := HQE.out.2.1.cell 0
  have g0 : v5.frozen? ⟨w.heap.size + 3, 0, none⟩ = false := HQE.out.2.1.frozen 0
  have r1 : v5.cell? ⟨w.heap.size + 3, 1, none⟩ = some (.slice none 0 0) := HQE.out.2.1.cell 1
  have g1 : v5.frozen? ⟨w.heap.size + 3, 1, none⟩ = false := HQE.out.2.1.frozen 1
  have r2 : v5.cell? ⟨w.heap.size + 3, 2, none⟩ = some (.int .i64 0) := HQE.out.2.1.cell 2
  have g2 : v5.frozen? ⟨w.heap.size + 3, 2, none⟩ = false := HQE.out.2.1.frozen 2
  have r3 : v5.cell? ⟨w.heap.size + 3, 3, none⟩ = some (.int .i64 0) := HQE.out.2.1.cell 3
  have g3 : v5.frozen? ⟨w.heap.size + 3, 3, none⟩ = false := HQE.out.2.1.frozen 3
  have r4 : v5.cell? ⟨w.heap.size + 3, 4, none⟩ = some (.int .i64 0) := HQE.out.2.1.cell 4
  have g4 : v5.frozen? ⟨w.heap.size + 3, 4, none⟩ = false := HQE.out.2.1.frozen 4
  have r5 : v5.cell? ⟨w.heap.size + 3, 5, none⟩ = some (.int .i64 0) := HQE.out.2.1.cell 5
  have g5 : v5.frozen? ⟨w.heap.size + 3, 5, none⟩ = false := HQE.out.2.1.frozen 5
  go_wp2
  have hq := (((((PB.start HQE.out.2.1).set 0 (.slice (some ⟨b, 0, none⟩) s.nodes.length c1)).set 1 (.slice A2 s.jobs.length c2)).set 2 (.int .i64 S2.goal)).set 3 (.int .i64 S2.prior)).set 4 (.int .i64 S2.mode)
  replace hq := hq.set 5 (.int .i64 S2.term)
  simp only [List.setIfInBounds_toArray, List.set_cons_zero, List.set_cons_succ] at hq
  obtain ⟨wf, hwf⟩ : ∃ W, W = ((((((v5.setCell ⟨w.heap.size + 3, 0, none⟩ (.slice (some ⟨b, 0, none⟩) s.nodes.length c1)).setCell ⟨w.heap.size + 3, 1, none⟩ (.slice A2 s.jobs.length c2)).setCell ⟨w.heap.size + 3, 2, none⟩ (.int .i64 S2.goal)).setCell ⟨w.heap.size + 3, 3, none⟩ (.int .i64 S2.prior)).setCell ⟨w.heap.size + 3, 4, none⟩ (.int .i64 S2.mode)).setCell ⟨w.heap.size + 3, 5, none⟩ (.int .i64 S2.term)) := ⟨_, rfl⟩
  rw [← hwf] at hq
  have hc1 : Chg (fun x => x = w.heap.size + 3) v5 wf := hq.chg
  have hsf : Sg F wf w1.heap.size (.slice (some ⟨b, 0, none⟩) s.nodes.length c1) (.slice A2 s.jobs.length c2) S2 := ObjF.chg HSE.out hc1 (fun x hx e => by have := HF4.out x hx; have e : x = w.heap.size + 3 := e; omega)
  have hxf := hq.below _ _ HQE.out.2.2 (by omega)
  rw [hwf] at hq hsf hxf
  exact bodyPost_ret (results_cell_tmp_row rfl _ _ (w.heap.size + 3) 30 _ (0, 0) _ rfl hq.blk rfl rfl (by kernel_rfl)) rfl ⟨.slice (some ⟨b, 0, none⟩) s.nodes.length c1, .slice A2 s.jobs.length c2, rfl, hsf.rd, hxf, hsf.own4 HF4.out⟩

end Go.Proofs.YtbfjlhddebollaaDoor

/- The reference of layer 9: Apply, kind 8. -/
namespace Go.Proofs.YtbfjlhddebollaaDoor
open Go.RowKit

set_option maxRecDepth 100000 in
set_option maxHeartbeats 4000000 in
theorem RefAp_8 (c : Cf) (vn vj : Value) (s : St) (a1 a2 a3 a4 a5 a6 : Int) (w : World) (h : RdSt w vn vj s) (hR : RightP c s) (hz : (applyS c s (8, a1, a2, a3, a4, a5, a6)).2 = 0) :
    Calls Tryd.prog 11 #[cfV c, stV vn vj s, .agg #[.int .i64 8, .int .i64 a1, .int .i64 a2, .int .i64 a3, .int .i64 a4, .int .i64 a5, .int .i64 a6]] w fun e w' => ∃ vn' vj', e = .returned (.tuple #[stV vn' vj' (applyS c s (8, a1, a2, a3, a4, a5, a6)).1, .int .i64 (applyS c s (8, a1, a2, a3, a4, a5, a6)).2]) ∧ RdSt w' vn' vj' (applyS c s (8, a1, a2, a3, a4, a5, a6)).1 ∧ Ext w w' ∧ ∀ k, vn'.ownBlock = some k ∨ vj'.ownBlock = some k → w.heap.size ≤ k := by
  have hR6 := hR.len.2
  have hj24 := hR.nj
  obtain ⟨i, n, ha, hjk, hz1, he1, hro⟩ := ok_node (by decide) hz
  subst ha
  have he : (applyS c s (8, (i : Int), a2, a3, a4, a5, a6)).1 = setN s i { n with up := true, version := a2 } := by
    rw [he1]
    change (upS s i n a2).2 = 0 at hz1
    change (upS s i n a2).1 = _
    revert hz1
    unfold upS
    repeat' split
    all_goals first | (intro; rfl) | (intro hz; cases hz)
  have HJK := Lib.hid hjk
  have hkl := (List.getElem?_eq_some_iff.1 hjk).1
  have x1 : (0 : Int) ≤ (i : Int) ∧ (i : Int) < (s.nodes.length : Int) := by omega
  clear hjk hz1 he1 hro hkl
  obtain ⟨S2, hS2⟩ : ∃ S2, S2 = (applyS c s (8, (i : Int), a2, a3, a4, a5, a6)).1 := ⟨_, rfl⟩
  obtain ⟨er, her⟩ : ∃ er, er = (applyS c s (8, (i : Int), a2, a3, a4, a5, a6)).2 := ⟨_, rfl⟩
  rw [← hS2, ← her]
  have HS2 := Lib.hid (hS2.trans he)
  rw [← her] at hz
  subst hz
  have HCP := Lib.hid fun W (hx : Ext w W) => RefCopy_any vn vj s W (h.ext hx) (by omega) (by omega)
  have HWY : Hid (∀ W vn' vj', RdSt W vn' vj' s → Calls Tryd.prog 29 #[cfV c, stV vn' vj' s, .agg #[.int .i64 8, .int .i64 (i : Int), .int .i64 a2, .int .i64 a3, .int .i64 a4, .int .i64 a5, .int .i64 a6]] W fun e w' => e = .returned (.int .i64 0) ∧ Ext W w') := Lib.hid fun W vn' vj' hr => (RefWhy_any c vn' vj' s (8, (i : Int), a2, a3, a4, a5, a6) W hr hR).mono (by rintro e w' ⟨h1, h2⟩; rw [← her] at h1; exact ⟨h1, h2⟩)
  obtain ⟨An, cn, rfl, -, -⟩ := h.nodes.slice_
  obtain ⟨Aj, cj, rfl, -, -⟩ := h.jobs.slice_
  obtain ⟨W4, hW4, hx4, hb0, hb1, hb2, hb3, hs4⟩ := four_blocks w 23 30 36 30 #[.int .i64 c.nodes, .int .i64 c.queues, .int .i64 c.quota, .int .i64 c.wave, .int .i64 c.lease, .int .i64 c.retry, .int .i64 c.deadline, .int .i64 c.room, .int .i64 c.disk] #[.slice An s.nodes.length cn, .slice Aj s.jobs.length cj, .int .i64 s.goal, .int .i64 s.prior, .int .i64 s.mode, .int .i64 s.term] #[.int .i64 8, .int .i64 (i : Int), .int .i64 a2, .int .i64 a3, .int .i64 a4, .int .i64 a5, .int .i64 a6] #[.slice none 0 0, .slice none 0 0, .int .i64 0, .int .i64 0, .int .i64 0, .int .i64 0]
  have HX4 := Lib.hid hx4
  have HB0 := Lib.hid hb0
  have HB1 := Lib.hid hb1
  have HB2 := Lib.hid hb2
  have HB3 := Lib.hid hb3
  have HS4 := Lib.hid hs4
  unfold stV at HCP
  unfold stV cfV at HWY
  unfold stV cfV
  clear hx4 hb0 hb1 hb2 hb3 hs4 h hS2 her he hR6 hj24
  go_enter Tryd.func11, Tryd.ntmps11
  go_wp2_with fail
  rw [← hW4]
  clear hW4
  refine (HCP.out _ HX4.out).mono ?_
  rintro e1 w1 ⟨vn1, vj1, rfl, ho, hx1⟩
  have HRD : RdSt w1 vn1 vj1 s := ⟨RdS.own ho.nodes, RdS.own ho.jobs⟩
  obtain ⟨A1, c1, rfl, -, -⟩ := HRD.nodes.slice_
  obtain ⟨A2, c2, rfl, -, -⟩ := HRD.jobs.slice_
  clear HRD
  obtain ⟨w2, hw2⟩ : ∃ W, W = w1.alloc (.cells #[.slice A1 s.nodes.length c1, .slice A2 s.jobs.length c2, .int .i64 s.goal, .int .i64 s.prior, .int .i64 s.mode, .int .i64 s.term] 30) := ⟨_, rfl⟩
  have hx2 : Ext w1 w2 := by rw [hw2]; exact Below.alloc (Ext.refl _) (Nat.le_refl _) _
  have hsz : w2.heap.size = w1.heap.size + 1 := by rw [hw2]; simp
  obtain ⟨F, hsg, hF4⟩ : ∃ F : Fp, Sg F w2 w1.heap.size (.slice A1 s.nodes.length c1) (.slice A2 s.jobs.length c2) s ∧ ∀ k, F k → w.heap.size + 4 ≤ k := ⟨fun k => W4.heap.size ≤ k ∧ k < w2.heap.size, Sg.make (w0 := W4) (base := W4.heap.size) (by rw [hw2]; exact Blk.new _ _ _) hx1.size ⟨by rw [hw2]; exact ho.nodes.alloc _, by rw [hw2]; exact ho.jobs.alloc _, ho.off⟩ (Nat.le_refl _) (fun k hk => by
    rcases hk with hk | hk
    · have := (ho.nodes.lt k hk).2
      omega
    · have := (ho.jobs.lt k hk).2
      omega), fun k hk => by have := HS4.out; omega⟩
  have HX2 := Lib.hid (Ext.trans (Ext.trans HX4.out hx1) hx2)
  have HF4 := Lib.hid hF4
  have HSG := Lib.hid hsg
  have HC0 := Lib.hid ((HB0.out.ext hx1).ext hx2)
  have HC2 := Lib.hid ((HB2.out.ext hx1).ext hx2)
  have HC3 := Lib.hid ((HB3.out.ext hx1).ext hx2)
  clear ho hx1 hx2 hsz hsg hF4 HB0 HB1 HB2 HB3 HS4 HX4 HCP
  go_upto_region 2 with (fail)
  rw [← hw2]
  clear hw2
  have k0 : w2.cell? ⟨w.heap.size, 0, none⟩ = some (.int .i64 c.nodes) := HC0.out.cell 0
  have k1 : w2.cell? ⟨w.heap.size, 1, none⟩ = some (.int .i64 c.queues) := HC0.out.cell 1
  have k2 : w2.cell? ⟨w.heap.size, 2, none⟩ = some (.int .i64 c.quota) := HC0.out.cell 2
  have k3 : w2.cell? ⟨w.heap.size, 3, none⟩ = some (.int .i64 c.wave) := HC0.out.cell 3
  have k4 : w2.cell? ⟨w.heap.size, 4, none⟩ = some (.int .i64 c.lease) := HC0.out.cell 4
  have k5 : w2.cell? ⟨w.heap.size, 5, none⟩ = some (.int .i64 c.retry) := HC0.out.cell 5
  have k6 : w2.cell? ⟨w.heap.size, 6, none⟩ = some (.int .i64 c.deadline) := HC0.out.cell 6
  have k7 : w2.cell? ⟨w.heap.size, 7, none⟩ = some (.int .i64 c.room) := HC0.out.cell 7
  have k8 : w2.cell? ⟨w.heap.size, 8, none⟩ = some (.int .i64 c.disk) := HC0.out.cell 8
  have o0 : w2.cell? ⟨w.heap.size + 2, 0, none⟩ = some (.int .i64 8) := HC2.out.cell 0
  have o1 : w2.cell? ⟨w.heap.size + 2, 1, none⟩ = some (.int .i64 (i : Int)) := HC2.out.cell 1
  have o2 : w2.cell? ⟨w.heap.size + 2, 2, none⟩ = some (.int .i64 a2) := HC2.out.cell 2
  have o3 : w2.cell? ⟨w.heap.size + 2, 3, none⟩ = some (.int .i64 a3) := HC2.out.cell 3
  have o4 : w2.cell? ⟨w.heap.size + 2, 4, none⟩ = some (.int .i64 a4) := HC2.out.cell 4
  have o5 : w2.cell? ⟨w.heap.size + 2, 5, none⟩ = some (.int .i64 a5) := HC2.out.cell 5
  have o6 : w2.cell? ⟨w.heap.size + 2, 6, none⟩ = some (.int .i64 a6) := HC2.out.cell 6
  have s0 : w2.cell? ⟨w1.heap.size, 0, none⟩ = some (.slice A1 s.nodes.length c1) := HSG.out.blk.cell 0
  have s1 : w2.cell? ⟨w1.heap.size, 1, none⟩ = some (.slice A2 s.jobs.length c2) := HSG.out.blk.cell 1
  have s2 : w2.cell? ⟨w1.heap.size, 2, none⟩ = some (.int .i64 s.goal) := HSG.out.blk.cell 2
  have s3 : w2.cell? ⟨w1.heap.size, 3, none⟩ = some (.int .i64 s.prior) := HSG.out.blk.cell 3
  have s4 : w2.cell? ⟨w1.heap.size, 4, none⟩ = some (.int .i64 s.mode) := HSG.out.blk.cell 4
  have s5 : w2.cell? ⟨w1.heap.size, 5, none⟩ = some (.int .i64 s.term) := HSG.out.blk.cell 5
  go_wp2_with fail
  refine (HWY.out _ _ _ HSG.out.rd).mono ?_
  rintro e3 w3 ⟨rfl, hx3⟩
  have HX3 := Lib.hid (HX2.out.trans hx3)
  have HSG3 := Lib.hid (HSG.out.ext hx3)
  have HO3 := Lib.hid (HC2.out.ext hx3)
  have HV3 := Lib.hid (HC3.out.ext hx3)
  have HBX : Hid (∀ W, Chg F w3 W → Blk W (w.heap.size + 2) 36 #[.int .i64 8, .int .i64 (i : Int), .int .i64 a2, .int .i64 a3, .int .i64 a4, .int .i64 a5, .int .i64 a6] ∧ Blk W (w.heap.size + 3) 30 #[.slice none 0 0, .slice none 0 0, .int .i64 0, .int .i64 0, .int .i64 0, .int .i64 0] ∧ Ext w W) := Lib.hid fun W hc => ⟨(hc.block _ HO3.out.lt (fun hf => by have := HF4.out _ hf; omega)).trans HO3.out, (hc.block _ HV3.out.lt (fun hf => by have := HF4.out _ hf; omega)).trans HV3.out, hc.ext HX3.out (fun k hf => by have := HF4.out _ hf; omega)⟩
  clear hx3 HX2 HSG HC0 HC2 HC3 HWY k0 k1 k2 k3 k4 k5 k6 k7 k8 o0 o1 o2 o3 o4 o5 o6 s0 s1 s2 s3 s4 s5
  obtain ⟨b, cap, hv, -, -, -, -, -, -⟩ := HSG3.out.nodeAt HJK.out
  injection hv with hA _ hC
  subst hA hC
  have o0 : w3.cell? ⟨w.heap.size + 2, 0, none⟩ = some (.int .i64 8) := (HBX.out _ (Chg.refl F w3)).1.cell 0
  have o1 : w3.cell? ⟨w.heap.size + 2, 1, none⟩ = some (.int .i64 (i : Int)) := (HBX.out _ (Chg.refl F w3)).1.cell 1
  have o2 : w3.cell? ⟨w.heap.size + 2, 2, none⟩ = some (.int .i64 a2) := (HBX.out _ (Chg.refl F w3)).1.cell 2
  have o3 : w3.cell? ⟨w.heap.size + 2, 3, none⟩ = some (.int .i64 a3) := (HBX.out _ (Chg.refl F w3)).1.cell 3
  have s0 : w3.cell? ⟨w1.heap.size, 0, none⟩ = some (.slice (some ⟨b, 0, none⟩) s.nodes.length c1) := HSG3.out.blk.cell 0
  have s1 : w3.cell? ⟨w1.heap.size, 1, none⟩ = some (.slice A2 s.jobs.length c2) := HSG3.out.blk.cell 1
  have s2 : w3.cell? ⟨w1.heap.size, 2, none⟩ = some (.int .i64 s.goal) := HSG3.out.blk.cell 2
  have s3 : w3.cell? ⟨w1.heap.size, 3, none⟩ = some (.int .i64 s.prior) := HSG3.out.blk.cell 3
  have s4 : w3.cell? ⟨w1.heap.size, 4, none⟩ = some (.int .i64 s.mode) := HSG3.out.blk.cell 4
  have s5 : w3.cell? ⟨w1.heap.size, 5, none⟩ = some (.int .i64 s.term) := HSG3.out.blk.cell 5
  obtain ⟨hat, hfr⟩ := HSG3.out.nodeAt' HJK.out
  have p0 : w3.cell? ⟨b, i * 5, none⟩ = some (.bool n.up) := hat.c0
  have f0 : w3.frozen? ⟨b, i * 5, none⟩ = false := hfr (i * 5)
  clear hat hfr
  have hs := HSG3.out.setN' (n' := { n with up := true }) HJK.out 0 (by omega) (.bool true) rfl
  obtain ⟨v4, hw⟩ : ∃ W, W = w3.setCell ⟨b, i * 5, none⟩ (.bool true) := ⟨_, rfl⟩
  have hs : Sg F (w3.setCell ⟨b, i * 5, none⟩ (.bool true)) w1.heap.size (.slice (some ⟨b, 0, none⟩) s.nodes.length c1) (.slice A2 s.jobs.length c2) (setN (s) i { n with up := true }) ∧ Chg F w3 (w3.setCell ⟨b, i * 5, none⟩ (.bool true)) := hs
  rw [← hw] at hs
  have HSV4 := Lib.hid hs.1
  have HCV4 : Hid (Chg F w3 v4) := Lib.hid (Chg.trans (Chg.refl F w3) hs.2 (fun _ _ h => h))
  clear hs
  go_upto_region 28 with (fail)
  rw [← hw]
  clear hw f0 o0 o1 o2 o3 s0 s1 s2 s3 s4 s5 p0
  have o0 : v4.cell? ⟨w.heap.size + 2, 0, none⟩ = some (.int .i64 8) := (HBX.out _ HCV4.out).1.cell 0
  have o1 : v4.cell? ⟨w.heap.size + 2, 1, none⟩ = some (.int .i64 (i : Int)) := (HBX.out _ HCV4.out).1.cell 1
  have o2 : v4.cell? ⟨w.heap.size + 2, 2, none⟩ = some (.int .i64 a2) := (HBX.out _ HCV4.out).1.cell 2
  have o3 : v4.cell? ⟨w.heap.size + 2, 3, none⟩ = some (.int .i64 a3) := (HBX.out _ HCV4.out).1.cell 3
  have s0 : v4.cell? ⟨w1.heap.size, 0, none⟩ = some (.slice (some ⟨b, 0, none⟩) s.nodes.length c1) := HSV4.out.blk.cell 0
  have s1 : v4.cell? ⟨w1.heap.size, 1, none⟩ = some (.slice A2 s.jobs.length c2) := HSV4.out.blk.cell 1
  have s2 : v4.cell? ⟨w1.heap.size, 2, none⟩ = some (.int .i64 s.goal) := HSV4.out.blk.cell 2
  have s3 : v4.cell? ⟨w1.heap.size, 3, none⟩ = some (.int .i64 s.prior) := HSV4.out.blk.cell 3
  have s4 : v4.cell? ⟨w1.heap.size, 4, none⟩ = some (.int .i64 s.mode) := HSV4.out.blk.cell 4
  have s5 : v4.cell? ⟨w1.heap.size, 5, none⟩ = some (.int .i64 s.term) := HSV4.out.blk.cell 5
  obtain ⟨hat, hfr⟩ := HSV4.out.nodeAt' (setN_get HJK.out)
  have p0 : v4.cell? ⟨b, i * 5 + 3, none⟩ = some (.int .i64 n.version) := hat.c3
  have f0 : v4.frozen? ⟨b, i * 5 + 3, none⟩ = false := hfr (i * 5 + 3)
  clear hat hfr
  have hs := HSV4.out.setN' (n' := { n with up := true, version := a2 }) (setN_get HJK.out) 3 (by omega) (.int .i64 a2) rfl
  obtain ⟨v5, hw⟩ : ∃ W, W = v4.setCell ⟨b, i * 5 + 3, none⟩ (.int .i64 a2) := ⟨_, rfl⟩
  rw [← hw] at hs
  have HSV5 := Lib.hid hs.1
  have HCV5 : Hid (Chg F w3 v5) := Lib.hid (Chg.trans HCV4.out hs.2 (fun _ _ h => h))
  clear hs
  go_upto_region 70 with (fail)
  rw [← hw]
  clear hw f0 o0 o1 o2 o3 s0 s1 s2 s3 s4 s5 p0
  have HSE := Lib.hid (show Sg F v5 w1.heap.size (.slice (some ⟨b, 0, none⟩) s.nodes.length c1) (.slice A2 s.jobs.length c2) S2 by rw [HS2.out]; exact (by have h := HSV5.out; rw [setN_setN] at h; exact h))
  have HCE : Hid (Chg F w3 v5) := Lib.hid HCV5.out
  have HQE := Lib.hid (HBX.out _ HCE.out)
  have m0 : v5.cell? ⟨w1.heap.size, 0, none⟩ = some (.slice (some ⟨b, 0, none⟩) s.nodes.length c1) := HSE.out.blk.cell 0
  have m1 : v5.cell? ⟨w1.heap.size, 1, none⟩ = some (.slice A2 s.jobs.length c2) := HSE.out.blk.cell 1
  have m2 : v5.cell? ⟨w1.heap.size, 2, none⟩ = some (.int .i64 S2.goal) := HSE.out.blk.cell 2
  have m3 : v5.cell? ⟨w1.heap.size, 3, none⟩ = some (.int .i64 S2.prior) := HSE.out.blk.cell 3
  have m4 : v5.cell? ⟨w1.heap.size, 4, none⟩ = some (.int .i64 S2.mode) := HSE.out.blk.cell 4
  have m5 : v5.cell? ⟨w1.heap.size, 5, none⟩ = some (.int .i64 S2.term) := HSE.out.blk.cell 5
  have r0 : v5.cell? ⟨w.heap.size + 3, 0, none⟩ = some (.slice none 0 0) := HQE.out.2.1.cell 0
  have g0 : v5.frozen? ⟨w.heap.size + 3, 0, none⟩ = false := HQE.out.2.1.frozen 0
  have r1 : v5.cell? ⟨w.heap.size + 3, 1, none⟩ = some (.slice none 0 0) := HQE.out.2.1.cell 1
  have g1 : v5.frozen? ⟨w.heap.size + 3, 1, none⟩ = false := HQE.out.2.1.frozen 1
  have r2 : v5.cell? ⟨w.heap.size + 3, 2, none⟩ = some (.int .i64 0) := HQE.out.2.1.cell 2
  have g2 : v5.frozen? ⟨w.heap.size + 3, 2, none⟩ = false := HQE.out.2.1.frozen 2
  have r3 : v5.cell? ⟨w.heap.size + 3, 3, none⟩ = some (.int .i64 0) := HQE.out.2.1.cell 3
  have g3 : v5.frozen? ⟨w.heap.size + 3, 3, none⟩ = false := HQE.out.2.1.frozen 3
  have r4 : v5.cell? ⟨w.heap.size + 3, 4, none⟩ = some (.int .i64 0) := HQE.out.2.1.cell 4
  have g4 : v5.frozen? ⟨w.heap.size + 3, 4, none⟩ = false := HQE.out.2.1.frozen 4
  have r5 : v5.cell? ⟨w.heap.size + 3, 5, none⟩ = some (.int .i64 0) := HQE.out.2.1.cell 5
  have g5 : v5.frozen? ⟨w.heap.size + 3, 5, none⟩ = false := HQE.out.2.1.frozen 5
  go_wp2
  have hq := (((((PB.start HQE.out.2.1).set 0 (.slice (some ⟨b, 0, none⟩) s.nodes.length c1)).set 1 (.slice A2 s.jobs.length c2)).set 2 (.int .i64 S2.goal)).set 3 (.int .i64 S2.prior)).set 4 (.int .i64 S2.mode)
  replace hq := hq.set 5 (.int .i64 S2.term)
  simp only [List.setIfInBounds_toArray, List.set_cons_zero, List.set_cons_succ] at hq
  obtain ⟨wf, hwf⟩ : ∃ W, W = ((((((v5.setCell ⟨w.heap.size + 3, 0, none⟩ (.slice (some ⟨b, 0, none⟩) s.nodes.length c1)).setCell ⟨w.heap.size + 3, 1, none⟩ (.slice A2 s.jobs.length c2)).setCell ⟨w.heap.size + 3, 2, none⟩ (.int .i64 S2.goal)).setCell ⟨w.heap.size + 3, 3, none⟩ (.int .i64 S2.prior)).setCell ⟨w.heap.size + 3, 4, none⟩ (.int .i64 S2.mode)).setCell ⟨w.heap.size + 3, 5, none⟩ (.int .i64 S2.term)) := ⟨_, rfl⟩
  rw [← hwf] at hq
  have hc1 : Chg (fun x => x = w.heap.size + 3) v5 wf := hq.chg
  have hsf : Sg F wf w1.heap.size (.slice (some ⟨b, 0, none⟩) s.nodes.length c1) (.slice A2 s.jobs.length c2) S2 := ObjF.chg HSE.out hc1 (fun x hx e => by have := HF4.out x hx; have e : x = w.heap.size + 3 := e; omega)
  have hxf := hq.below _ _ HQE.out.2.2 (by omega)
  rw [hwf] at hq hsf hxf
  exact bodyPost_ret (results_cell_tmp_row rfl _ _ (w.heap.size + 3) 30 _ (0, 0) _ rfl hq.blk rfl rfl (by kernel_rfl)) rfl ⟨.slice (some ⟨b, 0, none⟩) s.nodes.length c1, .slice A2 s.jobs.length c2, rfl, hsf.rd, hxf, hsf.own4 HF4.out⟩

end Go.Proofs.YtbfjlhddebollaaDoor
