/- Texts that the proof of F rests on, one behind the other. -/
import Derived.Test.YtbfjlhddebollaaDoorFQ15

/- The reference of layer 9: Apply, kind 9. -/
namespace Go.Proofs.YtbfjlhddebollaaDoor
open Go.RowKit

set_option maxRecDepth 100000 in
set_option maxHeartbeats 4000000 in
theorem RefAp_9 (c : Cf) (vn vj : Value) (s : St) (a1 a2 a3 a4 a5 a6 : Int) (w : World) (h : RdSt w vn vj s) (hR : RightP c s) (hz : (applyS c s (9, a1, a2, a3, a4, a5, a6)).2 = 0) :
    Calls Tryd.prog 11 #[cfV c, stV vn vj s, .agg #[.int .i64 9, .int .i64 a1, .int .i64 a2, .int .i64 a3, .int .i64 a4, .int .i64 a5, .int .i64 a6]] w fun e w' => ∃ vn' vj', e = .returned (.tuple #[stV vn' vj' (applyS c s (9, a1, a2, a3, a4, a5, a6)).1, .int .i64 (applyS c s (9, a1, a2, a3, a4, a5, a6)).2]) ∧ RdSt w' vn' vj' (applyS c s (9, a1, a2, a3, a4, a5, a6)).1 ∧ Ext w w' ∧ ∀ k, vn'.ownBlock = some k ∨ vj'.ownBlock = some k → w.heap.size ≤ k := by
  have hR6 := hR.len.2
  have hj24 := hR.nj
  obtain ⟨k, j, ha, hjk, hz1, he1, hro⟩ := ok_job (by decide) (by decide) hz
  have he : (applyS c s (9, a1, a2, a3, a4, a5, a6)).1 = setJ (giveS s a2 a1) k { j with phase := 1, nodes := a2, inc := j.inc + 1 } := by
    rw [he1, ha]
    change (holdS s k j a2).2 = 0 at hz1
    change (holdS s k j a2).1 = _
    revert hz1
    unfold holdS
    repeat' split
    all_goals first | (intro; rfl) | (intro hz; cases hz)
  have HR6 := Lib.hid hR.len.2
  have hji := (hR.job k j hjk)
  have hwi : IntKind.i64.wrap (j.inc + 1) = j.inc + 1 := IntWalk.i64_in _ (by have := hji.i0; have := hji.i9; omega)
  have hwi' : wrap64 (j.inc + 1) = j.inc + 1 := IntWalk.wrap64_in _ (by have := hji.i0; have := hji.i9; omega)
  clear hji
  have HJK := Lib.hid hjk
  have hkl := (List.getElem?_eq_some_iff.1 hjk).1
  have x1 : (0 : Int) ≤ (k : Int) ∧ (k : Int) < (s.jobs.length : Int) := by omega
  have hwk : IntKind.i64.wrap (a1 - 1) = (k : Int) := by rw [ha, Int.add_sub_cancel]; exact IntWalk.i64_in _ (by omega)
  have hwk' : wrap64 (a1 - 1) = (k : Int) := by rw [ha, Int.add_sub_cancel]; exact IntWalk.wrap64_in _ (by omega)
  clear hjk hz1 he1 hro hkl ha
  obtain ⟨S2, hS2⟩ : ∃ S2, S2 = (applyS c s (9, a1, a2, a3, a4, a5, a6)).1 := ⟨_, rfl⟩
  obtain ⟨er, her⟩ : ∃ er, er = (applyS c s (9, a1, a2, a3, a4, a5, a6)).2 := ⟨_, rfl⟩
  rw [← hS2, ← her]
  have HS2 := Lib.hid (hS2.trans he)
  rw [← her] at hz
  subst hz
  have HCP := Lib.hid fun W (hx : Ext w W) => RefCopy_any vn vj s W (h.ext hx) (by omega) (by omega)
  have HWY : Hid (∀ W vn' vj', RdSt W vn' vj' s → Calls Tryd.prog 29 #[cfV c, stV vn' vj' s, .agg #[.int .i64 9, .int .i64 a1, .int .i64 a2, .int .i64 a3, .int .i64 a4, .int .i64 a5, .int .i64 a6]] W fun e w' => e = .returned (.int .i64 0) ∧ Ext W w') := Lib.hid fun W vn' vj' hr => (RefWhy_any c vn' vj' s (9, a1, a2, a3, a4, a5, a6) W hr hR).mono (by rintro e w' ⟨h1, h2⟩; rw [← her] at h1; exact ⟨h1, h2⟩)
  obtain ⟨An, cn, rfl, -, -⟩ := h.nodes.slice_
  obtain ⟨Aj, cj, rfl, -, -⟩ := h.jobs.slice_
  obtain ⟨W4, hW4, hx4, hb0, hb1, hb2, hb3, hs4⟩ := four_blocks w 23 30 36 30 #[.int .i64 c.nodes, .int .i64 c.queues, .int .i64 c.quota, .int .i64 c.wave, .int .i64 c.lease, .int .i64 c.retry, .int .i64 c.deadline, .int .i64 c.room, .int .i64 c.disk] #[.slice An s.nodes.length cn, .slice Aj s.jobs.length cj, .int .i64 s.goal, .int .i64 s.prior, .int .i64 s.mode, .int .i64 s.term] #[.int .i64 9, .int .i64 a1, .int .i64 a2, .int .i64 a3, .int .i64 a4, .int .i64 a5, .int .i64 a6] #[.slice none 0 0, .slice none 0 0, .int .i64 0, .int .i64 0, .int .i64 0, .int .i64 0]
  have HX4 := Lib.hid hx4
  have HB0 := Lib.hid hb0
  have HB1 := Lib.hid hb1
  have HB2 := Lib.hid hb2
  have HB3 := Lib.hid hb3
  have HS4 := Lib.hid hs4
  unfold stV at HCP
  unfold stV cfV at HWY
  unfold stV cfV
  clear hx4 hb0 hb1 hb2 hb3 hs4 h hS2 her he hR6 hj24
  go_enter Tryd.func11, Tryd.ntmps11
  go_wp2_with fail
  rw [← hW4]
  clear hW4
  refine (HCP.out _ HX4.out).mono ?_
  rintro e1 w1 ⟨vn1, vj1, rfl, ho, hx1⟩
  have HRD : RdSt w1 vn1 vj1 s := ⟨RdS.own ho.nodes, RdS.own ho.jobs⟩
  obtain ⟨A1, c1, rfl, -, -⟩ := HRD.nodes.slice_
  obtain ⟨A2, c2, rfl, -, -⟩ := HRD.jobs.slice_
  clear HRD
  obtain ⟨w2, hw2⟩ : ∃ W, W = w1.alloc (.cells #[.slice A1 s.nodes.length c1, .slice A2 s.jobs.length c2, .int .i64 s.goal, .int .i64 s.prior, .int .i64 s.mode, .int .i64 s.term] 30) := ⟨_, rfl⟩
  have hx2 : Ext w1 w2 := by rw [hw2]; exact Below.alloc (Ext.refl _) (Nat.le_refl _) _
  have hsz : w2.heap.size = w1.heap.size + 1 := by rw [hw2]; simp
  obtain ⟨F, hsg, hF4⟩ : ∃ F : Fp, Sg F w2 w1.heap.size (.slice A1 s.nodes.length c1) (.slice A2 s.jobs.length c2) s ∧ ∀ k, F k → w.heap.size + 4 ≤ k := ⟨fun k => W4.heap.size ≤ k ∧ k < w2.heap.size, Sg.make (w0 := W4) (base := W4.heap.size) (by rw [hw2]; exact Blk.new _ _ _) hx1.size ⟨by rw [hw2]; exact ho.nodes.alloc _, by rw [hw2]; exact ho.jobs.alloc _, ho.off⟩ (Nat.le_refl _) (fun k hk => by
    rcases hk with hk | hk
    · have := (ho.nodes.lt k hk).2
      omega
    · have := (ho.jobs.lt k hk).2
      omega), fun k hk => by have := HS4.out; omega⟩
  have HX2 := Lib.hid (Ext.trans (Ext.trans HX4.out hx1) hx2)
  have HF4 := Lib.hid hF4
  have HSG := Lib.hid hsg
  have HC0 := Lib.hid ((HB0.out.ext hx1).ext hx2)
  have HC2 := Lib.hid ((HB2.out.ext hx1).ext hx2)
  have HC3 := Lib.hid ((HB3.out.ext hx1).ext hx2)
  clear ho hx1 hx2 hsz hsg hF4 HB0 HB1 HB2 HB3 HS4 HX4 HCP
  go_upto_region 2 with (fail)
  rw [← hw2]
  clear hw2
  have k0 : w2.cell? ⟨w.heap.size, 0, none⟩ = some (.int .i64 c.nodes) := HC0.out.cell 0
  have k1 : w2.cell? ⟨w.heap.size, 1, none⟩ = some (.int .i64 c.queues) := HC0.out.cell 1
  have k2 : w2.cell? ⟨w.heap.size, 2, none⟩ = some (.int .i64 c.quota) := HC0.out.cell 2
  have k3 : w2.cell? ⟨w.heap.size, 3, none⟩ = some (.int .i64 c.wave) := HC0.out.cell 3
  have k4 : w2.cell? ⟨w.heap.size, 4, none⟩ = some (.int .i64 c.lease) := HC0.out.cell 4
  have k5 : w2.cell? ⟨w.heap.size, 5, none⟩ = some (.int .i64 c.retry) := HC0.out.cell 5
  have k6 : w2.cell? ⟨w.heap.size, 6, none⟩ = some (.int .i64 c.deadline) := HC0.out.cell 6
  have k7 : w2.cell? ⟨w.heap.size, 7, none⟩ = some (.int .i64 c.room) := HC0.out.cell 7
  have k8 : w2.cell? ⟨w.heap.size, 8, none⟩ = some (.int .i64 c.disk) := HC0.out.cell 8
  have o0 : w2.cell? ⟨w.heap.size + 2, 0, none⟩ = some (.int .i64 9) := HC2.out.cell 0
  have o1 : w2.cell? ⟨w.heap.size + 2, 1, none⟩ = some (.int .i64 a1) := HC2.out.cell 1
  have o2 : w2.cell? ⟨w.heap.size + 2, 2, none⟩ = some (.int .i64 a2) := HC2.out.cell 2
  have o3 : w2.cell? ⟨w.heap.size + 2, 3, none⟩ = some (.int .i64 a3) := HC2.out.cell 3
  have o4 : w2.cell? ⟨w.heap.size + 2, 4, none⟩ = some (.int .i64 a4) := HC2.out.cell 4
  have o5 : w2.cell? ⟨w.heap.size + 2, 5, none⟩ = some (.int .i64 a5) := HC2.out.cell 5
  have o6 : w2.cell? ⟨w.heap.size + 2, 6, none⟩ = some (.int .i64 a6) := HC2.out.cell 6
  have s0 : w2.cell? ⟨w1.heap.size, 0, none⟩ = some (.slice A1 s.nodes.length c1) := HSG.out.blk.cell 0
  have s1 : w2.cell? ⟨w1.heap.size, 1, none⟩ = some (.slice A2 s.jobs.length c2) := HSG.out.blk.cell 1
  have s2 : w2.cell? ⟨w1.heap.size, 2, none⟩ = some (.int .i64 s.goal) := HSG.out.blk.cell 2
  have s3 : w2.cell? ⟨w1.heap.size, 3, none⟩ = some (.int .i64 s.prior) := HSG.out.blk.cell 3
  have s4 : w2.cell? ⟨w1.heap.size, 4, none⟩ = some (.int .i64 s.mode) := HSG.out.blk.cell 4
  have s5 : w2.cell? ⟨w1.heap.size, 5, none⟩ = some (.int .i64 s.term) := HSG.out.blk.cell 5
  go_wp2_with fail
  refine (HWY.out _ _ _ HSG.out.rd).mono ?_
  rintro e3 w3 ⟨rfl, hx3⟩
  have HX3 := Lib.hid (HX2.out.trans hx3)
  have HSG3 := Lib.hid (HSG.out.ext hx3)
  have HO3 := Lib.hid (HC2.out.ext hx3)
  have HV3 := Lib.hid (HC3.out.ext hx3)
  have HBX : Hid (∀ W, Chg F w3 W → Blk W (w.heap.size + 2) 36 #[.int .i64 9, .int .i64 a1, .int .i64 a2, .int .i64 a3, .int .i64 a4, .int .i64 a5, .int .i64 a6] ∧ Blk W (w.heap.size + 3) 30 #[.slice none 0 0, .slice none 0 0, .int .i64 0, .int .i64 0, .int .i64 0, .int .i64 0] ∧ Ext w W) := Lib.hid fun W hc => ⟨(hc.block _ HO3.out.lt (fun hf => by have := HF4.out _ hf; omega)).trans HO3.out, (hc.block _ HV3.out.lt (fun hf => by have := HF4.out _ hf; omega)).trans HV3.out, hc.ext HX3.out (fun k hf => by have := HF4.out _ hf; omega)⟩
  clear hx3 HX2 HSG HC0 HC2 HC3 HWY k0 k1 k2 k3 k4 k5 k6 k7 k8 o0 o1 o2 o3 o4 o5 o6 s0 s1 s2 s3 s4 s5
  obtain ⟨b, cap, hv, -, -, -, -, -, -⟩ := HSG3.out.jobAt HJK.out
  injection hv with hA _ hC
  subst hA hC
  have o0 : w3.cell? ⟨w.heap.size + 2, 0, none⟩ = some (.int .i64 9) := (HBX.out _ (Chg.refl F w3)).1.cell 0
  have o1 : w3.cell? ⟨w.heap.size + 2, 1, none⟩ = some (.int .i64 a1) := (HBX.out _ (Chg.refl F w3)).1.cell 1
  have o2 : w3.cell? ⟨w.heap.size + 2, 2, none⟩ = some (.int .i64 a2) := (HBX.out _ (Chg.refl F w3)).1.cell 2
  have o3 : w3.cell? ⟨w.heap.size + 2, 3, none⟩ = some (.int .i64 a3) := (HBX.out _ (Chg.refl F w3)).1.cell 3
  have s0 : w3.cell? ⟨w1.heap.size, 0, none⟩ = some (.slice A1 s.nodes.length c1) := HSG3.out.blk.cell 0
  have s1 : w3.cell? ⟨w1.heap.size, 1, none⟩ = some (.slice (some ⟨b, 0, none⟩) s.jobs.length c2) := HSG3.out.blk.cell 1
  have s2 : w3.cell? ⟨w1.heap.size, 2, none⟩ = some (.int .i64 s.goal) := HSG3.out.blk.cell 2
  have s3 : w3.cell? ⟨w1.heap.size, 3, none⟩ = some (.int .i64 s.prior) := HSG3.out.blk.cell 3
  have s4 : w3.cell? ⟨w1.heap.size, 4, none⟩ = some (.int .i64 s.mode) := HSG3.out.blk.cell 4
  have s5 : w3.cell? ⟨w1.heap.size, 5, none⟩ = some (.int .i64 s.term) := HSG3.out.blk.cell 5
  obtain ⟨hat, hfr⟩ := HSG3.out.jobAt' HJK.out
  have p0 : w3.cell? ⟨b, k * 12 + 6, none⟩ = some (.int .i64 j.phase) := hat.c6
  have f0 := hfr (k * 12 + 6)
  clear hat hfr
  have hs := HSG3.out.setJ' (n' := { j with phase := 1 }) HJK.out 6 (by omega) (.int .i64 1) rfl
  obtain ⟨v4, hw⟩ : ∃ W, W = w3.setCell ⟨b, k * 12 + 6, none⟩ (.int .i64 1) := ⟨_, rfl⟩
  rw [← hw] at hs
  have HSV4 := Lib.hid hs.1
  have HCV4 : Hid (Chg F w3 v4) := Lib.hid (Chg.trans (Chg.refl F w3) hs.2 (fun _ _ h => h))
  clear hs
  go_upto_region 31 with (fail)
  rw [← hw]
  clear hw f0 o0 o1 o2 o3 s0 s1 s2 s3 s4 s5 p0
  have o0 : v4.cell? ⟨w.heap.size + 2, 0, none⟩ = some (.int .i64 9) := (HBX.out _ HCV4.out).1.cell 0
  have o1 : v4.cell? ⟨w.heap.size + 2, 1, none⟩ = some (.int .i64 a1) := (HBX.out _ HCV4.out).1.cell 1
  have o2 : v4.cell? ⟨w.heap.size + 2, 2, none⟩ = some (.int .i64 a2) := (HBX.out _ HCV4.out).1.cell 2
  have o3 : v4.cell? ⟨w.heap.size + 2, 3, none⟩ = some (.int .i64 a3) := (HBX.out _ HCV4.out).1.cell 3
  have s0 : v4.cell? ⟨w1.heap.size, 0, none⟩ = some (.slice A1 s.nodes.length c1) := HSV4.out.blk.cell 0
  have s1 : v4.cell? ⟨w1.heap.size, 1, none⟩ = some (.slice (some ⟨b, 0, none⟩) s.jobs.length c2) := HSV4.out.blk.cell 1
  have s2 : v4.cell? ⟨w1.heap.size, 2, none⟩ = some (.int .i64 s.goal) := HSV4.out.blk.cell 2
  have s3 : v4.cell? ⟨w1.heap.size, 3, none⟩ = some (.int .i64 s.prior) := HSV4.out.blk.cell 3
  have s4 : v4.cell? ⟨w1.heap.size, 4, none⟩ = some (.int .i64 s.mode) := HSV4.out.blk.cell 4
  have s5 : v4.cell? ⟨w1.heap.size, 5, none⟩ = some (.int .i64 s.term) := HSV4.out.blk.cell 5
  obtain ⟨hat, hfr⟩ := HSV4.out.jobAt' (setJ_get HJK.out)
  have p0 : v4.cell? ⟨b, k * 12 + 7, none⟩ = some (.int .i64 j.inc) := hat.c7
  have f0 := hfr (k * 12 + 7)
  clear hat hfr
  have hs := HSV4.out.setJ' (n' := { j with phase := 1, inc := j.inc + 1 }) (setJ_get HJK.out) 7 (by omega) (.int .i64 (j.inc + 1)) rfl
  obtain ⟨v5, hw⟩ : ∃ W, W = v4.setCell ⟨b, k * 12 + 7, none⟩ (.int .i64 (j.inc + 1)) := ⟨_, rfl⟩
  rw [← hw] at hs
  have HSV5 := Lib.hid hs.1
  have HCV5 : Hid (Chg F w3 v5) := Lib.hid (Chg.trans HCV4.out hs.2 (fun _ _ h => h))
  clear hs
  go_upto_region 32 with (fail)
  rw [← hw]
  clear hw f0 o0 o1 o2 o3 s0 s1 s2 s3 s4 s5 p0
  have o0 : v5.cell? ⟨w.heap.size + 2, 0, none⟩ = some (.int .i64 9) := (HBX.out _ HCV5.out).1.cell 0
  have o1 : v5.cell? ⟨w.heap.size + 2, 1, none⟩ = some (.int .i64 a1) := (HBX.out _ HCV5.out).1.cell 1
  have o2 : v5.cell? ⟨w.heap.size + 2, 2, none⟩ = some (.int .i64 a2) := (HBX.out _ HCV5.out).1.cell 2
  have o3 : v5.cell? ⟨w.heap.size + 2, 3, none⟩ = some (.int .i64 a3) := (HBX.out _ HCV5.out).1.cell 3
  have s0 : v5.cell? ⟨w1.heap.size, 0, none⟩ = some (.slice A1 s.nodes.length c1) := HSV5.out.blk.cell 0
  have s1 : v5.cell? ⟨w1.heap.size, 1, none⟩ = some (.slice (some ⟨b, 0, none⟩) s.jobs.length c2) := HSV5.out.blk.cell 1
  have s2 : v5.cell? ⟨w1.heap.size, 2, none⟩ = some (.int .i64 s.goal) := HSV5.out.blk.cell 2
  have s3 : v5.cell? ⟨w1.heap.size, 3, none⟩ = some (.int .i64 s.prior) := HSV5.out.blk.cell 3
  have s4 : v5.cell? ⟨w1.heap.size, 4, none⟩ = some (.int .i64 s.mode) := HSV5.out.blk.cell 4
  have s5 : v5.cell? ⟨w1.heap.size, 5, none⟩ = some (.int .i64 s.term) := HSV5.out.blk.cell 5
  obtain ⟨hat, hfr⟩ := HSV5.out.jobAt' (setJ_get (setJ_get HJK.out))
  have p0 : v5.cell? ⟨b, k * 12 + 8, none⟩ = some (.int .i64 j.nodes) := hat.c8
  have f0 := hfr (k * 12 + 8)
  clear hat hfr
  have hs := HSV5.out.setJ' (n' := { j with phase := 1, nodes := a2, inc := j.inc + 1 }) (setJ_get (setJ_get HJK.out)) 8 (by omega) (.int .i64 a2) rfl
  obtain ⟨v6, hw⟩ : ∃ W, W = v5.setCell ⟨b, k * 12 + 8, none⟩ (.int .i64 a2) := ⟨_, rfl⟩
  rw [← hw] at hs
  have HSV6 := Lib.hid hs.1
  have HCV6 : Hid (Chg F w3 v6) := Lib.hid (Chg.trans HCV5.out hs.2 (fun _ _ h => h))
  clear hs
  go_upto_region 33 with (fail)
  rw [← hw]
  clear hw f0 o0 o1 o2 o3 s0 s1 s2 s3 s4 s5 p0
  go_wp2_with fail
  go_loopg [10] s.nodes.length (fun gg i wr => ∃ (q : Nat), i = .int .i64 q ∧ q ≤ s.nodes.length ∧ gg = s.nodes.length - q ∧ Hid (Sg F wr w1.heap.size (.slice A1 s.nodes.length c1) (.slice (some ⟨b, 0, none⟩) s.jobs.length c2) { setJ s k { j with phase := 1, nodes := a2, inc := j.inc + 1 } with nodes := giveK s.nodes a2 a1 q } ∧ Chg F w3 wr))
  case atStart => exact ⟨0, rfl, Nat.zero_le _, by omega, Lib.hid ⟨by rw [giveK_zero]; exact (by have h := HSV6.out; rw [setJ_setJ, setJ_setJ] at h; exact h), HCV6.out⟩⟩
  case round =>
    obtain ⟨q, rfl, hq, rfl, HR⟩ := hrel
    have o1 : wr.cell? ⟨w.heap.size + 2, 1, none⟩ = some (.int .i64 a1) := (HBX.out _ HR.out.2).1.cell 1
    have o2 : wr.cell? ⟨w.heap.size + 2, 2, none⟩ = some (.int .i64 a2) := (HBX.out _ HR.out.2).1.cell 2
    by_cases hlt : q < s.nodes.length
    · have s0 : wr.cell? ⟨w1.heap.size, 0, none⟩ = some (.slice A1 s.nodes.length c1) := HR.out.1.blk.cell 0
      have d1 : decide ((q : Int) < (s.nodes.length : Int)) = true := decide_eq_true (by omega)
      have d1' : decide (q < s.nodes.length) = true := decide_eq_true hlt
      obtain ⟨n, hnk⟩ : ∃ n, s.nodes[q]? = some n := ⟨_, List.getElem?_eq_getElem hlt⟩
      have hl := giveK_len s.nodes a2 a1 q
      have hg1 := giveK_get (set := a2) (job := a1) hnk
      obtain ⟨bn, cap2, hv, hnc2, hcm2, hb, hbg, hat, hfr⟩ := HR.out.1.nodeAt (i := q) (n := n) hg1
      simp only [hl] at hv
      injection hv with hA _ hcap
      subst hA hcap
      have c4 := hat.c4
      have f4 := hfr (q * 5 + 4)
      have x2 : (0 : Int) ≤ (q : Int) ∧ (q : Int) < (s.nodes.length : Int) := by omega
      have HNK := Lib.hid hnk
      have HLT := Lib.hid hlt
      have HHQ := Lib.hid fun W => RefHas_any a2 q (by have := HR6.out; omega) W
      cases hs : hasS a2 q
      · have HR2 : Hid (Sg F wr w1.heap.size (.slice (some ⟨bn, 0, none⟩) s.nodes.length c1) (.slice (some ⟨b, 0, none⟩) s.jobs.length c2) { setJ s k { j with phase := 1, nodes := a2, inc := j.inc + 1 } with nodes := giveK s.nodes a2 a1 (q + 1) } ∧ Chg F w3 wr) := Lib.hid (by
          rw [giveK_skip hs]
          exact HR.out)
        have HHS := Lib.hid hs
        clear hat hfr hb hbg hg1 hl hnk hlt hs HR
        go_wp2_with fail
        refine (HHQ.out _).mono ?_
        rintro e7 w7 ⟨rfl, rfl⟩
        rw [HHS.out]
        go_wp2_with fail
        have h6 := HR6.out
        have hlt6 := HLT.out
        go_roundg (s.nodes.length - (q + 1))
        case measure => have := HLT.out; omega
        case rel => exact ⟨q + 1, by first | go_num | (rw [IntWalk.wrap64_in _ (by omega)]; first | rfl | simp), HLT.out, rfl, HR2⟩
      · have HS := HR.out.1.setN (b := bn) (cap := c1) (n' := { n with job := a1 }) hg1 (by simp only [hl]) 4 (by omega) (.int .i64 a1) rfl
        have HR2 : Hid (Sg F (wr.setCell ⟨bn, q * 5 + 4, none⟩ (.int .i64 a1)) w1.heap.size (.slice (some ⟨bn, 0, none⟩) s.nodes.length c1) (.slice (some ⟨b, 0, none⟩) s.jobs.length c2) { setJ s k { j with phase := 1, nodes := a2, inc := j.inc + 1 } with nodes := giveK s.nodes a2 a1 (q + 1) } ∧ Chg F w3 (wr.setCell ⟨bn, q * 5 + 4, none⟩ (.int .i64 a1))) := Lib.hid (by
          rw [← giveK_set HNK.out hs]
          exact ⟨HS.1, HR.out.2.trans HS.2 (fun _ _ h => h)⟩)
        have HHS := Lib.hid hs
        clear HS
        clear hat hfr hb hbg hg1 hl hnk hlt hs HR
        go_wp2_with fail
        refine (HHQ.out _).mono ?_
        rintro e7 w7 ⟨rfl, rfl⟩
        rw [HHS.out]
        go_wp2_with fail
        have h6 := HR6.out
        have hlt6 := HLT.out
        go_roundg (s.nodes.length - (q + 1))
        case measure => have := HLT.out; omega
        case rel => exact ⟨q + 1, by first | go_num | (rw [IntWalk.wrap64_in _ (by omega)]; first | rfl | simp), HLT.out, rfl, HR2⟩
    · have d1 : decide ((q : Int) < (s.nodes.length : Int)) = false := decide_eq_false (by omega)
      have d1' : decide (q < s.nodes.length) = false := decide_eq_false hlt
      obtain rfl : q = s.nodes.length := by omega
      have hsg := HR.out.1
      rw [giveK_all] at hsg
      have HSL : Hid (Sg F wr w1.heap.size (.slice A1 s.nodes.length c1) (.slice (some ⟨b, 0, none⟩) s.jobs.length c2) S2) := Lib.hid (by rw [HS2.out]; exact hsg)
      have HCL := Lib.hid HR.out.2
      clear hsg HR hlt hq
      have HSE := Lib.hid HSL.out
      have HCE : Hid (Chg F w3 wr) := Lib.hid HCL.out
      have HQE := Lib.hid (HBX.out _ HCE.out)
      have m0 : wr.cell? ⟨w1.heap.size, 0, none⟩ = some (.slice A1 s.nodes.length c1) := HSE.out.blk.cell 0
      have m1 : wr.cell? ⟨w1.heap.size, 1, none⟩ = some (.slice (some ⟨b, 0, none⟩) s.jobs.length c2) := HSE.out.blk.cell 1
      have m2 : wr.cell? ⟨w1.heap.size, 2, none⟩ = some (.int .i64 S2.goal) := HSE.out.blk.cell 2
      have m3 : wr.cell? ⟨w1.heap.size, 3, none⟩ = some (.int .i64 S2.prior) := HSE.out.blk.cell 3
      have m4 : wr.cell? ⟨w1.heap.size, 4, none⟩ = some (.int .i64 S2.mode) := HSE.out.blk.cell 4
      have m5 : wr.cell? ⟨w1.heap.size, 5, none⟩ = some (.int .i64 S2.term) := HSE.out.blk.cell 5
      have r0 : wr.cell? ⟨w.heap.size + 3, 0, none⟩ = some (.slice none 0 0) := HQE.out.2.1.cell 0
      have g0 : wr.frozen? ⟨w.heap.size + 3, 0, none⟩ = false := HQE.out.2.1.frozen 0
      have r1 : wr.cell? ⟨w.heap.size + 3, 1, none⟩ = some (.slice none 0 0) := HQE.out.2.1.cell 1
      have g1 : wr.frozen? ⟨w.heap.size + 3, 1, none⟩ = false := HQE.out.2.1.frozen 1
      have r2 : wr.cell? ⟨w.heap.size + 3, 2, none⟩ = some (.int .i64 0) := HQE.out.2.1.cell 2
      have g2 : wr.frozen? ⟨w.heap.size + 3, 2, none⟩ = false := HQE.out.2.1.frozen 2
      have r3 : wr.cell? ⟨w.heap.size + 3, 3, none⟩ = some (.int .i64 0) := HQE.out.2.1.cell 3
      have g3 : wr.frozen? ⟨w.heap.size + 3, 3, none⟩ = false := HQE.out.2.1.frozen 3
      have r4 : wr.cell? ⟨w.heap.size + 3, 4, none⟩ = some (.int .i64 0) := HQE.out.2.1.cell 4
      have g4 : wr.frozen? ⟨w.heap.size + 3, 4, none⟩ = false := HQE.out.2.1.frozen 4
      have r5 : wr.cell? ⟨w.heap.size + 3, 5, none⟩ = some (.int .i64 0) := HQE.out.2.1.cell 5
      have g5 : wr.frozen? ⟨w.heap.size + 3, 5, none⟩ = false := HQE.out.2.1.frozen 5
      go_wp2
      have hq := (((((PB.start HQE.out.2.1).set 0 (.slice A1 s.nodes.length c1)).set 1 (.slice (some ⟨b, 0, none⟩) s.jobs.length c2)).set 2 (.int .i64 S2.goal)).set 3 (.int .i64 S2.prior)).set 4 (.int .i64 S2.mode)
      replace hq := hq.set 5 (.int .i64 S2.term)
      simp only [List.setIfInBounds_toArray, List.set_cons_zero, List.set_cons_succ] at hq
      obtain ⟨wf, hwf⟩ : ∃ W, W = ((((((wr.setCell ⟨w.heap.size + 3, 0, none⟩ (.slice A1 s.nodes.length c1)).setCell ⟨w.heap.size + 3, 1, none⟩ (.slice (some ⟨b, 0, none⟩) s.jobs.length c2)).setCell ⟨w.heap.size + 3, 2, none⟩ (.int .i64 S2.goal)).setCell ⟨w.heap.size + 3, 3, none⟩ (.int .i64 S2.prior)).setCell ⟨w.heap.size + 3, 4, none⟩ (.int .i64 S2.mode)).setCell ⟨w.heap.size + 3, 5, none⟩ (.int .i64 S2.term)) := ⟨_, rfl⟩
      rw [← hwf] at hq
      have hc1 : Chg (fun x => x = w.heap.size + 3) wr wf := hq.chg
      have hsf : Sg F wf w1.heap.size (.slice A1 s.nodes.length c1) (.slice (some ⟨b, 0, none⟩) s.jobs.length c2) S2 := ObjF.chg HSE.out hc1 (fun x hx e => by have := HF4.out x hx; have e : x = w.heap.size + 3 := e; omega)
      have hxf := hq.below _ _ HQE.out.2.2 (by omega)
      rw [hwf] at hq hsf hxf
      exact bodyPost_ret (results_cell_tmp_row rfl _ _ (w.heap.size + 3) 30 _ (0, 0) _ rfl hq.blk rfl rfl (by kernel_rfl)) rfl ⟨.slice A1 s.nodes.length c1, .slice (some ⟨b, 0, none⟩) s.jobs.length c2, rfl, hsf.rd, hxf, hsf.own4 HF4.out⟩

end Go.Proofs.YtbfjlhddebollaaDoor

/- The reference of layer 9: Apply, kind 10. -/
namespace Go.Proofs.YtbfjlhddebollaaDoor
open Go.RowKit

set_option maxRecDepth 100000 in
set_option maxHeartbeats 4000000 in
theorem RefAp_10 (c : Cf) (vn vj : Value) (s : St) (a1 a2 a3 a4 a5 a6 : Int) (w : World) (h : RdSt w vn vj s) (hR : RightP c s) (hz : (applyS c s (10, a1, a2, a3, a4, a5, a6)).2 = 0) :
    Calls Tryd.prog 11 #[cfV c, stV vn vj s, .agg #[.int .i64 10, .int .i64 a1, .int .i64 a2, .int .i64 a3, .int .i64 a4, .int .i64 a5, .int .i64 a6]] w fun e w' => ∃ vn' vj', e = .returned (.tuple #[stV vn' vj' (applyS c s (10, a1, a2, a3, a4, a5, a6)).1, .int .i64 (applyS c s (10, a1, a2, a3, a4, a5, a6)).2]) ∧ RdSt w' vn' vj' (applyS c s (10, a1, a2, a3, a4, a5, a6)).1 ∧ Ext w w' ∧ ∀ k, vn'.ownBlock = some k ∨ vj'.ownBlock = some k → w.heap.size ≤ k := by
  have hR6 := hR.len.2
  have hj24 := hR.nj
  obtain ⟨k, j, ha, hjk, hz1, he1, hro⟩ := ok_job (by decide) (by decide) hz
  have he : (applyS c s (10, a1, a2, a3, a4, a5, a6)).1 = setJ s k { j with phase := 2, since := a2 } := by
    rw [he1]
    change (startS s k j a2).2 = 0 at hz1
    change (startS s k j a2).1 = _
    revert hz1
    unfold startS
    repeat' split
    all_goals first | (intro; rfl) | (intro hz; cases hz)
  have HJK := Lib.hid hjk
  have hkl := (List.getElem?_eq_some_iff.1 hjk).1
  have x1 : (0 : Int) ≤ (k : Int) ∧ (k : Int) < (s.jobs.length : Int) := by omega
  have hwk : IntKind.i64.wrap (a1 - 1) = (k : Int) := by rw [ha, Int.add_sub_cancel]; exact IntWalk.i64_in _ (by omega)
  have hwk' : wrap64 (a1 - 1) = (k : Int) := by rw [ha, Int.add_sub_cancel]; exact IntWalk.wrap64_in _ (by omega)
  clear hjk hz1 he1 hro hkl ha
  obtain ⟨S2, hS2⟩ : ∃ S2, S2 = (applyS c s (10, a1, a2, a3, a4, a5, a6)).1 := ⟨_, rfl⟩
  obtain ⟨er, her⟩ : ∃ er, er = (applyS c s (10, a1, a2, a3, a4, a5, a6)).2 := ⟨_, rfl⟩
  rw [← hS2, ← her]
  have HS2 := Lib.hid (hS2.trans he)
  rw [← her] at hz
  subst hz
  have HCP := Lib.hid fun W (hx : Ext w W) => RefCopy_any vn vj s W (h.ext hx) (by omega) (by omega)
  have HWY : Hid (∀ W vn' vj', RdSt W vn' vj' s → Calls Tryd.prog 29 #[cfV c, stV vn' vj' s, .agg #[.int .i64 10, .int .i64 a1, .int .i64 a2, .int .i64 a3, .int .i64 a4, .int .i64 a5, .int .i64 a6]] W fun e w' => e = .returned (.int .i64 0) ∧ Ext W w') := Lib.hid fun W vn' vj' hr => (RefWhy_any c vn' vj' s (10, a1, a2, a3, a4, a5, a6) W hr hR).mono (by rintro e w' ⟨h1, h2⟩; rw [← her] at h1; exact ⟨h1, h2⟩)
  obtain ⟨An, cn, rfl, -, -⟩ := h.nodes.slice_
  obtain ⟨Aj, cj, rfl, -, -⟩ := h.jobs.slice_
  obtain ⟨W4, hW4, hx4, hb0, hb1, hb2, hb3, hs4⟩ := four_blocks w 23 30 36 30 #[.int .i64 c.nodes, .int .i64 c.queues, .int .i64 c.quota, .int .i64 c.wave, .int .i64 c.lease, .int .i64 c.retry, .int .i64 c.deadline, .int .i64 c.room, .int .i64 c.disk] #[.slice An s.nodes.length cn, .slice Aj s.jobs.length cj, .int .i64 s.goal, .int .i64 s.prior, .int .i64 s.mode, .int .i64 s.term] #[.int .i64 10, .int .i64 a1, .int .i64 a2, .int .i64 a3, .int .i64 a4, .int .i64 a5, .int .i64 a6] #[.slice none 0 0, .slice none 0 0, .int .i64 0, .int .i64 0, .int .i64 0, .int .i64 0]
  have HX4 := Lib.hid hx4
  have HB0 := Lib.hid hb0
  have HB1 := Lib.hid hb1
  have HB2 := Lib.hid hb2
  have HB3 := Lib.hid hb3
  have HS4 := Lib.hid hs4
  unfold stV at HCP
  unfold stV cfV at HWY
  unfold stV cfV
  clear hx4 hb0 hb1 hb2 hb3 hs4 h hS2 her he hR6 hj24
  go_enter Tryd.func11, Tryd.ntmps11
  go_wp2_with fail
  rw [← hW4]
  clear hW4
  refine (HCP.out _ HX4.out).mono ?_
  rintro e1 w1 ⟨vn1, vj1, rfl, ho, hx1⟩
  have HRD : RdSt w1 vn1 vj1 s := ⟨RdS.own ho.nodes, RdS.own ho.jobs⟩
  obtain ⟨A1, c1, rfl, -, -⟩ := HRD.nodes.slice_
  obtain ⟨A2, c2, rfl, -, -⟩ := HRD.jobs.slice_
  clear HRD
  obtain ⟨w2, hw2⟩ : ∃ W, W = w1.alloc (.cells #[.slice A1 s.nodes.length c1, .slice A2 s.jobs.length c2, .int .i64 s.goal, .int .i64 s.prior, .int .i64 s.mode, .int .i64 s.term] 30) := ⟨_, rfl⟩
  have hx2 : Ext w1 w2 := by rw [hw2]; exact Below.alloc (Ext.refl _) (Nat.le_refl _) _
  have hsz : w2.heap.size = w1.heap.size + 1 := by rw [hw2]; simp
  obtain ⟨F, hsg, hF4⟩ : ∃ F : Fp, Sg F w2 w1.heap.size (.slice A1 s.nodes.length c1) (.slice A2 s.jobs.length c2) s ∧ ∀ k, F k → w.heap.size + 4 ≤ k := ⟨fun k => W4.heap.size ≤ k ∧ k < w2.heap.size, Sg.make (w0 := W4) (base := W4.heap.size) (by rw [hw2]; exact Blk.new _ _ _) hx1.size ⟨by rw [hw2]; exact ho.nodes.alloc _, by rw [hw2]; exact ho.jobs.alloc _, ho.off⟩ (Nat.le_refl _) (fun k hk => by
    rcases hk with hk | hk
    · have := (ho.nodes.lt k hk).2
      omega
    · have := (ho.jobs.lt k hk).2
      omega), fun k hk => by have := HS4.out; omega⟩
  have HX2 := Lib.hid (Ext.trans (Ext.trans HX4.out hx1) hx2)
  have HF4 := Lib.hid hF4
  have HSG := Lib.hid hsg
  have HC0 := Lib.hid ((HB0.out.ext hx1).ext hx2)
  have HC2 := Lib.hid ((HB2.out.ext hx1).ext hx2)
  have HC3 := Lib.hid ((HB3.out.ext hx1).ext hx2)
  clear ho hx1 hx2 hsz hsg hF4 HB0 HB1 HB2 HB3 HS4 HX4 HCP
  go_upto_region 2 with (fail)
  rw [← hw2]
  clear hw2
  have k0 : w2.cell? ⟨w.heap.size, 0, none⟩ = some (.int .i64 c.nodes) := HC0.out.cell 0
  have k1 : w2.cell? ⟨w.heap.size, 1, none⟩ = some (.int .i64 c.queues) := HC0.out.cell 1
  have k2 : w2.cell? ⟨w.heap.size, 2, none⟩ = some (.int .i64 c.quota) := HC0.out.cell 2
  have k3 : w2.cell? ⟨w.heap.size, 3, none⟩ = some (.int .i64 c.wave) := HC0.out.cell 3
  have k4 : w2.cell? ⟨w.heap.size, 4, none⟩ = some (.int .i64 c.lease) := HC0.out.cell 4
  have k5 : w2.cell? ⟨w.heap.size, 5, none⟩ = some (.int .i64 c.retry) := HC0.out.cell 5
  have k6 : w2.cell? ⟨w.heap.size, 6, none⟩ = some (.int .i64 c.deadline) := HC0.out.cell 6
  have k7 : w2.cell? ⟨w.heap.size, 7, none⟩ = some (.int .i64 c.room) := HC0.out.cell 7
  have k8 : w2.cell? ⟨w.heap.size, 8, none⟩ = some (.int .i64 c.disk) := HC0.out.cell 8
  have o0 : w2.cell? ⟨w.heap.size + 2, 0, none⟩ = some (.int .i64 10) := HC2.out.cell 0
  have o1 : w2.cell? ⟨w.heap.size + 2, 1, none⟩ = some (.int .i64 a1) := HC2.out.cell 1
  have o2 : w2.cell? ⟨w.heap.size + 2, 2, none⟩ = some (.int .i64 a2) := HC2.out.cell 2
  have o3 : w2.cell? ⟨w.heap.size + 2, 3, none⟩ = some (.int .i64 a3) := HC2.out.cell 3
  have o4 : w2.cell? ⟨w.heap.size + 2, 4, none⟩ = some (.int .i64 a4) := HC2.out.cell 4
  have o5 : w2.cell? ⟨w.heap.size + 2, 5, none⟩ = some (.int .i64 a5) := HC2.out.cell 5
  have o6 : w2.cell? ⟨w.heap.size + 2, 6, none⟩ = some (.int .i64 a6) := HC2.out.cell 6
  have s0 : w2.cell? ⟨w1.heap.size, 0, none⟩ = some (.slice A1 s.nodes.length c1) := HSG.out.blk.cell 0
  have s1 : w2.cell? ⟨w1.heap.size, 1, none⟩ = some (.slice A2 s.jobs.length c2) := HSG.out.blk.cell 1
  have s2 : w2.cell? ⟨w1.heap.size, 2, none⟩ = some (.int .i64 s.goal) := HSG.out.blk.cell 2
  have s3 : w2.cell? ⟨w1.heap.size, 3, none⟩ = some (.int .i64 s.prior) := HSG.out.blk.cell 3
  have s4 : w2.cell? ⟨w1.heap.size, 4, none⟩ = some (.int .i64 s.mode) := HSG.out.blk.cell 4
  have s5 : w2.cell? ⟨w1.heap.size, 5, none⟩ = some (.int .i64 s.term) := HSG.out.blk.cell 5
  go_wp2_with fail
  refine (HWY.out _ _ _ HSG.out.rd).mono ?_
  rintro e3 w3 ⟨rfl, hx3⟩
  have HX3 := Lib.hid (HX2.out.trans hx3)
  have HSG3 := Lib.hid (HSG.out.ext hx3)
  have HO3 := Lib.hid (HC2.out.ext hx3)
  have HV3 := Lib.hid (HC3.out.ext hx3)
  have HBX : Hid (∀ W, Chg F w3 W → Blk W (w.heap.size + 2) 36 #[.int .i64 10, .int .i64 a1, .int .i64 a2, .int .i64 a3, .int .i64 a4, .int .i64 a5, .int .i64 a6] ∧ Blk W (w.heap.size + 3) 30 #[.slice none 0 0, .slice none 0 0, .int .i64 0, .int .i64 0, .int .i64 0, .int .i64 0] ∧ Ext w W) := Lib.hid fun W hc => ⟨(hc.block _ HO3.out.lt (fun hf => by have := HF4.out _ hf; omega)).trans HO3.out, (hc.block _ HV3.out.lt (fun hf => by have := HF4.out _ hf; omega)).trans HV3.out, hc.ext HX3.out (fun k hf => by have := HF4.out _ hf; omega)⟩
  clear hx3 HX2 HSG HC0 HC2 HC3 HWY k0 k1 k2 k3 k4 k5 k6 k7 k8 o0 o1 o2 o3 o4 o5 o6 s0 s1 s2 s3 s4 s5
  obtain ⟨b, cap, hv, -, -, -, -, -, -⟩ := HSG3.out.jobAt HJK.out
  injection hv with hA _ hC
  subst hA hC
  have o0 : w3.cell? ⟨w.heap.size + 2, 0, none⟩ = some (.int .i64 10) := (HBX.out _ (Chg.refl F w3)).1.cell 0
  have o1 : w3.cell? ⟨w.heap.size + 2, 1, none⟩ = some (.int .i64 a1) := (HBX.out _ (Chg.refl F w3)).1.cell 1
  have o2 : w3.cell? ⟨w.heap.size + 2, 2, none⟩ = some (.int .i64 a2) := (HBX.out _ (Chg.refl F w3)).1.cell 2
  have o3 : w3.cell? ⟨w.heap.size + 2, 3, none⟩ = some (.int .i64 a3) := (HBX.out _ (Chg.refl F w3)).1.cell 3
  have s0 : w3.cell? ⟨w1.heap.size, 0, none⟩ = some (.slice A1 s.nodes.length c1) := HSG3.out.blk.cell 0
  have s1 : w3.cell? ⟨w1.heap.size, 1, none⟩ = some (.slice (some ⟨b, 0, none⟩) s.jobs.length c2) := HSG3.out.blk.cell 1
  have s2 : w3.cell? ⟨w1.heap.size, 2, none⟩ = some (.int .i64 s.goal) := HSG3.out.blk.cell 2
  have s3 : w3.cell? ⟨w1.heap.size, 3, none⟩ = some (.int .i64 s.prior) := HSG3.out.blk.cell 3
  have s4 : w3.cell? ⟨w1.heap.size, 4, none⟩ = some (.int .i64 s.mode) := HSG3.out.blk.cell 4
  have s5 : w3.cell? ⟨w1.heap.size, 5, none⟩ = some (.int .i64 s.term) := HSG3.out.blk.cell 5
  obtain ⟨hat, hfr⟩ := HSG3.out.jobAt' HJK.out
  have p0 : w3.cell? ⟨b, k * 12 + 6, none⟩ = some (.int .i64 j.phase) := hat.c6
  have f0 := hfr (k * 12 + 6)
  clear hat hfr
  have hs := HSG3.out.setJ' (n' := { j with phase := 2 }) HJK.out 6 (by omega) (.int .i64 2) rfl
  obtain ⟨v4, hw⟩ : ∃ W, W = w3.setCell ⟨b, k * 12 + 6, none⟩ (.int .i64 2) := ⟨_, rfl⟩
  rw [← hw] at hs
  have HSV4 := Lib.hid hs.1
  have HCV4 : Hid (Chg F w3 v4) := Lib.hid (Chg.trans (Chg.refl F w3) hs.2 (fun _ _ h => h))
  clear hs
  go_upto_region 40 with (fail)
  rw [← hw]
  clear hw f0 o0 o1 o2 o3 s0 s1 s2 s3 s4 s5 p0
  have o0 : v4.cell? ⟨w.heap.size + 2, 0, none⟩ = some (.int .i64 10) := (HBX.out _ HCV4.out).1.cell 0
  have o1 : v4.cell? ⟨w.heap.size + 2, 1, none⟩ = some (.int .i64 a1) := (HBX.out _ HCV4.out).1.cell 1
  have o2 : v4.cell? ⟨w.heap.size + 2, 2, none⟩ = some (.int .i64 a2) := (HBX.out _ HCV4.out).1.cell 2
  have o3 : v4.cell? ⟨w.heap.size + 2, 3, none⟩ = some (.int .i64 a3) := (HBX.out _ HCV4.out).1.cell 3
  have s0 : v4.cell? ⟨w1.heap.size, 0, none⟩ = some (.slice A1 s.nodes.length c1) := HSV4.out.blk.cell 0
  have s1 : v4.cell? ⟨w1.heap.size, 1, none⟩ = some (.slice (some ⟨b, 0, none⟩) s.jobs.length c2) := HSV4.out.blk.cell 1
  have s2 : v4.cell? ⟨w1.heap.size, 2, none⟩ = some (.int .i64 s.goal) := HSV4.out.blk.cell 2
  have s3 : v4.cell? ⟨w1.heap.size, 3, none⟩ = some (.int .i64 s.prior) := HSV4.out.blk.cell 3
  have s4 : v4.cell? ⟨w1.heap.size, 4, none⟩ = some (.int .i64 s.mode) := HSV4.out.blk.cell 4
  have s5 : v4.cell? ⟨w1.heap.size, 5, none⟩ = some (.int .i64 s.term) := HSV4.out.blk.cell 5
  obtain ⟨hat, hfr⟩ := HSV4.out.jobAt' (setJ_get HJK.out)
  have p0 : v4.cell? ⟨b, k * 12 + 9, none⟩ = some (.int .i64 j.since) := hat.c9
  have f0 := hfr (k * 12 + 9)
  clear hat hfr
  have hs := HSV4.out.setJ' (n' := { j with phase := 2, since := a2 }) (setJ_get HJK.out) 9 (by omega) (.int .i64 a2) rfl
  obtain ⟨v5, hw⟩ : ∃ W, W = v4.setCell ⟨b, k * 12 + 9, none⟩ (.int .i64 a2) := ⟨_, rfl⟩
  rw [← hw] at hs
  have HSV5 := Lib.hid hs.1
  have HCV5 : Hid (Chg F w3 v5) := Lib.hid (Chg.trans HCV4.out hs.2 (fun _ _ h => h))
  clear hs
  go_upto_region 70 with (fail)
  rw [← hw]
  clear hw f0 o0 o1 o2 o3 s0 s1 s2 s3 s4 s5 p0
  have HSE := Lib.hid (show Sg F v5 w1.heap.size (.slice A1 s.nodes.length c1) (.slice (some ⟨b, 0, none⟩) s.jobs.length c2) S2 by rw [HS2.out]; exact (by have h := HSV5.out; rw [setJ_setJ] at h; exact h))
  have HCE : Hid (Chg F w3 v5) := Lib.hid HCV5.out
  have HQE := Lib.hid (HBX.out _ HCE.out)
  have m0 : v5.cell? ⟨w1.heap.size, 0, none⟩ = some (.slice A1 s.nodes.length c1) := HSE.out.blk.cell 0
  have m1 : v5.cell? ⟨w1.heap.size, 1, none⟩ = some (.slice (some ⟨b, 0, none⟩) s.jobs.length c2) := HSE.out.blk.cell 1
  have m2 : v5.cell? ⟨w1.heap.size, 2, none⟩ = some (.int .i64 S2.goal) := HSE.out.blk.cell 2
  have m3 : v5.cell? ⟨w1.heap.size, 3, none⟩ = some (.int .i64 S2.prior) := HSE.out.blk.cell 3
  have m4 : v5.cell? ⟨w1.heap.size, 4, none⟩ = some (.int .i64 S2.mode) := HSE.out.blk.cell 4
  have m5 : v5.cell? ⟨w1.heap.size, 5, none⟩ = some (.int .i64 S2.term) := HSE.out.blk.cell 5
  have r0 : v5.cell? ⟨w.heap.size + 3, 0, none⟩ = some (.slice none 0 0) := HQE.out.2.1.cell 0
  have g0 : v5.frozen? ⟨w.heap.size + 3, 0, none⟩ = false := HQE.out.2.1.frozen 0
  have r1 : v5.cell? ⟨w.heap.size + 3, 1, none⟩ = some (.slice none 0 0) := HQE.out.2.1.cell 1
  have g1 : v5.frozen? ⟨w.heap.size + 3, 1, none⟩ = false := HQE.out.2.1.frozen 1
  have r2 : v5.cell? ⟨w.heap.size + 3, 2, none⟩ = some (.int .i64 0) := HQE.out.2.1.cell 2
  have g2 : v5.frozen? ⟨w.heap.size + 3, 2, none⟩ = false := HQE.out.2.1.frozen 2
  have r3 : v5.cell? ⟨w.heap.size + 3, 3, none⟩ = some (.int .i64 0) := HQE.out.2.1.cell 3
  have g3 : v5.frozen? ⟨w.heap.size + 3, 3, none⟩ = false := HQE.out.2.1.frozen 3
  have r4 : v5.cell? ⟨w.heap.size + 3, 4, none⟩ = some (.int .i64 0) := HQE.out.2.1.cell 4
  have g4 : v5.frozen? ⟨w.heap.size + 3, 4, none⟩ = false := HQE.out.2.1.frozen 4
  have r5 : v5.cell? ⟨w.heap.size + 3, 5, none⟩ = some (.int .i64 0) := HQE.out.2.1.cell 5
  have g5 : v5.frozen? ⟨w.heap.size + 3, 5, none⟩ = false := HQE.out.2.1.frozen 5
  go_wp2
  have hq := (((((PB.start HQE.out.2.1).set 0 (.slice A1 s.nodes.length c1)).set 1 (.slice (some ⟨b, 0, none⟩) s.jobs.length c2)).set 2 (.int .i64 S2.goal)).set 3 (.int .i64 S2.prior)).set 4 (.int .i64 S2.mode)
  replace hq := hq.set 5 (.int .i64 S2.term)
  simp only [List.setIfInBounds_toArray, List.set_cons_zero, List.set_cons_succ] at hq
  obtain ⟨wf, hwf⟩ : ∃ W, W = ((((((v5.setCell ⟨w.heap.size + 3, 0, none⟩ (.slice A1 s.nodes.length c1)).setCell ⟨w.heap.size + 3, 1, none⟩ (.slice (some ⟨b, 0, none⟩) s.jobs.length c2)).setCell ⟨w.heap.size + 3, 2, none⟩ (.int .i64 S2.goal)).setCell ⟨w.heap.size + 3, 3, none⟩ (.int .i64 S2.prior)).setCell ⟨w.heap.size + 3, 4, none⟩ (.int .i64 S2.mode)).setCell ⟨w.heap.size + 3, 5, none⟩ (.int .i64 S2.term)) := ⟨_, rfl⟩
  rw [← hwf] at hq
  have hc1 : Chg (fun x => x = w.heap.size + 3) v5 wf := hq.chg
  have hsf : Sg F wf w1.heap.size (.slice A1 s.nodes.length c1) (.slice (some ⟨b, 0, none⟩) s.jobs.length c2) S2 := ObjF.chg HSE.out hc1 (fun x hx e => by have := HF4.out x hx; have e : x = w.heap.size + 3 := e; omega)
  have hxf := hq.below _ _ HQE.out.2.2 (by omega)
  rw [hwf] at hq hsf hxf
  exact bodyPost_ret (results_cell_tmp_row rfl _ _ (w.heap.size + 3) 30 _ (0, 0) _ rfl hq.blk rfl rfl (by kernel_rfl)) rfl ⟨.slice A1 s.nodes.length c1, .slice (some ⟨b, 0, none⟩) s.jobs.length c2, rfl, hsf.rd, hxf, hsf.own4 HF4.out⟩

end Go.Proofs.YtbfjlhddebollaaDoor

/- The reference of layer 9: Apply, kind 11. -/
namespace Go.Proofs.YtbfjlhddebollaaDoor
open Go.RowKit

set_option maxRecDepth 100000 in
set_option maxHeartbeats 4000000 in
theorem RefAp_11 (c : Cf) (vn vj : Value) (s : St) (a1 a2 a3 a4 a5 a6 : Int) (w : World) (h : RdSt w vn vj s) (hR : RightP c s) (hz : (applyS c s (11, a1, a2, a3, a4, a5, a6)).2 = 0) :
    Calls Tryd.prog 11 #[cfV c, stV vn vj s, .agg #[.int .i64 11, .int .i64 a1, .int .i64 a2, .int .i64 a3, .int .i64 a4, .int .i64 a5, .int .i64 a6]] w fun e w' => ∃ vn' vj', e = .returned (.tuple #[stV vn' vj' (applyS c s (11, a1, a2, a3, a4, a5, a6)).1, .int .i64 (applyS c s (11, a1, a2, a3, a4, a5, a6)).2]) ∧ RdSt w' vn' vj' (applyS c s (11, a1, a2, a3, a4, a5, a6)).1 ∧ Ext w w' ∧ ∀ k, vn'.ownBlock = some k ∨ vj'.ownBlock = some k → w.heap.size ≤ k := by
  have hR6 := hR.len.2
  have hj24 := hR.nj
  obtain ⟨k, j, ha, hjk, hz1, he1, hro⟩ := ok_job (by decide) (by decide) hz
  have he : (applyS c s (11, a1, a2, a3, a4, a5, a6)).1 = letGoS s k j 0 := by
    rw [he1]
    change (unholdS s k j).2 = 0 at hz1
    change (unholdS s k j).1 = _
    revert hz1
    unfold unholdS
    repeat' split
    all_goals first | (intro; rfl) | (intro hz; cases hz)
  have HLG : Hid (∀ (F : Fp) W g vn' vj', Sg F W g vn' vj' s → Calls Tryd.prog 30 #[.agg #[vn', vj', .int .i64 s.goal, .int .i64 s.prior, .int .i64 s.mode, .int .i64 s.term], .int .i64 a1, .int .i64 0] W fun e w' => e = .returned (.agg #[vn', vj', .int .i64 s.goal, .int .i64 s.prior, .int .i64 s.mode, .int .i64 s.term]) ∧ Sg F w' g vn' vj' (letGoS s k j 0) ∧ Chg F W w') := Lib.hid fun F W g vn' vj' h => by
    rw [ha]
    exact RefLetGo_any F W g k vn' vj' s j 0 h hjk (hR.job k j hjk).own hR.len.2 hR.nj
  clear hjk hz1 he1 hro ha
  obtain ⟨S2, hS2⟩ : ∃ S2, S2 = (applyS c s (11, a1, a2, a3, a4, a5, a6)).1 := ⟨_, rfl⟩
  obtain ⟨er, her⟩ : ∃ er, er = (applyS c s (11, a1, a2, a3, a4, a5, a6)).2 := ⟨_, rfl⟩
  rw [← hS2, ← her]
  have HS2 := Lib.hid (hS2.trans he)
  rw [← her] at hz
  subst hz
  have HCP := Lib.hid fun W (hx : Ext w W) => RefCopy_any vn vj s W (h.ext hx) (by omega) (by omega)
  have HWY : Hid (∀ W vn' vj', RdSt W vn' vj' s → Calls Tryd.prog 29 #[cfV c, stV vn' vj' s, .agg #[.int .i64 11, .int .i64 a1, .int .i64 a2, .int .i64 a3, .int .i64 a4, .int .i64 a5, .int .i64 a6]] W fun e w' => e = .returned (.int .i64 0) ∧ Ext W w') := Lib.hid fun W vn' vj' hr => (RefWhy_any c vn' vj' s (11, a1, a2, a3, a4, a5, a6) W hr hR).mono (by rintro e w' ⟨h1, h2⟩; rw [← her] at h1; exact ⟨h1, h2⟩)
  obtain ⟨An, cn, rfl, -, -⟩ := h.nodes.slice_
  obtain ⟨Aj, cj, rfl, -, -⟩ := h.jobs.slice_
  obtain ⟨W4, hW4, hx4, hb0, hb1, hb2, hb3, hs4⟩ := four_blocks w 23 30 36 30 #[.int .i64 c.nodes, .int .i64 c.queues, .int .i64 c.quota, .int .i64 c.wave, .int .i64 c.lease, .int .i64 c.retry, .int .i64 c.deadline, .int .i64 c.room, .int .i64 c.disk] #[.slice An s.nodes.length cn, .slice Aj s.jobs.length cj, .int .i64 s.goal, .int .i64 s.prior, .int .i64 s.mode, .int .i64 s.term] #[.int .i64 11, .int .i64 a1, .int .i64 a2, .int .i64 a3, .int .i64 a4, .int .i64 a5, .int .i64 a6] #[.slice none 0 0, .slice none 0 0, .int .i64 0, .int .i64 0, .int .i64 0, .int .i64 0]
  have HX4 := Lib.hid hx4
  have HB0 := Lib.hid hb0
  have HB1 := Lib.hid hb1
  have HB2 := Lib.hid hb2
  have HB3 := Lib.hid hb3
  have HS4 := Lib.hid hs4
  unfold stV at HCP
  unfold stV cfV at HWY
  unfold stV cfV
  clear hx4 hb0 hb1 hb2 hb3 hs4 h hS2 her he hR6 hj24
  go_enter Tryd.func11, Tryd.ntmps11
  go_wp2_with fail
  rw [← hW4]
  clear hW4
  refine (HCP.out _ HX4.out).mono ?_
  rintro e1 w1 ⟨vn1, vj1, rfl, ho, hx1⟩
  have HRD : RdSt w1 vn1 vj1 s := ⟨RdS.own ho.nodes, RdS.own ho.jobs⟩
  obtain ⟨A1, c1, rfl, -, -⟩ := HRD.nodes.slice_
  obtain ⟨A2, c2, rfl, -, -⟩ := HRD.jobs.slice_
  clear HRD
  obtain ⟨w2, hw2⟩ : ∃ W, W = w1.alloc (.cells #[.slice A1 s.nodes.length c1, .slice A2 s.jobs.length c2, .int .i64 s.goal, .int .i64 s.prior, .int .i64 s.mode, .int .i64 s.term] 30) := ⟨_, rfl⟩
  have hx2 : Ext w1 w2 := by rw [hw2]; exact Below.alloc (Ext.refl _) (Nat.le_refl _) _
  have hsz : w2.heap.size = w1.heap.size + 1 := by rw [hw2]; simp
  obtain ⟨F, hsg, hF4⟩ : ∃ F : Fp, Sg F w2 w1.heap.size (.slice A1 s.nodes.length c1) (.slice A2 s.jobs.length c2) s ∧ ∀ k, F k → w.heap.size + 4 ≤ k := ⟨fun k => W4.heap.size ≤ k ∧ k < w2.heap.size, Sg.make (w0 := W4) (base := W4.heap.size) (by rw [hw2]; exact Blk.new _ _ _) hx1.size ⟨by rw [hw2]; exact ho.nodes.alloc _, by rw [hw2]; exact ho.jobs.alloc _, ho.off⟩ (Nat.le_refl _) (fun k hk => by
    rcases hk with hk | hk
    · have := (ho.nodes.lt k hk).2
      omega
    · have := (ho.jobs.lt k hk).2
      omega), fun k hk => by have := HS4.out; omega⟩
  have HX2 := Lib.hid (Ext.trans (Ext.trans HX4.out hx1) hx2)
  have HF4 := Lib.hid hF4
  have HSG := Lib.hid hsg
  have HC0 := Lib.hid ((HB0.out.ext hx1).ext hx2)
  have HC2 := Lib.hid ((HB2.out.ext hx1).ext hx2)
  have HC3 := Lib.hid ((HB3.out.ext hx1).ext hx2)
  clear ho hx1 hx2 hsz hsg hF4 HB0 HB1 HB2 HB3 HS4 HX4 HCP
  go_upto_region 2 with (fail)
  rw [← hw2]
  clear hw2
  have k0 : w2.cell? ⟨w.heap.size, 0, none⟩ = some (.int .i64 c.nodes) := HC0.out.cell 0
  have k1 : w2.cell? ⟨w.heap.size, 1, none⟩ = some (.int .i64 c.queues) := HC0.out.cell 1
  have k2 : w2.cell? ⟨w.heap.size, 2, none⟩ = some (.int .i64 c.quota) := HC0.out.cell 2
  have k3 : w2.cell? ⟨w.heap.size, 3, none⟩ = some (.int .i64 c.wave) := HC0.out.cell 3
  have k4 : w2.cell? ⟨w.heap.size, 4, none⟩ = some (.int .i64 c.lease) := HC0.out.cell 4
  have k5 : w2.cell? ⟨w.heap.size, 5, none⟩ = some (.int .i64 c.retry) := HC0.out.cell 5
  have k6 : w2.cell? ⟨w.heap.size, 6, none⟩ = some (.int .i64 c.deadline) := HC0.out.cell 6
  have k7 : w2.cell? ⟨w.heap.size, 7, none⟩ = some (.int .i64 c.room) := HC0.out.cell 7
  have k8 : w2.cell? ⟨w.heap.size, 8, none⟩ = some (.int .i64 c.disk) := HC0.out.cell 8
  have o0 : w2.cell? ⟨w.heap.size + 2, 0, none⟩ = some (.int .i64 11) := HC2.out.cell 0
  have o1 : w2.cell? ⟨w.heap.size + 2, 1, none⟩ = some (.int .i64 a1) := HC2.out.cell 1
  have o2 : w2.cell? ⟨w.heap.size + 2, 2, none⟩ = some (.int .i64 a2) := HC2.out.cell 2
  have o3 : w2.cell? ⟨w.heap.size + 2, 3, none⟩ = some (.int .i64 a3) := HC2.out.cell 3
  have o4 : w2.cell? ⟨w.heap.size + 2, 4, none⟩ = some (.int .i64 a4) := HC2.out.cell 4
  have o5 : w2.cell? ⟨w.heap.size + 2, 5, none⟩ = some (.int .i64 a5) := HC2.out.cell 5
  have o6 : w2.cell? ⟨w.heap.size + 2, 6, none⟩ = some (.int .i64 a6) := HC2.out.cell 6
  have s0 : w2.cell? ⟨w1.heap.size, 0, none⟩ = some (.slice A1 s.nodes.length c1) := HSG.out.blk.cell 0
  have s1 : w2.cell? ⟨w1.heap.size, 1, none⟩ = some (.slice A2 s.jobs.length c2) := HSG.out.blk.cell 1
  have s2 : w2.cell? ⟨w1.heap.size, 2, none⟩ = some (.int .i64 s.goal) := HSG.out.blk.cell 2
  have s3 : w2.cell? ⟨w1.heap.size, 3, none⟩ = some (.int .i64 s.prior) := HSG.out.blk.cell 3
  have s4 : w2.cell? ⟨w1.heap.size, 4, none⟩ = some (.int .i64 s.mode) := HSG.out.blk.cell 4
  have s5 : w2.cell? ⟨w1.heap.size, 5, none⟩ = some (.int .i64 s.term) := HSG.out.blk.cell 5
  go_wp2_with fail
  refine (HWY.out _ _ _ HSG.out.rd).mono ?_
  rintro e3 w3 ⟨rfl, hx3⟩
  have HX3 := Lib.hid (HX2.out.trans hx3)
  have HSG3 := Lib.hid (HSG.out.ext hx3)
  have HO3 := Lib.hid (HC2.out.ext hx3)
  have HV3 := Lib.hid (HC3.out.ext hx3)
  have HBX : Hid (∀ W, Chg F w3 W → Blk W (w.heap.size + 2) 36 #[.int .i64 11, .int .i64 a1, .int .i64 a2, .int .i64 a3, .int .i64 a4, .int .i64 a5, .int .i64 a6] ∧ Blk W (w.heap.size + 3) 30 #[.slice none 0 0, .slice none 0 0, .int .i64 0, .int .i64 0, .int .i64 0, .int .i64 0] ∧ Ext w W) := Lib.hid fun W hc => ⟨(hc.block _ HO3.out.lt (fun hf => by have := HF4.out _ hf; omega)).trans HO3.out, (hc.block _ HV3.out.lt (fun hf => by have := HF4.out _ hf; omega)).trans HV3.out, hc.ext HX3.out (fun k hf => by have := HF4.out _ hf; omega)⟩
  clear hx3 HX2 HSG HC0 HC2 HC3 HWY k0 k1 k2 k3 k4 k5 k6 k7 k8 o0 o1 o2 o3 o4 o5 o6 s0 s1 s2 s3 s4 s5
  have o0 : w3.cell? ⟨w.heap.size + 2, 0, none⟩ = some (.int .i64 11) := (HBX.out _ (Chg.refl F w3)).1.cell 0
  have o1 : w3.cell? ⟨w.heap.size + 2, 1, none⟩ = some (.int .i64 a1) := (HBX.out _ (Chg.refl F w3)).1.cell 1
  have o2 : w3.cell? ⟨w.heap.size + 2, 2, none⟩ = some (.int .i64 a2) := (HBX.out _ (Chg.refl F w3)).1.cell 2
  have o3 : w3.cell? ⟨w.heap.size + 2, 3, none⟩ = some (.int .i64 a3) := (HBX.out _ (Chg.refl F w3)).1.cell 3
  have s0 : w3.cell? ⟨w1.heap.size, 0, none⟩ = some (.slice A1 s.nodes.length c1) := HSG3.out.blk.cell 0
  have s1 : w3.cell? ⟨w1.heap.size, 1, none⟩ = some (.slice A2 s.jobs.length c2) := HSG3.out.blk.cell 1
  have s2 : w3.cell? ⟨w1.heap.size, 2, none⟩ = some (.int .i64 s.goal) := HSG3.out.blk.cell 2
  have s3 : w3.cell? ⟨w1.heap.size, 3, none⟩ = some (.int .i64 s.prior) := HSG3.out.blk.cell 3
  have s4 : w3.cell? ⟨w1.heap.size, 4, none⟩ = some (.int .i64 s.mode) := HSG3.out.blk.cell 4
  have s5 : w3.cell? ⟨w1.heap.size, 5, none⟩ = some (.int .i64 s.term) := HSG3.out.blk.cell 5
  go_wp2_with fail
  refine (HLG.out _ _ _ _ _ HSG3.out).mono ?_
  rintro e5 w5 ⟨rfl, hs5, hc5⟩
  have HSG5 := Lib.hid hs5
  have HCH5 : Hid (Chg F w3 w5) := Lib.hid hc5
  clear hs5 hc5 HLG
  clear o0 o1 o2 o3 s0 s1 s2 s3 s4 s5
  have o0 : w5.cell? ⟨w.heap.size + 2, 0, none⟩ = some (.int .i64 11) := (HBX.out _ HCH5.out).1.cell 0
  have o1 : w5.cell? ⟨w.heap.size + 2, 1, none⟩ = some (.int .i64 a1) := (HBX.out _ HCH5.out).1.cell 1
  have o2 : w5.cell? ⟨w.heap.size + 2, 2, none⟩ = some (.int .i64 a2) := (HBX.out _ HCH5.out).1.cell 2
  have o3 : w5.cell? ⟨w.heap.size + 2, 3, none⟩ = some (.int .i64 a3) := (HBX.out _ HCH5.out).1.cell 3
  have s0 : w5.cell? ⟨w1.heap.size, 0, none⟩ = some (.slice A1 s.nodes.length c1) := HSG5.out.blk.cell 0
  have s1 : w5.cell? ⟨w1.heap.size, 1, none⟩ = some (.slice A2 s.jobs.length c2) := HSG5.out.blk.cell 1
  have s2 : w5.cell? ⟨w1.heap.size, 2, none⟩ = some (.int .i64 s.goal) := HSG5.out.blk.cell 2
  have s3 : w5.cell? ⟨w1.heap.size, 3, none⟩ = some (.int .i64 s.prior) := HSG5.out.blk.cell 3
  have s4 : w5.cell? ⟨w1.heap.size, 4, none⟩ = some (.int .i64 s.mode) := HSG5.out.blk.cell 4
  have s5 : w5.cell? ⟨w1.heap.size, 5, none⟩ = some (.int .i64 s.term) := HSG5.out.blk.cell 5
  have f0 : w5.frozen? ⟨w1.heap.size, 0, none⟩ = false := HSG5.out.fr 0
  have f1 : w5.frozen? ⟨w1.heap.size, 1, none⟩ = false := HSG5.out.fr 1
  have f2 : w5.frozen? ⟨w1.heap.size, 2, none⟩ = false := HSG5.out.fr 2
  have f3 : w5.frozen? ⟨w1.heap.size, 3, none⟩ = false := HSG5.out.fr 3
  have f4 : w5.frozen? ⟨w1.heap.size, 4, none⟩ = false := HSG5.out.fr 4
  have f5 : w5.frozen? ⟨w1.heap.size, 5, none⟩ = false := HSG5.out.fr 5
  obtain ⟨v6, hw⟩ : ∃ W, W = ((((((w5.setCell ⟨w1.heap.size, 0, none⟩ (.slice A1 s.nodes.length c1)).setCell ⟨w1.heap.size, 1, none⟩ (.slice A2 s.jobs.length c2)).setCell ⟨w1.heap.size, 2, none⟩ (.int .i64 s.goal)).setCell ⟨w1.heap.size, 3, none⟩ (.int .i64 s.prior)).setCell ⟨w1.heap.size, 4, none⟩ (.int .i64 s.mode)).setCell ⟨w1.heap.size, 5, none⟩ (.int .i64 s.term)) := ⟨_, rfl⟩
  have hs : Sg F v6 w1.heap.size (.slice A1 s.nodes.length c1) (.slice A2 s.jobs.length c2) (letGoS s k j 0) ∧ Chg F w5 v6 := by rw [hw]; exact HSG5.out.again
  have HSV6 := Lib.hid hs.1
  have HCV6 : Hid (Chg F w3 v6) := Lib.hid (Chg.trans HCH5.out hs.2 (fun _ _ h => h))
  clear hs
  go_upto_region 70 with (fail)
  rw [← hw]
  clear hw f0 f1 f2 f3 f4 f5 o0 o1 o2 o3 s0 s1 s2 s3 s4 s5
  have HSE := Lib.hid (show Sg F v6 w1.heap.size (.slice A1 s.nodes.length c1) (.slice A2 s.jobs.length c2) S2 by rw [HS2.out]; exact HSV6.out)
  have HCE : Hid (Chg F w3 v6) := Lib.hid HCV6.out
  have HQE := Lib.hid (HBX.out _ HCE.out)
  have m0 : v6.cell? ⟨w1.heap.size, 0, none⟩ = some (.slice A1 s.nodes.length c1) := HSE.out.blk.cell 0
  have m1 : v6.cell? ⟨w1.heap.size, 1, none⟩ = some (.slice A2 s.jobs.length c2) := HSE.out.blk.cell 1
  have m2 : v6.cell? ⟨w1.heap.size, 2, none⟩ = some (.int .i64 S2.goal) := HSE.out.blk.cell 2
  have m3 : v6.cell? ⟨w1.heap.size, 3, none⟩ = some (.int .i64 S2.prior) := HSE.out.blk.cell 3
  have m4 : v6.cell? ⟨w1.heap.size, 4, none⟩ = some (.int .i64 S2.mode) := HSE.out.blk.cell 4
  have m5 : v6.cell? ⟨w1.heap.size, 5, none⟩ = some (.int .i64 S2.term) := HSE.out.blk.cell 5
  have r0 : v6.cell? ⟨w.heap.size + 3, 0, none⟩ = some (.slice none 0 0) := HQE.out.2.1.cell 0
  have g0 : v6.frozen? ⟨w.heap.size + 3, 0, none⟩ = false := HQE.out.2.1.frozen 0
  have r1 : v6.cell? ⟨w.heap.size + 3, 1, none⟩ = some (.slice none 0 0) := HQE.out.2.1.cell 1
  have g1 : v6.frozen? ⟨w.heap.size + 3, 1, none⟩ = false := HQE.out.2.1.frozen 1
  have r2 : v6.cell? ⟨w.heap.size + 3, 2, none⟩ = some (.int .i64 0) := HQE.out.2.1.cell 2
  have g2 : v6.frozen? ⟨w.heap.size + 3, 2, none⟩ = false := HQE.out.2.1.frozen 2
  have r3 : v6.cell? ⟨w.heap.size + 3, 3, none⟩ = some (.int .i64 0) := HQE.out.2.1.cell 3
  have g3 : v6.frozen? ⟨w.heap.size + 3, 3, none⟩ = false := HQE.out.2.1.frozen 3
  have r4 : v6.cell? ⟨w.heap.size + 3, 4, none⟩ = some (.int .i64 0) := HQE.out.2.1.cell 4
  have g4 : v6.frozen? ⟨w.heap.size + 3, 4, none⟩ = false := HQE.out.2.1.frozen 4
  have r5 : v6.cell? ⟨w.heap.size + 3, 5, none⟩ = some (.int .i64 0) := HQE.out.2.1.cell 5
  have g5 : v6.frozen? ⟨w.heap.size + 3, 5, none⟩ = false := HQE.out.2.1.frozen 5
  go_wp2
  have hq := (((((PB.start HQE.out.2.1).set 0 (.slice A1 s.nodes.length c1)).set 1 (.slice A2 s.jobs.length c2)).set 2 (.int .i64 S2.goal)).set 3 (.int .i64 S2.prior)).set 4 (.int .i64 S2.mode)
  replace hq := hq.set 5 (.int .i64 S2.term)
  simp only [List.setIfInBounds_toArray, List.set_cons_zero, List.set_cons_succ] at hq
  obtain ⟨wf, hwf⟩ : ∃ W, W = ((((((v6.setCell ⟨w.heap.size + 3, 0, none⟩ (.slice A1 s.nodes.length c1)).setCell ⟨w.heap.size + 3, 1, none⟩ (.slice A2 s.jobs.length c2)).setCell ⟨w.heap.size + 3, 2, none⟩ (.int .i64 S2.goal)).setCell ⟨w.heap.size + 3, 3, none⟩ (.int .i64 S2.prior)).setCell ⟨w.heap.size + 3, 4, none⟩ (.int .i64 S2.mode)).setCell ⟨w.heap.size + 3, 5, none⟩ (.int .i64 S2.term)) := ⟨_, rfl⟩
  rw [← hwf] at hq
  have hc1 : Chg (fun x => x = w.heap.size + 3) v6 wf := hq.chg
  have hsf : Sg F wf w1.heap.size (.slice A1 s.nodes.length c1) (.slice A2 s.jobs.length c2) S2 := ObjF.chg HSE.out hc1 (fun x hx e => by have := HF4.out x hx; have e : x = w.heap.size + 3 := e; omega)
  have hxf := hq.below _ _ HQE.out.2.2 (by omega)
  rw [hwf] at hq hsf hxf
  exact bodyPost_ret (results_cell_tmp_row rfl _ _ (w.heap.size + 3) 30 _ (0, 0) _ rfl hq.blk rfl rfl (by kernel_rfl)) rfl ⟨.slice A1 s.nodes.length c1, .slice A2 s.jobs.length c2, rfl, hsf.rd, hxf, hsf.own4 HF4.out⟩

end Go.Proofs.YtbfjlhddebollaaDoor

/- The reference of layer 9: Apply, kind 12. -/
namespace Go.Proofs.YtbfjlhddebollaaDoor
open Go.RowKit

set_option maxRecDepth 100000 in
set_option maxHeartbeats 4000000 in
theorem RefAp_12 (c : Cf) (vn vj : Value) (s : St) (a1 a2 a3 a4 a5 a6 : Int) (w : World) (h : RdSt w vn vj s) (hR : RightP c s) (hz : (applyS c s (12, a1, a2, a3, a4, a5, a6)).2 = 0) :
    Calls Tryd.prog 11 #[cfV c, stV vn vj s, .agg #[.int .i64 12, .int .i64 a1, .int .i64 a2, .int .i64 a3, .int .i64 a4, .int .i64 a5, .int .i64 a6]] w fun e w' => ∃ vn' vj', e = .returned (.tuple #[stV vn' vj' (applyS c s (12, a1, a2, a3, a4, a5, a6)).1, .int .i64 (applyS c s (12, a1, a2, a3, a4, a5, a6)).2]) ∧ RdSt w' vn' vj' (applyS c s (12, a1, a2, a3, a4, a5, a6)).1 ∧ Ext w w' ∧ ∀ k, vn'.ownBlock = some k ∨ vj'.ownBlock = some k → w.heap.size ≤ k := by
  have hR6 := hR.len.2
  have hj24 := hR.nj
  obtain ⟨k, j, ha, hjk, hz1, he1, hro⟩ := ok_job (by decide) (by decide) hz
  have he : (applyS c s (12, a1, a2, a3, a4, a5, a6)).1 = setJ s k { j with phase := 3, til := a2 } := by
    rw [he1]
    change (drainS c s k j a2).2 = 0 at hz1
    change (drainS c s k j a2).1 = _
    revert hz1
    unfold drainS
    repeat' split
    all_goals first | (intro; rfl) | (intro hz; cases hz)
  have HJK := Lib.hid hjk
  have hkl := (List.getElem?_eq_some_iff.1 hjk).1
  have x1 : (0 : Int) ≤ (k : Int) ∧ (k : Int) < (s.jobs.length : Int) := by omega
  have hwk : IntKind.i64.wrap (a1 - 1) = (k : Int) := by rw [ha, Int.add_sub_cancel]; exact IntWalk.i64_in _ (by omega)
  have hwk' : wrap64 (a1 - 1) = (k : Int) := by rw [ha, Int.add_sub_cancel]; exact IntWalk.wrap64_in _ (by omega)
  clear hjk hz1 he1 hro hkl ha
  obtain ⟨S2, hS2⟩ : ∃ S2, S2 = (applyS c s (12, a1, a2, a3, a4, a5, a6)).1 := ⟨_, rfl⟩
  obtain ⟨er, her⟩ : ∃ er, er = (applyS c s (12, a1, a2, a3, a4, a5, a6)).2 := ⟨_, rfl⟩
  rw [← hS2, ← her]
  have HS2 := Lib.hid (hS2.trans he)
  rw [← her] at hz
  subst hz
  have HCP := Lib.hid fun W (hx : Ext w W) => RefCopy_any vn vj s W (h.ext hx) (by omega) (by omega)
  have HWY : Hid (∀ W vn' vj', RdSt W vn' vj' s → Calls Tryd.prog 29 #[cfV c, stV vn' vj' s, .agg #[.int .i64 12, .int .i64 a1, .int .i64 a2, .int .i64 a3, .int .i64 a4, .int .i64 a5, .int .i64 a6]] W fun e w' => e = .returned (.int .i64 0) ∧ Ext W w') := Lib.hid fun W vn' vj' hr => (RefWhy_any c vn' vj' s (12, a1, a2, a3, a4, a5, a6) W hr hR).mono (by rintro e w' ⟨h1, h2⟩; rw [← her] at h1; exact ⟨h1, h2⟩)
  obtain ⟨An, cn, rfl, -, -⟩ := h.nodes.slice_
  obtain ⟨Aj, cj, rfl, -, -⟩ := h.jobs.slice_
  obtain ⟨W4, hW4, hx4, hb0, hb1, hb2, hb3, hs4⟩ := four_blocks w 23 30 36 30 #[.int .i64 c.nodes, .int .i64 c.queues, .int .i64 c.quota, .int .i64 c.wave, .int .i64 c.lease, .int .i64 c.retry, .int .i64 c.deadline, .int .i64 c.room, .int .i64 c.disk] #[.slice An s.nodes.length cn, .slice Aj s.jobs.length cj, .int .i64 s.goal, .int .i64 s.prior, .int .i64 s.mode, .int .i64 s.term] #[.int .i64 12, .int .i64 a1, .int .i64 a2, .int .i64 a3, .int .i64 a4, .int .i64 a5, .int .i64 a6] #[.slice none 0 0, .slice none 0 0, .int .i64 0, .int .i64 0, .int .i64 0, .int .i64 0]
  have HX4 := Lib.hid hx4
  have HB0 := Lib.hid hb0
  have HB1 := Lib.hid hb1
  have HB2 := Lib.hid hb2
  have HB3 := Lib.hid hb3
  have HS4 := Lib.hid hs4
  unfold stV at HCP
  unfold stV cfV at HWY
  unfold stV cfV
  clear hx4 hb0 hb1 hb2 hb3 hs4 h hS2 her he hR6 hj24
  go_enter Tryd.func11, Tryd.ntmps11
  go_wp2_with fail
  rw [← hW4]
  clear hW4
  refine (HCP.out _ HX4.out).mono ?_
  rintro e1 w1 ⟨vn1, vj1, rfl, ho, hx1⟩
  have HRD : RdSt w1 vn1 vj1 s := ⟨RdS.own ho.nodes, RdS.own ho.jobs⟩
  obtain ⟨A1, c1, rfl, -, -⟩ := HRD.nodes.slice_
  obtain ⟨A2, c2, rfl, -, -⟩ := HRD.jobs.slice_
  clear HRD
  obtain ⟨w2, hw2⟩ : ∃ W, W = w1.alloc (.cells #[.slice A1 s.nodes.length c1, .slice A2 s.jobs.length c2, .int .i64 s.goal, .int .i64 s.prior, .int .i64 s.mode, .int .i64 s.term] 30) := ⟨_, rfl⟩
  have hx2 : Ext w1 w2 := by rw [hw2]; exact Below.alloc (Ext.refl _) (Nat.le_refl _) _
  have hsz : w2.heap.size = w1.heap.size + 1 := by rw [hw2]; simp
  obtain ⟨F, hsg, hF4⟩ : ∃ F : Fp, Sg F w2 w1.heap.size (.slice A1 s.nodes.length c1) (.slice A2 s.jobs.length c2) s ∧ ∀ k, F k → w.heap.size + 4 ≤ k := ⟨fun k => W4.heap.size ≤ k ∧ k < w2.heap.size, Sg.make (w0 := W4) (base := W4.heap.size) (by rw [hw2]; exact Blk.new _ _ _) hx1.size ⟨by rw [hw2]; exact ho.nodes.alloc _, by rw [hw2]; exact ho.jobs.alloc _, ho.off⟩ (Nat.le_refl _) (fun k hk => by
    rcases hk with hk | hk
    · have := (ho.nodes.lt k hk).2
      omega
    · have := (ho.jobs.lt k hk).2
      omega), fun k hk => by have := HS4.out; omega⟩
  have HX2 := Lib.hid (Ext.trans (Ext.trans HX4.out hx1) hx2)
  have HF4 := Lib.hid hF4
  have HSG := Lib.hid hsg
  have HC0 := Lib.hid ((HB0.out.ext hx1).ext hx2)
  have HC2 := Lib.hid ((HB2.out.ext hx1).ext hx2)
  have HC3 := Lib.hid ((HB3.out.ext hx1).ext hx2)
  clear ho hx1 hx2 hsz hsg hF4 HB0 HB1 HB2 HB3 HS4 HX4 HCP
  go_upto_region 2 with (fail)
  rw [← hw2]
  clear hw2
  have k0 : w2.cell? ⟨w.heap.size, 0, none⟩ = some (.int .i64 c.nodes) := HC0.out.cell 0
  have k1 : w2.cell? ⟨w.heap.size, 1, none⟩ = some (.int .i64 c.queues) := HC0.out.cell 1
  have k2 : w2.cell? ⟨w.heap.size, 2, none⟩ = some (.int .i64 c.quota) := HC0.out.cell 2
  have k3 : w2.cell? ⟨w.heap.size, 3, none⟩ = some (.int .i64 c.wave) := HC0.out.cell 3
  have k4 : w2.cell? ⟨w.heap.size, 4, none⟩ = some (.int .i64 c.lease) := HC0.out.cell 4
  have k5 : w2.cell? ⟨w.heap.size, 5, none⟩ = some (.int .i64 c.retry) := HC0.out.cell 5
  have k6 : w2.cell? ⟨w.heap.size, 6, none⟩ = some (.int .i64 c.deadline) := HC0.out.cell 6
  have k7 : w2.cell? ⟨w.heap.size, 7, none⟩ = some (.int .i64 c.room) := HC0.out.cell 7
  have k8 : w2.cell? ⟨w.heap.size, 8, none⟩ = some (.int .i64 c.disk) := HC0.out.cell 8
  have o0 : w2.cell? ⟨w.heap.size + 2, 0, none⟩ = some (.int .i64 12) := HC2.out.cell 0
  have o1 : w2.cell? ⟨w.heap.size + 2, 1, none⟩ = some (.int .i64 a1) := HC2.out.cell 1
  have o2 : w2.cell? ⟨w.heap.size + 2, 2, none⟩ = some (.int .i64 a2) := HC2.out.cell 2
  have o3 : w2.cell? ⟨w.heap.size + 2, 3, none⟩ = some (.int .i64 a3) := HC2.out.cell 3
  have o4 : w2.cell? ⟨w.heap.size + 2, 4, none⟩ = some (.int .i64 a4) := HC2.out.cell 4
  have o5 : w2.cell? ⟨w.heap.size + 2, 5, none⟩ = some (.int .i64 a5) := HC2.out.cell 5
  have o6 : w2.cell? ⟨w.heap.size + 2, 6, none⟩ = some (.int .i64 a6) := HC2.out.cell 6
  have s0 : w2.cell? ⟨w1.heap.size, 0, none⟩ = some (.slice A1 s.nodes.length c1) := HSG.out.blk.cell 0
  have s1 : w2.cell? ⟨w1.heap.size, 1, none⟩ = some (.slice A2 s.jobs.length c2) := HSG.out.blk.cell 1
  have s2 : w2.cell? ⟨w1.heap.size, 2, none⟩ = some (.int .i64 s.goal) := HSG.out.blk.cell 2
  have s3 : w2.cell? ⟨w1.heap.size, 3, none⟩ = some (.int .i64 s.prior) := HSG.out.blk.cell 3
  have s4 : w2.cell? ⟨w1.heap.size, 4, none⟩ = some (.int .i64 s.mode) := HSG.out.blk.cell 4
  have s5 : w2.cell? ⟨w1.heap.size, 5, none⟩ = some (.int .i64 s.term) := HSG.out.blk.cell 5
  go_wp2_with fail
  refine (HWY.out _ _ _ HSG.out.rd).mono ?_
  rintro e3 w3 ⟨rfl, hx3⟩
  have HX3 := Lib.hid (HX2.out.trans hx3)
  have HSG3 := Lib.hid (HSG.out.ext hx3)
  have HO3 := Lib.hid (HC2.out.ext hx3)
  have HV3 := Lib.hid (HC3.out.ext hx3)
  have HBX : Hid (∀ W, Chg F w3 W → Blk W (w.heap.size + 2) 36 #[.int .i64 12, .int .i64 a1, .int .i64 a2, .int .i64 a3, .int .i64 a4, .int .i64 a5, .int .i64 a6] ∧ Blk W (w.heap.size + 3) 30 #[.slice none 0 0, .slice none 0 0, .int .i64 0, .int .i64 0, .int .i64 0, .int .i64 0] ∧ Ext w W) := Lib.hid fun W hc => ⟨(hc.block _ HO3.out.lt (fun hf => by have := HF4.out _ hf; omega)).trans HO3.out, (hc.block _ HV3.out.lt (fun hf => by have := HF4.out _ hf; omega)).trans HV3.out, hc.ext HX3.out (fun k hf => by have := HF4.out _ hf; omega)⟩
  clear hx3 HX2 HSG HC0 HC2 HC3 HWY k0 k1 k2 k3 k4 k5 k6 k7 k8 o0 o1 o2 o3 o4 o5 o6 s0 s1 s2 s3 s4 s5
  obtain ⟨b, cap, hv, -, -, -, -, -, -⟩ := HSG3.out.jobAt HJK.out
  injection hv with hA _ hC
  subst hA hC
  have o0 : w3.cell? ⟨w.heap.size + 2, 0, none⟩ = some (.int .i64 12) := (HBX.out _ (Chg.refl F w3)).1.cell 0
  have o1 : w3.cell? ⟨w.heap.size + 2, 1, none⟩ = some (.int .i64 a1) := (HBX.out _ (Chg.refl F w3)).1.cell 1
  have o2 : w3.cell? ⟨w.heap.size + 2, 2, none⟩ = some (.int .i64 a2) := (HBX.out _ (Chg.refl F w3)).1.cell 2
  have o3 : w3.cell? ⟨w.heap.size + 2, 3, none⟩ = some (.int .i64 a3) := (HBX.out _ (Chg.refl F w3)).1.cell 3
  have s0 : w3.cell? ⟨w1.heap.size, 0, none⟩ = some (.slice A1 s.nodes.length c1) := HSG3.out.blk.cell 0
  have s1 : w3.cell? ⟨w1.heap.size, 1, none⟩ = some (.slice (some ⟨b, 0, none⟩) s.jobs.length c2) := HSG3.out.blk.cell 1
  have s2 : w3.cell? ⟨w1.heap.size, 2, none⟩ = some (.int .i64 s.goal) := HSG3.out.blk.cell 2
  have s3 : w3.cell? ⟨w1.heap.size, 3, none⟩ = some (.int .i64 s.prior) := HSG3.out.blk.cell 3
  have s4 : w3.cell? ⟨w1.heap.size, 4, none⟩ = some (.int .i64 s.mode) := HSG3.out.blk.cell 4
  have s5 : w3.cell? ⟨w1.heap.size, 5, none⟩ = some (.int .i64 s.term) := HSG3.out.blk.cell 5
  obtain ⟨hat, hfr⟩ := HSG3.out.jobAt' HJK.out
  have p0 : w3.cell? ⟨b, k * 12 + 6, none⟩ = some (.int .i64 j.phase) := hat.c6
  have f0 := hfr (k * 12 + 6)
  clear hat hfr
  have hs := HSG3.out.setJ' (n' := { j with phase := 3 }) HJK.out 6 (by omega) (.int .i64 3) rfl
  obtain ⟨v4, hw⟩ : ∃ W, W = w3.setCell ⟨b, k * 12 + 6, none⟩ (.int .i64 3) := ⟨_, rfl⟩
  rw [← hw] at hs
  have HSV4 := Lib.hid hs.1
  have HCV4 : Hid (Chg F w3 v4) := Lib.hid (Chg.trans (Chg.refl F w3) hs.2 (fun _ _ h => h))
  clear hs
  go_upto_region 46 with (fail)
  rw [← hw]
  clear hw f0 o0 o1 o2 o3 s0 s1 s2 s3 s4 s5 p0
  have o0 : v4.cell? ⟨w.heap.size + 2, 0, none⟩ = some (.int .i64 12) := (HBX.out _ HCV4.out).1.cell 0
  have o1 : v4.cell? ⟨w.heap.size + 2, 1, none⟩ = some (.int .i64 a1) := (HBX.out _ HCV4.out).1.cell 1
  have o2 : v4.cell? ⟨w.heap.size + 2, 2, none⟩ = some (.int .i64 a2) := (HBX.out _ HCV4.out).1.cell 2
  have o3 : v4.cell? ⟨w.heap.size + 2, 3, none⟩ = some (.int .i64 a3) := (HBX.out _ HCV4.out).1.cell 3
  have s0 : v4.cell? ⟨w1.heap.size, 0, none⟩ = some (.slice A1 s.nodes.length c1) := HSV4.out.blk.cell 0
  have s1 : v4.cell? ⟨w1.heap.size, 1, none⟩ = some (.slice (some ⟨b, 0, none⟩) s.jobs.length c2) := HSV4.out.blk.cell 1
  have s2 : v4.cell? ⟨w1.heap.size, 2, none⟩ = some (.int .i64 s.goal) := HSV4.out.blk.cell 2
  have s3 : v4.cell? ⟨w1.heap.size, 3, none⟩ = some (.int .i64 s.prior) := HSV4.out.blk.cell 3
  have s4 : v4.cell? ⟨w1.heap.size, 4, none⟩ = some (.int .i64 s.mode) := HSV4.out.blk.cell 4
  have s5 : v4.cell? ⟨w1.heap.size, 5, none⟩ = some (.int .i64 s.term) := HSV4.out.blk.cell 5
  obtain ⟨hat, hfr⟩ := HSV4.out.jobAt' (setJ_get HJK.out)
  have p0 : v4.cell? ⟨b, k * 12 + 10, none⟩ = some (.int .i64 j.til) := hat.c10
  have f0 := hfr (k * 12 + 10)
  clear hat hfr
  have hs := HSV4.out.setJ' (n' := { j with phase := 3, til := a2 }) (setJ_get HJK.out) 10 (by omega) (.int .i64 a2) rfl
  obtain ⟨v5, hw⟩ : ∃ W, W = v4.setCell ⟨b, k * 12 + 10, none⟩ (.int .i64 a2) := ⟨_, rfl⟩
  rw [← hw] at hs
  have HSV5 := Lib.hid hs.1
  have HCV5 : Hid (Chg F w3 v5) := Lib.hid (Chg.trans HCV4.out hs.2 (fun _ _ h => h))
  clear hs
  go_upto_region 70 with (fail)
  rw [← hw]
  clear hw f0 o0 o1 o2 o3 s0 s1 s2 s3 s4 s5 p0
  have HSE := Lib.hid (show Sg F v5 w1.heap.size (.slice A1 s.nodes.length c1) (.slice (some ⟨b, 0, none⟩) s.jobs.length c2) S2 by rw [HS2.out]; exact (by have h := HSV5.out; rw [setJ_setJ] at h; exact h))
  have HCE : Hid (Chg F w3 v5) := Lib.hid HCV5.out
  have HQE := Lib.hid (HBX.out _ HCE.out)
  have m0 : v5.cell? ⟨w1.heap.size, 0, none⟩ = some (.slice A1 s.nodes.length c1) := HSE.out.blk.cell 0
  have m1 : v5.cell? ⟨w1.heap.size, 1, none⟩ = some (.slice (some ⟨b, 0, none⟩) s.jobs.length c2) := HSE.out.blk.cell 1
  have m2 : v5.cell? ⟨w1.heap.size, 2, none⟩ = some (.int .i64 S2.goal) := HSE.out.blk.cell 2
  have m3 : v5.cell? ⟨w1.heap.size, 3, none⟩ = some (.int .i64 S2.prior) := HSE.out.blk.cell 3
  have m4 : v5.cell? ⟨w1.heap.size, 4, none⟩ = some (.int .i64 S2.mode) := HSE.out.blk.cell 4
  have m5 : v5.cell? ⟨w1.heap.size, 5, none⟩ = some (.int .i64 S2.term) := HSE.out.blk.cell 5
  have r0 : v5.cell? ⟨w.heap.size + 3, 0, none⟩ = some (.slice none 0 0) := HQE.out.2.1.cell 0
  have g0 : v5.frozen? ⟨w.heap.size + 3, 0, none⟩ = false := HQE.out.2.1.frozen 0
  have r1 : v5.cell? ⟨w.heap.size + 3, 1, none⟩ = some (.slice none 0 0) := HQE.out.2.1.cell 1
  have g1 : v5.frozen? ⟨w.heap.size + 3, 1, none⟩ = false := HQE.out.2.1.frozen 1
  have r2 : v5.cell? ⟨w.heap.size + 3, 2, none⟩ = some (.int .i64 0) := HQE.out.2.1.cell 2
  have g2 : v5.frozen? ⟨w.heap.size + 3, 2, none⟩ = false := HQE.out.2.1.frozen 2
  have r3 : v5.cell? ⟨w.heap.size + 3, 3, none⟩ = some (.int .i64 0) := HQE.out.2.1.cell 3
  have g3 : v5.frozen? ⟨w.heap.size + 3, 3, none⟩ = false := HQE.out.2.1.frozen 3
  have r4 : v5.cell? ⟨w.heap.size + 3, 4, none⟩ = some (.int .i64 0) := HQE.out.2.1.cell 4
  have g4 : v5.frozen? ⟨w.heap.size + 3, 4, none⟩ = false := HQE.out.2.1.frozen 4
  have r5 : v5.cell? ⟨w.heap.size + 3, 5, none⟩ = some (.int .i64 0) := HQE.out.2.1.cell 5
  have g5 : v5.frozen? ⟨w.heap.size + 3, 5, none⟩ = false := HQE.out.2.1.frozen 5
  go_wp2
  have hq := (((((PB.start HQE.out.2.1).set 0 (.slice A1 s.nodes.length c1)).set 1 (.slice (some ⟨b, 0, none⟩) s.jobs.length c2)).set 2 (.int .i64 S2.goal)).set 3 (.int .i64 S2.prior)).set 4 (.int .i64 S2.mode)
  replace hq := hq.set 5 (.int .i64 S2.term)
  simp only [List.setIfInBounds_toArray, List.set_cons_zero, List.set_cons_succ] at hq
  obtain ⟨wf, hwf⟩ : ∃ W, W = ((((((v5.setCell ⟨w.heap.size + 3, 0, none⟩ (.slice A1 s.nodes.length c1)).setCell ⟨w.heap.size + 3, 1, none⟩ (.slice (some ⟨b, 0, none⟩) s.jobs.length c2)).setCell ⟨w.heap.size + 3, 2, none⟩ (.int .i64 S2.goal)).setCell ⟨w.heap.size + 3, 3, none⟩ (.int .i64 S2.prior)).setCell ⟨w.heap.size + 3, 4, none⟩ (.int .i64 S2.mode)).setCell ⟨w.heap.size + 3, 5, none⟩ (.int .i64 S2.term)) := ⟨_, rfl⟩
  rw [← hwf] at hq
  have hc1 : Chg (fun x => x = w.heap.size + 3) v5 wf := hq.chg
  have hsf : Sg F wf w1.heap.size (.slice A1 s.nodes.length c1) (.slice (some ⟨b, 0, none⟩) s.jobs.length c2) S2 := ObjF.chg HSE.out hc1 (fun x hx e => by have := HF4.out x hx; have e : x = w.heap.size + 3 := e; omega)
  have hxf := hq.below _ _ HQE.out.2.2 (by omega)
  rw [hwf] at hq hsf hxf
  exact bodyPost_ret (results_cell_tmp_row rfl _ _ (w.heap.size + 3) 30 _ (0, 0) _ rfl hq.blk rfl rfl (by kernel_rfl)) rfl ⟨.slice A1 s.nodes.length c1, .slice (some ⟨b, 0, none⟩) s.jobs.length c2, rfl, hsf.rd, hxf, hsf.own4 HF4.out⟩

end Go.Proofs.YtbfjlhddebollaaDoor

/- The reference of layer 9: Apply, kind 13. -/
namespace Go.Proofs.YtbfjlhddebollaaDoor
open Go.RowKit

set_option maxRecDepth 100000 in
set_option maxHeartbeats 4000000 in
theorem RefAp_13 (c : Cf) (vn vj : Value) (s : St) (a1 a2 a3 a4 a5 a6 : Int) (w : World) (h : RdSt w vn vj s) (hR : RightP c s) (hz : (applyS c s (13, a1, a2, a3, a4, a5, a6)).2 = 0) :
    Calls Tryd.prog 11 #[cfV c, stV vn vj s, .agg #[.int .i64 13, .int .i64 a1, .int .i64 a2, .int .i64 a3, .int .i64 a4, .int .i64 a5, .int .i64 a6]] w fun e w' => ∃ vn' vj', e = .returned (.tuple #[stV vn' vj' (applyS c s (13, a1, a2, a3, a4, a5, a6)).1, .int .i64 (applyS c s (13, a1, a2, a3, a4, a5, a6)).2]) ∧ RdSt w' vn' vj' (applyS c s (13, a1, a2, a3, a4, a5, a6)).1 ∧ Ext w w' ∧ ∀ k, vn'.ownBlock = some k ∨ vj'.ownBlock = some k → w.heap.size ≤ k := by
  have hR6 := hR.len.2
  have hj24 := hR.nj
  obtain ⟨k, j, ha, hjk, hz1, he1, hro⟩ := ok_job (by decide) (by decide) hz
  have he : (applyS c s (13, a1, a2, a3, a4, a5, a6)).1 = setJ s k { j with epoch := a2 } := by
    rw [he1]
    change (savedS s k j a2).2 = 0 at hz1
    change (savedS s k j a2).1 = _
    revert hz1
    unfold savedS
    repeat' split
    all_goals first | (intro; rfl) | (intro hz; cases hz)
  have HJK := Lib.hid hjk
  have hkl := (List.getElem?_eq_some_iff.1 hjk).1
  have x1 : (0 : Int) ≤ (k : Int) ∧ (k : Int) < (s.jobs.length : Int) := by omega
  have hwk : IntKind.i64.wrap (a1 - 1) = (k : Int) := by rw [ha, Int.add_sub_cancel]; exact IntWalk.i64_in _ (by omega)
  have hwk' : wrap64 (a1 - 1) = (k : Int) := by rw [ha, Int.add_sub_cancel]; exact IntWalk.wrap64_in _ (by omega)
  clear hjk hz1 he1 hro hkl ha
  obtain ⟨S2, hS2⟩ : ∃ S2, S2 = (applyS c s (13, a1, a2, a3, a4, a5, a6)).1 := ⟨_, rfl⟩
  obtain ⟨er, her⟩ : ∃ er, er = (applyS c s (13, a1, a2, a3, a4, a5, a6)).2 := ⟨_, rfl⟩
  rw [← hS2, ← her]
  have HS2 := Lib.hid (hS2.trans he)
  rw [← her] at hz
  subst hz
  have HCP := Lib.hid fun W (hx : Ext w W) => RefCopy_any vn vj s W (h.ext hx) (by omega) (by omega)
  have HWY : Hid (∀ W vn' vj', RdSt W vn' vj' s → Calls Tryd.prog 29 #[cfV c, stV vn' vj' s, .agg #[.int .i64 13, .int .i64 a1, .int .i64 a2, .int .i64 a3, .int .i64 a4, .int .i64 a5, .int .i64 a6]] W fun e w' => e = .returned (.int .i64 0) ∧ Ext W w') := Lib.hid fun W vn' vj' hr => (RefWhy_any c vn' vj' s (13, a1, a2, a3, a4, a5, a6) W hr hR).mono (by rintro e w' ⟨h1, h2⟩; rw [← her] at h1; exact ⟨h1, h2⟩)
  obtain ⟨An, cn, rfl, -, -⟩ := h.nodes.slice_
  obtain ⟨Aj, cj, rfl, -, -⟩ := h.jobs.slice_
  obtain ⟨W4, hW4, hx4, hb0, hb1, hb2, hb3, hs4⟩ := four_blocks w 23 30 36 30 #[.int .i64 c.nodes, .int .i64 c.queues, .int .i64 c.quota, .int .i64 c.wave, .int .i64 c.lease, .int .i64 c.retry, .int .i64 c.deadline, .int .i64 c.room, .int .i64 c.disk] #[.slice An s.nodes.length cn, .slice Aj s.jobs.length cj, .int .i64 s.goal, .int .i64 s.prior, .int .i64 s.mode, .int .i64 s.term] #[.int .i64 13, .int .i64 a1, .int .i64 a2, .int .i64 a3, .int .i64 a4, .int .i64 a5, .int .i64 a6] #[.slice none 0 0, .slice none 0 0, .int .i64 0, .int .i64 0, .int .i64 0, .int .i64 0]
  have HX4 := Lib.hid hx4
  have HB0 := Lib.hid hb0
  have HB1 := Lib.hid hb1
  have HB2 := Lib.hid hb2
  have HB3 := Lib.hid hb3
  have HS4 := Lib.hid hs4
  unfold stV at HCP
  unfold stV cfV at HWY
  unfold stV cfV
  clear hx4 hb0 hb1 hb2 hb3 hs4 h hS2 her he hR6 hj24
  go_enter Tryd.func11, Tryd.ntmps11
  go_wp2_with fail
  rw [← hW4]
  clear hW4
  refine (HCP.out _ HX4.out).mono ?_
  rintro e1 w1 ⟨vn1, vj1, rfl, ho, hx1⟩
  have HRD : RdSt w1 vn1 vj1 s := ⟨RdS.own ho.nodes, RdS.own ho.jobs⟩
  obtain ⟨A1, c1, rfl, -, -⟩ := HRD.nodes.slice_
  obtain ⟨A2, c2, rfl, -, -⟩ := HRD.jobs.slice_
  clear HRD
  obtain ⟨w2, hw2⟩ : ∃ W, W = w1.alloc (.cells #[.slice A1 s.nodes.length c1, .slice A2 s.jobs.length c2, .int .i64 s.goal, .int .i64 s.prior, .int .i64 s.mode, .int .i64 s.term] 30) := ⟨_, rfl⟩
  have hx2 : Ext w1 w2 := by rw [hw2]; exact Below.alloc (Ext.refl _) (Nat.le_refl _) _
  have hsz : w2.heap.size = w1.heap.size + 1 := by rw [hw2]; simp
  obtain ⟨F, hsg, hF4⟩ : ∃ F : Fp, Sg F w2 w1.heap.size (.slice A1 s.nodes.length c1) (.slice A2 s.jobs.length c2) s ∧ ∀ k, F k → w.heap.size + 4 ≤ k := ⟨fun k => W4.heap.size ≤ k ∧ k < w2.heap.size, Sg.make (w0 := W4) (base := W4.heap.size) (by rw [hw2]; exact Blk.new _ _ _) hx1.size ⟨by rw [hw2]; exact ho.nodes.alloc _, by rw [hw2]; exact ho.jobs.alloc _, ho.off⟩ (Nat.le_refl _) (fun k hk => by
    rcases hk with hk | hk
    · have := (ho.nodes.lt k hk).2
      omega
    · have := (ho.jobs.lt k hk).2
      omega), fun k hk => by have := HS4.out; omega⟩
  have HX2 := Lib.hid (Ext.trans (Ext.trans HX4.out hx1) hx2)
  have HF4 := Lib.hid hF4
  have HSG := Lib.hid hsg
  have HC0 := Lib.hid ((HB0.out.ext hx1).ext hx2)
  have HC2 := Lib.hid ((HB2.out.ext hx1).ext hx2)
  have HC3 := Lib.hid ((HB3.out.ext hx1).ext hx2)
  clear ho hx1 hx2 hsz hsg hF4 HB0 HB1 HB2 HB3 HS4 HX4 HCP
  go_upto_region 2 with (fail)
  rw [← hw2]
  clear hw2
  have k0 : w2.cell? ⟨w.heap.size, 0, none⟩ = some (.int .i64 c.nodes) := HC0.out.cell 0
  have k1 : w2.cell? ⟨w.heap.size, 1, none⟩ = some (.int .i64 c.queues) := HC0.out.cell 1
  have k2 : w2.cell? ⟨w.heap.size, 2, none⟩ = some (.int .i64 c.quota) := HC0.out.cell 2
  have k3 : w2.cell? ⟨w.heap.size, 3, none⟩ = some (.int .i64 c.wave) := HC0.out.cell 3
  have k4 : w2.cell? ⟨w.heap.size, 4, none⟩ = some (.int .i64 c.lease) := HC0.out.cell 4
  have k5 : w2.cell? ⟨w.heap.size, 5, none⟩ = some (.int .i64 c.retry) := HC0.out.cell 5
  have k6 : w2.cell? ⟨w.heap.size, 6, none⟩ = some (.int .i64 c.deadline) := HC0.out.cell 6
  have k7 : w2.cell? ⟨w.heap.size, 7, none⟩ = some (.int .i64 c.room) := HC0.out.cell 7
  have k8 : w2.cell? ⟨w.heap.size, 8, none⟩ = some (.int .i64 c.disk) := HC0.out.cell 8
  have o0 : w2.cell? ⟨w.heap.size + 2, 0, none⟩ = some (.int .i64 13) := HC2.out.cell 0
  have o1 : w2.cell? ⟨w.heap.size + 2, 1, none⟩ = some (.int .i64 a1) := HC2.out.cell 1
  have o2 : w2.cell? ⟨w.heap.size + 2, 2, none⟩ = some (.int .i64 a2) := HC2.out.cell 2
  have o3 : w2.cell? ⟨w.heap.size + 2, 3, none⟩ = some (.int .i64 a3) := HC2.out.cell 3
  have o4 : w2.cell? ⟨w.heap.size + 2, 4, none⟩ = some (.int .i64 a4) := HC2.out.cell 4
  have o5 : w2.cell? ⟨w.heap.size + 2, 5, none⟩ = some (.int .i64 a5) := HC2.out.cell 5
  have o6 : w2.cell? ⟨w.heap.size + 2, 6, none⟩ = some (.int .i64 a6) := HC2.out.cell 6
  have s0 : w2.cell? ⟨w1.heap.size, 0, none⟩ = some (.slice A1 s.nodes.length c1) := HSG.out.blk.cell 0
  have s1 : w2.cell? ⟨w1.heap.size, 1, none⟩ = some (.slice A2 s.jobs.length c2) := HSG.out.blk.cell 1
  have s2 : w2.cell? ⟨w1.heap.size, 2, none⟩ = some (.int .i64 s.goal) := HSG.out.blk.cell 2
  have s3 : w2.cell? ⟨w1.heap.size, 3, none⟩ = some (.int .i64 s.prior) := HSG.out.blk.cell 3
  have s4 : w2.cell? ⟨w1.heap.size, 4, none⟩ = some (.int .i64 s.mode) := HSG.out.blk.cell 4
  have s5 : w2.cell? ⟨w1.heap.size, 5, none⟩ = some (.int .i64 s.term) := HSG.out.blk.cell 5
  go_wp2_with fail
  refine (HWY.out _ _ _ HSG.out.rd).mono ?_
  rintro e3 w3 ⟨rfl, hx3⟩
  have HX3 := Lib.hid (HX2.out.trans hx3)
  have HSG3 := Lib.hid (HSG.out.ext hx3)
  have HO3 := Lib.hid (HC2.out.ext hx3)
  have HV3 := Lib.hid (HC3.out.ext hx3)
  have HBX : Hid (∀ W, Chg F w3 W → Blk W (w.heap.size + 2) 36 #[.int .i64 13, .int .i64 a1, .int .i64 a2, .int .i64 a3, .int .i64 a4, .int .i64 a5, .int .i64 a6] ∧ Blk W (w.heap.size + 3) 30 #[.slice none 0 0, .slice none 0 0, .int .i64 0, .int .i64 0, .int .i64 0, .int .i64 0] ∧ Ext w W) := Lib.hid fun W hc => ⟨(hc.block _ HO3.out.lt (fun hf => by have := HF4.out _ hf; omega)).trans HO3.out, (hc.block _ HV3.out.lt (fun hf => by have := HF4.out _ hf; omega)).trans HV3.out, hc.ext HX3.out (fun k hf => by have := HF4.out _ hf; omega)⟩
  clear hx3 HX2 HSG HC0 HC2 HC3 HWY k0 k1 k2 k3 k4 k5 k6 k7 k8 o0 o1 o2 o3 o4 o5 o6 s0 s1 s2 s3 s4 s5
  obtain ⟨b, cap, hv, -, -, -, -, -, -⟩ := HSG3.out.jobAt HJK.out
  injection hv with hA _ hC
  subst hA hC
  have o0 : w3.cell? ⟨w.heap.size + 2, 0, none⟩ = some (.int .i64 13) := (HBX.out _ (Chg.refl F w3)).1.cell 0
  have o1 : w3.cell? ⟨w.heap.size + 2, 1, none⟩ = some (.int .i64 a1) := (HBX.out _ (Chg.refl F w3)).1.cell 1
  have o2 : w3.cell? ⟨w.heap.size + 2, 2, none⟩ = some (.int .i64 a2) := (HBX.out _ (Chg.refl F w3)).1.cell 2
  have o3 : w3.cell? ⟨w.heap.size + 2, 3, none⟩ = some (.int .i64 a3) := (HBX.out _ (Chg.refl F w3)).1.cell 3
  have s0 : w3.cell? ⟨w1.heap.size, 0, none⟩ = some (.slice A1 s.nodes.length c1) := HSG3.out.blk.cell 0
  have s1 : w3.cell? ⟨w1.heap.size, 1, none⟩ = some (.slice (some ⟨b, 0, none⟩) s.jobs.length c2) := HSG3.out.blk.cell 1
  have s2 : w3.cell? ⟨w1.heap.size, 2, none⟩ = some (.int .i64 s.goal) := HSG3.out.blk.cell 2
  have s3 : w3.cell? ⟨w1.heap.size, 3, none⟩ = some (.int .i64 s.prior) := HSG3.out.blk.cell 3
  have s4 : w3.cell? ⟨w1.heap.size, 4, none⟩ = some (.int .i64 s.mode) := HSG3.out.blk.cell 4
  have s5 : w3.cell? ⟨w1.heap.size, 5, none⟩ = some (.int .i64 s.term) := HSG3.out.blk.cell 5
  obtain ⟨hat, hfr⟩ := HSG3.out.jobAt' HJK.out
  have p0 : w3.cell? ⟨b, k * 12 + 11, none⟩ = some (.int .i64 j.epoch) := hat.c11
  have f0 := hfr (k * 12 + 11)
  clear hat hfr
  have hs := HSG3.out.setJ' (n' := { j with epoch := a2 }) HJK.out 11 (by omega) (.int .i64 a2) rfl
  obtain ⟨v4, hw⟩ : ∃ W, W = w3.setCell ⟨b, k * 12 + 11, none⟩ (.int .i64 a2) := ⟨_, rfl⟩
  rw [← hw] at hs
  have HSV4 := Lib.hid hs.1
  have HCV4 : Hid (Chg F w3 v4) := Lib.hid (Chg.trans (Chg.refl F w3) hs.2 (fun _ _ h => h))
  clear hs
  go_upto_region 70 with (fail)
  rw [← hw]
  clear hw f0 o0 o1 o2 o3 s0 s1 s2 s3 s4 s5 p0
  have HSE := Lib.hid (show Sg F v4 w1.heap.size (.slice A1 s.nodes.length c1) (.slice (some ⟨b, 0, none⟩) s.jobs.length c2) S2 by rw [HS2.out]; exact HSV4.out)
  have HCE : Hid (Chg F w3 v4) := Lib.hid HCV4.out
  have HQE := Lib.hid (HBX.out _ HCE.out)
  have m0 : v4.cell? ⟨w1.heap.size, 0, none⟩ = some (.slice A1 s.nodes.length c1) := HSE.out.blk.cell 0
  have m1 : v4.cell? ⟨w1.heap.size, 1, none⟩ = some (.slice (some ⟨b, 0, none⟩) s.jobs.length c2) := HSE.out.blk.cell 1
  have m2 : v4.cell? ⟨w1.heap.size, 2, none⟩ = some (.int .i64 S2.goal) := HSE.out.blk.cell 2
  have m3 : v4.cell? ⟨w1.heap.size, 3, none⟩ = some (.int .i64 S2.prior) := HSE.out.blk.cell 3
  have m4 : v4.cell? ⟨w1.heap.size, 4, none⟩ = some (.int .i64 S2.mode) := HSE.out.blk.cell 4
  have m5 : v4.cell? ⟨w1.heap.size, 5, none⟩ = some (.int .i64 S2.term) := HSE.out.blk.cell 5
  have r0 : v4.cell? ⟨w.heap.size + 3, 0, none⟩ = some (.slice none 0 0) := HQE.out.2.1.cell 0
  have g0 : v4.frozen? ⟨w.heap.size + 3, 0, none⟩ = false := HQE.out.2.1.frozen 0
  have r1 : v4.cell? ⟨w.heap.size + 3, 1, none⟩ = some (.slice none 0 0) := HQE.out.2.1.cell 1
  have g1 : v4.frozen? ⟨w.heap.size + 3, 1, none⟩ = false := HQE.out.2.1.frozen 1
  have r2 : v4.cell? ⟨w.heap.size + 3, 2, none⟩ = some (.int .i64 0) := HQE.out.2.1.cell 2
  have g2 : v4.frozen? ⟨w.heap.size + 3, 2, none⟩ = false := HQE.out.2.1.frozen 2
  have r3 : v4.cell? ⟨w.heap.size + 3, 3, none⟩ = some (.int .i64 0) := HQE.out.2.1.cell 3
  have g3 : v4.frozen? ⟨w.heap.size + 3, 3, none⟩ = false := HQE.out.2.1.frozen 3
  have r4 : v4.cell? ⟨w.heap.size + 3, 4, none⟩ = some (.int .i64 0) := HQE.out.2.1.cell 4
  have g4 : v4.frozen? ⟨w.heap.size + 3, 4, none⟩ = false := HQE.out.2.1.frozen 4
  have r5 : v4.cell? ⟨w.heap.size + 3, 5, none⟩ = some (.int .i64 0) := HQE.out.2.1.cell 5
  have g5 : v4.frozen? ⟨w.heap.size + 3, 5, none⟩ = false := HQE.out.2.1.frozen 5
  go_wp2
  have hq := (((((PB.start HQE.out.2.1).set 0 (.slice A1 s.nodes.length c1)).set 1 (.slice (some ⟨b, 0, none⟩) s.jobs.length c2)).set 2 (.int .i64 S2.goal)).set 3 (.int .i64 S2.prior)).set 4 (.int .i64 S2.mode)
  replace hq := hq.set 5 (.int .i64 S2.term)
  simp only [List.setIfInBounds_toArray, List.set_cons_zero, List.set_cons_succ] at hq
  obtain ⟨wf, hwf⟩ : ∃ W, W = ((((((v4.setCell ⟨w.heap.size + 3, 0, none⟩ (.slice A1 s.nodes.length c1)).setCell ⟨w.heap.size + 3, 1, none⟩ (.slice (some ⟨b, 0, none⟩) s.jobs.length c2)).setCell ⟨w.heap.size + 3, 2, none⟩ (.int .i64 S2.goal)).setCell ⟨w.heap.size + 3, 3, none⟩ (.int .i64 S2.prior)).setCell ⟨w.heap.size + 3, 4, none⟩ (.int .i64 S2.mode)).setCell ⟨w.heap.size + 3, 5, none⟩ (.int .i64 S2.term)) := ⟨_, rfl⟩
  rw [← hwf] at hq
  have hc1 : Chg (fun x => x = w.heap.size + 3) v4 wf := hq.chg
  have hsf : Sg F wf w1.heap.size (.slice A1 s.nodes.length c1) (.slice (some ⟨b, 0, none⟩) s.jobs.length c2) S2 := ObjF.chg HSE.out hc1 (fun x hx e => by have := HF4.out x hx; have e : x = w.heap.size + 3 := e; omega)
  have hxf := hq.below _ _ HQE.out.2.2 (by omega)
  rw [hwf] at hq hsf hxf
  exact bodyPost_ret (results_cell_tmp_row rfl _ _ (w.heap.size + 3) 30 _ (0, 0) _ rfl hq.blk rfl rfl (by kernel_rfl)) rfl ⟨.slice A1 s.nodes.length c1, .slice (some ⟨b, 0, none⟩) s.jobs.length c2, rfl, hsf.rd, hxf, hsf.own4 HF4.out⟩

end Go.Proofs.YtbfjlhddebollaaDoor
