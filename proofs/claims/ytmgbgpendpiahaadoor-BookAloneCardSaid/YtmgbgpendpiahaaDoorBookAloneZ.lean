/- For every input BookAlone returns true: an op of a job turns no other job, one of a node no other node, but by the job that it has; with the listed package-level variable as the program's text lays it. -/
import Derived.Test.YtmgbgpendpiahaaDoorBQ10
import Derived.Test.YtmgbgpendpiahaaDoorCards
import Derived.Test.YtmgbgpendpiahaaDoorTie
import Derived.SevenTiedAt
import Derived.Deep.DeepCutAuto
import Derived.Deep.CutBlock
import Derived.Deep.LoopGhost
import Derived.BigQuiet
import Derived.Deep.RegionHeld3
namespace Go.Proofs.YtmgbgpendpiahaaDoor
open Go.ChangeShapes Go.WideShapes Go.ChangeAt Go.RowKit

/-- Two nodes, each in a block of its own. -/
structure TwoN (wr : World) (a b : Nd) (p q : Value) (wx : World) : Prop where
  out : ∃ g1 g2, p = .pointer (some ⟨g1, 0, none⟩) ∧ q = .pointer (some ⟨g2, 0, none⟩) ∧ Ext wr wx ∧ Blk wx g1 48 #[.bool a.up, .bool a.cordon, .bool a.moving, .int .i64 a.version, .int .i64 a.job] ∧ Blk wx g2 48 #[.bool b.up, .bool b.cordon, .bool b.moving, .int .i64 b.version, .int .i64 b.job]
theorem TwoN.one (wr : World) (a b : Nd) : TwoN wr a b (.pointer (some ⟨wr.heap.size, 0, none⟩)) (.pointer (some ⟨wr.heap.size + 1, 0, none⟩)) ((wr.alloc (.cells #[.bool a.up, .bool a.cordon, .bool a.moving, .int .i64 a.version, .int .i64 a.job] 48)).alloc (.cells #[.bool b.up, .bool b.cordon, .bool b.moving, .int .i64 b.version, .int .i64 b.job] 48)) := by
  obtain ⟨W, hW, hx, h1, h2⟩ := two_blocks wr 48 48 #[.bool a.up, .bool a.cordon, .bool a.moving, .int .i64 a.version, .int .i64 a.job] #[.bool b.up, .bool b.cordon, .bool b.moving, .int .i64 b.version, .int .i64 b.job]
  rw [← hW]
  exact ⟨_, _, rfl, rfl, hx, h1, h2⟩
theorem TwoN.two (wr : World) (a b : Nd) : TwoN wr a b (.pointer (some ⟨wr.heap.size + 1, 0, none⟩)) (.pointer (some ⟨wr.heap.size, 0, none⟩)) ((wr.alloc (.cells #[.bool b.up, .bool b.cordon, .bool b.moving, .int .i64 b.version, .int .i64 b.job] 48)).alloc (.cells #[.bool a.up, .bool a.cordon, .bool a.moving, .int .i64 a.version, .int .i64 a.job] 48)) := by
  obtain ⟨W, hW, hx, h1, h2⟩ := two_blocks wr 48 48 #[.bool b.up, .bool b.cordon, .bool b.moving, .int .i64 b.version, .int .i64 b.job] #[.bool a.up, .bool a.cordon, .bool a.moving, .int .i64 a.version, .int .i64 a.job]
  rw [← hW]
  exact ⟨_, _, rfl, rfl, hx, h2, h1⟩
theorem TwoN.drew {wr wx : World} {a b : Nd} {p q : Value} (h : TwoN wr a b p q wx) : TwoN wr a b p q wx.drew := by
  obtain ⟨g1, g2, e1, e2, hx, h1, h2⟩ := h.out
  exact ⟨g1, g2, e1, e2, ext_drew9 hx, h1, h2⟩

set_option maxRecDepth 100000 in
set_option maxHeartbeats 8000000 in
theorem BookAlone_calls (c : Cf) (vn vj : Value) (s : St) (z a1 a2 a3 a4 a5 a6 : Int) (w : World) (h : RdSt w vn vj s) (hL : Laid w) :
    Calls Tryd.prog 10 #[cfV c, stV vn vj s, opV (z, a1, a2, a3, a4, a5, a6)] w fun e w' => e = .returned (.bool true) ∧ Ext w w' := by
  obtain ⟨W2, hW2, hx2, hb0, hb1, hbo⟩ := three_blocks w 23 27 35 #[.int .i64 c.nodes, .int .i64 c.queues, .int .i64 c.quota, .int .i64 c.wave, .int .i64 c.lease, .int .i64 c.retry, .int .i64 c.deadline, .int .i64 c.room, .int .i64 c.disk] #[vn, vj, .int .i64 s.goal, .int .i64 s.prior, .int .i64 s.mode, .int .i64 s.term] #[.int .i64 z, .int .i64 a1, .int .i64 a2, .int .i64 a3, .int .i64 a4, .int .i64 a5, .int .i64 a6]
  have HL := Lib.hid hL
  have HSA := Lib.hid (SAt.first h hx2 hb1 (Nat.le_succ _))
  have HBC := Lib.hid hb0
  have HBO := Lib.hid hbo
  have HX2 := Lib.hid hx2
  have HAL := Lib.hid (alive9_any W2 (hL.ext hx2))
  have HGR := Lib.hid fun W (hx : Ext w W) => great_any vn vj s W (h.ext hx)
  have HRT := Lib.hid fun W (hx : Ext w W) => RightS_any c vn vj s W (h.ext hx).nodes (h.ext hx).jobs
  unfold stV at HGR
  unfold cfV stV at HRT
  rw [show opV (z, a1, a2, a3, a4, a5, a6) = .agg #[.int .i64 z, .int .i64 a1, .int .i64 a2, .int .i64 a3, .int .i64 a4, .int .i64 a5, .int .i64 a6] from rfl]
  unfold cfV stV
  clear hL h hx2 hb0 hb1 hbo
  go_enter Tryd.func10, Tryd.ntmps10
  go_wp2_with fail
  rw [← hW2]
  clear hW2
  refine HAL.out.mono ?_
  rintro e1 w1 ⟨rfl, hx1⟩
  have HX1 := Lib.hid (HX2.out.trans hx1)
  have HS1 := Lib.hid (HSA.out.ext hx1)
  have HB1 := Lib.hid (HBC.out.ext hx1)
  have HO1 := Lib.hid (HBO.out.ext hx1)
  clear hx1 HX2 HSA HBC HBO HAL
  have s0 : w1.cell? ⟨w.heap.size + 1, 0, none⟩ = some (vn) := HS1.out.blk.cell 0
  have s1 : w1.cell? ⟨w.heap.size + 1, 1, none⟩ = some (vj) := HS1.out.blk.cell 1
  have s2 : w1.cell? ⟨w.heap.size + 1, 2, none⟩ = some (.int .i64 s.goal) := HS1.out.blk.cell 2
  have s3 : w1.cell? ⟨w.heap.size + 1, 3, none⟩ = some (.int .i64 s.prior) := HS1.out.blk.cell 3
  have s4 : w1.cell? ⟨w.heap.size + 1, 4, none⟩ = some (.int .i64 s.mode) := HS1.out.blk.cell 4
  have s5 : w1.cell? ⟨w.heap.size + 1, 5, none⟩ = some (.int .i64 s.term) := HS1.out.blk.cell 5
  have HG1 := Lib.hid (HGR.out w1 HX1.out)
  generalize greatS s = gs at *
  go_wp2_with fail
  refine HG1.out.mono ?_
  rintro e2 w2 ⟨rfl, hx2⟩
  have HX2 := Lib.hid (HX1.out.trans hx2)
  have HS2 := Lib.hid (HS1.out.ext hx2)
  have HB2 := Lib.hid (HB1.out.ext hx2)
  have HO2 := Lib.hid (HO1.out.ext hx2)
  clear hx2 HX1 HS1 HB1 HO1 HGR HG1 s0 s1 s2 s3 s4 s5
  cases gs
  case true =>
    go_wp2
    go_ret
    exact ⟨rfl, HX2.out⟩
  have s0 : w2.cell? ⟨w.heap.size + 1, 0, none⟩ = some (vn) := HS2.out.blk.cell 0
  have s1 : w2.cell? ⟨w.heap.size + 1, 1, none⟩ = some (vj) := HS2.out.blk.cell 1
  have s2 : w2.cell? ⟨w.heap.size + 1, 2, none⟩ = some (.int .i64 s.goal) := HS2.out.blk.cell 2
  have s3 : w2.cell? ⟨w.heap.size + 1, 3, none⟩ = some (.int .i64 s.prior) := HS2.out.blk.cell 3
  have s4 : w2.cell? ⟨w.heap.size + 1, 4, none⟩ = some (.int .i64 s.mode) := HS2.out.blk.cell 4
  have s5 : w2.cell? ⟨w.heap.size + 1, 5, none⟩ = some (.int .i64 s.term) := HS2.out.blk.cell 5
  have k0 : w2.cell? ⟨w.heap.size, 0, none⟩ = some (.int .i64 c.nodes) := HB2.out.cell 0
  have k1 : w2.cell? ⟨w.heap.size, 1, none⟩ = some (.int .i64 c.queues) := HB2.out.cell 1
  have k2 : w2.cell? ⟨w.heap.size, 2, none⟩ = some (.int .i64 c.quota) := HB2.out.cell 2
  have k3 : w2.cell? ⟨w.heap.size, 3, none⟩ = some (.int .i64 c.wave) := HB2.out.cell 3
  have k4 : w2.cell? ⟨w.heap.size, 4, none⟩ = some (.int .i64 c.lease) := HB2.out.cell 4
  have k5 : w2.cell? ⟨w.heap.size, 5, none⟩ = some (.int .i64 c.retry) := HB2.out.cell 5
  have k6 : w2.cell? ⟨w.heap.size, 6, none⟩ = some (.int .i64 c.deadline) := HB2.out.cell 6
  have k7 : w2.cell? ⟨w.heap.size, 7, none⟩ = some (.int .i64 c.room) := HB2.out.cell 7
  have k8 : w2.cell? ⟨w.heap.size, 8, none⟩ = some (.int .i64 c.disk) := HB2.out.cell 8
  go_wp2_with fail
  refine (HRT.out w2 HX2.out).mono ?_
  rintro e3 w3 ⟨b, rfl, hb, hx3⟩
  have HRB := Lib.hid hb
  have HX3 := Lib.hid (HX2.out.trans hx3)
  have HS3 := Lib.hid (HS2.out.ext hx3)
  have HB3 := Lib.hid (HB2.out.ext hx3)
  have HO3 := Lib.hid (HO2.out.ext hx3)
  clear hb hx3 HX2 HS2 HB2 HO2 HRT s0 s1 s2 s3 s4 s5 k0 k1 k2 k3 k4 k5 k6 k7 k8
  cases b
  case false =>
    go_wp2
    go_ret
    exact ⟨rfl, HX3.out⟩
  have HRP : Hid (RightP c s) := Lib.hid (HRB.out.1 (by trivial))
  clear HRB
  have o0 : w3.cell? ⟨w.heap.size + 2, 0, none⟩ = some (.int .i64 z) := HO3.out.cell 0
  have o1 : w3.cell? ⟨w.heap.size + 2, 1, none⟩ = some (.int .i64 a1) := HO3.out.cell 1
  have o2 : w3.cell? ⟨w.heap.size + 2, 2, none⟩ = some (.int .i64 a2) := HO3.out.cell 2
  have o3 : w3.cell? ⟨w.heap.size + 2, 3, none⟩ = some (.int .i64 a3) := HO3.out.cell 3
  have o4 : w3.cell? ⟨w.heap.size + 2, 4, none⟩ = some (.int .i64 a4) := HO3.out.cell 4
  have o5 : w3.cell? ⟨w.heap.size + 2, 5, none⟩ = some (.int .i64 a5) := HO3.out.cell 5
  have o6 : w3.cell? ⟨w.heap.size + 2, 6, none⟩ = some (.int .i64 a6) := HO3.out.cell 6
  by_cases hz1 : z < 1
  · have d1 : decide (z < 1) = true := decide_eq_true hz1
    clear hz1
    go_wp2
    go_ret
    exact ⟨rfl, HX3.out⟩
  have d1 : decide (z < 1) = false := decide_eq_false hz1
  by_cases hz2 : 21 < z
  · have d2 : decide (21 < z) = true := decide_eq_true hz2
    clear hz1 hz2
    go_wp2
    go_ret
    exact ⟨rfl, HX3.out⟩
  have d2 : decide (21 < z) = false := decide_eq_false hz2
  clear hz1 hz2
  have s0 : w3.cell? ⟨w.heap.size + 1, 0, none⟩ = some (vn) := HS3.out.blk.cell 0
  have s1 : w3.cell? ⟨w.heap.size + 1, 1, none⟩ = some (vj) := HS3.out.blk.cell 1
  have s2 : w3.cell? ⟨w.heap.size + 1, 2, none⟩ = some (.int .i64 s.goal) := HS3.out.blk.cell 2
  have s3 : w3.cell? ⟨w.heap.size + 1, 3, none⟩ = some (.int .i64 s.prior) := HS3.out.blk.cell 3
  have s4 : w3.cell? ⟨w.heap.size + 1, 4, none⟩ = some (.int .i64 s.mode) := HS3.out.blk.cell 4
  have s5 : w3.cell? ⟨w.heap.size + 1, 5, none⟩ = some (.int .i64 s.term) := HS3.out.blk.cell 5
  have k0 : w3.cell? ⟨w.heap.size, 0, none⟩ = some (.int .i64 c.nodes) := HB3.out.cell 0
  have k1 : w3.cell? ⟨w.heap.size, 1, none⟩ = some (.int .i64 c.queues) := HB3.out.cell 1
  have k2 : w3.cell? ⟨w.heap.size, 2, none⟩ = some (.int .i64 c.quota) := HB3.out.cell 2
  have k3 : w3.cell? ⟨w.heap.size, 3, none⟩ = some (.int .i64 c.wave) := HB3.out.cell 3
  have k4 : w3.cell? ⟨w.heap.size, 4, none⟩ = some (.int .i64 c.lease) := HB3.out.cell 4
  have k5 : w3.cell? ⟨w.heap.size, 5, none⟩ = some (.int .i64 c.retry) := HB3.out.cell 5
  have k6 : w3.cell? ⟨w.heap.size, 6, none⟩ = some (.int .i64 c.deadline) := HB3.out.cell 6
  have k7 : w3.cell? ⟨w.heap.size, 7, none⟩ = some (.int .i64 c.room) := HB3.out.cell 7
  have k8 : w3.cell? ⟨w.heap.size, 8, none⟩ = some (.int .i64 c.disk) := HB3.out.cell 8
  obtain ⟨⟨t, er⟩, hap⟩ : ∃ r, r = applyS c s (z, a1, a2, a3, a4, a5, a6) := ⟨_, rfl⟩
  have HAP : Hid (Calls Tryd.prog 20 #[.agg #[.int .i64 c.nodes, .int .i64 c.queues, .int .i64 c.quota, .int .i64 c.wave, .int .i64 c.lease, .int .i64 c.retry, .int .i64 c.deadline, .int .i64 c.room, .int .i64 c.disk], .agg #[vn, vj, .int .i64 s.goal, .int .i64 s.prior, .int .i64 s.mode, .int .i64 s.term], .agg #[.int .i64 z, .int .i64 a1, .int .i64 a2, .int .i64 a3, .int .i64 a4, .int .i64 a5, .int .i64 a6]] w3 fun e w' => ∃ vn' vj', e = .returned (.tuple #[.agg #[vn', vj', .int .i64 t.goal, .int .i64 t.prior, .int .i64 t.mode, .int .i64 t.term], .int .i64 er]) ∧ RdSt w' vn' vj' t ∧ Ext w3 w' ∧ ∀ k, vn'.ownBlock = some k ∨ vj'.ownBlock = some k → w3.heap.size ≤ k) := Lib.hid (Apply_at HS3.out.rd (HL.out.ext HX3.out) HRP.out hap.symm)
  have HRT : Hid (RightP c t) := Lib.hid (by have := HRP.out.apply (z, a1, a2, a3, a4, a5, a6); rw [← hap] at this; exact this)
  have HER : Hid (er ≠ 0 → s = t) := Lib.hid fun h => by
    have := apply_err (c := c) (s := s) (o := (z, a1, a2, a3, a4, a5, a6))
    rw [← hap] at this
    exact (this h).symm
  have HSH : Hid (Shape s t) := Lib.hid (by have := HRP.out.shape (z, a1, a2, a3, a4, a5, a6); rw [← hap] at this; exact this)
  clear hap
  go_wp2_with fail
  refine HAP.out.mono ?_
  rintro e4 w4 ⟨un, uj, rfl, hr4, hx4, hk4⟩
  obtain ⟨Bn, dn, rfl, -, -⟩ := hr4.nodes.slice_
  obtain ⟨Bj, dj, rfl, -, -⟩ := hr4.jobs.slice_
  obtain ⟨w5, hw5⟩ : ∃ W, W = w4.alloc (.cells #[.slice Bn t.nodes.length dn, .slice Bj t.jobs.length dj, .int .i64 t.goal, .int .i64 t.prior, .int .i64 t.mode, .int .i64 t.term] 27) := ⟨_, rfl⟩
  have hx45 : Ext w4 w5 := by rw [hw5]; exact (Below.refl _ _).alloc (Nat.le_refl _) _
  have HST : Hid (SAt w5 w4.heap.size _ _ t) := Lib.hid (SAt.first hr4 hx45 (by rw [hw5]; exact Blk.new _ _ _) (Nat.le_refl _))
  have HX5 := Lib.hid ((HX3.out.trans hx4).trans hx45)
  have HSS := Lib.hid ((HS3.out.ext hx4).ext hx45)
  clear hr4 hx4 hk4 hx45 HAP HX3 HS3 HB3 HO3 HL s0 s1 s2 s3 s4 s5 k0 k1 k2 k3 k4 k5 k6 k7 k8 o0 o1 o2 o3 o4 o5 o6
  go_upto_region 6 with (fail)
  rw [← hw5]
  clear hw5
  generalize w4.heap.size = g at *
  obtain ⟨An, cn, rfl, -, -, HJNs⟩ := has_cells HSS.out.rd.nodes
  obtain ⟨Aj, cj, rfl, -, -, HJJs⟩ := jobs_cells HSS.out.rd.jobs
  obtain ⟨_, _, ej, -, -, HJNt⟩ := has_cells HST.out.rd.nodes
  cases ej
  obtain ⟨_, _, ej, -, -, HJJt⟩ := jobs_cells HST.out.rd.jobs
  cases ej
  have HNs := Lib.hid HJNs
  have HJs := Lib.hid HJJs
  have HNt := Lib.hid HJNt
  have HJt := Lib.hid HJJt
  clear HJNs HJJs HJNt HJJt
  by_cases he : ¬ er = 0
  · have e1 : (er != 0) = true := by rw [bne_iff_ne]; exact he
    have HEQ := Lib.hid (HER.out he)
    have HSM : Hid (Calls Tryd.prog 15 #[.agg #[.slice An s.nodes.length cn, .slice Aj s.jobs.length cj, .int .i64 s.goal, .int .i64 s.prior, .int .i64 s.mode, .int .i64 s.term], .agg #[.slice Bn t.nodes.length dn, .slice Bj t.jobs.length dj, .int .i64 t.goal, .int .i64 t.prior, .int .i64 t.mode, .int .i64 t.term]] w5 fun e w' => ∃ b, e = .returned (.bool b) ∧ (b = true ↔ s = t) ∧ Ext w5 w') := Lib.hid (Same09_any _ _ _ _ s t w5 HSS.out.rd HST.out.rd)
    clear he
    have s0 : w5.cell? ⟨w.heap.size + 1, 0, none⟩ = some (.slice An s.nodes.length cn) := HSS.out.blk.cell 0
    have s1 : w5.cell? ⟨w.heap.size + 1, 1, none⟩ = some (.slice Aj s.jobs.length cj) := HSS.out.blk.cell 1
    have s2 : w5.cell? ⟨w.heap.size + 1, 2, none⟩ = some (.int .i64 s.goal) := HSS.out.blk.cell 2
    have s3 : w5.cell? ⟨w.heap.size + 1, 3, none⟩ = some (.int .i64 s.prior) := HSS.out.blk.cell 3
    have s4 : w5.cell? ⟨w.heap.size + 1, 4, none⟩ = some (.int .i64 s.mode) := HSS.out.blk.cell 4
    have s5 : w5.cell? ⟨w.heap.size + 1, 5, none⟩ = some (.int .i64 s.term) := HSS.out.blk.cell 5
    have t0 : w5.cell? ⟨g, 0, none⟩ = some (.slice Bn t.nodes.length dn) := HST.out.blk.cell 0
    have t1 : w5.cell? ⟨g, 1, none⟩ = some (.slice Bj t.jobs.length dj) := HST.out.blk.cell 1
    have t2 : w5.cell? ⟨g, 2, none⟩ = some (.int .i64 t.goal) := HST.out.blk.cell 2
    have t3 : w5.cell? ⟨g, 3, none⟩ = some (.int .i64 t.prior) := HST.out.blk.cell 3
    have t4 : w5.cell? ⟨g, 4, none⟩ = some (.int .i64 t.mode) := HST.out.blk.cell 4
    have t5 : w5.cell? ⟨g, 5, none⟩ = some (.int .i64 t.term) := HST.out.blk.cell 5
    go_wp2_with fail
    refine HSM.out.mono ?_
    rintro e6 w6 ⟨b, rfl, hb, hx6⟩
    obtain rfl := hb.2 HEQ.out
    have HX6 := Lib.hid (HX5.out.trans hx6)
    clear hb hx6 s0 s1 s2 s3 s4 s5 t0 t1 t2 t3 t4 t5
    go_wp2
    go_ret
    exact ⟨rfl, HX6.out⟩
  replace he := Classical.not_not.1 he
  have e1 : (er != 0) = false := by rw [he]; rfl
  clear he HER
  obtain ⟨hl1, k0, hal⟩ := HSH.out.alone
  have hle : s.jobs.length ≤ t.jobs.length := HSH.out.keeps.1
  have hln : t.nodes.length = s.nodes.length := HSH.out.ln
  obtain ⟨i0, hnd⟩ := HSH.out.nodes
  have HAL := Lib.hid hal
  have HND := Lib.hid hnd
  have HL1 := Lib.hid hl1
  have HLE := Lib.hid hle
  have HLN := Lib.hid hln
  have HJ24 := Lib.hid HRP.out.nj
  have HN6 := Lib.hid HRP.out.len.2
  clear HSH hal hnd hl1 hle hln
  go_wp2_with fail
  go_loopg [9, 10] s.jobs.length (fun gg n i wr => ∃ (q u : Nat), i = .int .i64 q ∧ n = .int .i64 (u : Int) ∧ q ≤ s.jobs.length ∧ gg = s.jobs.length - q ∧ u ≤ 1 ∧ Hid (Ext w5 wr ∧ (q ≤ k0 → u = 0)))
  case atStart => exact ⟨0, 0, rfl, rfl, Nat.zero_le _, by omega, by omega, Lib.hid ⟨Ext.refl _, fun _ => rfl⟩⟩
  case round =>
    obtain ⟨q, u, rfl, rfl, hq, rfl, hu, HX⟩ := hrel
    have s1 := (HSS.out.blk.ext HX.out.1).cell 1
    have t1 := (HST.out.blk.ext HX.out.1).cell 1
    simp only [List.getElem?_toArray, List.getElem?_cons_succ, List.getElem?_cons_zero] at s1 t1
    have hj24 : s.jobs.length ≤ 24 := HJ24.out
    by_cases hlt : q < s.jobs.length
    · have d1 : decide ((q : Int) < (s.jobs.length : Int)) = true := decide_eq_true (by omega)
      have d1' : decide (q < s.jobs.length) = true := decide_eq_true hlt
      have hlt2 : q < t.jobs.length := by have := HLE.out; omega
      obtain ⟨a, ha⟩ : ∃ a, s.jobs[q]? = some a := ⟨_, List.getElem?_eq_getElem hlt⟩
      obtain ⟨b, hb⟩ : ∃ b, t.jobs[q]? = some b := ⟨_, List.getElem?_eq_getElem hlt2⟩
      obtain ⟨b1, p1, rfl, hb1, hat1⟩ := HJs.out q a ha
      obtain ⟨b2, p2, rfl, hb2, hat2⟩ := HJt.out q b hb
      obtain ⟨c0, c1, c2, c3, c4, c5, c6, c7, c8, c9, c10, c11⟩ := hat1.ext HX.out.1 hb1
      obtain ⟨c0', c1', c2', c3', c4', c5', c6', c7', c8', c9', c10', c11'⟩ := hat2.ext HX.out.1 hb2
      have x1 : (0 : Int) ≤ (q : Int) ∧ (q : Int) < (s.jobs.length : Int) := by omega
      have x2 : (0 : Int) ≤ (q : Int) ∧ (q : Int) < (t.jobs.length : Int) := by omega
      have HLT := Lib.hid hlt
      have HEQ : Hid (q ≠ k0 → b = a) := Lib.hid fun h => by
        have := HAL.out q a h ha
        rw [hb] at this
        exact Option.some.inj this
      clear ha hb hat1 hat2 hb1 hb2 hlt hlt2
      by_cases hk : q = k0
      case neg =>
        obtain rfl := HEQ.out hk
        have HK : Hid (q + 1 ≤ k0 → u = 0) := Lib.hid fun h => HX.out.2 (by omega)
        clear hk HEQ
        go_wp2_with fail
        go_quiet (fail)
        have HXQ := Lib.hid (Below.drewN' HX.out.1 nq)
        go_wp2
        go_roundg (s.jobs.length - (q + 1))
        case measure => have := HLT.out; omega
        case rel => exact ⟨q + 1, u, by go_num, rfl, HLT.out, rfl, hu, Lib.hid ⟨HXQ.out, HK.out⟩⟩
      have hu0 : u = 0 := HX.out.2 (by omega)
      subst hu0
      have HK : Hid (¬ q + 1 ≤ k0) := Lib.hid (by omega)
      clear hk HEQ
      rcases jb_cases a b with rfl | hz | ⟨e0, hz⟩ | ⟨e0, e1, hz⟩ | ⟨e0, e1, e2, hz⟩ | ⟨e0, e1, e2, e3, hz⟩ | ⟨e0, e1, e2, e3, e4, hz⟩ | ⟨e0, e1, e2, e3, e4, e5, hz⟩ | ⟨e0, e1, e2, e3, e4, e5, e6, hz⟩ | ⟨e0, e1, e2, e3, e4, e5, e6, e7, hz⟩ | ⟨e0, e1, e2, e3, e4, e5, e6, e7, e8, hz⟩ | ⟨e0, e1, e2, e3, e4, e5, e6, e7, e8, e9, hz⟩ | ⟨e0, e1, e2, e3, e4, e5, e6, e7, e8, e9, e10, hz⟩
      · go_wp2_with fail
        go_quiet (fail)
        have HXQ := Lib.hid (Below.drewN' HX.out.1 nq)
        go_wp2
        go_roundg (s.jobs.length - (q + 1))
        case measure => have := HLT.out; omega
        case rel => exact ⟨q + 1, 0, by go_num, rfl, HLT.out, rfl, by omega, Lib.hid ⟨HXQ.out, fun h => absurd h HK.out⟩⟩
      all_goals
        go_wp2_with fail
        go_quiet (fail)
        have HXQ := Lib.hid (Below.drewN' HX.out.1 nq)
        go_wp2
        go_roundg (s.jobs.length - (q + 1))
        case measure => have := HLT.out; omega
        case rel => exact ⟨q + 1, 1, by go_num, rfl, HLT.out, rfl, by omega, Lib.hid ⟨HXQ.out, fun h => absurd h HK.out⟩⟩
    · have d1 : decide ((q : Int) < (s.jobs.length : Int)) = false := decide_eq_false (by omega)
      have d1' : decide (q < s.jobs.length) = false := decide_eq_false hlt
      have HXo := Lib.hid HX.out.1
      clear hlt hq
      obtain ⟨wz, hwz⟩ : ∃ wz, wz = wr := ⟨_, rfl⟩
      go_wp2_with fail
      rw [← hwz]
      rw [← hwz] at HXo
      clear s1 t1 hwz HX d1 d1'
      go_loopg [11, 12] s.nodes.length (fun gg n i wr => ∃ (q u : Nat), i = .int .i64 q ∧ n = .int .i64 (u : Int) ∧ q ≤ s.nodes.length ∧ gg = s.nodes.length - q ∧ u ≤ 1 ∧ Hid (Ext w5 wr ∧ (q ≤ i0 → u = 0)))
      case atStart => exact ⟨0, 0, rfl, rfl, Nat.zero_le _, by omega, by omega, Lib.hid ⟨HXo.out, fun _ => rfl⟩⟩
      case round =>
        obtain ⟨q, v, rfl, rfl, hq, rfl, hv, HX⟩ := hrel
        have s0 := (HSS.out.blk.ext HX.out.1).cell 0
        have t0 := (HST.out.blk.ext HX.out.1).cell 0
        simp only [List.getElem?_toArray, List.getElem?_cons_succ, List.getElem?_cons_zero] at s0 t0
        have hn6 : s.nodes.length ≤ 6 := HN6.out
        by_cases hlt : q < s.nodes.length
        · have d1 : decide ((q : Int) < (s.nodes.length : Int)) = true := decide_eq_true (by omega)
          have d1' : decide (q < s.nodes.length) = true := decide_eq_true hlt
          have hlt2 : q < t.nodes.length := by have := HLN.out; omega
          obtain ⟨⟨xu, xc, xm, xv, xj⟩, ha⟩ : ∃ a, s.nodes[q]? = some a := ⟨_, List.getElem?_eq_getElem hlt⟩
          obtain ⟨⟨yu, yc, ym, yv, yj⟩, hb⟩ : ∃ b, t.nodes[q]? = some b := ⟨_, List.getElem?_eq_getElem hlt2⟩
          obtain ⟨b1, p1, rfl, hb1, hat1⟩ := HNs.out q _ ha
          obtain ⟨b2, p2, rfl, hb2, hat2⟩ := HNt.out q _ hb
          have HSC : Hid (∀ W, Ext wr W → W.cell? ⟨w.heap.size + 1, 0, none⟩ = some (.slice (some ⟨b1, p1, none⟩) s.nodes.length cn) ∧ W.cell? ⟨g, 0, none⟩ = some (.slice (some ⟨b2, p2, none⟩) t.nodes.length dn) ∧ W.cell? ⟨b1, p1 + q * 5, none⟩ = some (.bool xu) ∧ W.cell? ⟨b1, p1 + q * 5 + 1, none⟩ = some (.bool xc) ∧ W.cell? ⟨b1, p1 + q * 5 + 2, none⟩ = some (.bool xm) ∧ W.cell? ⟨b1, p1 + q * 5 + 3, none⟩ = some (.int .i64 xv) ∧ W.cell? ⟨b1, p1 + q * 5 + 4, none⟩ = some (.int .i64 xj) ∧ W.cell? ⟨b2, p2 + q * 5, none⟩ = some (.bool yu) ∧ W.cell? ⟨b2, p2 + q * 5 + 1, none⟩ = some (.bool yc) ∧ W.cell? ⟨b2, p2 + q * 5 + 2, none⟩ = some (.bool ym) ∧ W.cell? ⟨b2, p2 + q * 5 + 3, none⟩ = some (.int .i64 yv) ∧ W.cell? ⟨b2, p2 + q * 5 + 4, none⟩ = some (.int .i64 yj)) := Lib.hid fun W hx => ⟨(HSS.out.blk.ext (HX.out.1.trans hx)).cell 0, (HST.out.blk.ext (HX.out.1.trans hx)).cell 0, (hat1.ext (HX.out.1.trans hx) hb1).c0, (hat1.ext (HX.out.1.trans hx) hb1).c1, (hat1.ext (HX.out.1.trans hx) hb1).c2, (hat1.ext (HX.out.1.trans hx) hb1).c3, (hat1.ext (HX.out.1.trans hx) hb1).c4, (hat2.ext (HX.out.1.trans hx) hb2).c0, (hat2.ext (HX.out.1.trans hx) hb2).c1, (hat2.ext (HX.out.1.trans hx) hb2).c2, (hat2.ext (HX.out.1.trans hx) hb2).c3, (hat2.ext (HX.out.1.trans hx) hb2).c4⟩
          have x1 : (0 : Int) ≤ (q : Int) ∧ (q : Int) < (s.nodes.length : Int) := by omega
          have x2 : (0 : Int) ≤ (q : Int) ∧ (q : Int) < (t.nodes.length : Int) := by omega
          have HLT := Lib.hid hlt
          have HEQ : Hid (q ≠ i0 → yu = xu ∧ yc = xc ∧ ym = xm ∧ yv = xv) := Lib.hid fun h => HND.out q _ _ h ha hb
          clear ha hb hat1 hat2 hb1 hb2 hlt hlt2
          go_wp2_with fail
          go_cut [13, 14] (fun p q wx => TwoN wr ⟨xu, xc, xm, xv, xj⟩ ⟨yu, yc, ym, yv, yj⟩ p q wx)
          case first =>
            go_region_held3 (fun W => W.cell? ⟨w.heap.size + 1, 0, none⟩ = some (.slice (some ⟨b1, p1, none⟩) s.nodes.length cn) ∧ W.cell? ⟨g, 0, none⟩ = some (.slice (some ⟨b2, p2, none⟩) t.nodes.length dn) ∧ W.cell? ⟨b1, p1 + q * 5, none⟩ = some (.bool xu) ∧ W.cell? ⟨b1, p1 + q * 5 + 1, none⟩ = some (.bool xc) ∧ W.cell? ⟨b1, p1 + q * 5 + 2, none⟩ = some (.bool xm) ∧ W.cell? ⟨b1, p1 + q * 5 + 3, none⟩ = some (.int .i64 xv) ∧ W.cell? ⟨b1, p1 + q * 5 + 4, none⟩ = some (.int .i64 xj) ∧ W.cell? ⟨b2, p2 + q * 5, none⟩ = some (.bool yu) ∧ W.cell? ⟨b2, p2 + q * 5 + 1, none⟩ = some (.bool yc) ∧ W.cell? ⟨b2, p2 + q * 5 + 2, none⟩ = some (.bool ym) ∧ W.cell? ⟨b2, p2 + q * 5 + 3, none⟩ = some (.int .i64 yv) ∧ W.cell? ⟨b2, p2 + q * 5 + 4, none⟩ = some (.int .i64 yj)) (first | exact HSC.out _ (by first | exact Ext.refl _ | exact ext_drew9 (Ext.refl _) | exact Below.alloc (Ext.refl _) (Nat.le_refl _) _ | exact Below.alloc (ext_drew9 (Ext.refl _)) (Nat.le_refl _) _ | exact ext_drew9 (Below.alloc (Ext.refl _) (Nat.le_refl _) _) | exact Below.alloc (Below.alloc (Ext.refl _) (Nat.le_refl _) _) (by simp) _ | exact Below.alloc (Below.alloc (ext_drew9 (Ext.refl _)) (Nat.le_refl _) _) (by simp) _ | exact ext_drew9 (Below.alloc (Below.alloc (Ext.refl _) (Nat.le_refl _) _) (by simp) _))) (fail)
            all_goals go_wp2_with fail
            all_goals go_meet
            · first | exact TwoN.one wr _ _ | exact TwoN.drew (TwoN.one wr _ _)
            · first | exact TwoN.two wr _ _ | exact TwoN.drew (TwoN.two wr _ _)
          case rest =>
            obtain ⟨g1, g2, rfl, rfl, hxt, hba, hbb⟩ := hcut.out
            have HX3 := Lib.hid (HX.out.1.trans hxt)
            have HBA := Lib.hid hba
            have HBB := Lib.hid hbb
            have p0_ := HBA.out.cell 0
            have q0_ := HBB.out.cell 0
            have p1_ := HBA.out.cell 1
            have q1_ := HBB.out.cell 1
            have p2_ := HBA.out.cell 2
            have q2_ := HBB.out.cell 2
            have p3_ := HBA.out.cell 3
            have q3_ := HBB.out.cell 3
            have p4_ := HBA.out.cell 4
            have q4_ := HBB.out.cell 4
            simp only [List.getElem?_toArray, List.getElem?_cons_succ, List.getElem?_cons_zero] at p0_ q0_ p1_ q1_ p2_ q2_ p3_ q3_ p4_ q4_
            clear hcut hxt hba hbb HBA HBB HSC
            by_cases hk : q = i0
            case neg =>
              obtain ⟨rfl, rfl, rfl, rfl⟩ := HEQ.out hk
              have HK : Hid (q + 1 ≤ i0 → v = 0) := Lib.hid fun h => HX.out.2 (by omega)
              have eb : ∀ b : Bool, (b != b) = false := fun b => bne_self_eq_false b
              clear hk HEQ HX
              go_wp2_with fail
              go_roundg (s.nodes.length - (q + 1))
              case measure => have := HLT.out; omega
              case rel => exact ⟨q + 1, v, by go_num, rfl, HLT.out, rfl, hv, Lib.hid ⟨HX3.out, HK.out⟩⟩
            have hv0 : v = 0 := HX.out.2 (by omega)
            subst hv0
            have HK : Hid (¬ q + 1 ≤ i0) := Lib.hid (by omega)
            clear hk HEQ HX
            by_cases hu : ¬ xu = yu
            · have eu : (xu != yu) = true := by rw [bne_iff_ne]; exact hu
              go_wp2_with fail
              go_roundg (s.nodes.length - (q + 1))
              case measure => have := HLT.out; omega
              case rel => exact ⟨q + 1, 1, by go_num, rfl, HLT.out, rfl, by omega, Lib.hid ⟨HX3.out, fun h => absurd h HK.out⟩⟩
            obtain rfl : xu = yu := Classical.not_not.1 hu
            clear hu
            by_cases hc : ¬ xc = yc
            · have ec : (xc != yc) = true := by rw [bne_iff_ne]; exact hc
              go_wp2_with fail
              go_roundg (s.nodes.length - (q + 1))
              case measure => have := HLT.out; omega
              case rel => exact ⟨q + 1, 1, by go_num, rfl, HLT.out, rfl, by omega, Lib.hid ⟨HX3.out, fun h => absurd h HK.out⟩⟩
            obtain rfl : xc = yc := Classical.not_not.1 hc
            clear hc
            by_cases hm : ¬ xm = ym
            · have em : (xm != ym) = true := by rw [bne_iff_ne]; exact hm
              go_wp2_with fail
              go_roundg (s.nodes.length - (q + 1))
              case measure => have := HLT.out; omega
              case rel => exact ⟨q + 1, 1, by go_num, rfl, HLT.out, rfl, by omega, Lib.hid ⟨HX3.out, fun h => absurd h HK.out⟩⟩
            obtain rfl : xm = ym := Classical.not_not.1 hm
            clear hm
            by_cases hvv : ¬ xv = yv
            · have ev : (xv != yv) = true := by rw [bne_iff_ne]; exact hvv
              go_wp2_with fail
              go_roundg (s.nodes.length - (q + 1))
              case measure => have := HLT.out; omega
              case rel => exact ⟨q + 1, 1, by go_num, rfl, HLT.out, rfl, by omega, Lib.hid ⟨HX3.out, fun h => absurd h HK.out⟩⟩
            obtain rfl : xv = yv := Classical.not_not.1 hvv
            clear hvv
            go_wp2_with fail
            go_roundg (s.nodes.length - (q + 1))
            case measure => have := HLT.out; omega
            case rel => exact ⟨q + 1, 0, by go_num, rfl, HLT.out, rfl, by omega, Lib.hid ⟨HX3.out, fun h => absurd h HK.out⟩⟩
        · have d1 : decide ((q : Int) < (s.nodes.length : Int)) = false := decide_eq_false (by omega)
          have d1' : decide (q < s.nodes.length) = false := decide_eq_false hlt
          have HXE := Lib.hid (HX5.out.trans HX.out.1)
          have s1 := (HSS.out.blk.ext HX.out.1).cell 1
          have t1 := (HST.out.blk.ext HX.out.1).cell 1
          simp only [List.getElem?_toArray, List.getElem?_cons_succ, List.getElem?_cons_zero] at s1 t1
          have f1 : decide ((u : Int) ≤ 1) = true := decide_eq_true (by omega)
          have f1' : decide (u ≤ 1) = true := decide_eq_true hu
          have f2 : decide ((v : Int) ≤ 1) = true := decide_eq_true (by omega)
          have f2' : decide (v ≤ 1) = true := decide_eq_true hv
          have f3 : decide ((t.jobs.length : Int) ≤ (s.jobs.length : Int) + 1) = true := decide_eq_true (by have := HL1.out; omega)
          have f3' : decide (t.jobs.length ≤ s.jobs.length + 1) = true := decide_eq_true HL1.out
          have f4 : ((t.nodes.length : Int) == (s.nodes.length : Int)) = true := by rw [beq_iff_eq]; have := HLN.out; omega
          clear hlt hq
          go_wp2
          go_ret
          exact ⟨by simp, HXE.out⟩

set_option maxRecDepth 100000 in
theorem BookAlone_lifted (os : Os) (started : os.Started) (H : Type) (enc : TypeId × Value → H) :
    ReturnsInHanded {} Tryd.checked os 10 .any (fun w args => (Rows.bookAloneSpec.pre enc Tryd.prog Tryd.f10 [] false w args ∧ laidMetH Tryd.prog Rows.bookAloneRow.laid w) ∧ sizedMet enc Tryd.prog Tryd.f10 (OpenSpec.ofChange Rows.bookAloneSpec) false w args) (Rows.bookAloneSpec.post enc Tryd.prog Tryd.f10 false true false false) := by
  refine law_liftL (C := Tryd.checked) (tb := 4) Rows.bookAloneRow.laid Tryd.ownKnob started (by kernel_rfl) Tryd.func10 Tryd.laidOut (by kernel_rfl) rfl Tryd.underlying4 rfl rfl ?_
    (ChangeSpec.witness_shaped (enc := enc) (C := Tryd.checked) (os := os) (X := fun w _ => laidMetH Tryd.prog Rows.bookAloneRow.laid w) false (World.laidAll Tryd.prog os Rows.bookAloneRow.laid) #[.agg #[.int .i64 0, .int .i64 0, .int .i64 0, .int .i64 0, .int .i64 0, .int .i64 0, .int .i64 0, .int .i64 0, .int .i64 0], .agg #[.slice none 0 0, .slice none 0 0, .int .i64 0, .int .i64 0, .int .i64 0, .int .i64 0], .agg #[.int .i64 0, .int .i64 0, .int .i64 0, .int .i64 0, .int .i64 0, .int .i64 0, .int .i64 0]] 8 (World.laidAll_os _ _ _)
      (World.shaped_of_ZipB (by kernel_rfl) (by kernel_rfl)) (by kernel_rfl) (by kernel_rfl) (by kernel_rfl)
      (by rw [MakeChecks.laidMetH_plain _ _ _ (by kernel_rfl)]; exact laidMet_laidAll _ (by kernel_rfl) (by kernel_rfl))) ?_
  · intro ds hd
    rw [Tryd.params10] at hd
    match ds, hd with
    | [d0, d1, d2], _ => rfl
  · intro W base args ds p hval hA hsz hL0 hsh
    have hL : laidMetH Tryd.prog Rows.bookAloneRow.laid W := hL0
    rw [MakeChecks.laidMetH_plain _ _ _ (by kernel_rfl)] at hL
    have hLd : Laid W := laid_of _ hL (by repeat (first | exact List.Mem.head _ | apply List.Mem.tail))
    rw [Tryd.params10] at hA hval hsz
    obtain ⟨v0, vs0, d0, ds0, p0, q0, hargs, rfl, rfl, h0, r0_⟩ := trodAll_cons hA
    obtain ⟨v1, vs1, d1, ds1, p1, q1, rfl, rfl, rfl, h1, r1_⟩ := trodAll_cons r0_
    obtain ⟨v2, vs2, d2, ds2, p2, q2, rfl, rfl, rfl, h2, r2_⟩ := trodAll_cons r1_
    obtain ⟨rfl, rfl, rfl⟩ := trodAll_nil r2_
    obtain rfl : args = #[v0, v1, v2] := by cases args; simp_all
    obtain ⟨a0, rfl⟩ := dec_conf (hval 0 23 v0 rfl rfl) h0
    obtain ⟨vn1, vj1, a1, rfl, r1⟩ := dec_state (hval 1 27 v1 rfl rfl) h1
    obtain ⟨a2, rfl⟩ := dec_op (hval 2 35 v2 rfl rfl) h2
    exact BookAlone_calls a0 vn1 vj1 a1 _ _ _ _ _ _ _ W r1 hLd

theorem BookAlone_row : Rows.BookAloneSaid :=
  OpenClaim.holds_of_wide 10 Tryd.f10 rfl rfl rfl rfl rfl rfl rfl ⟨rfl, rfl, rfl, rfl, rfl⟩ rfl rfl rfl rfl rfl (by kernel_rfl) Tryd.func10 (by kernel_rfl)
    (of_decide_eq_true (by kernel_rfl)) (by unfold Func.isWrapper; first | (rw [if_pos (by decide +kernel)]; kernel_rfl) | (rw [if_neg (by decide +kernel)]; exact ⟨rfl, rfl⟩))
    (fun os started H enc _ => BookAlone_lifted os started H enc)

/-- THE TIED CARD. -/
theorem BookAlone_holds : Rows.BookAloneCardSaid :=
  Claim7.holds_tied_plain_at .later [] Rows.bookAloneCard.laidKinds true Rows.bookAloneCard.stood.harness Rows.bookAloneCard.stood.looks
    BookAlone_row (fun _ h => by cases h) (by kernel_rfl) (fun _ h => by cases h) bookAlone_row_tie rfl ⟨rfl, rfl⟩ (by kernel_rfl) rfl
    (fun f fn hf hfn => by
      obtain rfl : f = 10 := Option.some.inj ((show Tryd.prog.funcNamed "dunnage/dunnagelaw09.BookAlone" = some 10 by kernel_rfl).symm.trans hf) |>.symm
      obtain rfl : fn = Tryd.f10 := (Option.some.inj (Tryd.func10.symm.trans hfn)).symm
      exact ⟨by kernel_rfl, fun j t ht => by
        rw [Tryd.params10] at ht
        have hm : t ∈ [23, 27, 35] := by simpa using Array.mem_of_getElem? ht
        have hall : ([23, 27, 35].all fun u => !Tryd.prog.wantsStandIn u) = true := by kernel_rfl
        exact (show Tryd.prog.wantsStandIn t = false by simpa using List.all_eq_true.1 hall t hm)⟩)
    (by kernel_rfl)

end Go.Proofs.YtmgbgpendpiahaaDoor
