/- For every input BookApplies returns true: the state behind every op, or its error, is the document's, of every state; with the listed package-level variable as the program's text lays it. -/
import Derived.Test.YtnnilalnkkbdoaaDoorEQ18
import Derived.Test.YtnnilalnkkbdoaaDoorCards
import Derived.Test.YtnnilalnkkbdoaaDoorTie
import Derived.SevenTiedAt
import Derived.Deep.DeepCutAuto
import Derived.Deep.CutBlock
import Derived.Deep.LoopGhost
import Derived.BigQuiet
import Derived.Deep.RegionHeld3
namespace Go.Proofs.YtnnilalnkkbdoaaDoor
open Go.ChangeShapes Go.WideShapes Go.ChangeAt Go.RowKit

theorem RdSt.zero (w : World) : RdSt w (.slice none 0 0) (.slice none 0 0) zeroS := ⟨⟨rfl, none, 0, rfl, Nat.le_refl _, Nat.zero_le _, fun h => absurd h (Nat.lt_irrefl 0)⟩, ⟨rfl, none, 0, rfl, Nat.le_refl _, Nat.zero_le _, fun h => absurd h (Nat.lt_irrefl 0)⟩⟩

set_option maxRecDepth 100000 in
set_option maxHeartbeats 8000000 in
theorem BookApplies_calls (c : Cf) (vn vj : Value) (s : St) (z a1 a2 a3 a4 a5 a6 : Int) (w : World) (h : RdSt w vn vj s) (hL : Laid w) :
    Calls Tryd.prog 3 #[cfV c, stV vn vj s, opV (z, a1, a2, a3, a4, a5, a6)] w fun e w' => e = .returned (.bool true) ∧ Ext w w' := by
  obtain ⟨W2, hW2, hx2, hb0, hb1, hbo⟩ := three_blocks w 23 27 29 #[.int .i64 c.nodes, .int .i64 c.queues, .int .i64 c.quota, .int .i64 c.wave, .int .i64 c.lease, .int .i64 c.retry, .int .i64 c.deadline, .int .i64 c.room, .int .i64 c.disk] #[vn, vj, .int .i64 s.goal, .int .i64 s.prior, .int .i64 s.mode, .int .i64 s.term] #[.int .i64 z, .int .i64 a1, .int .i64 a2, .int .i64 a3, .int .i64 a4, .int .i64 a5, .int .i64 a6]
  have HL := Lib.hid hL
  have HSA := Lib.hid (SAt.first h hx2 hb1 (Nat.le_succ _))
  have HBC := Lib.hid hb0
  have HBO := Lib.hid hbo
  have HX2 := Lib.hid hx2
  have HAL := Lib.hid (alive9_any W2 (hL.ext hx2))
  have HGR := Lib.hid fun W (hx : Ext w W) => great_any vn vj s W (h.ext hx)
  have HRT := Lib.hid fun W (hx : Ext w W) => RefRight_any c vn vj s W (h.ext hx).nodes (h.ext hx).jobs
  unfold stV at HGR
  unfold cfV stV at HRT
  rw [show opV (z, a1, a2, a3, a4, a5, a6) = .agg #[.int .i64 z, .int .i64 a1, .int .i64 a2, .int .i64 a3, .int .i64 a4, .int .i64 a5, .int .i64 a6] from rfl]
  unfold cfV stV
  clear hL h hx2 hb0 hb1 hbo
  go_enter Tryd.func3, Tryd.ntmps3
  go_wp2_with fail
  rw [← hW2]
  clear hW2
  refine HAL.out.mono ?_
  rintro e1 w1 ⟨rfl, hx1⟩
  have HX1 := Lib.hid (HX2.out.trans hx1)
  have HS1 := Lib.hid (HSA.out.ext hx1)
  have HB1 := Lib.hid (HBC.out.ext hx1)
  have HO1 := Lib.hid (HBO.out.ext hx1)
  clear hx1 HX2 HSA HBC HBO HAL
  have s0 : w1.cell? ⟨w.heap.size + 1, 0, none⟩ = some (vn) := HS1.out.blk.cell 0
  have s1 : w1.cell? ⟨w.heap.size + 1, 1, none⟩ = some (vj) := HS1.out.blk.cell 1
  have s2 : w1.cell? ⟨w.heap.size + 1, 2, none⟩ = some (.int .i64 s.goal) := HS1.out.blk.cell 2
  have s3 : w1.cell? ⟨w.heap.size + 1, 3, none⟩ = some (.int .i64 s.prior) := HS1.out.blk.cell 3
  have s4 : w1.cell? ⟨w.heap.size + 1, 4, none⟩ = some (.int .i64 s.mode) := HS1.out.blk.cell 4
  have s5 : w1.cell? ⟨w.heap.size + 1, 5, none⟩ = some (.int .i64 s.term) := HS1.out.blk.cell 5
  have HG1 := Lib.hid (HGR.out w1 HX1.out)
  generalize greatS s = gs at *
  go_wp2_with fail
  refine HG1.out.mono ?_
  rintro e2 w2 ⟨rfl, hx2⟩
  have HX2 := Lib.hid (HX1.out.trans hx2)
  have HS2 := Lib.hid (HS1.out.ext hx2)
  have HB2 := Lib.hid (HB1.out.ext hx2)
  have HO2 := Lib.hid (HO1.out.ext hx2)
  clear hx2 HX1 HS1 HB1 HO1 HGR HG1 s0 s1 s2 s3 s4 s5
  cases gs
  case true =>
    go_wp2
    go_ret
    exact ⟨rfl, HX2.out⟩
  have s0 : w2.cell? ⟨w.heap.size + 1, 0, none⟩ = some (vn) := HS2.out.blk.cell 0
  have s1 : w2.cell? ⟨w.heap.size + 1, 1, none⟩ = some (vj) := HS2.out.blk.cell 1
  have s2 : w2.cell? ⟨w.heap.size + 1, 2, none⟩ = some (.int .i64 s.goal) := HS2.out.blk.cell 2
  have s3 : w2.cell? ⟨w.heap.size + 1, 3, none⟩ = some (.int .i64 s.prior) := HS2.out.blk.cell 3
  have s4 : w2.cell? ⟨w.heap.size + 1, 4, none⟩ = some (.int .i64 s.mode) := HS2.out.blk.cell 4
  have s5 : w2.cell? ⟨w.heap.size + 1, 5, none⟩ = some (.int .i64 s.term) := HS2.out.blk.cell 5
  have k0 : w2.cell? ⟨w.heap.size, 0, none⟩ = some (.int .i64 c.nodes) := HB2.out.cell 0
  have k1 : w2.cell? ⟨w.heap.size, 1, none⟩ = some (.int .i64 c.queues) := HB2.out.cell 1
  have k2 : w2.cell? ⟨w.heap.size, 2, none⟩ = some (.int .i64 c.quota) := HB2.out.cell 2
  have k3 : w2.cell? ⟨w.heap.size, 3, none⟩ = some (.int .i64 c.wave) := HB2.out.cell 3
  have k4 : w2.cell? ⟨w.heap.size, 4, none⟩ = some (.int .i64 c.lease) := HB2.out.cell 4
  have k5 : w2.cell? ⟨w.heap.size, 5, none⟩ = some (.int .i64 c.retry) := HB2.out.cell 5
  have k6 : w2.cell? ⟨w.heap.size, 6, none⟩ = some (.int .i64 c.deadline) := HB2.out.cell 6
  have k7 : w2.cell? ⟨w.heap.size, 7, none⟩ = some (.int .i64 c.room) := HB2.out.cell 7
  have k8 : w2.cell? ⟨w.heap.size, 8, none⟩ = some (.int .i64 c.disk) := HB2.out.cell 8
  have o0 : w2.cell? ⟨w.heap.size + 2, 0, none⟩ = some (.int .i64 z) := HO2.out.cell 0
  have o1 : w2.cell? ⟨w.heap.size + 2, 1, none⟩ = some (.int .i64 a1) := HO2.out.cell 1
  have o2 : w2.cell? ⟨w.heap.size + 2, 2, none⟩ = some (.int .i64 a2) := HO2.out.cell 2
  have o3 : w2.cell? ⟨w.heap.size + 2, 3, none⟩ = some (.int .i64 a3) := HO2.out.cell 3
  have o4 : w2.cell? ⟨w.heap.size + 2, 4, none⟩ = some (.int .i64 a4) := HO2.out.cell 4
  have o5 : w2.cell? ⟨w.heap.size + 2, 5, none⟩ = some (.int .i64 a5) := HO2.out.cell 5
  have o6 : w2.cell? ⟨w.heap.size + 2, 6, none⟩ = some (.int .i64 a6) := HO2.out.cell 6
  obtain ⟨r, hap⟩ : ∃ r, r = applyS c s (z, a1, a2, a3, a4, a5, a6) := ⟨_, rfl⟩
  have HAP : Hid (Calls Tryd.prog 12 #[.agg #[.int .i64 c.nodes, .int .i64 c.queues, .int .i64 c.quota, .int .i64 c.wave, .int .i64 c.lease, .int .i64 c.retry, .int .i64 c.deadline, .int .i64 c.room, .int .i64 c.disk], .agg #[vn, vj, .int .i64 s.goal, .int .i64 s.prior, .int .i64 s.mode, .int .i64 s.term], .agg #[.int .i64 z, .int .i64 a1, .int .i64 a2, .int .i64 a3, .int .i64 a4, .int .i64 a5, .int .i64 a6]] w2 fun e w' => ∃ vn' vj' t er, e = .returned (.tuple #[.agg #[vn', vj', .int .i64 t.goal, .int .i64 t.prior, .int .i64 t.mode, .int .i64 t.term], .int .i64 er]) ∧ RdSt w' vn' vj' t ∧ Ext w2 w' ∧ (RightP c s → (t, er) = r) ∧ (¬ RightP c s → (t, er) = (zeroS, 1))) := Lib.hid ((Apply_any c vn vj s (z, a1, a2, a3, a4, a5, a6) w2 HS2.out.rd (HL.out.ext HX2.out)).mono (by rintro e w' ⟨vn', vj', t, er, rfl, hr, hx, h1, h2, -⟩; exact ⟨vn', vj', t, er, rfl, hr, hx, by rw [hap]; exact h1, h2⟩))
  have HRA : Hid (RightP c s → ∀ W, Ext w2 W → Calls Tryd.prog 15 #[.agg #[.int .i64 c.nodes, .int .i64 c.queues, .int .i64 c.quota, .int .i64 c.wave, .int .i64 c.lease, .int .i64 c.retry, .int .i64 c.deadline, .int .i64 c.room, .int .i64 c.disk], .agg #[vn, vj, .int .i64 s.goal, .int .i64 s.prior, .int .i64 s.mode, .int .i64 s.term], .agg #[.int .i64 z, .int .i64 a1, .int .i64 a2, .int .i64 a3, .int .i64 a4, .int .i64 a5, .int .i64 a6]] W fun e w' => ∃ vn' vj', e = .returned (.tuple #[.agg #[vn', vj', .int .i64 r.1.goal, .int .i64 r.1.prior, .int .i64 r.1.mode, .int .i64 r.1.term], .int .i64 r.2]) ∧ RdSt w' vn' vj' r.1 ∧ Ext W w') := Lib.hid fun hR W hx => (RefApply_any c vn vj s (z, a1, a2, a3, a4, a5, a6) W (HS2.out.rd.ext hx) hR).mono (by rintro e w' ⟨vn', vj', rfl, hr, hx⟩; rw [← hap] at hr ⊢; exact ⟨vn', vj', rfl, hr, hx⟩)
  clear hap
  obtain ⟨rt, re⟩ := r
  dsimp only at HRA
  go_wp2_with fail
  refine HAP.out.mono ?_
  rintro e4 w4 ⟨un, uj, t, er, rfl, hr4, hx4, hy4, hn4⟩
  obtain ⟨Bn, dn, rfl, -, -⟩ := hr4.nodes.slice_
  obtain ⟨Bj, dj, rfl, -, -⟩ := hr4.jobs.slice_
  obtain ⟨w5, hw5⟩ : ∃ W, W = w4.alloc (.cells #[.slice Bn t.nodes.length dn, .slice Bj t.jobs.length dj, .int .i64 t.goal, .int .i64 t.prior, .int .i64 t.mode, .int .i64 t.term] 27) := ⟨_, rfl⟩
  have hx45 : Ext w4 w5 := by rw [hw5]; exact (Below.refl _ _).alloc (Nat.le_refl _) _
  have HST : Hid (SAt w5 w4.heap.size _ _ t) := Lib.hid (SAt.first hr4 hx45 (by rw [hw5]; exact Blk.new _ _ _) (Nat.le_refl _))
  have HY := Lib.hid hy4
  have HN := Lib.hid hn4
  have HE5 : Hid (Ext w2 w5) := Lib.hid (hx4.trans hx45)
  have HX5 := Lib.hid (HX2.out.trans HE5.out)
  have HS5 := Lib.hid (HS2.out.ext HE5.out)
  have HB5 := Lib.hid (HB2.out.ext HE5.out)
  have HO5 := Lib.hid (HO2.out.ext HE5.out)
  clear hr4 hx4 hx45 hy4 hn4 HAP HX2 HS2 HB2 HO2 HL s0 s1 s2 s3 s4 s5 k0 k1 k2 k3 k4 k5 k6 k7 k8 o0 o1 o2 o3 o4 o5 o6
  go_upto_region 6 with (fail)
  rw [← hw5]
  clear hw5
  have s0 : w5.cell? ⟨w.heap.size + 1, 0, none⟩ = some (vn) := HS5.out.blk.cell 0
  have s1 : w5.cell? ⟨w.heap.size + 1, 1, none⟩ = some (vj) := HS5.out.blk.cell 1
  have s2 : w5.cell? ⟨w.heap.size + 1, 2, none⟩ = some (.int .i64 s.goal) := HS5.out.blk.cell 2
  have s3 : w5.cell? ⟨w.heap.size + 1, 3, none⟩ = some (.int .i64 s.prior) := HS5.out.blk.cell 3
  have s4 : w5.cell? ⟨w.heap.size + 1, 4, none⟩ = some (.int .i64 s.mode) := HS5.out.blk.cell 4
  have s5 : w5.cell? ⟨w.heap.size + 1, 5, none⟩ = some (.int .i64 s.term) := HS5.out.blk.cell 5
  have k0 : w5.cell? ⟨w.heap.size, 0, none⟩ = some (.int .i64 c.nodes) := HB5.out.cell 0
  have k1 : w5.cell? ⟨w.heap.size, 1, none⟩ = some (.int .i64 c.queues) := HB5.out.cell 1
  have k2 : w5.cell? ⟨w.heap.size, 2, none⟩ = some (.int .i64 c.quota) := HB5.out.cell 2
  have k3 : w5.cell? ⟨w.heap.size, 3, none⟩ = some (.int .i64 c.wave) := HB5.out.cell 3
  have k4 : w5.cell? ⟨w.heap.size, 4, none⟩ = some (.int .i64 c.lease) := HB5.out.cell 4
  have k5 : w5.cell? ⟨w.heap.size, 5, none⟩ = some (.int .i64 c.retry) := HB5.out.cell 5
  have k6 : w5.cell? ⟨w.heap.size, 6, none⟩ = some (.int .i64 c.deadline) := HB5.out.cell 6
  have k7 : w5.cell? ⟨w.heap.size, 7, none⟩ = some (.int .i64 c.room) := HB5.out.cell 7
  have k8 : w5.cell? ⟨w.heap.size, 8, none⟩ = some (.int .i64 c.disk) := HB5.out.cell 8
  generalize w4.heap.size = g at *
  go_wp2_with fail
  refine (HRT.out w5 HX5.out).mono ?_
  rintro e6 w6 ⟨b, rfl, hb, hx6⟩
  have HRB := Lib.hid hb
  have HX6 := Lib.hid (HX5.out.trans hx6)
  have HS6 := Lib.hid (HS5.out.ext hx6)
  have HB6 := Lib.hid (HB5.out.ext hx6)
  have HO6 := Lib.hid (HO5.out.ext hx6)
  have HT6 := Lib.hid (HST.out.ext hx6)
  have HE6 := Lib.hid (HE5.out.trans hx6)
  clear hb hx6 HX5 HS5 HB5 HO5 HST HE5 HRT s0 s1 s2 s3 s4 s5 k0 k1 k2 k3 k4 k5 k6 k7 k8
  have t0 : w6.cell? ⟨g, 0, none⟩ = some (.slice Bn t.nodes.length dn) := HT6.out.blk.cell 0
  have t1 : w6.cell? ⟨g, 1, none⟩ = some (.slice Bj t.jobs.length dj) := HT6.out.blk.cell 1
  have t2 : w6.cell? ⟨g, 2, none⟩ = some (.int .i64 t.goal) := HT6.out.blk.cell 2
  have t3 : w6.cell? ⟨g, 3, none⟩ = some (.int .i64 t.prior) := HT6.out.blk.cell 3
  have t4 : w6.cell? ⟨g, 4, none⟩ = some (.int .i64 t.mode) := HT6.out.blk.cell 4
  have t5 : w6.cell? ⟨g, 5, none⟩ = some (.int .i64 t.term) := HT6.out.blk.cell 5
  cases b
  case false =>
    have HZ : Hid (t = zeroS ∧ er = 1) := Lib.hid (Prod.mk.inj (HN.out fun h => by cases HRB.out.2 h))
    have d_e : (er == (1 : Int)) = true := by rw [HZ.out.2]; rfl
    have HSM : Hid (∀ W, Ext w6 W → Calls Tryd.prog 14 #[.agg #[.slice Bn t.nodes.length dn, .slice Bj t.jobs.length dj, .int .i64 t.goal, .int .i64 t.prior, .int .i64 t.mode, .int .i64 t.term], .agg #[.slice none 0 0, .slice none 0 0, .int .i64 0, .int .i64 0, .int .i64 0, .int .i64 0]] W fun e w' => e = .returned (.bool true) ∧ Ext w6 w') := Lib.hid fun W hx => (Same09_any _ _ (.slice none 0 0) (.slice none 0 0) t zeroS W (HT6.out.rd.ext hx) (RdSt.zero W)).mono (by rintro e w' ⟨x, rfl, h1, hh⟩; rw [h1.2 HZ.out.1]; exact ⟨rfl, hx.trans hh⟩)
    clear HRA HY HN HRB
    go_wp2_with fail
    refine (HSM.out _ (Ext.refl _)).mono ?_
    rintro e7 w7 ⟨rfl, hx7⟩
    have HX7 := Lib.hid (HX6.out.trans hx7)
    clear hx7
    go_wp2
    go_ret
    exact ⟨rfl, HX7.out⟩
  case true =>
    have HR : Hid (RightP c s) := Lib.hid (HRB.out.1 rfl)
    obtain ⟨rfl, rfl⟩ : t = rt ∧ er = re := Prod.mk.inj (HY.out HR.out)
    have s0 : w6.cell? ⟨w.heap.size + 1, 0, none⟩ = some (vn) := HS6.out.blk.cell 0
    have s1 : w6.cell? ⟨w.heap.size + 1, 1, none⟩ = some (vj) := HS6.out.blk.cell 1
    have s2 : w6.cell? ⟨w.heap.size + 1, 2, none⟩ = some (.int .i64 s.goal) := HS6.out.blk.cell 2
    have s3 : w6.cell? ⟨w.heap.size + 1, 3, none⟩ = some (.int .i64 s.prior) := HS6.out.blk.cell 3
    have s4 : w6.cell? ⟨w.heap.size + 1, 4, none⟩ = some (.int .i64 s.mode) := HS6.out.blk.cell 4
    have s5 : w6.cell? ⟨w.heap.size + 1, 5, none⟩ = some (.int .i64 s.term) := HS6.out.blk.cell 5
    have k0 : w6.cell? ⟨w.heap.size, 0, none⟩ = some (.int .i64 c.nodes) := HB6.out.cell 0
    have k1 : w6.cell? ⟨w.heap.size, 1, none⟩ = some (.int .i64 c.queues) := HB6.out.cell 1
    have k2 : w6.cell? ⟨w.heap.size, 2, none⟩ = some (.int .i64 c.quota) := HB6.out.cell 2
    have k3 : w6.cell? ⟨w.heap.size, 3, none⟩ = some (.int .i64 c.wave) := HB6.out.cell 3
    have k4 : w6.cell? ⟨w.heap.size, 4, none⟩ = some (.int .i64 c.lease) := HB6.out.cell 4
    have k5 : w6.cell? ⟨w.heap.size, 5, none⟩ = some (.int .i64 c.retry) := HB6.out.cell 5
    have k6 : w6.cell? ⟨w.heap.size, 6, none⟩ = some (.int .i64 c.deadline) := HB6.out.cell 6
    have k7 : w6.cell? ⟨w.heap.size, 7, none⟩ = some (.int .i64 c.room) := HB6.out.cell 7
    have k8 : w6.cell? ⟨w.heap.size, 8, none⟩ = some (.int .i64 c.disk) := HB6.out.cell 8
    have o0 : w6.cell? ⟨w.heap.size + 2, 0, none⟩ = some (.int .i64 z) := HO6.out.cell 0
    have o1 : w6.cell? ⟨w.heap.size + 2, 1, none⟩ = some (.int .i64 a1) := HO6.out.cell 1
    have o2 : w6.cell? ⟨w.heap.size + 2, 2, none⟩ = some (.int .i64 a2) := HO6.out.cell 2
    have o3 : w6.cell? ⟨w.heap.size + 2, 3, none⟩ = some (.int .i64 a3) := HO6.out.cell 3
    have o4 : w6.cell? ⟨w.heap.size + 2, 4, none⟩ = some (.int .i64 a4) := HO6.out.cell 4
    have o5 : w6.cell? ⟨w.heap.size + 2, 5, none⟩ = some (.int .i64 a5) := HO6.out.cell 5
    have o6 : w6.cell? ⟨w.heap.size + 2, 6, none⟩ = some (.int .i64 a6) := HO6.out.cell 6
    have HAQ := Lib.hid (HRA.out HR.out w6 HE6.out)
    clear HRA HY HN HRB
    go_wp2_with fail
    refine HAQ.out.mono ?_
    rintro e7 w7 ⟨un, uj, rfl, hr7, hx7⟩
    obtain ⟨Cn, en, rfl, -, -⟩ := hr7.nodes.slice_
    obtain ⟨Cj, ej, rfl, -, -⟩ := hr7.jobs.slice_
    obtain ⟨w8, hw8⟩ : ∃ W, W = w7.alloc (.cells #[.slice Cn t.nodes.length en, .slice Cj t.jobs.length ej, .int .i64 t.goal, .int .i64 t.prior, .int .i64 t.mode, .int .i64 t.term] 27) := ⟨_, rfl⟩
    have hx78 : Ext w7 w8 := by rw [hw8]; exact (Below.refl _ _).alloc (Nat.le_refl _) _
    have HSU : Hid (SAt w8 w7.heap.size _ _ t) := Lib.hid (SAt.first hr7 hx78 (by rw [hw8]; exact Blk.new _ _ _) (Nat.le_refl _))
    have HT8 := Lib.hid ((HT6.out.ext hx7).ext hx78)
    have HX8 := Lib.hid ((HX6.out.trans hx7).trans hx78)
    clear hr7 hx7 hx78 HAQ HT6 HX6 HS6 HB6 HO6 HE6 s0 s1 s2 s3 s4 s5 k0 k1 k2 k3 k4 k5 k6 k7 k8 o0 o1 o2 o3 o4 o5 o6 t0 t1 t2 t3 t4 t5
    go_upto_region 9 with (fail)
    rw [← hw8]
    clear hw8
    generalize w7.heap.size = g2 at *
    have t0 : w8.cell? ⟨g, 0, none⟩ = some (.slice Bn t.nodes.length dn) := HT8.out.blk.cell 0
    have t1 : w8.cell? ⟨g, 1, none⟩ = some (.slice Bj t.jobs.length dj) := HT8.out.blk.cell 1
    have t2 : w8.cell? ⟨g, 2, none⟩ = some (.int .i64 t.goal) := HT8.out.blk.cell 2
    have t3 : w8.cell? ⟨g, 3, none⟩ = some (.int .i64 t.prior) := HT8.out.blk.cell 3
    have t4 : w8.cell? ⟨g, 4, none⟩ = some (.int .i64 t.mode) := HT8.out.blk.cell 4
    have t5 : w8.cell? ⟨g, 5, none⟩ = some (.int .i64 t.term) := HT8.out.blk.cell 5
    have u0 : w8.cell? ⟨g2, 0, none⟩ = some (.slice Cn t.nodes.length en) := HSU.out.blk.cell 0
    have u1 : w8.cell? ⟨g2, 1, none⟩ = some (.slice Cj t.jobs.length ej) := HSU.out.blk.cell 1
    have u2 : w8.cell? ⟨g2, 2, none⟩ = some (.int .i64 t.goal) := HSU.out.blk.cell 2
    have u3 : w8.cell? ⟨g2, 3, none⟩ = some (.int .i64 t.prior) := HSU.out.blk.cell 3
    have u4 : w8.cell? ⟨g2, 4, none⟩ = some (.int .i64 t.mode) := HSU.out.blk.cell 4
    have u5 : w8.cell? ⟨g2, 5, none⟩ = some (.int .i64 t.term) := HSU.out.blk.cell 5
    have HSM : Hid (∀ W, Ext w8 W → Calls Tryd.prog 14 #[.agg #[.slice Bn t.nodes.length dn, .slice Bj t.jobs.length dj, .int .i64 t.goal, .int .i64 t.prior, .int .i64 t.mode, .int .i64 t.term], .agg #[.slice Cn t.nodes.length en, .slice Cj t.jobs.length ej, .int .i64 t.goal, .int .i64 t.prior, .int .i64 t.mode, .int .i64 t.term]] W fun e w' => e = .returned (.bool true) ∧ Ext w8 w') := Lib.hid fun W hx => (Same09_any _ _ _ _ t t W (HT8.out.rd.ext hx) (HSU.out.rd.ext hx)).mono (by rintro e w' ⟨x, rfl, h1, hh⟩; rw [h1.2 rfl]; exact ⟨rfl, hx.trans hh⟩)
    go_wp2_with fail
    refine (HSM.out _ (Ext.refl _)).mono ?_
    rintro e9 w9 ⟨rfl, hx9⟩
    have HX9 := Lib.hid (HX8.out.trans hx9)
    clear hx9
    go_wp2
    go_ret
    exact ⟨rfl, HX9.out⟩

set_option maxRecDepth 100000 in
theorem BookApplies_lifted (os : Os) (started : os.Started) (H : Type) (enc : TypeId × Value → H) :
    ReturnsInHanded {} Tryd.checked os 3 .any (fun w args => (Rows.bookAppliesSpec.pre enc Tryd.prog Tryd.f3 [] false w args ∧ laidMetH Tryd.prog Rows.bookAppliesRow.laid w) ∧ sizedMet enc Tryd.prog Tryd.f3 (OpenSpec.ofChange Rows.bookAppliesSpec) false w args) (Rows.bookAppliesSpec.post enc Tryd.prog Tryd.f3 false true false false) := by
  refine law_liftL (C := Tryd.checked) (tb := 4) Rows.bookAppliesRow.laid Tryd.ownKnob started (by kernel_rfl) Tryd.func3 Tryd.laidOut (by kernel_rfl) rfl Tryd.underlying4 rfl rfl ?_
    (ChangeSpec.witness_shaped (enc := enc) (C := Tryd.checked) (os := os) (X := fun w _ => laidMetH Tryd.prog Rows.bookAppliesRow.laid w) false (World.laidAll Tryd.prog os Rows.bookAppliesRow.laid) #[.agg #[.int .i64 0, .int .i64 0, .int .i64 0, .int .i64 0, .int .i64 0, .int .i64 0, .int .i64 0, .int .i64 0, .int .i64 0], .agg #[.slice none 0 0, .slice none 0 0, .int .i64 0, .int .i64 0, .int .i64 0, .int .i64 0], .agg #[.int .i64 0, .int .i64 0, .int .i64 0, .int .i64 0, .int .i64 0, .int .i64 0, .int .i64 0]] 8 (World.laidAll_os _ _ _)
      (World.shaped_of_ZipB (by kernel_rfl) (by kernel_rfl)) (by kernel_rfl) (by kernel_rfl) (by kernel_rfl)
      (by rw [MakeChecks.laidMetH_plain _ _ _ (by kernel_rfl)]; exact laidMet_laidAll _ (by kernel_rfl) (by kernel_rfl))) ?_
  · intro ds hd
    rw [Tryd.params3] at hd
    match ds, hd with
    | [d0, d1, d2], _ => rfl
  · intro W base args ds p hval hA hsz hL0 hsh
    have hL : laidMetH Tryd.prog Rows.bookAppliesRow.laid W := hL0
    rw [MakeChecks.laidMetH_plain _ _ _ (by kernel_rfl)] at hL
    have hLd : Laid W := laid_of _ hL (by repeat (first | exact List.Mem.head _ | apply List.Mem.tail))
    rw [Tryd.params3] at hA hval hsz
    obtain ⟨v0, vs0, d0, ds0, p0, q0, hargs, rfl, rfl, h0, r0_⟩ := trodAll_cons hA
    obtain ⟨v1, vs1, d1, ds1, p1, q1, rfl, rfl, rfl, h1, r1_⟩ := trodAll_cons r0_
    obtain ⟨v2, vs2, d2, ds2, p2, q2, rfl, rfl, rfl, h2, r2_⟩ := trodAll_cons r1_
    obtain ⟨rfl, rfl, rfl⟩ := trodAll_nil r2_
    obtain rfl : args = #[v0, v1, v2] := by cases args; simp_all
    obtain ⟨a0, rfl⟩ := dec_conf (hval 0 23 v0 rfl rfl) h0
    obtain ⟨vn1, vj1, a1, rfl, r1⟩ := dec_state (hval 1 27 v1 rfl rfl) h1
    obtain ⟨a2, rfl⟩ := dec_op (hval 2 29 v2 rfl rfl) h2
    exact BookApplies_calls a0 vn1 vj1 a1 _ _ _ _ _ _ _ W r1 hLd

theorem BookApplies_row : Rows.BookAppliesSaid :=
  OpenClaim.holds_of_wide 3 Tryd.f3 rfl rfl rfl rfl rfl rfl rfl ⟨rfl, rfl, rfl, rfl, rfl⟩ rfl rfl rfl rfl rfl (by kernel_rfl) Tryd.func3 (by kernel_rfl)
    (of_decide_eq_true (by kernel_rfl)) (by unfold Func.isWrapper; first | (rw [if_pos (by decide +kernel)]; kernel_rfl) | (rw [if_neg (by decide +kernel)]; exact ⟨rfl, rfl⟩))
    (fun os started H enc _ => BookApplies_lifted os started H enc)

/-- THE TIED CARD. -/
theorem BookApplies_holds : Rows.BookAppliesCardSaid :=
  Claim7.holds_tied_plain_at .later [] Rows.bookAppliesCard.laidKinds true Rows.bookAppliesCard.stood.harness Rows.bookAppliesCard.stood.looks
    BookApplies_row (fun _ h => by cases h) (by kernel_rfl) (fun _ h => by cases h) bookApplies_row_tie rfl ⟨rfl, rfl⟩ (by kernel_rfl) rfl
    (fun f fn hf hfn => by
      obtain rfl : f = 3 := Option.some.inj ((show Tryd.prog.funcNamed "dunnage/dunnagelaw09.BookApplies" = some 3 by kernel_rfl).symm.trans hf) |>.symm
      obtain rfl : fn = Tryd.f3 := (Option.some.inj (Tryd.func3.symm.trans hfn)).symm
      exact ⟨by kernel_rfl, fun j t ht => by
        rw [Tryd.params3] at ht
        have hm : t ∈ [23, 27, 29] := by simpa using Array.mem_of_getElem? ht
        have hall : ([23, 27, 29].all fun u => !Tryd.prog.wantsStandIn u) = true := by kernel_rfl
        exact (show Tryd.prog.wantsStandIn t = false by simpa using List.all_eq_true.1 hall t hm)⟩)
    (by kernel_rfl)

end Go.Proofs.YtnnilalnkkbdoaaDoor
