/- For every input BookBack returns true: a job that is held, and let go again, leaves all as it was, but how often it was held; so does one that is started, drained and evicted; with the listed package-level variable as the program's text lays it. -/
import Derived.Test.YtmgbgpendpiahaaDoorCQ11
import Derived.Test.YtmgbgpendpiahaaDoorCards
import Derived.Test.YtmgbgpendpiahaaDoorTie
import Derived.SevenTiedAt
import Derived.Deep.DeepCutAuto
import Derived.Deep.CutBlock
import Derived.Deep.LoopGhost
import Derived.BigQuiet
import Derived.Deep.RegionHeld3
namespace Go.Proofs.YtmgbgpendpiahaaDoor
open Go.ChangeShapes Go.WideShapes Go.ChangeAt Go.RowKit

set_option maxRecDepth 100000 in
set_option maxHeartbeats 8000000 in
theorem BookBack_calls (c : Cf) (vn vj : Value) (s : St) (a nd now : Int) (w : World) (h : RdSt w vn vj s) (hL : Laid w) :
    Calls Tryd.prog 9 #[cfV c, stV vn vj s, .int .i64 a, .int .i64 nd, .int .i64 now] w fun e w' => e = .returned (.bool true) ∧ Ext w w' := by
  obtain ⟨W2, hW2, hx2, hb0, hb1⟩ := two_blocks w 23 27 #[.int .i64 c.nodes, .int .i64 c.queues, .int .i64 c.quota, .int .i64 c.wave, .int .i64 c.lease, .int .i64 c.retry, .int .i64 c.deadline, .int .i64 c.room, .int .i64 c.disk] #[vn, vj, .int .i64 s.goal, .int .i64 s.prior, .int .i64 s.mode, .int .i64 s.term]
  have HL := Lib.hid hL
  have HSA := Lib.hid (SAt.first h hx2 hb1 (Nat.le_succ _))
  have HBC := Lib.hid hb0
  have HX2 := Lib.hid hx2
  have HAL := Lib.hid (alive9_any W2 (hL.ext hx2))
  have HGR := Lib.hid fun W (hx : Ext w W) => great_any vn vj s W (h.ext hx)
  have HRT := Lib.hid fun W (hx : Ext w W) => RightS_any c vn vj s W (h.ext hx).nodes (h.ext hx).jobs
  unfold stV at HGR
  unfold cfV stV at HRT
  unfold cfV stV
  clear hL h hx2 hb0 hb1
  go_enter Tryd.func9, Tryd.ntmps9
  go_wp2_with fail
  rw [← hW2]
  clear hW2
  refine HAL.out.mono ?_
  rintro e1 w1 ⟨rfl, hx1⟩
  have HX1 := Lib.hid (HX2.out.trans hx1)
  have HS1 := Lib.hid (HSA.out.ext hx1)
  have HB1 := Lib.hid (HBC.out.ext hx1)
  clear hx1 HX2 HSA HBC HAL
  have s0 : w1.cell? ⟨w.heap.size + 1, 0, none⟩ = some (vn) := HS1.out.blk.cell 0
  have s1 : w1.cell? ⟨w.heap.size + 1, 1, none⟩ = some (vj) := HS1.out.blk.cell 1
  have s2 : w1.cell? ⟨w.heap.size + 1, 2, none⟩ = some (.int .i64 s.goal) := HS1.out.blk.cell 2
  have s3 : w1.cell? ⟨w.heap.size + 1, 3, none⟩ = some (.int .i64 s.prior) := HS1.out.blk.cell 3
  have s4 : w1.cell? ⟨w.heap.size + 1, 4, none⟩ = some (.int .i64 s.mode) := HS1.out.blk.cell 4
  have s5 : w1.cell? ⟨w.heap.size + 1, 5, none⟩ = some (.int .i64 s.term) := HS1.out.blk.cell 5
  have HG1 := Lib.hid (HGR.out w1 HX1.out)
  generalize greatS s = gs at *
  go_wp2_with fail
  refine HG1.out.mono ?_
  rintro e2 w2 ⟨rfl, hx2⟩
  have HX2 := Lib.hid (HX1.out.trans hx2)
  have HS2 := Lib.hid (HS1.out.ext hx2)
  have HB2 := Lib.hid (HB1.out.ext hx2)
  clear hx2 HX1 HS1 HB1 HGR HG1 s0 s1 s2 s3 s4 s5
  cases gs
  case true =>
    go_wp2
    go_ret
    exact ⟨rfl, HX2.out⟩
  have s0 : w2.cell? ⟨w.heap.size + 1, 0, none⟩ = some (vn) := HS2.out.blk.cell 0
  have s1 : w2.cell? ⟨w.heap.size + 1, 1, none⟩ = some (vj) := HS2.out.blk.cell 1
  have s2 : w2.cell? ⟨w.heap.size + 1, 2, none⟩ = some (.int .i64 s.goal) := HS2.out.blk.cell 2
  have s3 : w2.cell? ⟨w.heap.size + 1, 3, none⟩ = some (.int .i64 s.prior) := HS2.out.blk.cell 3
  have s4 : w2.cell? ⟨w.heap.size + 1, 4, none⟩ = some (.int .i64 s.mode) := HS2.out.blk.cell 4
  have s5 : w2.cell? ⟨w.heap.size + 1, 5, none⟩ = some (.int .i64 s.term) := HS2.out.blk.cell 5
  have k0 : w2.cell? ⟨w.heap.size, 0, none⟩ = some (.int .i64 c.nodes) := HB2.out.cell 0
  have k1 : w2.cell? ⟨w.heap.size, 1, none⟩ = some (.int .i64 c.queues) := HB2.out.cell 1
  have k2 : w2.cell? ⟨w.heap.size, 2, none⟩ = some (.int .i64 c.quota) := HB2.out.cell 2
  have k3 : w2.cell? ⟨w.heap.size, 3, none⟩ = some (.int .i64 c.wave) := HB2.out.cell 3
  have k4 : w2.cell? ⟨w.heap.size, 4, none⟩ = some (.int .i64 c.lease) := HB2.out.cell 4
  have k5 : w2.cell? ⟨w.heap.size, 5, none⟩ = some (.int .i64 c.retry) := HB2.out.cell 5
  have k6 : w2.cell? ⟨w.heap.size, 6, none⟩ = some (.int .i64 c.deadline) := HB2.out.cell 6
  have k7 : w2.cell? ⟨w.heap.size, 7, none⟩ = some (.int .i64 c.room) := HB2.out.cell 7
  have k8 : w2.cell? ⟨w.heap.size, 8, none⟩ = some (.int .i64 c.disk) := HB2.out.cell 8
  go_wp2_with fail
  refine (HRT.out w2 HX2.out).mono ?_
  rintro e3 w3 ⟨b, rfl, hb, hx3⟩
  have HRB := Lib.hid hb
  have HX3 := Lib.hid (HX2.out.trans hx3)
  have HS3 := Lib.hid (HS2.out.ext hx3)
  have HB3 := Lib.hid (HB2.out.ext hx3)
  clear hb hx3 HX2 HS2 HB2 HRT s0 s1 s2 s3 s4 s5 k0 k1 k2 k3 k4 k5 k6 k7 k8
  cases b
  case false =>
    go_wp2
    go_ret
    exact ⟨rfl, HX3.out⟩
  have HRP : Hid (RightP c s) := Lib.hid (HRB.out.1 (by trivial))
  clear HRB
  by_cases hn1 : now < 0
  · have d1 : decide (now < 0) = true := decide_eq_true hn1
    clear hn1
    go_wp2
    go_ret
    exact ⟨rfl, HX3.out⟩
  have d1 : decide (now < 0) = false := decide_eq_false hn1
  by_cases hn2 : 1000000 < now
  · have d2 : decide (1000000 < now) = true := decide_eq_true hn2
    clear hn1 hn2
    go_wp2
    go_ret
    exact ⟨rfl, HX3.out⟩
  have d2 : decide (1000000 < now) = false := decide_eq_false hn2
  have HN0 : Hid (0 ≤ now) := Lib.hid (by omega)
  have HN1 : Hid (now ≤ 1000000) := Lib.hid (by omega)
  clear hn1 hn2
  obtain ⟨⟨t, er⟩, hap⟩ : ∃ r, r = applyS c s (9, a, nd, 0, 0, 0, 0) := ⟨_, rfl⟩
  have HA1 : Hid (Calls Tryd.prog 20 #[.agg #[.int .i64 c.nodes, .int .i64 c.queues, .int .i64 c.quota, .int .i64 c.wave, .int .i64 c.lease, .int .i64 c.retry, .int .i64 c.deadline, .int .i64 c.room, .int .i64 c.disk], .agg #[vn, vj, .int .i64 s.goal, .int .i64 s.prior, .int .i64 s.mode, .int .i64 s.term], .agg #[.int .i64 9, .int .i64 a, .int .i64 nd, .int .i64 0, .int .i64 0, .int .i64 0, .int .i64 0]] w3 fun e w' => ∃ vn' vj', e = .returned (.tuple #[.agg #[vn', vj', .int .i64 (t).goal, .int .i64 (t).prior, .int .i64 (t).mode, .int .i64 (t).term], .int .i64 (er)]) ∧ RdSt w' vn' vj' (t) ∧ Ext w3 w' ∧ ∀ k, vn'.ownBlock = some k ∨ vj'.ownBlock = some k → w3.heap.size ≤ k) := Lib.hid (Apply_at (c := c) (s := s) (o := (9, a, nd, 0, 0, 0, 0)) (r := (t, er)) HS3.out.rd (HL.out.ext HX3.out) HRP.out hap.symm)
  have HRT : Hid (RightP c t) := Lib.hid (by have := HRP.out.apply (9, a, nd, 0, 0, 0, 0); rw [← hap] at this; exact this)
  have HBP : Hid (er = 0 → ∃ (k : Nat) (j : Jb), BackP c s t a now k j) := Lib.hid fun h => HRP.out.back HN0.out HN1.out (by rw [← hap, h])
  clear hap
  have s0 : w3.cell? ⟨w.heap.size + 1, 0, none⟩ = some (vn) := HS3.out.blk.cell 0
  have s1 : w3.cell? ⟨w.heap.size + 1, 1, none⟩ = some (vj) := HS3.out.blk.cell 1
  have s2 : w3.cell? ⟨w.heap.size + 1, 2, none⟩ = some (.int .i64 s.goal) := HS3.out.blk.cell 2
  have s3 : w3.cell? ⟨w.heap.size + 1, 3, none⟩ = some (.int .i64 s.prior) := HS3.out.blk.cell 3
  have s4 : w3.cell? ⟨w.heap.size + 1, 4, none⟩ = some (.int .i64 s.mode) := HS3.out.blk.cell 4
  have s5 : w3.cell? ⟨w.heap.size + 1, 5, none⟩ = some (.int .i64 s.term) := HS3.out.blk.cell 5
  have k0 : w3.cell? ⟨w.heap.size, 0, none⟩ = some (.int .i64 c.nodes) := HB3.out.cell 0
  have k1 : w3.cell? ⟨w.heap.size, 1, none⟩ = some (.int .i64 c.queues) := HB3.out.cell 1
  have k2 : w3.cell? ⟨w.heap.size, 2, none⟩ = some (.int .i64 c.quota) := HB3.out.cell 2
  have k3 : w3.cell? ⟨w.heap.size, 3, none⟩ = some (.int .i64 c.wave) := HB3.out.cell 3
  have k4 : w3.cell? ⟨w.heap.size, 4, none⟩ = some (.int .i64 c.lease) := HB3.out.cell 4
  have k5 : w3.cell? ⟨w.heap.size, 5, none⟩ = some (.int .i64 c.retry) := HB3.out.cell 5
  have k6 : w3.cell? ⟨w.heap.size, 6, none⟩ = some (.int .i64 c.deadline) := HB3.out.cell 6
  have k7 : w3.cell? ⟨w.heap.size, 7, none⟩ = some (.int .i64 c.room) := HB3.out.cell 7
  have k8 : w3.cell? ⟨w.heap.size, 8, none⟩ = some (.int .i64 c.disk) := HB3.out.cell 8
  go_wp2_with fail
  refine HA1.out.mono ?_
  rintro e4 w4 ⟨un, uj, rfl, hr4, hx4, -⟩
  obtain ⟨Bn, dn, rfl, -, -⟩ := hr4.nodes.slice_
  obtain ⟨Bj, dj, rfl, -, -⟩ := hr4.jobs.slice_
  obtain ⟨w5, hw5⟩ : ∃ W, W = w4.alloc (.cells #[.slice Bn t.nodes.length dn, .slice Bj t.jobs.length dj, .int .i64 t.goal, .int .i64 t.prior, .int .i64 t.mode, .int .i64 t.term] 27) := ⟨_, rfl⟩
  have hxn5 : Ext w4 w5 := by rw [hw5]; exact (Below.refl _ _).alloc (Nat.le_refl _) _
  obtain ⟨g1, hg1⟩ : ∃ g, g = w4.heap.size := ⟨_, rfl⟩
  have HT5 : Hid (SAt w5 g1 _ _ (t)) := Lib.hid (SAt.first hr4 hxn5 (by rw [hw5, hg1]; exact Blk.new _ _ _) (by rw [hg1]; exact Nat.le_refl _))
  have HX5 := Lib.hid ((HX3.out.trans hx4).trans hxn5)
  have HS5 := Lib.hid ((HS3.out.ext hx4).ext hxn5)
  have HB5 := Lib.hid ((HB3.out.ext hx4).ext hxn5)
  clear hr4 hx4 hxn5 HA1 HX3 HS3 HB3 s0 s1 s2 s3 s4 s5 k0 k1 k2 k3 k4 k5 k6 k7 k8
  go_upto_region 6 with (fail)
  rw [← hw5, ← hg1]
  clear hw5 hg1
  by_cases he : ¬ er = 0
  · have e1 : (er != 0) = true := by rw [bne_iff_ne]; exact he
    clear he HBP
    go_wp2
    go_ret
    exact ⟨rfl, HX5.out⟩
  replace he := Classical.not_not.1 he
  have e1 : (er != 0) = false := by rw [he]; rfl
  obtain ⟨k, j, hbp⟩ := HBP.out he
  obtain rfl := hbp.ha
  have HBK := Lib.hid hbp
  obtain ⟨v1, h10, v2, gg, h12, h14⟩ := hbp.st
  have H10 := Lib.hid h10
  have H12 := Lib.hid h12
  have H14 := Lib.hid h14
  have HV1 : Hid (RightP c v1) := Lib.hid (by have := HRT.out.apply (10, (k : Int) + 1, now, 0, 0, 0, 0); rw [h10] at this; exact this)
  have HV2 : Hid (RightP c v2) := Lib.hid (by have := HV1.out.apply (12, (k : Int) + 1, now, 0, 0, 0, 0); rw [h12] at this; exact this)
  clear he HBP hbp h10 h12 h14
  obtain ⟨U, hU⟩ : ∃ U, U = setJ s k (wantJ j) := ⟨_, rfl⟩
  have HUU := Lib.hid hU
  clear hU
  have HA2 : Hid (Calls Tryd.prog 20 #[.agg #[.int .i64 c.nodes, .int .i64 c.queues, .int .i64 c.quota, .int .i64 c.wave, .int .i64 c.lease, .int .i64 c.retry, .int .i64 c.deadline, .int .i64 c.room, .int .i64 c.disk], .agg #[.slice Bn t.nodes.length dn, .slice Bj t.jobs.length dj, .int .i64 t.goal, .int .i64 t.prior, .int .i64 t.mode, .int .i64 t.term], .agg #[.int .i64 11, .int .i64 ((k : Int) + 1), .int .i64 0, .int .i64 0, .int .i64 0, .int .i64 0, .int .i64 0]] w5 fun e w' => ∃ vn' vj', e = .returned (.tuple #[.agg #[vn', vj', .int .i64 (U).goal, .int .i64 (U).prior, .int .i64 (U).mode, .int .i64 (U).term], .int .i64 (0)]) ∧ RdSt w' vn' vj' (U) ∧ Ext w5 w' ∧ ∀ k, vn'.ownBlock = some k ∨ vj'.ownBlock = some k → w5.heap.size ≤ k) := Lib.hid (Apply_at (c := c) (s := t) (o := (11, ((k : Int) + 1), 0, 0, 0, 0, 0)) (r := (U, 0)) HT5.out.rd (HL.out.ext HX5.out) HRT.out (by rw [HUU.out]; exact HBK.out.un))
  have k0 : w5.cell? ⟨w.heap.size, 0, none⟩ = some (.int .i64 c.nodes) := HB5.out.cell 0
  have k1 : w5.cell? ⟨w.heap.size, 1, none⟩ = some (.int .i64 c.queues) := HB5.out.cell 1
  have k2 : w5.cell? ⟨w.heap.size, 2, none⟩ = some (.int .i64 c.quota) := HB5.out.cell 2
  have k3 : w5.cell? ⟨w.heap.size, 3, none⟩ = some (.int .i64 c.wave) := HB5.out.cell 3
  have k4 : w5.cell? ⟨w.heap.size, 4, none⟩ = some (.int .i64 c.lease) := HB5.out.cell 4
  have k5 : w5.cell? ⟨w.heap.size, 5, none⟩ = some (.int .i64 c.retry) := HB5.out.cell 5
  have k6 : w5.cell? ⟨w.heap.size, 6, none⟩ = some (.int .i64 c.deadline) := HB5.out.cell 6
  have k7 : w5.cell? ⟨w.heap.size, 7, none⟩ = some (.int .i64 c.room) := HB5.out.cell 7
  have k8 : w5.cell? ⟨w.heap.size, 8, none⟩ = some (.int .i64 c.disk) := HB5.out.cell 8
  have s0 : w5.cell? ⟨g1, 0, none⟩ = some (.slice Bn t.nodes.length dn) := HT5.out.blk.cell 0
  have s1 : w5.cell? ⟨g1, 1, none⟩ = some (.slice Bj t.jobs.length dj) := HT5.out.blk.cell 1
  have s2 : w5.cell? ⟨g1, 2, none⟩ = some (.int .i64 t.goal) := HT5.out.blk.cell 2
  have s3 : w5.cell? ⟨g1, 3, none⟩ = some (.int .i64 t.prior) := HT5.out.blk.cell 3
  have s4 : w5.cell? ⟨g1, 4, none⟩ = some (.int .i64 t.mode) := HT5.out.blk.cell 4
  have s5 : w5.cell? ⟨g1, 5, none⟩ = some (.int .i64 t.term) := HT5.out.blk.cell 5
  go_wp2_with fail
  refine HA2.out.mono ?_
  rintro e6 w6 ⟨un, uj, rfl, hr6, hx6, -⟩
  obtain ⟨Un, cn2, rfl, -, -⟩ := hr6.nodes.slice_
  obtain ⟨Uj, cj2, rfl, hju, hjv⟩ := hr6.jobs.slice_
  obtain ⟨w7, hw7⟩ : ∃ W, W = w6.alloc (.cells #[.slice Un U.nodes.length cn2, .slice Uj U.jobs.length cj2, .int .i64 U.goal, .int .i64 U.prior, .int .i64 U.mode, .int .i64 U.term] 27) := ⟨_, rfl⟩
  have hxn7 : Ext w6 w7 := by rw [hw7]; exact (Below.refl _ _).alloc (Nat.le_refl _) _
  obtain ⟨g2, hg2⟩ : ∃ g, g = w6.heap.size := ⟨_, rfl⟩
  have HU7 : Hid (SAt w7 g2 _ _ (U)) := Lib.hid (SAt.first hr6 hxn7 (by rw [hw7, hg2]; exact Blk.new _ _ _) (by rw [hg2]; exact Nat.le_refl _))
  have HX7 := Lib.hid ((HX5.out.trans hx6).trans hxn7)
  have HS7 := Lib.hid ((HS5.out.ext hx6).ext hxn7)
  have HB7 := Lib.hid ((HB5.out.ext hx6).ext hxn7)
  have HT7 := Lib.hid ((HT5.out.ext hx6).ext hxn7)
  clear hr6 hx6 hxn7 HA2 HX5 HS5 HB5 HT5 s0 s1 s2 s3 s4 s5 k0 k1 k2 k3 k4 k5 k6 k7 k8
  go_upto_region 9 with (fail)
  rw [← hw7, ← hg2]
  clear hw7 hg2
  have HA3 : Hid (Calls Tryd.prog 20 #[.agg #[.int .i64 c.nodes, .int .i64 c.queues, .int .i64 c.quota, .int .i64 c.wave, .int .i64 c.lease, .int .i64 c.retry, .int .i64 c.deadline, .int .i64 c.room, .int .i64 c.disk], .agg #[.slice Bn t.nodes.length dn, .slice Bj t.jobs.length dj, .int .i64 t.goal, .int .i64 t.prior, .int .i64 t.mode, .int .i64 t.term], .agg #[.int .i64 10, .int .i64 ((k : Int) + 1), .int .i64 now, .int .i64 0, .int .i64 0, .int .i64 0, .int .i64 0]] w7 fun e w' => ∃ vn' vj', e = .returned (.tuple #[.agg #[vn', vj', .int .i64 (v1).goal, .int .i64 (v1).prior, .int .i64 (v1).mode, .int .i64 (v1).term], .int .i64 (0)]) ∧ RdSt w' vn' vj' (v1) ∧ Ext w7 w' ∧ ∀ k, vn'.ownBlock = some k ∨ vj'.ownBlock = some k → w7.heap.size ≤ k) := Lib.hid (Apply_at (c := c) (s := t) (o := (10, ((k : Int) + 1), now, 0, 0, 0, 0)) (r := (v1, 0)) HT7.out.rd (HL.out.ext HX7.out) HRT.out H10.out)
  have k0 : w7.cell? ⟨w.heap.size, 0, none⟩ = some (.int .i64 c.nodes) := HB7.out.cell 0
  have k1 : w7.cell? ⟨w.heap.size, 1, none⟩ = some (.int .i64 c.queues) := HB7.out.cell 1
  have k2 : w7.cell? ⟨w.heap.size, 2, none⟩ = some (.int .i64 c.quota) := HB7.out.cell 2
  have k3 : w7.cell? ⟨w.heap.size, 3, none⟩ = some (.int .i64 c.wave) := HB7.out.cell 3
  have k4 : w7.cell? ⟨w.heap.size, 4, none⟩ = some (.int .i64 c.lease) := HB7.out.cell 4
  have k5 : w7.cell? ⟨w.heap.size, 5, none⟩ = some (.int .i64 c.retry) := HB7.out.cell 5
  have k6 : w7.cell? ⟨w.heap.size, 6, none⟩ = some (.int .i64 c.deadline) := HB7.out.cell 6
  have k7 : w7.cell? ⟨w.heap.size, 7, none⟩ = some (.int .i64 c.room) := HB7.out.cell 7
  have k8 : w7.cell? ⟨w.heap.size, 8, none⟩ = some (.int .i64 c.disk) := HB7.out.cell 8
  have s0 : w7.cell? ⟨g1, 0, none⟩ = some (.slice Bn t.nodes.length dn) := HT7.out.blk.cell 0
  have s1 : w7.cell? ⟨g1, 1, none⟩ = some (.slice Bj t.jobs.length dj) := HT7.out.blk.cell 1
  have s2 : w7.cell? ⟨g1, 2, none⟩ = some (.int .i64 t.goal) := HT7.out.blk.cell 2
  have s3 : w7.cell? ⟨g1, 3, none⟩ = some (.int .i64 t.prior) := HT7.out.blk.cell 3
  have s4 : w7.cell? ⟨g1, 4, none⟩ = some (.int .i64 t.mode) := HT7.out.blk.cell 4
  have s5 : w7.cell? ⟨g1, 5, none⟩ = some (.int .i64 t.term) := HT7.out.blk.cell 5
  go_wp2_with fail
  refine HA3.out.mono ?_
  rintro e8 w8 ⟨un, uj, rfl, hr8, hx8, -⟩
  obtain ⟨Vn, cn3, rfl, -, -⟩ := hr8.nodes.slice_
  obtain ⟨Vj, cj3, rfl, -, -⟩ := hr8.jobs.slice_
  obtain ⟨w9, hw9⟩ : ∃ W, W = w8.alloc (.cells #[.slice Vn v1.nodes.length cn3, .slice Vj v1.jobs.length cj3, .int .i64 v1.goal, .int .i64 v1.prior, .int .i64 v1.mode, .int .i64 v1.term] 27) := ⟨_, rfl⟩
  have hxn9 : Ext w8 w9 := by rw [hw9]; exact (Below.refl _ _).alloc (Nat.le_refl _) _
  obtain ⟨g3, hg3⟩ : ∃ g, g = w8.heap.size := ⟨_, rfl⟩
  have HV9 : Hid (SAt w9 g3 _ _ (v1)) := Lib.hid (SAt.first hr8 hxn9 (by rw [hw9, hg3]; exact Blk.new _ _ _) (by rw [hg3]; exact Nat.le_refl _))
  have HX9 := Lib.hid ((HX7.out.trans hx8).trans hxn9)
  have hg3' : w8.heap.size ≤ g3 := by omega
  have HOS := Lib.hid ((HS7.out.ext hx8).later hg3')
  have HS9 := Lib.hid ((HS7.out.ext hx8).ext hxn9)
  have HOU := Lib.hid ((HU7.out.ext hx8).later hg3')
  have HU9 := Lib.hid ((HU7.out.ext hx8).ext hxn9)
  have HB9 := Lib.hid ((HB7.out.ext hx8).ext hxn9)
  have HBN : Hid (w.heap.size ≠ g3) := Lib.hid (by have := HB7.out.lt; have := hx8.size; omega)
  have HWG : Hid (w.heap.size ≤ g3) := Lib.hid (by have := HX7.out.size; have := hx8.size; omega)
  clear hr8 hx8 hxn9 hg3' HA3 HX7 HS7 HB7 HT7 HU7 s0 s1 s2 s3 s4 s5 k0 k1 k2 k3 k4 k5 k6 k7 k8
  go_upto_region 10 with (fail)
  rw [← hw9, ← hg3]
  clear hw9 hg3
  have HA4 : Hid (Calls Tryd.prog 20 #[.agg #[.int .i64 c.nodes, .int .i64 c.queues, .int .i64 c.quota, .int .i64 c.wave, .int .i64 c.lease, .int .i64 c.retry, .int .i64 c.deadline, .int .i64 c.room, .int .i64 c.disk], .agg #[.slice Vn v1.nodes.length cn3, .slice Vj v1.jobs.length cj3, .int .i64 v1.goal, .int .i64 v1.prior, .int .i64 v1.mode, .int .i64 v1.term], .agg #[.int .i64 12, .int .i64 ((k : Int) + 1), .int .i64 now, .int .i64 0, .int .i64 0, .int .i64 0, .int .i64 0]] w9 fun e w' => ∃ vn' vj', e = .returned (.tuple #[.agg #[vn', vj', .int .i64 (v2).goal, .int .i64 (v2).prior, .int .i64 (v2).mode, .int .i64 (v2).term], .int .i64 (gg)]) ∧ RdSt w' vn' vj' (v2) ∧ Ext w9 w' ∧ ∀ k, vn'.ownBlock = some k ∨ vj'.ownBlock = some k → w9.heap.size ≤ k) := Lib.hid (Apply_at (c := c) (s := v1) (o := (12, ((k : Int) + 1), now, 0, 0, 0, 0)) (r := (v2, gg)) HV9.out.rd (HL.out.ext HX9.out) HV1.out H12.out)
  have k0 : w9.cell? ⟨w.heap.size, 0, none⟩ = some (.int .i64 c.nodes) := HB9.out.cell 0
  have k1 : w9.cell? ⟨w.heap.size, 1, none⟩ = some (.int .i64 c.queues) := HB9.out.cell 1
  have k2 : w9.cell? ⟨w.heap.size, 2, none⟩ = some (.int .i64 c.quota) := HB9.out.cell 2
  have k3 : w9.cell? ⟨w.heap.size, 3, none⟩ = some (.int .i64 c.wave) := HB9.out.cell 3
  have k4 : w9.cell? ⟨w.heap.size, 4, none⟩ = some (.int .i64 c.lease) := HB9.out.cell 4
  have k5 : w9.cell? ⟨w.heap.size, 5, none⟩ = some (.int .i64 c.retry) := HB9.out.cell 5
  have k6 : w9.cell? ⟨w.heap.size, 6, none⟩ = some (.int .i64 c.deadline) := HB9.out.cell 6
  have k7 : w9.cell? ⟨w.heap.size, 7, none⟩ = some (.int .i64 c.room) := HB9.out.cell 7
  have k8 : w9.cell? ⟨w.heap.size, 8, none⟩ = some (.int .i64 c.disk) := HB9.out.cell 8
  have s0 : w9.cell? ⟨g3, 0, none⟩ = some (.slice Vn v1.nodes.length cn3) := HV9.out.blk.cell 0
  have s1 : w9.cell? ⟨g3, 1, none⟩ = some (.slice Vj v1.jobs.length cj3) := HV9.out.blk.cell 1
  have s2 : w9.cell? ⟨g3, 2, none⟩ = some (.int .i64 v1.goal) := HV9.out.blk.cell 2
  have s3 : w9.cell? ⟨g3, 3, none⟩ = some (.int .i64 v1.prior) := HV9.out.blk.cell 3
  have s4 : w9.cell? ⟨g3, 4, none⟩ = some (.int .i64 v1.mode) := HV9.out.blk.cell 4
  have s5 : w9.cell? ⟨g3, 5, none⟩ = some (.int .i64 v1.term) := HV9.out.blk.cell 5
  have hgl : g3 < w9.heap.size := HV9.out.blk.lt
  go_wp2_with fail
  refine HA4.out.mono ?_
  rintro e4_ w10 ⟨un, uj, rfl, hr, hx, hk⟩
  obtain ⟨V2n, cn4, rfl, -, -⟩ := hr.nodes.slice_
  obtain ⟨V2j, cj4, rfl, -, -⟩ := hr.jobs.slice_
  obtain ⟨w11, hw, hsv, hsame, hsize, hbel⟩ := (HV9.out.ext hx).putR hr (fun _ k h e => by have := hk k (.inl h); omega) (fun _ k h e => by have := hk k (.inr h); omega)
  have HXw11 := Lib.hid (hbel _ _ (Ext.trans HX9.out hx) HWG.out)
  have HSw11 := Lib.hid ((HS9.out.ext hx).keep HOS.out.2.2 HOS.out.1 HOS.out.2.1 hsize hsame)
  have HUw11 := Lib.hid ((HU9.out.ext hx).keep HOU.out.2.2 HOU.out.1 HOU.out.2.1 hsize hsame)
  have HBw11 : Hid (Blk w11 w.heap.size 23 #[.int .i64 c.nodes, .int .i64 c.queues, .int .i64 c.quota, .int .i64 c.wave, .int .i64 c.lease, .int .i64 c.retry, .int .i64 c.deadline, .int .i64 c.room, .int .i64 c.disk]) := Lib.hid ((hsame _ HBN.out).trans (HB9.out.ext hx))
  have HVw11 := Lib.hid hsv
  clear s0 s1 s2 s3 s4 s5 k0 k1 k2 k3 k4 k5 k6 k7 k8
  have p0 : w10.cell? ⟨g3, 0, none⟩ = some (.slice Vn v1.nodes.length cn3) := (HV9.out.blk.ext hx).cell 0
  have p1 : w10.cell? ⟨g3, 1, none⟩ = some (.slice Vj v1.jobs.length cj3) := (HV9.out.blk.ext hx).cell 1
  have p2 : w10.cell? ⟨g3, 2, none⟩ = some (.int .i64 v1.goal) := (HV9.out.blk.ext hx).cell 2
  have p3 : w10.cell? ⟨g3, 3, none⟩ = some (.int .i64 v1.prior) := (HV9.out.blk.ext hx).cell 3
  have p4 : w10.cell? ⟨g3, 4, none⟩ = some (.int .i64 v1.mode) := (HV9.out.blk.ext hx).cell 4
  have p5 : w10.cell? ⟨g3, 5, none⟩ = some (.int .i64 v1.term) := (HV9.out.blk.ext hx).cell 5
  have f0 : w10.frozen? ⟨g3, 0, none⟩ = false := (HV9.out.blk.ext hx).frozen 0
  have f1 : w10.frozen? ⟨g3, 1, none⟩ = false := (HV9.out.blk.ext hx).frozen 1
  have f2 : w10.frozen? ⟨g3, 2, none⟩ = false := (HV9.out.blk.ext hx).frozen 2
  have f3 : w10.frozen? ⟨g3, 3, none⟩ = false := (HV9.out.blk.ext hx).frozen 3
  have f4 : w10.frozen? ⟨g3, 4, none⟩ = false := (HV9.out.blk.ext hx).frozen 4
  have f5 : w10.frozen? ⟨g3, 5, none⟩ = false := (HV9.out.blk.ext hx).frozen 5
  clear hr hx hk hsv hsame hsize hbel hgl HA4 HX9 HS9 HU9 HB9 HV9
  go_upto_region 11 with (fail)
  rw [← hw]
  clear hw p0 p1 p2 p3 p4 p5 f0 f1 f2 f3 f4 f5
  obtain ⟨⟨v3, e3⟩, hap⟩ : ∃ r, r = applyS c v2 (14, (k : Int) + 1, 0, 0, 0, 0, 0) := ⟨_, rfl⟩
  have HAP := Lib.hid hap
  clear hap
  have HA5 : Hid (Calls Tryd.prog 20 #[.agg #[.int .i64 c.nodes, .int .i64 c.queues, .int .i64 c.quota, .int .i64 c.wave, .int .i64 c.lease, .int .i64 c.retry, .int .i64 c.deadline, .int .i64 c.room, .int .i64 c.disk], .agg #[.slice V2n v2.nodes.length cn4, .slice V2j v2.jobs.length cj4, .int .i64 v2.goal, .int .i64 v2.prior, .int .i64 v2.mode, .int .i64 v2.term], .agg #[.int .i64 14, .int .i64 ((k : Int) + 1), .int .i64 0, .int .i64 0, .int .i64 0, .int .i64 0, .int .i64 0]] w11 fun e w' => ∃ vn' vj', e = .returned (.tuple #[.agg #[vn', vj', .int .i64 (v3).goal, .int .i64 (v3).prior, .int .i64 (v3).mode, .int .i64 (v3).term], .int .i64 (e3)]) ∧ RdSt w' vn' vj' (v3) ∧ Ext w11 w' ∧ ∀ k, vn'.ownBlock = some k ∨ vj'.ownBlock = some k → w11.heap.size ≤ k) := Lib.hid (Apply_at (c := c) (s := v2) (o := (14, ((k : Int) + 1), 0, 0, 0, 0, 0)) (r := (v3, e3)) HVw11.out.rd (HL.out.ext HXw11.out) HV2.out HAP.out.symm)
  have k0 : w11.cell? ⟨w.heap.size, 0, none⟩ = some (.int .i64 c.nodes) := HBw11.out.cell 0
  have k1 : w11.cell? ⟨w.heap.size, 1, none⟩ = some (.int .i64 c.queues) := HBw11.out.cell 1
  have k2 : w11.cell? ⟨w.heap.size, 2, none⟩ = some (.int .i64 c.quota) := HBw11.out.cell 2
  have k3 : w11.cell? ⟨w.heap.size, 3, none⟩ = some (.int .i64 c.wave) := HBw11.out.cell 3
  have k4 : w11.cell? ⟨w.heap.size, 4, none⟩ = some (.int .i64 c.lease) := HBw11.out.cell 4
  have k5 : w11.cell? ⟨w.heap.size, 5, none⟩ = some (.int .i64 c.retry) := HBw11.out.cell 5
  have k6 : w11.cell? ⟨w.heap.size, 6, none⟩ = some (.int .i64 c.deadline) := HBw11.out.cell 6
  have k7 : w11.cell? ⟨w.heap.size, 7, none⟩ = some (.int .i64 c.room) := HBw11.out.cell 7
  have k8 : w11.cell? ⟨w.heap.size, 8, none⟩ = some (.int .i64 c.disk) := HBw11.out.cell 8
  have s0 : w11.cell? ⟨g3, 0, none⟩ = some (.slice V2n v2.nodes.length cn4) := HVw11.out.blk.cell 0
  have s1 : w11.cell? ⟨g3, 1, none⟩ = some (.slice V2j v2.jobs.length cj4) := HVw11.out.blk.cell 1
  have s2 : w11.cell? ⟨g3, 2, none⟩ = some (.int .i64 v2.goal) := HVw11.out.blk.cell 2
  have s3 : w11.cell? ⟨g3, 3, none⟩ = some (.int .i64 v2.prior) := HVw11.out.blk.cell 3
  have s4 : w11.cell? ⟨g3, 4, none⟩ = some (.int .i64 v2.mode) := HVw11.out.blk.cell 4
  have s5 : w11.cell? ⟨g3, 5, none⟩ = some (.int .i64 v2.term) := HVw11.out.blk.cell 5
  have hgl : g3 < w11.heap.size := HVw11.out.blk.lt
  go_wp2_with fail
  refine HA5.out.mono ?_
  rintro e5_ w12 ⟨un, uj, rfl, hr, hx, hk⟩
  obtain ⟨V3n, cn5, rfl, -, -⟩ := hr.nodes.slice_
  obtain ⟨V3j, cj5, rfl, -, -⟩ := hr.jobs.slice_
  obtain ⟨w13, hw, hsv, hsame, hsize, hbel⟩ := (HVw11.out.ext hx).putR hr (fun _ k h e => by have := hk k (.inl h); omega) (fun _ k h e => by have := hk k (.inr h); omega)
  have HXw13 := Lib.hid (hbel _ _ (Ext.trans HXw11.out hx) HWG.out)
  have HSw13 := Lib.hid ((HSw11.out.ext hx).keep HOS.out.2.2 HOS.out.1 HOS.out.2.1 hsize hsame)
  have HUw13 := Lib.hid ((HUw11.out.ext hx).keep HOU.out.2.2 HOU.out.1 HOU.out.2.1 hsize hsame)
  have HBw13 : Hid (Blk w13 w.heap.size 23 #[.int .i64 c.nodes, .int .i64 c.queues, .int .i64 c.quota, .int .i64 c.wave, .int .i64 c.lease, .int .i64 c.retry, .int .i64 c.deadline, .int .i64 c.room, .int .i64 c.disk]) := Lib.hid ((hsame _ HBN.out).trans (HBw11.out.ext hx))
  have HVw13 := Lib.hid hsv
  clear s0 s1 s2 s3 s4 s5 k0 k1 k2 k3 k4 k5 k6 k7 k8
  have p0 : w12.cell? ⟨g3, 0, none⟩ = some (.slice V2n v2.nodes.length cn4) := (HVw11.out.blk.ext hx).cell 0
  have p1 : w12.cell? ⟨g3, 1, none⟩ = some (.slice V2j v2.jobs.length cj4) := (HVw11.out.blk.ext hx).cell 1
  have p2 : w12.cell? ⟨g3, 2, none⟩ = some (.int .i64 v2.goal) := (HVw11.out.blk.ext hx).cell 2
  have p3 : w12.cell? ⟨g3, 3, none⟩ = some (.int .i64 v2.prior) := (HVw11.out.blk.ext hx).cell 3
  have p4 : w12.cell? ⟨g3, 4, none⟩ = some (.int .i64 v2.mode) := (HVw11.out.blk.ext hx).cell 4
  have p5 : w12.cell? ⟨g3, 5, none⟩ = some (.int .i64 v2.term) := (HVw11.out.blk.ext hx).cell 5
  have f0 : w12.frozen? ⟨g3, 0, none⟩ = false := (HVw11.out.blk.ext hx).frozen 0
  have f1 : w12.frozen? ⟨g3, 1, none⟩ = false := (HVw11.out.blk.ext hx).frozen 1
  have f2 : w12.frozen? ⟨g3, 2, none⟩ = false := (HVw11.out.blk.ext hx).frozen 2
  have f3 : w12.frozen? ⟨g3, 3, none⟩ = false := (HVw11.out.blk.ext hx).frozen 3
  have f4 : w12.frozen? ⟨g3, 4, none⟩ = false := (HVw11.out.blk.ext hx).frozen 4
  have f5 : w12.frozen? ⟨g3, 5, none⟩ = false := (HVw11.out.blk.ext hx).frozen 5
  clear hr hx hk hsv hsame hsize hbel hgl HA5 HXw11 HSw11 HUw11 HBw11 HVw11
  go_upto_region 12 with (fail)
  rw [← hw]
  clear hw p0 p1 p2 p3 p4 p5 f0 f1 f2 f3 f4 f5
  have hkl : k < s.jobs.length := (List.getElem?_eq_some_iff.1 HBK.out.hk).1
  have hul : U.jobs.length = s.jobs.length := by rw [HUU.out]; simp [setJ]
  have hku : U.jobs[k]? = some (wantJ j) := by rw [HUU.out]; simp only [setJ]; rw [List.getElem?_set_self hkl]
  have hj24 : s.jobs.length ≤ 24 := HRP.out.nj
  have hji : 0 ≤ j.inc ∧ j.inc ≤ 1000000 := ⟨(HRP.out.job k j HBK.out.hk).i0, (HRP.out.job k j HBK.out.hk).i9⟩
  obtain ⟨Aj, cj, rfl, -, -, hjs⟩ := jobs_cells HSw13.out.rd.jobs
  obtain ⟨An, cn, rfl, -, -⟩ := HSw13.out.rd.nodes.slice_
  obtain ⟨_, _, ej, -, -, hju⟩ := jobs_cells HUw13.out.rd.jobs
  cases ej
  obtain ⟨b1, p1, rfl, hb1, hat1⟩ := hjs k j HBK.out.hk
  obtain ⟨b2, p2, rfl, hb2, hat2⟩ := hju k _ hku
  have c7 := hat1.c7
  have c7' := hat2.c7
  rw [show (wantJ j).inc = j.inc + 1 from rfl] at c7'
  have s1 := HSw13.out.blk.cell 1
  have t1 := HUw13.out.blk.cell 1
  simp only [List.getElem?_toArray, List.getElem?_cons_succ, List.getElem?_cons_zero] at s1 t1
  have x1 : (0 : Int) ≤ (k : Int) ∧ (k : Int) < (s.jobs.length : Int) := by omega
  have x2 : (0 : Int) ≤ (k : Int) ∧ (k : Int) < (U.jobs.length : Int) := by omega
  have HUL := Lib.hid hul
  have HKL := Lib.hid hkl
  have hz := hji.1
  have hz9 := hji.2
  have hwi : IntKind.i64.wrap (j.inc + 1) = j.inc + 1 := IntWalk.i64_in _ (by omega)
  have hwk : IntKind.i64.wrap ((k : Int) + 1 - 1) = (k : Int) := by rw [Int.add_sub_cancel]; exact IntWalk.i64_in _ (by omega)
  have heq : (j.inc + 1 != j.inc + 1) = false := bne_self_eq_false _
  have HCP : Hid (∀ W, Ext w13 W → Calls Tryd.prog 26 #[.agg #[.slice An s.nodes.length cn, .slice (some ⟨b1, p1, none⟩) s.jobs.length cj, .int .i64 s.goal, .int .i64 s.prior, .int .i64 s.mode, .int .i64 s.term]] W fun e w' => ∃ vn' vj', e = .returned (.agg #[vn', vj', .int .i64 s.goal, .int .i64 s.prior, .int .i64 s.mode, .int .i64 s.term]) ∧ OwnSt W.heap.size 48 52 w' vn' vj' s ∧ Ext W w') := Lib.hid fun W hx => Copy_any _ _ s W (HSw13.out.rd.ext hx) (by have := HRP.out.len; omega) (by have := HRP.out.nj; omega)
  clear hku hji hul hjs hju hat1 hat2
  go_wp2_with fail
  go_quiet (fail)
  have HXQ := Lib.hid (Below.drewN' (Ext.refl w13) nq)
  have HSQ := Lib.hid (HSw13.out.ext HXQ.out)
  clear c7 c7' s1 t1 x1 x2 hb1 hb2 hz hz9 heq hwi hwk hju hjv
  have y0 : (w13.drewN nq).cell? ⟨w.heap.size + 1, 0, none⟩ = some (.slice An s.nodes.length cn) := HSQ.out.blk.cell 0
  have y1 : (w13.drewN nq).cell? ⟨w.heap.size + 1, 1, none⟩ = some (.slice (some ⟨b1, p1, none⟩) s.jobs.length cj) := HSQ.out.blk.cell 1
  have y2 : (w13.drewN nq).cell? ⟨w.heap.size + 1, 2, none⟩ = some (.int .i64 s.goal) := HSQ.out.blk.cell 2
  have y3 : (w13.drewN nq).cell? ⟨w.heap.size + 1, 3, none⟩ = some (.int .i64 s.prior) := HSQ.out.blk.cell 3
  have y4 : (w13.drewN nq).cell? ⟨w.heap.size + 1, 4, none⟩ = some (.int .i64 s.mode) := HSQ.out.blk.cell 4
  have y5 : (w13.drewN nq).cell? ⟨w.heap.size + 1, 5, none⟩ = some (.int .i64 s.term) := HSQ.out.blk.cell 5
  go_wp2_with fail
  refine (HCP.out _ HXQ.out).mono ?_
  rintro e14 w14 ⟨vn4, vj4, rfl, ho4, hx4⟩
  obtain ⟨A4, c4, rfl⟩ := own_slice ho4.nodes
  obtain ⟨B4, k4, rfl⟩ := own_slice ho4.jobs
  have hx14 : Ext w13 w14 := HXQ.out.trans hx4
  clear y0 y1 y2 y3 y4 y5 HSQ HCP
  obtain ⟨w15, hw15⟩ : ∃ W, W = w14.alloc (.cells #[.slice A4 s.nodes.length c4, .slice B4 s.jobs.length k4, .int .i64 s.goal, .int .i64 s.prior, .int .i64 s.mode, .int .i64 s.term] 27) := ⟨_, rfl⟩
  have hx15 : Ext w14 w15 := by rw [hw15]; exact (Below.refl _ _).alloc (Nat.le_refl _) _
  obtain ⟨g4, hg4⟩ : ∃ g, g = w14.heap.size := ⟨_, rfl⟩
  have HG15 : Hid (Sg (fun k => w13.heap.size ≤ k ∧ k < w15.heap.size) w15 g4 (.slice A4 s.nodes.length c4) (.slice B4 s.jobs.length k4) s) := Lib.hid (by
    refine Sg.make (w0 := w13) (base := (w13.drewN nq).heap.size) (by rw [hw15, hg4]; exact Blk.new _ _ _) (by rw [hg4]; exact hx14.size) ⟨by rw [hw15]; exact ho4.nodes.alloc _, by rw [hw15]; exact ho4.jobs.alloc _, ho4.off⟩ (by simp) (fun k hk => ?_)
    rcases hk with hk | hk
    · have := (ho4.nodes.lt k hk).2; omega
    · have := (ho4.jobs.lt k hk).2; omega)
  have HX15 := Lib.hid (hx14.trans hx15)
  clear ho4 hx4 hx14 hx15 HXQ
  go_upto_region 15 with (fail)
  rw [← hw15, ← hg4]
  clear hw15 hg4
  obtain ⟨bj15, cap15, ev, hall⟩ := sg_want HG15.out HBK.out.hk
  cases ev
  obtain ⟨w16, hw16⟩ : ∃ W, W = w15.setCell ⟨bj15, k * 12 + 7, none⟩ (.int .i64 (j.inc + 1)) := ⟨_, rfl⟩
  obtain ⟨w17, hw17⟩ : ∃ W, W = w16.setCell ⟨bj15, k * 12 + 9, none⟩ (.int .i64 0) := ⟨_, rfl⟩
  obtain ⟨w18, hw18⟩ : ∃ W, W = w17.setCell ⟨bj15, k * 12 + 10, none⟩ (.int .i64 0) := ⟨_, rfl⟩
  obtain ⟨⟨c1, ci, fi⟩, h1, h2, hg18, hc18⟩ := hall w16 w17 w18 hw16 hw17 hw18
  have H1_ := Lib.hid h1
  have H2_ := Lib.hid h2
  rw [← HUU.out] at hg18
  have HW := Lib.hid hg18
  have HX18 := Lib.hid (hc18.ext HX15.out fun k hk => hk.1)
  have HW17 := Lib.hid hw17
  have HW18 := Lib.hid hw18
  have x1 : (0 : Int) ≤ (k : Int) ∧ (k : Int) < (s.jobs.length : Int) := by have := HKL.out; omega
  have hz : 0 ≤ j.inc := (HRP.out.job k j HBK.out.hk).i0
  have hz9 : j.inc ≤ 1000000 := (HRP.out.job k j HBK.out.hk).i9
  clear hall h1 h2 hg18 hc18 HG15 HX15 hw17 hw18
  go_upto_region 16 with (fail)
  rw [← hw16]
  clear hw16 c1 ci fi hz hz9
  obtain ⟨c1, ci, fi⟩ := H1_.out
  go_upto_region 17 with (fail)
  rw [← HW17.out]
  clear c1 ci fi
  obtain ⟨c1, ci, fi⟩ := H2_.out
  go_upto_region 18 with (fail)
  rw [← HW18.out]
  clear c1 ci fi x1 HW17 HW18 H1_ H2_
  have HU18 := Lib.hid (HUw13.out.ext HX18.out)
  have HV18 := Lib.hid (HVw13.out.ext HX18.out)
  have HXF := Lib.hid (Ext.trans HXw13.out HX18.out)
  have HS1 : Hid (∀ W, Ext w18 W → Calls Tryd.prog 15 #[.agg #[.slice Un U.nodes.length cn2, .slice (some ⟨b2, p2, none⟩) U.jobs.length cj2, .int .i64 U.goal, .int .i64 U.prior, .int .i64 U.mode, .int .i64 U.term], .agg #[.slice A4 s.nodes.length c4, .slice (some ⟨bj15, 0, none⟩) s.jobs.length k4, .int .i64 U.goal, .int .i64 U.prior, .int .i64 U.mode, .int .i64 U.term]] W fun e w' => e = .returned (.bool true) ∧ Ext W w') := Lib.hid fun W hx => by
    refine (Same09_any _ _ _ _ U U W (HU18.out.rd.ext hx) (HW.out.rd.ext hx)).mono ?_
    rintro e w' ⟨b, rfl, hb, hy⟩
    rw [hb.2 rfl]
    exact ⟨rfl, hy⟩
  have HS2 : Hid (gg = 0 → ∀ W, Ext w18 W → Calls Tryd.prog 15 #[.agg #[.slice V3n v3.nodes.length cn5, .slice V3j v3.jobs.length cj5, .int .i64 v3.goal, .int .i64 v3.prior, .int .i64 v3.mode, .int .i64 v3.term], .agg #[.slice A4 s.nodes.length c4, .slice (some ⟨bj15, 0, none⟩) s.jobs.length k4, .int .i64 U.goal, .int .i64 U.prior, .int .i64 U.mode, .int .i64 U.term]] W fun e w' => e = .returned (.bool true) ∧ Ext W w') := Lib.hid fun h0 W hx => by
    have hvu : v3 = U := by rw [HUU.out, ← H14.out h0, ← HAP.out]
    refine (Same09_any _ _ _ _ v3 U W (HV18.out.rd.ext hx) (HW.out.rd.ext hx)).mono ?_
    rintro e w' ⟨b, rfl, hb, hy⟩
    rw [hb.2 hvu]
    exact ⟨rfl, hy⟩
  have u0_ : w18.cell? ⟨g2, 0, none⟩ = some (.slice Un U.nodes.length cn2) := HU18.out.blk.cell 0
  have u1_ : w18.cell? ⟨g2, 1, none⟩ = some (.slice (some ⟨b2, p2, none⟩) U.jobs.length cj2) := HU18.out.blk.cell 1
  have u2_ : w18.cell? ⟨g2, 2, none⟩ = some (.int .i64 U.goal) := HU18.out.blk.cell 2
  have u3_ : w18.cell? ⟨g2, 3, none⟩ = some (.int .i64 U.prior) := HU18.out.blk.cell 3
  have u4_ : w18.cell? ⟨g2, 4, none⟩ = some (.int .i64 U.mode) := HU18.out.blk.cell 4
  have u5_ : w18.cell? ⟨g2, 5, none⟩ = some (.int .i64 U.term) := HU18.out.blk.cell 5
  have v0_ : w18.cell? ⟨g3, 0, none⟩ = some (.slice V3n v3.nodes.length cn5) := HV18.out.blk.cell 0
  have v1_ : w18.cell? ⟨g3, 1, none⟩ = some (.slice V3j v3.jobs.length cj5) := HV18.out.blk.cell 1
  have v2_ : w18.cell? ⟨g3, 2, none⟩ = some (.int .i64 v3.goal) := HV18.out.blk.cell 2
  have v3_ : w18.cell? ⟨g3, 3, none⟩ = some (.int .i64 v3.prior) := HV18.out.blk.cell 3
  have v4_ : w18.cell? ⟨g3, 4, none⟩ = some (.int .i64 v3.mode) := HV18.out.blk.cell 4
  have v5_ : w18.cell? ⟨g3, 5, none⟩ = some (.int .i64 v3.term) := HV18.out.blk.cell 5
  have x0_ : w18.cell? ⟨g4, 0, none⟩ = some (.slice A4 s.nodes.length c4) := HW.out.blk.cell 0
  have x1_ : w18.cell? ⟨g4, 1, none⟩ = some (.slice (some ⟨bj15, 0, none⟩) s.jobs.length k4) := HW.out.blk.cell 1
  have x2_ : w18.cell? ⟨g4, 2, none⟩ = some (.int .i64 U.goal) := HW.out.blk.cell 2
  have x3_ : w18.cell? ⟨g4, 3, none⟩ = some (.int .i64 U.prior) := HW.out.blk.cell 3
  have x4_ : w18.cell? ⟨g4, 4, none⟩ = some (.int .i64 U.mode) := HW.out.blk.cell 4
  have x5_ : w18.cell? ⟨g4, 5, none⟩ = some (.int .i64 U.term) := HW.out.blk.cell 5
  have HCX : Hid (∀ W, Ext w18 W → (W.cell? ⟨g3, 0, none⟩ = some (.slice V3n v3.nodes.length cn5) ∧ W.cell? ⟨g3, 1, none⟩ = some (.slice V3j v3.jobs.length cj5) ∧ W.cell? ⟨g3, 2, none⟩ = some (.int .i64 v3.goal) ∧ W.cell? ⟨g3, 3, none⟩ = some (.int .i64 v3.prior) ∧ W.cell? ⟨g3, 4, none⟩ = some (.int .i64 v3.mode) ∧ W.cell? ⟨g3, 5, none⟩ = some (.int .i64 v3.term)) ∧ W.cell? ⟨g4, 0, none⟩ = some (.slice A4 s.nodes.length c4) ∧ W.cell? ⟨g4, 1, none⟩ = some (.slice (some ⟨bj15, 0, none⟩) s.jobs.length k4) ∧ W.cell? ⟨g4, 2, none⟩ = some (.int .i64 U.goal) ∧ W.cell? ⟨g4, 3, none⟩ = some (.int .i64 U.prior) ∧ W.cell? ⟨g4, 4, none⟩ = some (.int .i64 U.mode) ∧ W.cell? ⟨g4, 5, none⟩ = some (.int .i64 U.term)) := Lib.hid fun W hx => ⟨⟨(HV18.out.blk.ext hx).cell 0, (HV18.out.blk.ext hx).cell 1, (HV18.out.blk.ext hx).cell 2, (HV18.out.blk.ext hx).cell 3, (HV18.out.blk.ext hx).cell 4, (HV18.out.blk.ext hx).cell 5⟩, ⟨(HW.out.blk.ext hx).cell 0, (HW.out.blk.ext hx).cell 1, (HW.out.blk.ext hx).cell 2, (HW.out.blk.ext hx).cell 3, (HW.out.blk.ext hx).cell 4, (HW.out.blk.ext hx).cell 5⟩⟩
  by_cases hg0 : gg = 0
  · have e2 : (gg != 0) = false := by rw [hg0]; rfl
    have HS3 := Lib.hid (HS2.out hg0)
    clear hg0 HS2
    go_wp2_with fail
    refine (HS1.out _ (Ext.refl _)).mono ?_
    rintro e19 w19 ⟨rfl, hx19⟩
    obtain ⟨⟨z0, z1, z2, z3, z4, z5⟩, q0, q1, q2, q3, q4, q5⟩ := HCX.out w19 hx19
    have HX19 := Lib.hid hx19
    clear hx19 u0_ u1_ u2_ u3_ u4_ u5_ v0_ v1_ v2_ v3_ v4_ v5_ x0_ x1_ x2_ x3_ x4_ x5_
    go_wp2_with fail
    refine (HS3.out _ HX19.out).mono ?_
    rintro e20 w20 ⟨rfl, hx20⟩
    have HXE := Lib.hid (HXF.out.trans (HX19.out.trans hx20))
    clear hx20 HX19 z0 z1 z2 z3 z4 z5 q0 q1 q2 q3 q4 q5
    go_wp2
    go_ret
    exact ⟨rfl, HXE.out⟩
  · have e2 : (gg != 0) = true := by rw [bne_iff_ne]; exact hg0
    clear hg0 HS2
    go_wp2_with fail
    refine (HS1.out _ (Ext.refl _)).mono ?_
    rintro e19 w19 ⟨rfl, hx19⟩
    have HXE := Lib.hid (HXF.out.trans hx19)
    clear hx19
    go_wp2
    go_ret
    exact ⟨rfl, HXE.out⟩

set_option maxRecDepth 100000 in
theorem BookBack_lifted (os : Os) (started : os.Started) (H : Type) (enc : TypeId × Value → H) :
    ReturnsInHanded {} Tryd.checked os 9 .any (fun w args => (Rows.bookBackSpec.pre enc Tryd.prog Tryd.f9 [] false w args ∧ laidMetH Tryd.prog Rows.bookBackRow.laid w) ∧ sizedMet enc Tryd.prog Tryd.f9 (OpenSpec.ofChange Rows.bookBackSpec) false w args) (Rows.bookBackSpec.post enc Tryd.prog Tryd.f9 false true false false) := by
  refine law_liftL (C := Tryd.checked) (tb := 4) Rows.bookBackRow.laid Tryd.ownKnob started (by kernel_rfl) Tryd.func9 Tryd.laidOut (by kernel_rfl) rfl Tryd.underlying4 rfl rfl ?_
    (ChangeSpec.witness_shaped (enc := enc) (C := Tryd.checked) (os := os) (X := fun w _ => laidMetH Tryd.prog Rows.bookBackRow.laid w) false (World.laidAll Tryd.prog os Rows.bookBackRow.laid) #[.agg #[.int .i64 0, .int .i64 0, .int .i64 0, .int .i64 0, .int .i64 0, .int .i64 0, .int .i64 0, .int .i64 0, .int .i64 0], .agg #[.slice none 0 0, .slice none 0 0, .int .i64 0, .int .i64 0, .int .i64 0, .int .i64 0], .int .i64 0, .int .i64 0, .int .i64 0] 8 (World.laidAll_os _ _ _)
      (World.shaped_of_ZipB (by kernel_rfl) (by kernel_rfl)) (by kernel_rfl) (by kernel_rfl) (by kernel_rfl)
      (by rw [MakeChecks.laidMetH_plain _ _ _ (by kernel_rfl)]; exact laidMet_laidAll _ (by kernel_rfl) (by kernel_rfl))) ?_
  · intro ds hd
    rw [Tryd.params9] at hd
    match ds, hd with
    | [d0, d1, d2, d3, d4], _ => rfl
  · intro W base args ds p hval hA hsz hL0 hsh
    have hL : laidMetH Tryd.prog Rows.bookBackRow.laid W := hL0
    rw [MakeChecks.laidMetH_plain _ _ _ (by kernel_rfl)] at hL
    have hLd : Laid W := laid_of _ hL (by repeat (first | exact List.Mem.head _ | apply List.Mem.tail))
    rw [Tryd.params9] at hA hval hsz
    obtain ⟨v0, vs0, d0, ds0, p0, q0, hargs, rfl, rfl, h0, r0_⟩ := trodAll_cons hA
    obtain ⟨v1, vs1, d1, ds1, p1, q1, rfl, rfl, rfl, h1, r1_⟩ := trodAll_cons r0_
    obtain ⟨v2, vs2, d2, ds2, p2, q2, rfl, rfl, rfl, h2, r2_⟩ := trodAll_cons r1_
    obtain ⟨v3, vs3, d3, ds3, p3, q3, rfl, rfl, rfl, h3, r3_⟩ := trodAll_cons r2_
    obtain ⟨v4, vs4, d4, ds4, p4, q4, rfl, rfl, rfl, h4, r4_⟩ := trodAll_cons r3_
    obtain ⟨rfl, rfl, rfl⟩ := trodAll_nil r4_
    obtain rfl : args = #[v0, v1, v2, v3, v4] := by cases args; simp_all
    obtain ⟨a0, rfl⟩ := dec_conf (hval 0 23 v0 rfl rfl) h0
    obtain ⟨vn1, vj1, a1, rfl, r1⟩ := dec_state (hval 1 27 v1 rfl rfl) h1
    obtain ⟨a2, rfl, lo2, hi2⟩ := dec_int Tryd.underlying3 (hval 2 3 v2 rfl rfl) h2
    obtain ⟨a3, rfl, lo3, hi3⟩ := dec_int Tryd.underlying3 (hval 3 3 v3 rfl rfl) h3
    obtain ⟨a4, rfl, lo4, hi4⟩ := dec_int Tryd.underlying3 (hval 4 3 v4 rfl rfl) h4
    exact BookBack_calls a0 vn1 vj1 a1 a2 a3 a4 W r1 hLd

theorem BookBack_row : Rows.BookBackSaid :=
  OpenClaim.holds_of_wide 9 Tryd.f9 rfl rfl rfl rfl rfl rfl rfl ⟨rfl, rfl, rfl, rfl, rfl⟩ rfl rfl rfl rfl rfl (by kernel_rfl) Tryd.func9 (by kernel_rfl)
    (of_decide_eq_true (by kernel_rfl)) (by unfold Func.isWrapper; first | (rw [if_pos (by decide +kernel)]; kernel_rfl) | (rw [if_neg (by decide +kernel)]; exact ⟨rfl, rfl⟩))
    (fun os started H enc _ => BookBack_lifted os started H enc)

/-- THE TIED CARD. -/
theorem BookBack_holds : Rows.BookBackCardSaid :=
  Claim7.holds_tied_plain_at .later [] Rows.bookBackCard.laidKinds true Rows.bookBackCard.stood.harness Rows.bookBackCard.stood.looks
    BookBack_row (fun _ h => by cases h) (by kernel_rfl) (fun _ h => by cases h) bookBack_row_tie rfl ⟨rfl, rfl⟩ (by kernel_rfl) rfl
    (fun f fn hf hfn => by
      obtain rfl : f = 9 := Option.some.inj ((show Tryd.prog.funcNamed "dunnage/dunnagelaw09.BookBack" = some 9 by kernel_rfl).symm.trans hf) |>.symm
      obtain rfl : fn = Tryd.f9 := (Option.some.inj (Tryd.func9.symm.trans hfn)).symm
      exact ⟨by kernel_rfl, fun j t ht => by
        rw [Tryd.params9] at ht
        have hm : t ∈ [23, 27, 3, 3, 3] := by simpa using Array.mem_of_getElem? ht
        have hall : ([23, 27, 3, 3, 3].all fun u => !Tryd.prog.wantsStandIn u) = true := by kernel_rfl
        exact (show Tryd.prog.wantsStandIn t = false by simpa using List.all_eq_true.1 hall t hm)⟩)
    (by kernel_rfl)

end Go.Proofs.YtmgbgpendpiahaaDoor
