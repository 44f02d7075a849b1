/- For every input ImageBack returns true: a state that may be is read again from its bytes, and what is read is what would be put; with the listed package-level variable as the program's text lays it. -/
import Derived.Test.YtnnilalnkkbdoaaDoorGQ14
import Derived.Test.YtnnilalnkkbdoaaDoorCards
import Derived.Test.YtnnilalnkkbdoaaDoorTie
import Derived.SevenTiedAt
import Derived.Deep.DeepCutAuto
import Derived.Deep.CutBlock
import Derived.Deep.LoopGhost
import Derived.BigQuiet
import Derived.Deep.RegionHeld3
namespace Go.Proofs.YtnnilalnkkbdoaaDoor
open Go.ChangeShapes Go.WideShapes Go.ChangeAt Go.RowKit

set_option maxRecDepth 100000 in
set_option maxHeartbeats 8000000 in
theorem ImageBack_calls (c : Cf) (vn vj : Value) (s : St) (v : Value) (bs : List UInt8) (w : World) (h : RdSt w vn vj s) (hv : Rd w v (bs.map B)) (hL : LaidI w) :
    Calls Tryd.prog 7 #[cfV c, stV vn vj s, v] w fun e w' => e = .returned (.bool true) ∧ Ext w w' := by
  obtain ⟨An, cn, rfl, -, -⟩ := h.nodes.slice_
  obtain ⟨Aj, cj, rfl, -, -⟩ := h.jobs.slice_
  obtain ⟨W1, hW1, hx1, hb0, hb1⟩ := two_blocks w 23 27 #[.int .i64 c.nodes, .int .i64 c.queues, .int .i64 c.quota, .int .i64 c.wave, .int .i64 c.lease, .int .i64 c.retry, .int .i64 c.deadline, .int .i64 c.room, .int .i64 c.disk] #[.slice An s.nodes.length cn, .slice Aj s.jobs.length cj, .int .i64 s.goal, .int .i64 s.prior, .int .i64 s.mode, .int .i64 s.term]
  have HB1 := Lib.hid hb0
  have HS1 := Lib.hid hb1
  have HX1 := Lib.hid hx1
  have HL := Lib.hid hL
  have HV0 := Lib.hid hv
  have HR1 := Lib.hid (h.ext hx1)
  have HAL := Lib.hid (alive10_any W1 (hL.ext hx1))
  have HRT := Lib.hid fun W (hx : Ext w W) => RightS_any c _ _ s W (h.ext hx).nodes (h.ext hx).jobs
  unfold cfV stV at HRT
  obtain ⟨A, cv, rfl, -, -, -⟩ := hv
  rw [List.length_map] at *
  unfold cfV stV
  clear hx1 hb0 hb1 h hL
  go_enter Tryd.func7, Tryd.ntmps7
  go_upto_region 1 with (fail)
  rw [← hW1]
  clear hW1
  go_wp2_with fail
  refine HAL.out.mono ?_
  rintro e1 w1 ⟨rfl, hx1⟩
  have HX2 := Lib.hid (HX1.out.trans hx1)
  have HB2 := Lib.hid (HB1.out.ext hx1)
  have HS2 := Lib.hid (HS1.out.ext hx1)
  have HR2 := Lib.hid (HR1.out.ext hx1)
  clear hx1 HX1 HB1 HS1 HR1 HAL
  have s0 : w1.cell? ⟨w.heap.size + 1, 0, none⟩ = some (.slice An s.nodes.length cn) := HS2.out.cell 0
  have s1 : w1.cell? ⟨w.heap.size + 1, 1, none⟩ = some (.slice Aj s.jobs.length cj) := HS2.out.cell 1
  have s2 : w1.cell? ⟨w.heap.size + 1, 2, none⟩ = some (.int .i64 s.goal) := HS2.out.cell 2
  have s3 : w1.cell? ⟨w.heap.size + 1, 3, none⟩ = some (.int .i64 s.prior) := HS2.out.cell 3
  have s4 : w1.cell? ⟨w.heap.size + 1, 4, none⟩ = some (.int .i64 s.mode) := HS2.out.cell 4
  have s5 : w1.cell? ⟨w.heap.size + 1, 5, none⟩ = some (.int .i64 s.term) := HS2.out.cell 5
  have k0 : w1.cell? ⟨w.heap.size, 0, none⟩ = some (.int .i64 c.nodes) := HB2.out.cell 0
  have k1 : w1.cell? ⟨w.heap.size, 1, none⟩ = some (.int .i64 c.queues) := HB2.out.cell 1
  have k2 : w1.cell? ⟨w.heap.size, 2, none⟩ = some (.int .i64 c.quota) := HB2.out.cell 2
  have k3 : w1.cell? ⟨w.heap.size, 3, none⟩ = some (.int .i64 c.wave) := HB2.out.cell 3
  have k4 : w1.cell? ⟨w.heap.size, 4, none⟩ = some (.int .i64 c.lease) := HB2.out.cell 4
  have k5 : w1.cell? ⟨w.heap.size, 5, none⟩ = some (.int .i64 c.retry) := HB2.out.cell 5
  have k6 : w1.cell? ⟨w.heap.size, 6, none⟩ = some (.int .i64 c.deadline) := HB2.out.cell 6
  have k7 : w1.cell? ⟨w.heap.size, 7, none⟩ = some (.int .i64 c.room) := HB2.out.cell 7
  have k8 : w1.cell? ⟨w.heap.size, 8, none⟩ = some (.int .i64 c.disk) := HB2.out.cell 8
  by_cases h1 : 50 < s.nodes.length
  · have d1 : decide ((50 : Int) < (s.nodes.length : Int)) = true := decide_eq_true (by omega)
    have d1' : decide (50 < s.nodes.length) = true := decide_eq_true h1
    clear h1
    go_wp2
    go_ret
    exact ⟨rfl, HX2.out⟩
  have d1 : decide ((50 : Int) < (s.nodes.length : Int)) = false := decide_eq_false (by omega)
  have d1' : decide (50 < s.nodes.length) = false := decide_eq_false h1
  clear h1
  by_cases h2 : 100 < s.jobs.length
  · have d2 : decide ((100 : Int) < (s.jobs.length : Int)) = true := decide_eq_true (by omega)
    have d2' : decide (100 < s.jobs.length) = true := decide_eq_true h2
    clear h2
    go_wp2
    go_ret
    exact ⟨rfl, HX2.out⟩
  have d2 : decide ((100 : Int) < (s.jobs.length : Int)) = false := decide_eq_false (by omega)
  have d2' : decide (100 < s.jobs.length) = false := decide_eq_false h2
  clear h2
  by_cases h3 : 2000 < bs.length
  · have d3 : decide ((2000 : Int) < (bs.length : Int)) = true := decide_eq_true (by omega)
    have d3' : decide (2000 < bs.length) = true := decide_eq_true h3
    clear h3
    go_wp2
    go_ret
    exact ⟨rfl, HX2.out⟩
  have d3 : decide ((2000 : Int) < (bs.length : Int)) = false := decide_eq_false (by omega)
  have d3' : decide (2000 < bs.length) = false := decide_eq_false h3
  have HLN : Hid (bs.length ≤ 2000) := Lib.hid (by omega)
  clear h3
  go_wp2_with fail
  refine (HRT.out w1 HX2.out).mono ?_
  rintro e3 w3 ⟨b, rfl, hb, hx3⟩
  have HRB := Lib.hid hb
  have HX3 := Lib.hid (HX2.out.trans hx3)
  have HS3 := Lib.hid (HS2.out.ext hx3)
  have HB3 := Lib.hid (HB2.out.ext hx3)
  have HR3 := Lib.hid (HR2.out.ext hx3)
  clear hb hx3 HX2 HS2 HB2 HR2 HRT d1 d1' d2 d2' d3 d3' s0 s1 s2 s3 s4 s5 k0 k1 k2 k3 k4 k5 k6 k7 k8
  cases b
  case false =>
    obtain ⟨wa, rfl⟩ : ∃ wa : World, wa = w3 := ⟨_, rfl⟩
    have HXA := HX3
    have HBA := HB3
    clear HX3 HB3 HS3 HR3 HRB
    have k0 : wa.cell? ⟨w.heap.size, 0, none⟩ = some (.int .i64 c.nodes) := HBA.out.cell 0
    have k1 : wa.cell? ⟨w.heap.size, 1, none⟩ = some (.int .i64 c.queues) := HBA.out.cell 1
    have k2 : wa.cell? ⟨w.heap.size, 2, none⟩ = some (.int .i64 c.quota) := HBA.out.cell 2
    have k3 : wa.cell? ⟨w.heap.size, 3, none⟩ = some (.int .i64 c.wave) := HBA.out.cell 3
    have k4 : wa.cell? ⟨w.heap.size, 4, none⟩ = some (.int .i64 c.lease) := HBA.out.cell 4
    have k5 : wa.cell? ⟨w.heap.size, 5, none⟩ = some (.int .i64 c.retry) := HBA.out.cell 5
    have k6 : wa.cell? ⟨w.heap.size, 6, none⟩ = some (.int .i64 c.deadline) := HBA.out.cell 6
    have k7 : wa.cell? ⟨w.heap.size, 7, none⟩ = some (.int .i64 c.room) := HBA.out.cell 7
    have k8 : wa.cell? ⟨w.heap.size, 8, none⟩ = some (.int .i64 c.disk) := HBA.out.cell 8
    go_wp2_with fail
    refine (ImgGet_any c bs _ wa (HV0.out.ext HXA.out) (by have := HLN.out; omega) (HL.out.ext HXA.out)).mono ?_
    rintro e5 w5 ⟨un, uj, t, ok, rfl, ht, hx5, hk5, ho1, ho2⟩
    obtain ⟨Bn, dn, rfl, -, -⟩ := ht.nodes.slice_
    obtain ⟨Bj, dj, rfl, -, -⟩ := ht.jobs.slice_
    unfold stV
    obtain ⟨w6, hw6⟩ : ∃ W, W = w5.alloc (.cells #[.slice Bn t.nodes.length dn, .slice Bj t.jobs.length dj, .int .i64 t.goal, .int .i64 t.prior, .int .i64 t.mode, .int .i64 t.term] 27) := ⟨_, rfl⟩
    have hx6 : Ext w5 w6 := by rw [hw6]; exact (Below.refl _ _).alloc (Nat.le_refl _) _
    have HT6 : Hid (Blk w6 w5.heap.size 27 #[.slice Bn t.nodes.length dn, .slice Bj t.jobs.length dj, .int .i64 t.goal, .int .i64 t.prior, .int .i64 t.mode, .int .i64 t.term]) := Lib.hid (by rw [hw6]; exact Blk.new _ _ _)
    have HRT6 := Lib.hid (ht.ext hx6)
    have HX6 := Lib.hid ((HXA.out.trans hx5).trans hx6)
    have HB6 := Lib.hid ((HBA.out.ext hx5).ext hx6)
    have HO1 := Lib.hid ho1
    clear ht hx5 hk5 ho1 ho2 hx6 HXA HBA k0 k1 k2 k3 k4 k5 k6 k7 k8
    go_upto_region 10 with (fail)
    rw [← hw6]
    clear hw6
    generalize w5.heap.size = g at *
    cases ok
    case false =>
      go_wp2
      go_ret
      exact ⟨rfl, HX6.out⟩
    case true =>
      have HIM : Hid (IsImg c bs t) := Lib.hid (HO1.out rfl)
      clear HO1
      have k0 : w6.cell? ⟨w.heap.size, 0, none⟩ = some (.int .i64 c.nodes) := HB6.out.cell 0
      have k1 : w6.cell? ⟨w.heap.size, 1, none⟩ = some (.int .i64 c.queues) := HB6.out.cell 1
      have k2 : w6.cell? ⟨w.heap.size, 2, none⟩ = some (.int .i64 c.quota) := HB6.out.cell 2
      have k3 : w6.cell? ⟨w.heap.size, 3, none⟩ = some (.int .i64 c.wave) := HB6.out.cell 3
      have k4 : w6.cell? ⟨w.heap.size, 4, none⟩ = some (.int .i64 c.lease) := HB6.out.cell 4
      have k5 : w6.cell? ⟨w.heap.size, 5, none⟩ = some (.int .i64 c.retry) := HB6.out.cell 5
      have k6 : w6.cell? ⟨w.heap.size, 6, none⟩ = some (.int .i64 c.deadline) := HB6.out.cell 6
      have k7 : w6.cell? ⟨w.heap.size, 7, none⟩ = some (.int .i64 c.room) := HB6.out.cell 7
      have k8 : w6.cell? ⟨w.heap.size, 8, none⟩ = some (.int .i64 c.disk) := HB6.out.cell 8
      have t0 : w6.cell? ⟨g, 0, none⟩ = some (.slice Bn t.nodes.length dn) := HT6.out.cell 0
      have t1 : w6.cell? ⟨g, 1, none⟩ = some (.slice Bj t.jobs.length dj) := HT6.out.cell 1
      have t2 : w6.cell? ⟨g, 2, none⟩ = some (.int .i64 t.goal) := HT6.out.cell 2
      have t3 : w6.cell? ⟨g, 3, none⟩ = some (.int .i64 t.prior) := HT6.out.cell 3
      have t4 : w6.cell? ⟨g, 4, none⟩ = some (.int .i64 t.mode) := HT6.out.cell 4
      have t5 : w6.cell? ⟨g, 5, none⟩ = some (.int .i64 t.term) := HT6.out.cell 5
      have HRQ := Lib.hid (RightS_any c _ _ t w6 HRT6.out.nodes HRT6.out.jobs)
      unfold cfV stV at HRQ
      go_wp2_with fail
      refine HRQ.out.mono ?_
      rintro e7 w7 ⟨b7, rfl, hb7, hx7⟩
      obtain rfl : b7 = true := hb7.2 HIM.out.right
      have HX7 := Lib.hid (HX6.out.trans hx7)
      have HT7 := Lib.hid (HT6.out.ext hx7)
      have HP7 := Lib.hid (ImgPut_any _ _ t w7 (HRT6.out.ext hx7))
      rw [HIM.out.bytes] at HP7
      unfold stV at HP7
      clear hb7 hx7 HX6 HB6 HT6 HRT6 HRQ k0 k1 k2 k3 k4 k5 k6 k7 k8 t0 t1 t2 t3 t4 t5
      have t0 : w7.cell? ⟨g, 0, none⟩ = some (.slice Bn t.nodes.length dn) := HT7.out.cell 0
      have t1 : w7.cell? ⟨g, 1, none⟩ = some (.slice Bj t.jobs.length dj) := HT7.out.cell 1
      have t2 : w7.cell? ⟨g, 2, none⟩ = some (.int .i64 t.goal) := HT7.out.cell 2
      have t3 : w7.cell? ⟨g, 3, none⟩ = some (.int .i64 t.prior) := HT7.out.cell 3
      have t4 : w7.cell? ⟨g, 4, none⟩ = some (.int .i64 t.mode) := HT7.out.cell 4
      have t5 : w7.cell? ⟨g, 5, none⟩ = some (.int .i64 t.term) := HT7.out.cell 5
      go_wp2_with fail
      refine HP7.out.mono ?_
      rintro e8 w8 ⟨v8, rfl, hr8, hx8⟩
      have HBY := Lib.hid (Bytes_any bs bs v8 _ w8 hr8 (HV0.out.ext (HX7.out.trans hx8)))
      have hdd : decide (bs = bs) = true := by simp
      rw [hdd] at HBY
      have HX8 := Lib.hid (HX7.out.trans hx8)
      clear hdd hr8 hx8 HX7 HT7 HP7 t0 t1 t2 t3 t4 t5
      go_wp2_with fail
      refine HBY.out.mono ?_
      rintro e9 w9 ⟨rfl, n, rfl⟩
      have HX9 : Hid (Ext w (w8.drewN n)) := Lib.hid (Below.drewN' HX8.out n)
      clear HX8 HBY
      go_wp2
      go_ret
      exact ⟨rfl, HX9.out⟩
  case true =>
    have HRP : Hid (RightP c s) := Lib.hid (HRB.out.1 (by trivial))
    clear HRB
    obtain ⟨bi, hbi⟩ : ∃ bi, bi = imgB s := ⟨_, rfl⟩
    have HIM : Hid (IsImg c bi s) := Lib.hid ⟨HRP.out, hbi.symm⟩
    have HBL : Hid (bi.length ≤ 900) := Lib.hid (by rw [hbi]; exact HRP.out.few.2)
    have HSC : Hid (∀ W, Ext w3 W → W.cell? ⟨w.heap.size, 0, none⟩ = some (.int .i64 c.nodes) ∧ W.cell? ⟨w.heap.size, 1, none⟩ = some (.int .i64 c.queues) ∧ W.cell? ⟨w.heap.size, 2, none⟩ = some (.int .i64 c.quota) ∧ W.cell? ⟨w.heap.size, 3, none⟩ = some (.int .i64 c.wave) ∧ W.cell? ⟨w.heap.size, 4, none⟩ = some (.int .i64 c.lease) ∧ W.cell? ⟨w.heap.size, 5, none⟩ = some (.int .i64 c.retry) ∧ W.cell? ⟨w.heap.size, 6, none⟩ = some (.int .i64 c.deadline) ∧ W.cell? ⟨w.heap.size, 7, none⟩ = some (.int .i64 c.room) ∧ W.cell? ⟨w.heap.size, 8, none⟩ = some (.int .i64 c.disk) ∧ W.cell? ⟨w.heap.size + 1, 0, none⟩ = some (.slice An s.nodes.length cn) ∧ W.cell? ⟨w.heap.size + 1, 1, none⟩ = some (.slice Aj s.jobs.length cj) ∧ W.cell? ⟨w.heap.size + 1, 2, none⟩ = some (.int .i64 s.goal) ∧ W.cell? ⟨w.heap.size + 1, 3, none⟩ = some (.int .i64 s.prior) ∧ W.cell? ⟨w.heap.size + 1, 4, none⟩ = some (.int .i64 s.mode) ∧ W.cell? ⟨w.heap.size + 1, 5, none⟩ = some (.int .i64 s.term)) := Lib.hid fun W hx => ⟨(HB3.out.ext hx).cell 0, (HB3.out.ext hx).cell 1, (HB3.out.ext hx).cell 2, (HB3.out.ext hx).cell 3, (HB3.out.ext hx).cell 4, (HB3.out.ext hx).cell 5, (HB3.out.ext hx).cell 6, (HB3.out.ext hx).cell 7, (HB3.out.ext hx).cell 8, (HS3.out.ext hx).cell 0, (HS3.out.ext hx).cell 1, (HS3.out.ext hx).cell 2, (HS3.out.ext hx).cell 3, (HS3.out.ext hx).cell 4, (HS3.out.ext hx).cell 5⟩
    have HPT : Hid (∀ {V : World} W, Ext w3 V → Ext V W → Calls Tryd.prog 28 #[.agg #[.slice An s.nodes.length cn, .slice Aj s.jobs.length cj, .int .i64 s.goal, .int .i64 s.prior, .int .i64 s.mode, .int .i64 s.term]] W fun e w' => ∃ v, e = .returned v ∧ Rd w' v (bi.map B) ∧ Ext V w') := Lib.hid fun W hv h => (ImgPut_any _ _ s W (HR3.out.ext (hv.trans h))).mono (by rintro e w' ⟨v, rfl, hr, hh⟩; rw [← hbi] at hr; exact ⟨v, rfl, hr, h.trans hh⟩)
    have HGT : Hid (∀ {V : World} W v, Rd W v (bi.map B) → Ext w3 V → Ext V W → Calls Tryd.prog 30 #[.agg #[.int .i64 c.nodes, .int .i64 c.queues, .int .i64 c.quota, .int .i64 c.wave, .int .i64 c.lease, .int .i64 c.retry, .int .i64 c.deadline, .int .i64 c.room, .int .i64 c.disk], v] W fun e w' => ∃ vn vj, e = .returned (.tuple #[.agg #[vn, vj, .int .i64 s.goal, .int .i64 s.prior, .int .i64 s.mode, .int .i64 s.term], .bool true]) ∧ RdSt w' vn vj s ∧ Ext V w' ∧ ∀ k, vn.ownBlock = some k ∨ vj.ownBlock = some k → V.heap.size ≤ k) := Lib.hid fun W v hr hv h => by
      refine (ImgGet_any c bi v W hr (by have := HBL.out; omega) (HL.out.ext ((HX3.out.trans hv).trans h))).mono ?_
      rintro e w' ⟨vn, vj, s', ok, rfl, hs, hy, hk, h1, h2⟩
      cases ok
      · exact absurd HIM.out ((h2 rfl).2 _)
      · obtain rfl := (h1 rfl).one HIM.out
        exact ⟨vn, vj, rfl, hs, h.trans hy, fun k hh => Nat.le_trans h.size (hk k hh)⟩
    clear hbi
    go_wp2_with fail
    go_cut [7, 8] (fun p e wx => e = .bool true ∧ Hid (ApCut w3 (s, 0) p (.int .i64 0) wx))
    case first =>
      refine held_begin (by kernel_rfl) ?_
      have hHeld0 : True := True.intro
      obtain ⟨u0, hu⟩ : ∃ u, u = w3.drew := ⟨_, rfl⟩
      have hx0 : Ext w3 u0 := by rw [hu]; exact ext_drew9 (Ext.refl _)
      rw [← hu]
      clear hu
      refine held_more (S' := fun (W : World) => W.cell? ⟨w.heap.size, 0, none⟩ = some (.int .i64 c.nodes) ∧ W.cell? ⟨w.heap.size, 1, none⟩ = some (.int .i64 c.queues) ∧ W.cell? ⟨w.heap.size, 2, none⟩ = some (.int .i64 c.quota) ∧ W.cell? ⟨w.heap.size, 3, none⟩ = some (.int .i64 c.wave) ∧ W.cell? ⟨w.heap.size, 4, none⟩ = some (.int .i64 c.lease) ∧ W.cell? ⟨w.heap.size, 5, none⟩ = some (.int .i64 c.retry) ∧ W.cell? ⟨w.heap.size, 6, none⟩ = some (.int .i64 c.deadline) ∧ W.cell? ⟨w.heap.size, 7, none⟩ = some (.int .i64 c.room) ∧ W.cell? ⟨w.heap.size, 8, none⟩ = some (.int .i64 c.disk) ∧ W.cell? ⟨w.heap.size + 1, 0, none⟩ = some (.slice An s.nodes.length cn) ∧ W.cell? ⟨w.heap.size + 1, 1, none⟩ = some (.slice Aj s.jobs.length cj) ∧ W.cell? ⟨w.heap.size + 1, 2, none⟩ = some (.int .i64 s.goal) ∧ W.cell? ⟨w.heap.size + 1, 3, none⟩ = some (.int .i64 s.prior) ∧ W.cell? ⟨w.heap.size + 1, 4, none⟩ = some (.int .i64 s.mode) ∧ W.cell? ⟨w.heap.size + 1, 5, none⟩ = some (.int .i64 s.term)) (fun _ _ => True.intro) ?_
      have hHeld1 : (fun (W : World) => W.cell? ⟨w.heap.size, 0, none⟩ = some (.int .i64 c.nodes) ∧ W.cell? ⟨w.heap.size, 1, none⟩ = some (.int .i64 c.queues) ∧ W.cell? ⟨w.heap.size, 2, none⟩ = some (.int .i64 c.quota) ∧ W.cell? ⟨w.heap.size, 3, none⟩ = some (.int .i64 c.wave) ∧ W.cell? ⟨w.heap.size, 4, none⟩ = some (.int .i64 c.lease) ∧ W.cell? ⟨w.heap.size, 5, none⟩ = some (.int .i64 c.retry) ∧ W.cell? ⟨w.heap.size, 6, none⟩ = some (.int .i64 c.deadline) ∧ W.cell? ⟨w.heap.size, 7, none⟩ = some (.int .i64 c.room) ∧ W.cell? ⟨w.heap.size, 8, none⟩ = some (.int .i64 c.disk) ∧ W.cell? ⟨w.heap.size + 1, 0, none⟩ = some (.slice An s.nodes.length cn) ∧ W.cell? ⟨w.heap.size + 1, 1, none⟩ = some (.slice Aj s.jobs.length cj) ∧ W.cell? ⟨w.heap.size + 1, 2, none⟩ = some (.int .i64 s.goal) ∧ W.cell? ⟨w.heap.size + 1, 3, none⟩ = some (.int .i64 s.prior) ∧ W.cell? ⟨w.heap.size + 1, 4, none⟩ = some (.int .i64 s.mode) ∧ W.cell? ⟨w.heap.size + 1, 5, none⟩ = some (.int .i64 s.term)) _ := HSC.out _ hx0
      clear hHeld0
      refine held_take (i := 0) (v := ?_) rfl (by kernel_rfl) (by kernel_rfl) (by kernel_rfl) (by rfl) (by first | assumption | exact True.intro) ?_ ?_
      rotate_left
      · (intro w hSw; (try dsimp only at hSw); go_simp; (try with_reducible rfl))
      try simp only [Act.put, List.setIfInBounds_toArray, List.set_cons_zero, List.set_cons_succ]
      refine held_take (i := 1) (v := ?_) rfl (by kernel_rfl) (by kernel_rfl) (by kernel_rfl) (by rfl) (by first | assumption | exact True.intro) ?_ ?_
      rotate_left
      · (intro w hSw; (try dsimp only at hSw); go_simp; (try with_reducible rfl))
      try simp only [Act.put, List.setIfInBounds_toArray, List.set_cons_zero, List.set_cons_succ]
      refine held_two (i := 2) (j := 7) (by kernel_rfl) rfl rfl (fun K hK => ?_) (fun K hK => ?_)
      · go_simp
        go_at_call 28
        (with_reducible refine (HPT.out _ hx0 (Ext.refl _)).mono ?_)
        rintro eu1_ u1_ ⟨vb, rfl, rb, y3_⟩
        have hx2_ : Ext w3 u1_ := Ext.trans hx0 y3_
        refine hK _ _ ?_ (fun hHeld2 => ?_)
        · exact HSC.out _ hx2_
        clear hK K hHeld1
        try simp only [Act.put, List.setIfInBounds_toArray, List.set_cons_zero, List.set_cons_succ]
        refine held_two (i := 3) (j := 7) (by kernel_rfl) rfl rfl (fun K hK => ?_) (fun K hK => ?_)
        · go_simp
          go_at_call 30
          (with_reducible refine (HGT.out _ _ rb hx2_ (Ext.refl _)).mono ?_)
          rintro eu4_ u4_ ⟨vn3, vj3, rfl, hr3, y6_, hk3⟩
          obtain ⟨A3, c3, rfl, -, -⟩ := hr3.nodes.slice_
          obtain ⟨B3, k3, rfl, -, -⟩ := hr3.jobs.slice_
          have hx5_ : Ext w3 u4_ := Ext.trans hx2_ y6_
          have hb3 : w3.heap.size ≤ u1_.heap.size := hx2_.size
          refine hK _ _ ?_ (fun hHeld3 => ?_)
          · exact HSC.out _ hx5_
          clear hK K hHeld2
          try simp only [Act.put, List.setIfInBounds_toArray, List.set_cons_zero, List.set_cons_succ]
          refine held_take (i := 4) (v := ?_) rfl (by kernel_rfl) (by kernel_rfl) (by kernel_rfl) (by rfl) (by first | assumption | exact True.intro) ?_ ?_
          rotate_left
          · (intro w hSw; (try dsimp only at hSw); go_simp; (try with_reducible rfl))
          try simp only [Act.put, List.setIfInBounds_toArray, List.set_cons_zero, List.set_cons_succ]
          refine held_take (i := 5) (v := ?_) rfl (by kernel_rfl) (by kernel_rfl) (by kernel_rfl) (by rfl) (by first | assumption | exact True.intro) ?_ ?_
          rotate_left
          · (intro w hSw; (try dsimp only at hSw); go_simp; (try with_reducible rfl))
          try simp only [Act.put, List.setIfInBounds_toArray, List.set_cons_zero, List.set_cons_succ]
          refine held_take (i := 6) (v := ?_) rfl (by kernel_rfl) (by kernel_rfl) (by kernel_rfl) (by rfl) (by first | assumption | exact True.intro) ?_ ?_
          rotate_left
          · (intro w hSw; (try dsimp only at hSw); go_simp; (try with_reducible rfl))
          try simp only [Act.put, List.setIfInBounds_toArray, List.set_cons_zero, List.set_cons_succ]
          refine held_op (i := 7) (by kernel_rfl) rfl (fun K hK => ?_)
          go_simp
          obtain ⟨u7_, hv⟩ : ∃ v, v = u4_.alloc (.cells #[.slice none 0 0, .slice none 0 0, .int .i64 0, .int .i64 0, .int .i64 0, .int .i64 0] 27) := ⟨_, rfl⟩
          have y9_ : Ext u4_ u7_ := by rw [hv]; exact (Below.refl _ _).alloc (Nat.le_refl _) _
          have pzu7_ : Blk u7_ u4_.heap.size 27 #[.slice none 0 0, .slice none 0 0, .int .i64 0, .int .i64 0, .int .i64 0, .int .i64 0] := by rw [hv]; exact Blk.new _ _ _
          have hx8_ : Ext w3 u7_ := Ext.trans hx5_ y9_
          have hgb : w3.heap.size ≤ u4_.heap.size := hx5_.size
          have o3 : offG u4_.heap.size (.slice A3 s.nodes.length c3) s.nodes.length ∧ offG u4_.heap.size (.slice B3 s.jobs.length k3) s.jobs.length := ⟨.of_lt hr3.nodes (Nat.le_refl _), .of_lt hr3.jobs (Nat.le_refl _)⟩
          have ru7_ := hr3.ext y9_
          refine hK _ _ ?_ (fun hHeld4 => ?_)
          · rw [← hv]; exact HSC.out _ hx8_
          clear hK K hHeld3
          try simp only [Act.put, List.setIfInBounds_toArray, List.set_cons_zero, List.set_cons_succ]
          rw [← hv]
          clear hv
          have z0 : u7_.cell? ⟨u4_.heap.size, 0, none⟩ = some (.slice none 0 0) := pzu7_.cell 0
          have z1 : u7_.cell? ⟨u4_.heap.size, 1, none⟩ = some (.slice none 0 0) := pzu7_.cell 1
          have z2 : u7_.cell? ⟨u4_.heap.size, 2, none⟩ = some (.int .i64 0) := pzu7_.cell 2
          have z3 : u7_.cell? ⟨u4_.heap.size, 3, none⟩ = some (.int .i64 0) := pzu7_.cell 3
          have z4 : u7_.cell? ⟨u4_.heap.size, 4, none⟩ = some (.int .i64 0) := pzu7_.cell 4
          have z5 : u7_.cell? ⟨u4_.heap.size, 5, none⟩ = some (.int .i64 0) := pzu7_.cell 5
          have f0 := pzu7_.frozen 0
          have f1 := pzu7_.frozen 1
          have f2 := pzu7_.frozen 2
          have f3 := pzu7_.frozen 3
          have f4 := pzu7_.frozen 4
          have f5 := pzu7_.frozen 5
          have hq := st_set (.slice A3 s.nodes.length c3) (.slice B3 s.jobs.length k3) s.goal s.prior s.mode s.term pzu7_
          refine held_op (i := 8) (by kernel_rfl) rfl (fun K hK => ?_)
          go_simp
          refine hK _ _ ?_ (fun hHeld5 => ?_)
          · exact HSC.out _ (hq.below _ _ hx8_ hgb)
          clear hK K hHeld4
          try simp only [Act.put, List.setIfInBounds_toArray, List.set_cons_zero, List.set_cons_succ]
          refine held_take (i := 9) (v := ?_) rfl (by kernel_rfl) (by kernel_rfl) (by kernel_rfl) (by rfl) (by first | assumption | exact True.intro) ?_ ?_
          rotate_left
          · (intro w hSw; (try dsimp only at hSw); go_simp; (try with_reducible rfl))
          try simp only [Act.put, List.setIfInBounds_toArray, List.set_cons_zero, List.set_cons_succ]
          refine wpAnyH_done (by kernel_rfl) ?_ _
          refine NoPanic.normal ?_
          clear hHeld5
          go_wp2_with fail
          go_meet
          exact ⟨rfl, Lib.hid ⟨⟨_, _, _, rfl, rfl, hgb, hq.below _ _ hx8_ hgb, ⟨hq.blk, ⟨ru7_.nodes.off o3.1 (by rw [hq.size]; exact Nat.le_refl _) hq.same, ru7_.jobs.off o3.2 (by rw [hq.size]; exact Nat.le_refl _) hq.same⟩, o3.1, o3.2⟩, fun k h => Nat.le_trans hb3 (hk3 k h)⟩⟩⟩
        · go_simp
          obtain ⟨u10_, hv⟩ : ∃ v, v = u1_.alloc (.cells #[.slice none 0 0, .slice none 0 0, .int .i64 0, .int .i64 0, .int .i64 0, .int .i64 0] 27) := ⟨_, rfl⟩
          have y12_ : Ext u1_ u10_ := by rw [hv]; exact (Below.refl _ _).alloc (Nat.le_refl _) _
          have pzu10_ : Blk u10_ u1_.heap.size 27 #[.slice none 0 0, .slice none 0 0, .int .i64 0, .int .i64 0, .int .i64 0, .int .i64 0] := by rw [hv]; exact Blk.new _ _ _
          have hx11_ : Ext w3 u10_ := Ext.trans hx2_ y12_
          have hgb : w3.heap.size ≤ u1_.heap.size := hx2_.size
          have rbu10_ := rb.ext y12_
          refine hK _ _ ?_ (fun hHeld3 => ?_)
          · rw [← hv]; exact HSC.out _ hx11_
          clear hK K hHeld2
          try simp only [Act.put, List.setIfInBounds_toArray, List.set_cons_zero, List.set_cons_succ]
          rw [← hv]
          clear hv
          refine held_op (i := 3) (by kernel_rfl) rfl (fun K hK => ?_)
          go_simp
          go_at_call 30
          (with_reducible refine (HGT.out _ _ rbu10_ hx11_ (Ext.refl _)).mono ?_)
          rintro eu13_ u13_ ⟨vn3, vj3, rfl, hr3, y15_, hk3⟩
          obtain ⟨A3, c3, rfl, -, -⟩ := hr3.nodes.slice_
          obtain ⟨B3, k3, rfl, -, -⟩ := hr3.jobs.slice_
          have hx14_ : Ext w3 u13_ := Ext.trans hx11_ y15_
          have hb3 : w3.heap.size ≤ u10_.heap.size := hx11_.size
          have hlg : u1_.heap.size < u10_.heap.size := pzu10_.lt
          have pzu13_ := pzu10_.ext y15_
          refine hK _ _ ?_ (fun hHeld4 => ?_)
          · exact HSC.out _ hx14_
          clear hK K hHeld3
          try simp only [Act.put, List.setIfInBounds_toArray, List.set_cons_zero, List.set_cons_succ]
          have o3 : offG u1_.heap.size (.slice A3 s.nodes.length c3) s.nodes.length ∧ offG u1_.heap.size (.slice B3 s.jobs.length k3) s.jobs.length := ⟨fun _ k h e => by have := hk3 k (.inl h); omega, fun _ k h e => by have := hk3 k (.inr h); omega⟩
          refine held_take (i := 4) (v := ?_) rfl (by kernel_rfl) (by kernel_rfl) (by kernel_rfl) (by rfl) (by first | assumption | exact True.intro) ?_ ?_
          rotate_left
          · (intro w hSw; (try dsimp only at hSw); go_simp; (try with_reducible rfl))
          try simp only [Act.put, List.setIfInBounds_toArray, List.set_cons_zero, List.set_cons_succ]
          refine held_take (i := 5) (v := ?_) rfl (by kernel_rfl) (by kernel_rfl) (by kernel_rfl) (by rfl) (by first | assumption | exact True.intro) ?_ ?_
          rotate_left
          · (intro w hSw; (try dsimp only at hSw); go_simp; (try with_reducible rfl))
          try simp only [Act.put, List.setIfInBounds_toArray, List.set_cons_zero, List.set_cons_succ]
          refine held_take (i := 6) (v := ?_) rfl (by kernel_rfl) (by kernel_rfl) (by kernel_rfl) (by rfl) (by first | assumption | exact True.intro) ?_ ?_
          rotate_left
          · (intro w hSw; (try dsimp only at hSw); go_simp; (try with_reducible rfl))
          try simp only [Act.put, List.setIfInBounds_toArray, List.set_cons_zero, List.set_cons_succ]
          have z0 : u13_.cell? ⟨u1_.heap.size, 0, none⟩ = some (.slice none 0 0) := pzu13_.cell 0
          have z1 : u13_.cell? ⟨u1_.heap.size, 1, none⟩ = some (.slice none 0 0) := pzu13_.cell 1
          have z2 : u13_.cell? ⟨u1_.heap.size, 2, none⟩ = some (.int .i64 0) := pzu13_.cell 2
          have z3 : u13_.cell? ⟨u1_.heap.size, 3, none⟩ = some (.int .i64 0) := pzu13_.cell 3
          have z4 : u13_.cell? ⟨u1_.heap.size, 4, none⟩ = some (.int .i64 0) := pzu13_.cell 4
          have z5 : u13_.cell? ⟨u1_.heap.size, 5, none⟩ = some (.int .i64 0) := pzu13_.cell 5
          have f0 := pzu13_.frozen 0
          have f1 := pzu13_.frozen 1
          have f2 := pzu13_.frozen 2
          have f3 := pzu13_.frozen 3
          have f4 := pzu13_.frozen 4
          have f5 := pzu13_.frozen 5
          have hq := st_set (.slice A3 s.nodes.length c3) (.slice B3 s.jobs.length k3) s.goal s.prior s.mode s.term pzu13_
          refine held_op (i := 8) (by kernel_rfl) rfl (fun K hK => ?_)
          go_simp
          refine hK _ _ ?_ (fun hHeld5 => ?_)
          · exact HSC.out _ (hq.below _ _ hx14_ hgb)
          clear hK K hHeld4
          try simp only [Act.put, List.setIfInBounds_toArray, List.set_cons_zero, List.set_cons_succ]
          refine held_take (i := 9) (v := ?_) rfl (by kernel_rfl) (by kernel_rfl) (by kernel_rfl) (by rfl) (by first | assumption | exact True.intro) ?_ ?_
          rotate_left
          · (intro w hSw; (try dsimp only at hSw); go_simp; (try with_reducible rfl))
          try simp only [Act.put, List.setIfInBounds_toArray, List.set_cons_zero, List.set_cons_succ]
          refine wpAnyH_done (by kernel_rfl) ?_ _
          refine NoPanic.normal ?_
          clear hHeld5
          go_wp2_with fail
          go_meet
          exact ⟨rfl, Lib.hid ⟨⟨_, _, _, rfl, rfl, hgb, hq.below _ _ hx14_ hgb, ⟨hq.blk, ⟨hr3.nodes.off o3.1 (by rw [hq.size]; exact Nat.le_refl _) hq.same, hr3.jobs.off o3.2 (by rw [hq.size]; exact Nat.le_refl _) hq.same⟩, o3.1, o3.2⟩, fun k h => Nat.le_trans hb3 (hk3 k h)⟩⟩⟩
      · go_simp
        obtain ⟨u16_, hv⟩ : ∃ v, v = u0.alloc (.cells #[.slice none 0 0, .slice none 0 0, .int .i64 0, .int .i64 0, .int .i64 0, .int .i64 0] 27) := ⟨_, rfl⟩
        have y18_ : Ext u0 u16_ := by rw [hv]; exact (Below.refl _ _).alloc (Nat.le_refl _) _
        have pzu16_ : Blk u16_ u0.heap.size 27 #[.slice none 0 0, .slice none 0 0, .int .i64 0, .int .i64 0, .int .i64 0, .int .i64 0] := by rw [hv]; exact Blk.new _ _ _
        have hx17_ : Ext w3 u16_ := Ext.trans hx0 y18_
        have hgb : w3.heap.size ≤ u0.heap.size := hx0.size
        refine hK _ _ ?_ (fun hHeld2 => ?_)
        · rw [← hv]; exact HSC.out _ hx17_
        clear hK K hHeld1
        try simp only [Act.put, List.setIfInBounds_toArray, List.set_cons_zero, List.set_cons_succ]
        rw [← hv]
        clear hv
        refine held_op (i := 2) (by kernel_rfl) rfl (fun K hK => ?_)
        go_simp
        go_at_call 28
        (with_reducible refine (HPT.out _ hx17_ (Ext.refl _)).mono ?_)
        rintro eu19_ u19_ ⟨vb, rfl, rb, y21_⟩
        have hx20_ : Ext w3 u19_ := Ext.trans hx17_ y21_
        have pzu19_ := pzu16_.ext y21_
        refine hK _ _ ?_ (fun hHeld3 => ?_)
        · exact HSC.out _ hx20_
        clear hK K hHeld2
        try simp only [Act.put, List.setIfInBounds_toArray, List.set_cons_zero, List.set_cons_succ]
        refine held_op (i := 3) (by kernel_rfl) rfl (fun K hK => ?_)
        go_simp
        go_at_call 30
        (with_reducible refine (HGT.out _ _ rb hx20_ (Ext.refl _)).mono ?_)
        rintro eu22_ u22_ ⟨vn3, vj3, rfl, hr3, y24_, hk3⟩
        obtain ⟨A3, c3, rfl, -, -⟩ := hr3.nodes.slice_
        obtain ⟨B3, k3, rfl, -, -⟩ := hr3.jobs.slice_
        have hx23_ : Ext w3 u22_ := Ext.trans hx20_ y24_
        have hb3 : w3.heap.size ≤ u19_.heap.size := hx20_.size
        have hlg : u0.heap.size < u19_.heap.size := pzu19_.lt
        have pzu22_ := pzu19_.ext y24_
        refine hK _ _ ?_ (fun hHeld4 => ?_)
        · exact HSC.out _ hx23_
        clear hK K hHeld3
        try simp only [Act.put, List.setIfInBounds_toArray, List.set_cons_zero, List.set_cons_succ]
        have o3 : offG u0.heap.size (.slice A3 s.nodes.length c3) s.nodes.length ∧ offG u0.heap.size (.slice B3 s.jobs.length k3) s.jobs.length := ⟨fun _ k h e => by have := hk3 k (.inl h); omega, fun _ k h e => by have := hk3 k (.inr h); omega⟩
        refine held_take (i := 4) (v := ?_) rfl (by kernel_rfl) (by kernel_rfl) (by kernel_rfl) (by rfl) (by first | assumption | exact True.intro) ?_ ?_
        rotate_left
        · (intro w hSw; (try dsimp only at hSw); go_simp; (try with_reducible rfl))
        try simp only [Act.put, List.setIfInBounds_toArray, List.set_cons_zero, List.set_cons_succ]
        refine held_take (i := 5) (v := ?_) rfl (by kernel_rfl) (by kernel_rfl) (by kernel_rfl) (by rfl) (by first | assumption | exact True.intro) ?_ ?_
        rotate_left
        · (intro w hSw; (try dsimp only at hSw); go_simp; (try with_reducible rfl))
        try simp only [Act.put, List.setIfInBounds_toArray, List.set_cons_zero, List.set_cons_succ]
        refine held_take (i := 6) (v := ?_) rfl (by kernel_rfl) (by kernel_rfl) (by kernel_rfl) (by rfl) (by first | assumption | exact True.intro) ?_ ?_
        rotate_left
        · (intro w hSw; (try dsimp only at hSw); go_simp; (try with_reducible rfl))
        try simp only [Act.put, List.setIfInBounds_toArray, List.set_cons_zero, List.set_cons_succ]
        have z0 : u22_.cell? ⟨u0.heap.size, 0, none⟩ = some (.slice none 0 0) := pzu22_.cell 0
        have z1 : u22_.cell? ⟨u0.heap.size, 1, none⟩ = some (.slice none 0 0) := pzu22_.cell 1
        have z2 : u22_.cell? ⟨u0.heap.size, 2, none⟩ = some (.int .i64 0) := pzu22_.cell 2
        have z3 : u22_.cell? ⟨u0.heap.size, 3, none⟩ = some (.int .i64 0) := pzu22_.cell 3
        have z4 : u22_.cell? ⟨u0.heap.size, 4, none⟩ = some (.int .i64 0) := pzu22_.cell 4
        have z5 : u22_.cell? ⟨u0.heap.size, 5, none⟩ = some (.int .i64 0) := pzu22_.cell 5
        have f0 := pzu22_.frozen 0
        have f1 := pzu22_.frozen 1
        have f2 := pzu22_.frozen 2
        have f3 := pzu22_.frozen 3
        have f4 := pzu22_.frozen 4
        have f5 := pzu22_.frozen 5
        have hq := st_set (.slice A3 s.nodes.length c3) (.slice B3 s.jobs.length k3) s.goal s.prior s.mode s.term pzu22_
        refine held_op (i := 8) (by kernel_rfl) rfl (fun K hK => ?_)
        go_simp
        refine hK _ _ ?_ (fun hHeld5 => ?_)
        · exact HSC.out _ (hq.below _ _ hx23_ hgb)
        clear hK K hHeld4
        try simp only [Act.put, List.setIfInBounds_toArray, List.set_cons_zero, List.set_cons_succ]
        refine held_take (i := 9) (v := ?_) rfl (by kernel_rfl) (by kernel_rfl) (by kernel_rfl) (by rfl) (by first | assumption | exact True.intro) ?_ ?_
        rotate_left
        · (intro w hSw; (try dsimp only at hSw); go_simp; (try with_reducible rfl))
        try simp only [Act.put, List.setIfInBounds_toArray, List.set_cons_zero, List.set_cons_succ]
        refine wpAnyH_done (by kernel_rfl) ?_ _
        refine NoPanic.normal ?_
        clear hHeld5
        go_wp2_with fail
        go_meet
        exact ⟨rfl, Lib.hid ⟨⟨_, _, _, rfl, rfl, hgb, hq.below _ _ hx23_ hgb, ⟨hq.blk, ⟨hr3.nodes.off o3.1 (by rw [hq.size]; exact Nat.le_refl _) hq.same, hr3.jobs.off o3.2 (by rw [hq.size]; exact Nat.le_refl _) hq.same⟩, o3.1, o3.2⟩, fun k h => Nat.le_trans hb3 (hk3 k h)⟩⟩⟩
    case rest =>
    obtain ⟨rfl, HCU⟩ := hcut
    obtain ⟨g7, un, uj, rfl, -, hg7, hx7, hs7, -⟩ := HCU.out.out
    dsimp only at hs7
    obtain ⟨w4, rfl⟩ : ∃ w4 : World, w4 = wc := ⟨_, rfl⟩
    obtain ⟨Dn, fn, rfl, -, -⟩ := hs7.rd.nodes.slice_
    obtain ⟨Dj, fj, rfl, -, -⟩ := hs7.rd.jobs.slice_
    have HS7 := Lib.hid hs7
    have HX4 := Lib.hid (HX3.out.trans hx7)
    have HB4 := Lib.hid (HB3.out.ext hx7)
    have HS4 := Lib.hid (HS3.out.ext hx7)
    have HR4 := Lib.hid (HR3.out.ext hx7)
    clear hg7 hx7 hs7 HCU HX3 HB3 HS3 HR3 HSC HPT HGT HIM HBL HRP
    have s0 : w4.cell? ⟨w.heap.size + 1, 0, none⟩ = some (.slice An s.nodes.length cn) := HS4.out.cell 0
    have s1 : w4.cell? ⟨w.heap.size + 1, 1, none⟩ = some (.slice Aj s.jobs.length cj) := HS4.out.cell 1
    have s2 : w4.cell? ⟨w.heap.size + 1, 2, none⟩ = some (.int .i64 s.goal) := HS4.out.cell 2
    have s3 : w4.cell? ⟨w.heap.size + 1, 3, none⟩ = some (.int .i64 s.prior) := HS4.out.cell 3
    have s4 : w4.cell? ⟨w.heap.size + 1, 4, none⟩ = some (.int .i64 s.mode) := HS4.out.cell 4
    have s5 : w4.cell? ⟨w.heap.size + 1, 5, none⟩ = some (.int .i64 s.term) := HS4.out.cell 5
    have t0 : w4.cell? ⟨g7, 0, none⟩ = some (.slice Dn s.nodes.length fn) := HS7.out.blk.cell 0
    have t1 : w4.cell? ⟨g7, 1, none⟩ = some (.slice Dj s.jobs.length fj) := HS7.out.blk.cell 1
    have t2 : w4.cell? ⟨g7, 2, none⟩ = some (.int .i64 s.goal) := HS7.out.blk.cell 2
    have t3 : w4.cell? ⟨g7, 3, none⟩ = some (.int .i64 s.prior) := HS7.out.blk.cell 3
    have t4 : w4.cell? ⟨g7, 4, none⟩ = some (.int .i64 s.mode) := HS7.out.blk.cell 4
    have t5 : w4.cell? ⟨g7, 5, none⟩ = some (.int .i64 s.term) := HS7.out.blk.cell 5
    have HSM := Lib.hid (Same09_any _ _ _ _ s s w4 HR4.out HS7.out.rd)
    unfold stV at HSM
    go_wp2_with fail
    refine HSM.out.mono ?_
    rintro e8 w8 ⟨b8, rfl, hb8, hx8⟩
    obtain rfl : b8 = true := hb8.2 (by trivial)
    have HXA := Lib.hid (HX4.out.trans hx8)
    have HBA := Lib.hid (HB4.out.ext hx8)
    obtain ⟨wa, rfl⟩ : ∃ wa : World, wa = w8 := ⟨_, rfl⟩
    clear hb8 hx8 HX4 HB4 HS4 HR4 HS7 HSM s0 s1 s2 s3 s4 s5 t0 t1 t2 t3 t4 t5
    have k0 : wa.cell? ⟨w.heap.size, 0, none⟩ = some (.int .i64 c.nodes) := HBA.out.cell 0
    have k1 : wa.cell? ⟨w.heap.size, 1, none⟩ = some (.int .i64 c.queues) := HBA.out.cell 1
    have k2 : wa.cell? ⟨w.heap.size, 2, none⟩ = some (.int .i64 c.quota) := HBA.out.cell 2
    have k3 : wa.cell? ⟨w.heap.size, 3, none⟩ = some (.int .i64 c.wave) := HBA.out.cell 3
    have k4 : wa.cell? ⟨w.heap.size, 4, none⟩ = some (.int .i64 c.lease) := HBA.out.cell 4
    have k5 : wa.cell? ⟨w.heap.size, 5, none⟩ = some (.int .i64 c.retry) := HBA.out.cell 5
    have k6 : wa.cell? ⟨w.heap.size, 6, none⟩ = some (.int .i64 c.deadline) := HBA.out.cell 6
    have k7 : wa.cell? ⟨w.heap.size, 7, none⟩ = some (.int .i64 c.room) := HBA.out.cell 7
    have k8 : wa.cell? ⟨w.heap.size, 8, none⟩ = some (.int .i64 c.disk) := HBA.out.cell 8
    go_wp2_with fail
    refine (ImgGet_any c bs _ wa (HV0.out.ext HXA.out) (by have := HLN.out; omega) (HL.out.ext HXA.out)).mono ?_
    rintro e5 w5 ⟨un, uj, t, ok, rfl, ht, hx5, hk5, ho1, ho2⟩
    obtain ⟨Bn, dn, rfl, -, -⟩ := ht.nodes.slice_
    obtain ⟨Bj, dj, rfl, -, -⟩ := ht.jobs.slice_
    unfold stV
    obtain ⟨w6, hw6⟩ : ∃ W, W = w5.alloc (.cells #[.slice Bn t.nodes.length dn, .slice Bj t.jobs.length dj, .int .i64 t.goal, .int .i64 t.prior, .int .i64 t.mode, .int .i64 t.term] 27) := ⟨_, rfl⟩
    have hx6 : Ext w5 w6 := by rw [hw6]; exact (Below.refl _ _).alloc (Nat.le_refl _) _
    have HT6 : Hid (Blk w6 w5.heap.size 27 #[.slice Bn t.nodes.length dn, .slice Bj t.jobs.length dj, .int .i64 t.goal, .int .i64 t.prior, .int .i64 t.mode, .int .i64 t.term]) := Lib.hid (by rw [hw6]; exact Blk.new _ _ _)
    have HRT6 := Lib.hid (ht.ext hx6)
    have HX6 := Lib.hid ((HXA.out.trans hx5).trans hx6)
    have HB6 := Lib.hid ((HBA.out.ext hx5).ext hx6)
    have HO1 := Lib.hid ho1
    clear ht hx5 hk5 ho1 ho2 hx6 HXA HBA k0 k1 k2 k3 k4 k5 k6 k7 k8
    go_upto_region 10 with (fail)
    rw [← hw6]
    clear hw6
    generalize w5.heap.size = g at *
    cases ok
    case false =>
      go_wp2
      go_ret
      exact ⟨rfl, HX6.out⟩
    case true =>
      have HIM : Hid (IsImg c bs t) := Lib.hid (HO1.out rfl)
      clear HO1
      have k0 : w6.cell? ⟨w.heap.size, 0, none⟩ = some (.int .i64 c.nodes) := HB6.out.cell 0
      have k1 : w6.cell? ⟨w.heap.size, 1, none⟩ = some (.int .i64 c.queues) := HB6.out.cell 1
      have k2 : w6.cell? ⟨w.heap.size, 2, none⟩ = some (.int .i64 c.quota) := HB6.out.cell 2
      have k3 : w6.cell? ⟨w.heap.size, 3, none⟩ = some (.int .i64 c.wave) := HB6.out.cell 3
      have k4 : w6.cell? ⟨w.heap.size, 4, none⟩ = some (.int .i64 c.lease) := HB6.out.cell 4
      have k5 : w6.cell? ⟨w.heap.size, 5, none⟩ = some (.int .i64 c.retry) := HB6.out.cell 5
      have k6 : w6.cell? ⟨w.heap.size, 6, none⟩ = some (.int .i64 c.deadline) := HB6.out.cell 6
      have k7 : w6.cell? ⟨w.heap.size, 7, none⟩ = some (.int .i64 c.room) := HB6.out.cell 7
      have k8 : w6.cell? ⟨w.heap.size, 8, none⟩ = some (.int .i64 c.disk) := HB6.out.cell 8
      have t0 : w6.cell? ⟨g, 0, none⟩ = some (.slice Bn t.nodes.length dn) := HT6.out.cell 0
      have t1 : w6.cell? ⟨g, 1, none⟩ = some (.slice Bj t.jobs.length dj) := HT6.out.cell 1
      have t2 : w6.cell? ⟨g, 2, none⟩ = some (.int .i64 t.goal) := HT6.out.cell 2
      have t3 : w6.cell? ⟨g, 3, none⟩ = some (.int .i64 t.prior) := HT6.out.cell 3
      have t4 : w6.cell? ⟨g, 4, none⟩ = some (.int .i64 t.mode) := HT6.out.cell 4
      have t5 : w6.cell? ⟨g, 5, none⟩ = some (.int .i64 t.term) := HT6.out.cell 5
      have HRQ := Lib.hid (RightS_any c _ _ t w6 HRT6.out.nodes HRT6.out.jobs)
      unfold cfV stV at HRQ
      go_wp2_with fail
      refine HRQ.out.mono ?_
      rintro e7 w7 ⟨b7, rfl, hb7, hx7⟩
      obtain rfl : b7 = true := hb7.2 HIM.out.right
      have HX7 := Lib.hid (HX6.out.trans hx7)
      have HT7 := Lib.hid (HT6.out.ext hx7)
      have HP7 := Lib.hid (ImgPut_any _ _ t w7 (HRT6.out.ext hx7))
      rw [HIM.out.bytes] at HP7
      unfold stV at HP7
      clear hb7 hx7 HX6 HB6 HT6 HRT6 HRQ k0 k1 k2 k3 k4 k5 k6 k7 k8 t0 t1 t2 t3 t4 t5
      have t0 : w7.cell? ⟨g, 0, none⟩ = some (.slice Bn t.nodes.length dn) := HT7.out.cell 0
      have t1 : w7.cell? ⟨g, 1, none⟩ = some (.slice Bj t.jobs.length dj) := HT7.out.cell 1
      have t2 : w7.cell? ⟨g, 2, none⟩ = some (.int .i64 t.goal) := HT7.out.cell 2
      have t3 : w7.cell? ⟨g, 3, none⟩ = some (.int .i64 t.prior) := HT7.out.cell 3
      have t4 : w7.cell? ⟨g, 4, none⟩ = some (.int .i64 t.mode) := HT7.out.cell 4
      have t5 : w7.cell? ⟨g, 5, none⟩ = some (.int .i64 t.term) := HT7.out.cell 5
      go_wp2_with fail
      refine HP7.out.mono ?_
      rintro e8 w8 ⟨v8, rfl, hr8, hx8⟩
      have HBY := Lib.hid (Bytes_any bs bs v8 _ w8 hr8 (HV0.out.ext (HX7.out.trans hx8)))
      have hdd : decide (bs = bs) = true := by simp
      rw [hdd] at HBY
      have HX8 := Lib.hid (HX7.out.trans hx8)
      clear hdd hr8 hx8 HX7 HT7 HP7 t0 t1 t2 t3 t4 t5
      go_wp2_with fail
      refine HBY.out.mono ?_
      rintro e9 w9 ⟨rfl, n, rfl⟩
      have HX9 : Hid (Ext w (w8.drewN n)) := Lib.hid (Below.drewN' HX8.out n)
      clear HX8 HBY
      go_wp2
      go_ret
      exact ⟨rfl, HX9.out⟩

set_option maxRecDepth 100000 in
theorem ImageBack_lifted (os : Os) (started : os.Started) (H : Type) (enc : TypeId × Value → H) :
    ReturnsInHanded {} Tryd.checked os 7 .any (fun w args => (Rows.imageBackSpec.pre enc Tryd.prog Tryd.f7 [] false w args ∧ laidMetH Tryd.prog Rows.imageBackRow.laid w) ∧ sizedMet enc Tryd.prog Tryd.f7 (OpenSpec.ofChange Rows.imageBackSpec) false w args) (Rows.imageBackSpec.post enc Tryd.prog Tryd.f7 false true false false) := by
  refine law_liftL (C := Tryd.checked) (tb := 4) Rows.imageBackRow.laid Tryd.ownKnob started (by kernel_rfl) Tryd.func7 Tryd.laidOut (by kernel_rfl) rfl Tryd.underlying4 rfl rfl ?_
    (ChangeSpec.witness_shaped (enc := enc) (C := Tryd.checked) (os := os) (X := fun w _ => laidMetH Tryd.prog Rows.imageBackRow.laid w) false (World.laidAll Tryd.prog os Rows.imageBackRow.laid) #[.agg #[.int .i64 0, .int .i64 0, .int .i64 0, .int .i64 0, .int .i64 0, .int .i64 0, .int .i64 0, .int .i64 0, .int .i64 0], .agg #[.slice none 0 0, .slice none 0 0, .int .i64 0, .int .i64 0, .int .i64 0, .int .i64 0], .slice none 0 0] 8 (World.laidAll_os _ _ _)
      (World.shaped_of_ZipB (by kernel_rfl) (by kernel_rfl)) (by kernel_rfl) (by kernel_rfl) (by kernel_rfl)
      (by rw [MakeChecks.laidMetH_plain _ _ _ (by kernel_rfl)]; exact laidMet_laidAll _ (by kernel_rfl) (by kernel_rfl))) ?_
  · intro ds hd
    rw [Tryd.params7] at hd
    match ds, hd with
    | [d0, d1, d2], _ => rfl
  · intro W base args ds p hval hA hsz hL0 hsh
    have hL : laidMetH Tryd.prog Rows.imageBackRow.laid W := hL0
    rw [MakeChecks.laidMetH_plain _ _ _ (by kernel_rfl)] at hL
    have hLd : LaidI W := laidI_of _ hL (by repeat (first | exact List.Mem.head _ | apply List.Mem.tail))
    rw [Tryd.params7] at hA hval hsz
    obtain ⟨v0, vs0, d0, ds0, p0, q0, hargs, rfl, rfl, h0, r0_⟩ := trodAll_cons hA
    obtain ⟨v1, vs1, d1, ds1, p1, q1, rfl, rfl, rfl, h1, r1_⟩ := trodAll_cons r0_
    obtain ⟨v2, vs2, d2, ds2, p2, q2, rfl, rfl, rfl, h2, r2_⟩ := trodAll_cons r1_
    obtain ⟨rfl, rfl, rfl⟩ := trodAll_nil r2_
    obtain rfl : args = #[v0, v1, v2] := by cases args; simp_all
    obtain ⟨a0, rfl⟩ := dec_conf (hval 0 23 v0 rfl rfl) h0
    obtain ⟨vn1, vj1, a1, rfl, r1⟩ := dec_state (hval 1 27 v1 rfl rfl) h1
    obtain ⟨a2, r2, s2⟩ := dec_bytes Tryd.underlying51 Tryd.underlying5 (by kernel_rfl) (by kernel_rfl) (hval 2 51 v2 rfl rfl) h2 hsz (j := 2) rfl rfl
    exact ImageBack_calls a0 vn1 vj1 a1 _ a2 W r1 r2 hLd

theorem ImageBack_row : Rows.ImageBackSaid :=
  OpenClaim.holds_of_wide 7 Tryd.f7 rfl rfl rfl rfl rfl rfl rfl ⟨rfl, rfl, rfl, rfl, rfl⟩ rfl rfl rfl rfl rfl (by kernel_rfl) Tryd.func7 (by kernel_rfl)
    (of_decide_eq_true (by kernel_rfl)) (by unfold Func.isWrapper; first | (rw [if_pos (by decide +kernel)]; kernel_rfl) | (rw [if_neg (by decide +kernel)]; exact ⟨rfl, rfl⟩))
    (fun os started H enc _ => ImageBack_lifted os started H enc)

/-- THE TIED CARD. -/
theorem ImageBack_holds : Rows.ImageBackCardSaid :=
  Claim7.holds_tied_plain_at .later [] Rows.imageBackCard.laidKinds true Rows.imageBackCard.stood.harness Rows.imageBackCard.stood.looks
    ImageBack_row (fun _ h => by cases h) (by kernel_rfl) (fun _ h => by cases h) imageBack_row_tie rfl ⟨rfl, rfl⟩ (by kernel_rfl) rfl
    (fun f fn hf hfn => by
      obtain rfl : f = 7 := Option.some.inj ((show Tryd.prog.funcNamed "dunnage/dunnagelaw10.ImageBack" = some 7 by kernel_rfl).symm.trans hf) |>.symm
      obtain rfl : fn = Tryd.f7 := (Option.some.inj (Tryd.func7.symm.trans hfn)).symm
      exact ⟨by kernel_rfl, fun j t ht => by
        rw [Tryd.params7] at ht
        have hm : t ∈ [23, 27, 51] := by simpa using Array.mem_of_getElem? ht
        have hall : ([23, 27, 51].all fun u => !Tryd.prog.wantsStandIn u) = true := by kernel_rfl
        exact (show Tryd.prog.wantsStandIn t = false by simpa using List.all_eq_true.1 hall t hm)⟩)
    (by kernel_rfl)

end Go.Proofs.YtnnilalnkkbdoaaDoor
