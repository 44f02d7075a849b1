/- For every input BookFrees returns true: jobs and nodes tell of one another alike, behind each op; with the listed package-level variable as the program's text lays it. -/
import Derived.Test.YtmgbgpendpiahaaDoorBQ10
import Derived.Test.YtmgbgpendpiahaaDoorCards
import Derived.Test.YtmgbgpendpiahaaDoorTie
import Derived.SevenTiedAt
import Derived.Deep.DeepCutAuto
import Derived.Deep.CutBlock
import Derived.Deep.LoopGhost
import Derived.BigQuiet
import Derived.Deep.RegionHeld3
namespace Go.Proofs.YtmgbgpendpiahaaDoor
open Go.ChangeShapes Go.WideShapes Go.ChangeAt Go.RowKit

set_option maxRecDepth 100000 in
set_option maxHeartbeats 8000000 in
theorem BookFrees_calls (c : Cf) (vn vj : Value) (s : St) (z a1 a2 a3 a4 a5 a6 : Int) (w : World) (h : RdSt w vn vj s) (hL : Laid w) :
    Calls Tryd.prog 8 #[cfV c, stV vn vj s, opV (z, a1, a2, a3, a4, a5, a6)] w fun e w' => e = .returned (.bool true) ∧ Ext w w' := by
  obtain ⟨W2, hW2, hx2, hb0, hb1, hbo⟩ := three_blocks w 23 27 35 #[.int .i64 c.nodes, .int .i64 c.queues, .int .i64 c.quota, .int .i64 c.wave, .int .i64 c.lease, .int .i64 c.retry, .int .i64 c.deadline, .int .i64 c.room, .int .i64 c.disk] #[vn, vj, .int .i64 s.goal, .int .i64 s.prior, .int .i64 s.mode, .int .i64 s.term] #[.int .i64 z, .int .i64 a1, .int .i64 a2, .int .i64 a3, .int .i64 a4, .int .i64 a5, .int .i64 a6]
  have HL := Lib.hid hL
  have HSA := Lib.hid (SAt.first h hx2 hb1 (Nat.le_succ _))
  have HBC := Lib.hid hb0
  have HBO := Lib.hid hbo
  have HX2 := Lib.hid hx2
  have HAL := Lib.hid (alive9_any W2 (hL.ext hx2))
  have HGR := Lib.hid fun W (hx : Ext w W) => great_any vn vj s W (h.ext hx)
  have HRT := Lib.hid fun W (hx : Ext w W) => RightS_any c vn vj s W (h.ext hx).nodes (h.ext hx).jobs
  unfold stV at HGR
  unfold cfV stV at HRT
  rw [show opV (z, a1, a2, a3, a4, a5, a6) = .agg #[.int .i64 z, .int .i64 a1, .int .i64 a2, .int .i64 a3, .int .i64 a4, .int .i64 a5, .int .i64 a6] from rfl]
  unfold cfV stV
  clear hL h hx2 hb0 hb1 hbo
  go_enter Tryd.func8, Tryd.ntmps8
  go_wp2_with fail
  rw [← hW2]
  clear hW2
  refine HAL.out.mono ?_
  rintro e1 w1 ⟨rfl, hx1⟩
  have HX1 := Lib.hid (HX2.out.trans hx1)
  have HS1 := Lib.hid (HSA.out.ext hx1)
  have HB1 := Lib.hid (HBC.out.ext hx1)
  have HO1 := Lib.hid (HBO.out.ext hx1)
  clear hx1 HX2 HSA HBC HBO HAL
  have s0 : w1.cell? ⟨w.heap.size + 1, 0, none⟩ = some (vn) := HS1.out.blk.cell 0
  have s1 : w1.cell? ⟨w.heap.size + 1, 1, none⟩ = some (vj) := HS1.out.blk.cell 1
  have s2 : w1.cell? ⟨w.heap.size + 1, 2, none⟩ = some (.int .i64 s.goal) := HS1.out.blk.cell 2
  have s3 : w1.cell? ⟨w.heap.size + 1, 3, none⟩ = some (.int .i64 s.prior) := HS1.out.blk.cell 3
  have s4 : w1.cell? ⟨w.heap.size + 1, 4, none⟩ = some (.int .i64 s.mode) := HS1.out.blk.cell 4
  have s5 : w1.cell? ⟨w.heap.size + 1, 5, none⟩ = some (.int .i64 s.term) := HS1.out.blk.cell 5
  have HG1 := Lib.hid (HGR.out w1 HX1.out)
  generalize greatS s = gs at *
  go_wp2_with fail
  refine HG1.out.mono ?_
  rintro e2 w2 ⟨rfl, hx2⟩
  have HX2 := Lib.hid (HX1.out.trans hx2)
  have HS2 := Lib.hid (HS1.out.ext hx2)
  have HB2 := Lib.hid (HB1.out.ext hx2)
  have HO2 := Lib.hid (HO1.out.ext hx2)
  clear hx2 HX1 HS1 HB1 HO1 HGR HG1 s0 s1 s2 s3 s4 s5
  cases gs
  case true =>
    go_wp2
    go_ret
    exact ⟨rfl, HX2.out⟩
  have s0 : w2.cell? ⟨w.heap.size + 1, 0, none⟩ = some (vn) := HS2.out.blk.cell 0
  have s1 : w2.cell? ⟨w.heap.size + 1, 1, none⟩ = some (vj) := HS2.out.blk.cell 1
  have s2 : w2.cell? ⟨w.heap.size + 1, 2, none⟩ = some (.int .i64 s.goal) := HS2.out.blk.cell 2
  have s3 : w2.cell? ⟨w.heap.size + 1, 3, none⟩ = some (.int .i64 s.prior) := HS2.out.blk.cell 3
  have s4 : w2.cell? ⟨w.heap.size + 1, 4, none⟩ = some (.int .i64 s.mode) := HS2.out.blk.cell 4
  have s5 : w2.cell? ⟨w.heap.size + 1, 5, none⟩ = some (.int .i64 s.term) := HS2.out.blk.cell 5
  have k0 : w2.cell? ⟨w.heap.size, 0, none⟩ = some (.int .i64 c.nodes) := HB2.out.cell 0
  have k1 : w2.cell? ⟨w.heap.size, 1, none⟩ = some (.int .i64 c.queues) := HB2.out.cell 1
  have k2 : w2.cell? ⟨w.heap.size, 2, none⟩ = some (.int .i64 c.quota) := HB2.out.cell 2
  have k3 : w2.cell? ⟨w.heap.size, 3, none⟩ = some (.int .i64 c.wave) := HB2.out.cell 3
  have k4 : w2.cell? ⟨w.heap.size, 4, none⟩ = some (.int .i64 c.lease) := HB2.out.cell 4
  have k5 : w2.cell? ⟨w.heap.size, 5, none⟩ = some (.int .i64 c.retry) := HB2.out.cell 5
  have k6 : w2.cell? ⟨w.heap.size, 6, none⟩ = some (.int .i64 c.deadline) := HB2.out.cell 6
  have k7 : w2.cell? ⟨w.heap.size, 7, none⟩ = some (.int .i64 c.room) := HB2.out.cell 7
  have k8 : w2.cell? ⟨w.heap.size, 8, none⟩ = some (.int .i64 c.disk) := HB2.out.cell 8
  go_wp2_with fail
  refine (HRT.out w2 HX2.out).mono ?_
  rintro e3 w3 ⟨b, rfl, hb, hx3⟩
  have HRB := Lib.hid hb
  have HX3 := Lib.hid (HX2.out.trans hx3)
  have HS3 := Lib.hid (HS2.out.ext hx3)
  have HB3 := Lib.hid (HB2.out.ext hx3)
  have HO3 := Lib.hid (HO2.out.ext hx3)
  clear hb hx3 HX2 HS2 HB2 HO2 HRT s0 s1 s2 s3 s4 s5 k0 k1 k2 k3 k4 k5 k6 k7 k8
  cases b
  case false =>
    go_wp2
    go_ret
    exact ⟨rfl, HX3.out⟩
  have HRP : Hid (RightP c s) := Lib.hid (HRB.out.1 (by trivial))
  clear HRB
  have o0 : w3.cell? ⟨w.heap.size + 2, 0, none⟩ = some (.int .i64 z) := HO3.out.cell 0
  have o1 : w3.cell? ⟨w.heap.size + 2, 1, none⟩ = some (.int .i64 a1) := HO3.out.cell 1
  have o2 : w3.cell? ⟨w.heap.size + 2, 2, none⟩ = some (.int .i64 a2) := HO3.out.cell 2
  have o3 : w3.cell? ⟨w.heap.size + 2, 3, none⟩ = some (.int .i64 a3) := HO3.out.cell 3
  have o4 : w3.cell? ⟨w.heap.size + 2, 4, none⟩ = some (.int .i64 a4) := HO3.out.cell 4
  have o5 : w3.cell? ⟨w.heap.size + 2, 5, none⟩ = some (.int .i64 a5) := HO3.out.cell 5
  have o6 : w3.cell? ⟨w.heap.size + 2, 6, none⟩ = some (.int .i64 a6) := HO3.out.cell 6
  have s0 : w3.cell? ⟨w.heap.size + 1, 0, none⟩ = some (vn) := HS3.out.blk.cell 0
  have s1 : w3.cell? ⟨w.heap.size + 1, 1, none⟩ = some (vj) := HS3.out.blk.cell 1
  have s2 : w3.cell? ⟨w.heap.size + 1, 2, none⟩ = some (.int .i64 s.goal) := HS3.out.blk.cell 2
  have s3 : w3.cell? ⟨w.heap.size + 1, 3, none⟩ = some (.int .i64 s.prior) := HS3.out.blk.cell 3
  have s4 : w3.cell? ⟨w.heap.size + 1, 4, none⟩ = some (.int .i64 s.mode) := HS3.out.blk.cell 4
  have s5 : w3.cell? ⟨w.heap.size + 1, 5, none⟩ = some (.int .i64 s.term) := HS3.out.blk.cell 5
  have k0 : w3.cell? ⟨w.heap.size, 0, none⟩ = some (.int .i64 c.nodes) := HB3.out.cell 0
  have k1 : w3.cell? ⟨w.heap.size, 1, none⟩ = some (.int .i64 c.queues) := HB3.out.cell 1
  have k2 : w3.cell? ⟨w.heap.size, 2, none⟩ = some (.int .i64 c.quota) := HB3.out.cell 2
  have k3 : w3.cell? ⟨w.heap.size, 3, none⟩ = some (.int .i64 c.wave) := HB3.out.cell 3
  have k4 : w3.cell? ⟨w.heap.size, 4, none⟩ = some (.int .i64 c.lease) := HB3.out.cell 4
  have k5 : w3.cell? ⟨w.heap.size, 5, none⟩ = some (.int .i64 c.retry) := HB3.out.cell 5
  have k6 : w3.cell? ⟨w.heap.size, 6, none⟩ = some (.int .i64 c.deadline) := HB3.out.cell 6
  have k7 : w3.cell? ⟨w.heap.size, 7, none⟩ = some (.int .i64 c.room) := HB3.out.cell 7
  have k8 : w3.cell? ⟨w.heap.size, 8, none⟩ = some (.int .i64 c.disk) := HB3.out.cell 8
  obtain ⟨⟨t, er⟩, hap⟩ : ∃ r, r = applyS c s (z, a1, a2, a3, a4, a5, a6) := ⟨_, rfl⟩
  have HAP : Hid (Calls Tryd.prog 20 #[.agg #[.int .i64 c.nodes, .int .i64 c.queues, .int .i64 c.quota, .int .i64 c.wave, .int .i64 c.lease, .int .i64 c.retry, .int .i64 c.deadline, .int .i64 c.room, .int .i64 c.disk], .agg #[vn, vj, .int .i64 s.goal, .int .i64 s.prior, .int .i64 s.mode, .int .i64 s.term], .agg #[.int .i64 z, .int .i64 a1, .int .i64 a2, .int .i64 a3, .int .i64 a4, .int .i64 a5, .int .i64 a6]] w3 fun e w' => ∃ vn' vj', e = .returned (.tuple #[.agg #[vn', vj', .int .i64 t.goal, .int .i64 t.prior, .int .i64 t.mode, .int .i64 t.term], .int .i64 er]) ∧ RdSt w' vn' vj' t ∧ Ext w3 w' ∧ ∀ k, vn'.ownBlock = some k ∨ vj'.ownBlock = some k → w3.heap.size ≤ k) := Lib.hid (Apply_at HS3.out.rd (HL.out.ext HX3.out) HRP.out hap.symm)
  have HRT : Hid (RightP c t) := Lib.hid (by have := HRP.out.apply (z, a1, a2, a3, a4, a5, a6); rw [← hap] at this; exact this)
  clear hap
  go_wp2_with fail
  refine HAP.out.mono ?_
  rintro e4 w4 ⟨un, uj, rfl, hr4, hx4, hk4⟩
  obtain ⟨Bn, dn, rfl, -, -⟩ := hr4.nodes.slice_
  obtain ⟨Bj, dj, rfl, -, -⟩ := hr4.jobs.slice_
  obtain ⟨w5, hw5⟩ : ∃ W, W = w4.alloc (.cells #[.slice Bn t.nodes.length dn, .slice Bj t.jobs.length dj, .int .i64 t.goal, .int .i64 t.prior, .int .i64 t.mode, .int .i64 t.term] 27) := ⟨_, rfl⟩
  have hx45 : Ext w4 w5 := by rw [hw5]; exact (Below.refl _ _).alloc (Nat.le_refl _) _
  have HST : Hid (SAt w5 w4.heap.size _ _ t) := Lib.hid (SAt.first hr4 hx45 (by rw [hw5]; exact Blk.new _ _ _) (Nat.le_refl _))
  have HX5 := Lib.hid ((HX3.out.trans hx4).trans hx45)
  have HSS := Lib.hid ((HS3.out.ext hx4).ext hx45)
  clear hr4 hx4 hk4 hx45 HAP HX3 HS3 HB3 HO3 HL s0 s1 s2 s3 s4 s5 k0 k1 k2 k3 k4 k5 k6 k7 k8 o0 o1 o2 o3 o4 o5 o6
  have HFR := Lib.hid HRT.out.frees
  have HN6 := Lib.hid HRT.out.len.2
  have HJ24 := Lib.hid HRT.out.nj
  go_wp2_with fail
  (try rw [← hw5])
  clear hw5
  generalize w4.heap.size = g at *
  go_loopg [9, 11] t.jobs.length (fun gg n i wr => ∃ (q : Nat), i = .int .i64 q ∧ n = .int .i64 (sumM (t.jobs.take q) : Int) ∧ q ≤ t.jobs.length ∧ gg = t.jobs.length - q ∧ Hid (Ext w5 wr))
  case atStart => exact ⟨0, rfl, rfl, Nat.zero_le _, by omega, Lib.hid (Ext.refl _)⟩
  case round =>
    obtain ⟨q, rfl, rfl, hq, rfl, HX⟩ := hrel
    have t1 := (HST.out.blk.ext HX.out).cell 1
    simp only [List.getElem?_toArray, List.getElem?_cons_succ, List.getElem?_cons_zero] at t1
    by_cases hlt : q < t.jobs.length
    · have d1 : decide ((q : Int) < (t.jobs.length : Int)) = true := decide_eq_true (by omega)
      have d1' : decide (q < t.jobs.length) = true := decide_eq_true hlt
      obtain ⟨a, ha⟩ : ∃ a, t.jobs[q]? = some a := ⟨_, List.getElem?_eq_getElem hlt⟩
      obtain ⟨_, _, ej, -, -, hja⟩ := jobs_cells HST.out.rd.jobs
      cases ej
      obtain ⟨b1, p1, rfl, hb1, hat1⟩ := hja q a ha
      have c8 := (hat1.ext HX.out hb1).c8
      have HSU : Hid (sumM (t.jobs.take (q + 1)) = sumM (t.jobs.take q) + manyS a.nodes) := Lib.hid (by rw [List.take_add_one, ha, Option.toList_some, sumM_snoc])
      have hb : sumM (t.jobs.take q) ≤ 144 := by
        have h1 := sumM_le (l := t.jobs.take q)
        have h2 := List.length_take_le q t.jobs
        have h3 := HJ24.out
        omega
      have hm : manyS a.nodes ≤ 6 := manyS_le _
      have x1 : (0 : Int) ≤ (q : Int) ∧ (q : Int) < (t.jobs.length : Int) := by omega
      have hj24 : t.jobs.length ≤ 24 := HJ24.out
      have HMA := Lib.hid fun W => RefMany_any a.nodes W
      have HLT := Lib.hid hlt
      clear ha hja hat1 hb1
      generalize hS : sumM (t.jobs.take q) = S at *
      generalize manyS a.nodes = M at *
      clear hS
      go_wp2_with fail
      refine (HMA.out _).mono ?_
      rintro e6 w6 ⟨rfl, rfl⟩
      go_wp2_with fail
      go_roundg (t.jobs.length - (q + 1))
      case measure => have := HLT.out; omega
      case rel => exact ⟨q + 1, by go_num, by rw [HSU.out]; go_num, HLT.out, rfl, HX⟩
    · have d1 : decide ((q : Int) < (t.jobs.length : Int)) = false := decide_eq_false (by omega)
      have d1' : decide (q < t.jobs.length) = false := decide_eq_false hlt
      obtain rfl : q = t.jobs.length := by omega
      rw [List.take_length, HFR.out]
      clear hlt hq
      have HXo := Lib.hid HX.out
      obtain ⟨wz, hwz⟩ : ∃ wz, wz = wr := ⟨_, rfl⟩
      generalize hT : (t.nodes.filter fun n => decide (0 < n.job)).length = T
      go_wp2_with fail
      rw [← hwz]
      rw [← hwz] at HXo
      clear t1 hwz HX
      go_loopg [10, 12] t.nodes.length (fun gg n i wr => ∃ (q : Nat), i = .int .i64 q ∧ n = .int .i64 (((t.nodes.take q).filter fun n => decide (0 < n.job)).length : Int) ∧ q ≤ t.nodes.length ∧ gg = t.nodes.length - q ∧ Hid (Ext w5 wr))
      case atStart => exact ⟨0, rfl, rfl, Nat.zero_le _, by omega, HXo⟩
      case round =>
        obtain ⟨q, rfl, rfl, hq, rfl, HX⟩ := hrel
        have t0 := (HST.out.blk.ext HX.out).cell 0
        simp only [List.getElem?_toArray, List.getElem?_cons_succ, List.getElem?_cons_zero] at t0
        have hn6 : t.nodes.length ≤ 6 := HN6.out
        by_cases hlt : q < t.nodes.length
        · have d1 : decide ((q : Int) < (t.nodes.length : Int)) = true := decide_eq_true (by omega)
          have d1' : decide (q < t.nodes.length) = true := decide_eq_true hlt
          obtain ⟨a, ha⟩ : ∃ a, t.nodes[q]? = some a := ⟨_, List.getElem?_eq_getElem hlt⟩
          obtain ⟨_, _, ej, -, -, hja⟩ := has_cells HST.out.rd.nodes
          cases ej
          obtain ⟨b1, p1, rfl, hb1, hat1⟩ := hja q a ha
          have c4 := (hat1.ext HX.out hb1).c4
          have hb : ((t.nodes.take q).filter fun n => decide (0 < n.job)).length ≤ 6 := by
            have h1 := List.length_filter_le (fun n : Nd => decide (0 < n.job)) (t.nodes.take q)
            have h2 := List.length_take_le q t.nodes
            omega
          have HSU : Hid (((t.nodes.take (q + 1)).filter fun n => decide (0 < n.job)).length = ((t.nodes.take q).filter fun n => decide (0 < n.job)).length + if 0 < a.job then 1 else 0) := Lib.hid (by rw [List.take_add_one, ha, Option.toList_some, List.filter_append, List.length_append]; by_cases h : 0 < a.job <;> simp [h])
          have x1 : (0 : Int) ≤ (q : Int) ∧ (q : Int) < (t.nodes.length : Int) := by omega
          have HLT := Lib.hid hlt
          clear ha hja hat1 hb1 hT
          generalize hS : ((t.nodes.take q).filter fun n => decide (0 < n.job)).length = S at *
          clear hS
          by_cases hj : 0 < a.job
          · have dj : decide (0 < a.job) = true := decide_eq_true hj
            have HSV : Hid (((t.nodes.take (q + 1)).filter fun n => decide (0 < n.job)).length = S + 1) := Lib.hid (by rw [HSU.out, if_pos hj])
            clear hj
            go_wp2_with fail
            go_roundg (t.nodes.length - (q + 1))
            case measure => have := HLT.out; omega
            case rel => exact ⟨q + 1, by go_num, by rw [HSV.out]; go_num, HLT.out, rfl, HX⟩
          · have dj : decide (0 < a.job) = false := decide_eq_false hj
            have HSV : Hid (((t.nodes.take (q + 1)).filter fun n => decide (0 < n.job)).length = S) := Lib.hid (by rw [HSU.out, if_neg hj]; rfl)
            clear hj
            go_wp2_with fail
            go_roundg (t.nodes.length - (q + 1))
            case measure => have := HLT.out; omega
            case rel => exact ⟨q + 1, by go_num, by rw [HSV.out], HLT.out, rfl, HX⟩
        · have d1 : decide ((q : Int) < (t.nodes.length : Int)) = false := decide_eq_false (by omega)
          have d1' : decide (q < t.nodes.length) = false := decide_eq_false hlt
          obtain rfl : q = t.nodes.length := by omega
          rw [List.take_length, hT]
          have HXE := Lib.hid (HX5.out.trans HX.out)
          clear hlt hq hT
          go_wp2
          go_ret
          exact ⟨by simp, HXE.out⟩

set_option maxRecDepth 100000 in
theorem BookFrees_lifted (os : Os) (started : os.Started) (H : Type) (enc : TypeId × Value → H) :
    ReturnsInHanded {} Tryd.checked os 8 .any (fun w args => (Rows.bookFreesSpec.pre enc Tryd.prog Tryd.f8 [] false w args ∧ laidMetH Tryd.prog Rows.bookFreesRow.laid w) ∧ sizedMet enc Tryd.prog Tryd.f8 (OpenSpec.ofChange Rows.bookFreesSpec) false w args) (Rows.bookFreesSpec.post enc Tryd.prog Tryd.f8 false true false false) := by
  refine law_liftL (C := Tryd.checked) (tb := 4) Rows.bookFreesRow.laid Tryd.ownKnob started (by kernel_rfl) Tryd.func8 Tryd.laidOut (by kernel_rfl) rfl Tryd.underlying4 rfl rfl ?_
    (ChangeSpec.witness_shaped (enc := enc) (C := Tryd.checked) (os := os) (X := fun w _ => laidMetH Tryd.prog Rows.bookFreesRow.laid w) false (World.laidAll Tryd.prog os Rows.bookFreesRow.laid) #[.agg #[.int .i64 0, .int .i64 0, .int .i64 0, .int .i64 0, .int .i64 0, .int .i64 0, .int .i64 0, .int .i64 0, .int .i64 0], .agg #[.slice none 0 0, .slice none 0 0, .int .i64 0, .int .i64 0, .int .i64 0, .int .i64 0], .agg #[.int .i64 0, .int .i64 0, .int .i64 0, .int .i64 0, .int .i64 0, .int .i64 0, .int .i64 0]] 8 (World.laidAll_os _ _ _)
      (World.shaped_of_ZipB (by kernel_rfl) (by kernel_rfl)) (by kernel_rfl) (by kernel_rfl) (by kernel_rfl)
      (by rw [MakeChecks.laidMetH_plain _ _ _ (by kernel_rfl)]; exact laidMet_laidAll _ (by kernel_rfl) (by kernel_rfl))) ?_
  · intro ds hd
    rw [Tryd.params8] at hd
    match ds, hd with
    | [d0, d1, d2], _ => rfl
  · intro W base args ds p hval hA hsz hL0 hsh
    have hL : laidMetH Tryd.prog Rows.bookFreesRow.laid W := hL0
    rw [MakeChecks.laidMetH_plain _ _ _ (by kernel_rfl)] at hL
    have hLd : Laid W := laid_of _ hL (by repeat (first | exact List.Mem.head _ | apply List.Mem.tail))
    rw [Tryd.params8] at hA hval hsz
    obtain ⟨v0, vs0, d0, ds0, p0, q0, hargs, rfl, rfl, h0, r0_⟩ := trodAll_cons hA
    obtain ⟨v1, vs1, d1, ds1, p1, q1, rfl, rfl, rfl, h1, r1_⟩ := trodAll_cons r0_
    obtain ⟨v2, vs2, d2, ds2, p2, q2, rfl, rfl, rfl, h2, r2_⟩ := trodAll_cons r1_
    obtain ⟨rfl, rfl, rfl⟩ := trodAll_nil r2_
    obtain rfl : args = #[v0, v1, v2] := by cases args; simp_all
    obtain ⟨a0, rfl⟩ := dec_conf (hval 0 23 v0 rfl rfl) h0
    obtain ⟨vn1, vj1, a1, rfl, r1⟩ := dec_state (hval 1 27 v1 rfl rfl) h1
    obtain ⟨a2, rfl⟩ := dec_op (hval 2 35 v2 rfl rfl) h2
    exact BookFrees_calls a0 vn1 vj1 a1 _ _ _ _ _ _ _ W r1 hLd

theorem BookFrees_row : Rows.BookFreesSaid :=
  OpenClaim.holds_of_wide 8 Tryd.f8 rfl rfl rfl rfl rfl rfl rfl ⟨rfl, rfl, rfl, rfl, rfl⟩ rfl rfl rfl rfl rfl (by kernel_rfl) Tryd.func8 (by kernel_rfl)
    (of_decide_eq_true (by kernel_rfl)) (by unfold Func.isWrapper; first | (rw [if_pos (by decide +kernel)]; kernel_rfl) | (rw [if_neg (by decide +kernel)]; exact ⟨rfl, rfl⟩))
    (fun os started H enc _ => BookFrees_lifted os started H enc)

/-- THE TIED CARD. -/
theorem BookFrees_holds : Rows.BookFreesCardSaid :=
  Claim7.holds_tied_plain_at .later [] Rows.bookFreesCard.laidKinds true Rows.bookFreesCard.stood.harness Rows.bookFreesCard.stood.looks
    BookFrees_row (fun _ h => by cases h) (by kernel_rfl) (fun _ h => by cases h) bookFrees_row_tie rfl ⟨rfl, rfl⟩ (by kernel_rfl) rfl
    (fun f fn hf hfn => by
      obtain rfl : f = 8 := Option.some.inj ((show Tryd.prog.funcNamed "dunnage/dunnagelaw09.BookFrees" = some 8 by kernel_rfl).symm.trans hf) |>.symm
      obtain rfl : fn = Tryd.f8 := (Option.some.inj (Tryd.func8.symm.trans hfn)).symm
      exact ⟨by kernel_rfl, fun j t ht => by
        rw [Tryd.params8] at ht
        have hm : t ∈ [23, 27, 35] := by simpa using Array.mem_of_getElem? ht
        have hall : ([23, 27, 35].all fun u => !Tryd.prog.wantsStandIn u) = true := by kernel_rfl
        exact (show Tryd.prog.wantsStandIn t = false by simpa using List.all_eq_true.1 hall t hm)⟩)
    (by kernel_rfl)

end Go.Proofs.YtmgbgpendpiahaaDoor
