/- For every input BookStays returns true: behind each op a state that may be may be, and an error leaves all as it was; with the listed package-level variable as the program's text lays it. -/
import Derived.Test.YtmgbgpendpiahaaDoorBQ10
import Derived.Test.YtmgbgpendpiahaaDoorCards
import Derived.Test.YtmgbgpendpiahaaDoorTie
import Derived.SevenTiedAt
import Derived.Deep.DeepCutAuto
import Derived.Deep.CutBlock
import Derived.Deep.LoopGhost
import Derived.BigQuiet
import Derived.Deep.RegionHeld3
namespace Go.Proofs.YtmgbgpendpiahaaDoor
open Go.ChangeShapes Go.WideShapes Go.ChangeAt Go.RowKit

set_option maxRecDepth 100000 in
set_option maxHeartbeats 8000000 in
theorem BookStays_calls (c : Cf) (vn vj : Value) (s : St) (v : Value) (l : List OpN) (w : World) (h : RdSt w vn vj s) (hl : RdOps w v l) (hL : Laid w) :
    Calls Tryd.prog 6 #[cfV c, stV vn vj s, v] w fun e w' => e = .returned (.bool true) ∧ Ext w w' := by
  obtain ⟨A, cp, rfl, hlc, hcm, hAT⟩ := ops_cells hl
  obtain ⟨W2, hW2, hx2, hb0, hb1⟩ := two_blocks w 23 27 #[.int .i64 c.nodes, .int .i64 c.queues, .int .i64 c.quota, .int .i64 c.wave, .int .i64 c.lease, .int .i64 c.retry, .int .i64 c.deadline, .int .i64 c.room, .int .i64 c.disk] #[vn, vj, .int .i64 s.goal, .int .i64 s.prior, .int .i64 s.mode, .int .i64 s.term]
  have HL := Lib.hid hL
  have HAT := Lib.hid hAT
  have HSA := Lib.hid (SAt.first h hx2 hb1 (Nat.le_succ _))
  have HBC := Lib.hid hb0
  have HX2 := Lib.hid hx2
  have HAL := Lib.hid (alive9_any W2 (hL.ext hx2))
  have HGR := Lib.hid fun W (hx : Ext w W) => great_any vn vj s W (h.ext hx)
  have HRT := Lib.hid fun W (hx : Ext w W) => RightS_any c vn vj s W (h.ext hx).nodes (h.ext hx).jobs
  unfold stV at HGR
  unfold cfV stV at HRT
  unfold cfV stV
  clear hL hl h hx2 hb0 hb1 hAT
  go_enter Tryd.func6, Tryd.ntmps6
  go_wp2_with fail
  rw [← hW2]
  clear hW2
  refine HAL.out.mono ?_
  rintro e1 w1 ⟨rfl, hx1⟩
  have HX1 := Lib.hid (HX2.out.trans hx1)
  have HS1 := Lib.hid (HSA.out.ext hx1)
  have HB1 := Lib.hid (HBC.out.ext hx1)
  clear hx1 HX2 HSA HBC HAL
  have s0 : w1.cell? ⟨w.heap.size + 1, 0, none⟩ = some (vn) := HS1.out.blk.cell 0
  have s1 : w1.cell? ⟨w.heap.size + 1, 1, none⟩ = some (vj) := HS1.out.blk.cell 1
  have s2 : w1.cell? ⟨w.heap.size + 1, 2, none⟩ = some (.int .i64 s.goal) := HS1.out.blk.cell 2
  have s3 : w1.cell? ⟨w.heap.size + 1, 3, none⟩ = some (.int .i64 s.prior) := HS1.out.blk.cell 3
  have s4 : w1.cell? ⟨w.heap.size + 1, 4, none⟩ = some (.int .i64 s.mode) := HS1.out.blk.cell 4
  have s5 : w1.cell? ⟨w.heap.size + 1, 5, none⟩ = some (.int .i64 s.term) := HS1.out.blk.cell 5
  have HG1 := Lib.hid (HGR.out w1 HX1.out)
  generalize greatS s = gs at *
  go_wp2_with fail
  refine HG1.out.mono ?_
  rintro e2 w2 ⟨rfl, hx2⟩
  have HX2 := Lib.hid (HX1.out.trans hx2)
  have HS2 := Lib.hid (HS1.out.ext hx2)
  have HB2 := Lib.hid (HB1.out.ext hx2)
  clear hx2 HX1 HS1 HB1 HGR HG1 s0 s1 s2 s3 s4 s5
  cases gs
  case true =>
    go_wp2
    go_ret
    exact ⟨rfl, HX2.out⟩
  by_cases h200 : 200 < l.length
  · have d1 : decide ((200 : Int) < (l.length : Int)) = true := decide_eq_true (by omega)
    have d1' : decide (200 < l.length) = true := decide_eq_true h200
    clear h200
    go_wp2
    go_ret
    exact ⟨rfl, HX2.out⟩
  have d1 : decide ((200 : Int) < (l.length : Int)) = false := decide_eq_false (by omega)
  have d1' : decide (200 < l.length) = false := decide_eq_false h200
  clear h200
  have s0 : w2.cell? ⟨w.heap.size + 1, 0, none⟩ = some (vn) := HS2.out.blk.cell 0
  have s1 : w2.cell? ⟨w.heap.size + 1, 1, none⟩ = some (vj) := HS2.out.blk.cell 1
  have s2 : w2.cell? ⟨w.heap.size + 1, 2, none⟩ = some (.int .i64 s.goal) := HS2.out.blk.cell 2
  have s3 : w2.cell? ⟨w.heap.size + 1, 3, none⟩ = some (.int .i64 s.prior) := HS2.out.blk.cell 3
  have s4 : w2.cell? ⟨w.heap.size + 1, 4, none⟩ = some (.int .i64 s.mode) := HS2.out.blk.cell 4
  have s5 : w2.cell? ⟨w.heap.size + 1, 5, none⟩ = some (.int .i64 s.term) := HS2.out.blk.cell 5
  have k0 : w2.cell? ⟨w.heap.size, 0, none⟩ = some (.int .i64 c.nodes) := HB2.out.cell 0
  have k1 : w2.cell? ⟨w.heap.size, 1, none⟩ = some (.int .i64 c.queues) := HB2.out.cell 1
  have k2 : w2.cell? ⟨w.heap.size, 2, none⟩ = some (.int .i64 c.quota) := HB2.out.cell 2
  have k3 : w2.cell? ⟨w.heap.size, 3, none⟩ = some (.int .i64 c.wave) := HB2.out.cell 3
  have k4 : w2.cell? ⟨w.heap.size, 4, none⟩ = some (.int .i64 c.lease) := HB2.out.cell 4
  have k5 : w2.cell? ⟨w.heap.size, 5, none⟩ = some (.int .i64 c.retry) := HB2.out.cell 5
  have k6 : w2.cell? ⟨w.heap.size, 6, none⟩ = some (.int .i64 c.deadline) := HB2.out.cell 6
  have k7 : w2.cell? ⟨w.heap.size, 7, none⟩ = some (.int .i64 c.room) := HB2.out.cell 7
  have k8 : w2.cell? ⟨w.heap.size, 8, none⟩ = some (.int .i64 c.disk) := HB2.out.cell 8
  go_wp2_with fail
  refine (HRT.out w2 HX2.out).mono ?_
  rintro e3 w3 ⟨b, rfl, hb, hx3⟩
  have HRB := Lib.hid hb
  have HX3 := Lib.hid (HX2.out.trans hx3)
  have HS3 := Lib.hid (HS2.out.ext hx3)
  have HB3 := Lib.hid (HB2.out.ext hx3)
  clear hb hx3 HX2 HS2 HB2 HRT s0 s1 s2 s3 s4 s5 k0 k1 k2 k3 k4 k5 k6 k7 k8 d1 d1'
  cases b
  case false =>
    go_wp2
    go_ret
    exact ⟨rfl, HX3.out⟩
  have HKR : Hid (KR9 w c s w3) := Lib.hid ⟨vn, vj, HX3.out, HB3.out, HS3.out, HRB.out.1 (by trivial)⟩
  clear HX3 HS3 HB3 HRB
  go_wp2_with fail
  go_loopg [7] l.length (fun gg i wr => ∃ (q : Nat) (s : St), i = .int .i64 q ∧ q ≤ l.length ∧ gg = l.length - q ∧ Hid (KR9 w c s wr))
  case atStart => exact ⟨0, s, rfl, Nat.zero_le _, by omega, HKR⟩
  case round =>
    clear HKR
    obtain ⟨q, s, rfl, hq, rfl, HK⟩ := hrel
    by_cases hlt : q < l.length
    · have d1 : decide ((q : Int) < (l.length : Int)) = true := decide_eq_true (by omega)
      have d1' : decide (q < l.length) = true := decide_eq_true hlt
      obtain ⟨vn, vj, hxr, hbc, hsa, hR⟩ := HK.out.out
      obtain ⟨An, cn, rfl, -, -⟩ := hsa.rd.nodes.slice_
      obtain ⟨Aj, cj, rfl, -, -⟩ := hsa.rd.jobs.slice_
      obtain ⟨⟨z, a1, a2, a3, a4, a5, a6⟩, hop⟩ : ∃ o, l[q]? = some o := ⟨_, List.getElem?_eq_getElem hlt⟩
      obtain ⟨b, o, rfl, hb, hat⟩ := HAT.out q _ hop
      obtain ⟨o0, o1, o2, o3, o4, o5, o6⟩ := hat.low hxr hb
      dsimp only at o0 o1 o2 o3 o4 o5 o6
      obtain ⟨⟨t, er⟩, hap⟩ : ∃ r, r = applyS c s (z, a1, a2, a3, a4, a5, a6) := ⟨_, rfl⟩
      have x1 : (0 : Int) ≤ (q : Int) ∧ (q : Int) < (l.length : Int) := by omega
      have HSC : Hid (∀ W, Ext wr W → W.cell? ⟨w.heap.size, 0, none⟩ = some (.int .i64 c.nodes) ∧ W.cell? ⟨w.heap.size, 1, none⟩ = some (.int .i64 c.queues) ∧ W.cell? ⟨w.heap.size, 2, none⟩ = some (.int .i64 c.quota) ∧ W.cell? ⟨w.heap.size, 3, none⟩ = some (.int .i64 c.wave) ∧ W.cell? ⟨w.heap.size, 4, none⟩ = some (.int .i64 c.lease) ∧ W.cell? ⟨w.heap.size, 5, none⟩ = some (.int .i64 c.retry) ∧ W.cell? ⟨w.heap.size, 6, none⟩ = some (.int .i64 c.deadline) ∧ W.cell? ⟨w.heap.size, 7, none⟩ = some (.int .i64 c.room) ∧ W.cell? ⟨w.heap.size, 8, none⟩ = some (.int .i64 c.disk) ∧ W.cell? ⟨w.heap.size + 1, 0, none⟩ = some (.slice An s.nodes.length cn) ∧ W.cell? ⟨w.heap.size + 1, 1, none⟩ = some (.slice Aj s.jobs.length cj) ∧ W.cell? ⟨w.heap.size + 1, 2, none⟩ = some (.int .i64 s.goal) ∧ W.cell? ⟨w.heap.size + 1, 3, none⟩ = some (.int .i64 s.prior) ∧ W.cell? ⟨w.heap.size + 1, 4, none⟩ = some (.int .i64 s.mode) ∧ W.cell? ⟨w.heap.size + 1, 5, none⟩ = some (.int .i64 s.term) ∧ W.cell? ⟨b, o + q * 7, none⟩ = some (.int .i64 z) ∧ W.cell? ⟨b, o + q * 7 + 1, none⟩ = some (.int .i64 a1) ∧ W.cell? ⟨b, o + q * 7 + 2, none⟩ = some (.int .i64 a2) ∧ W.cell? ⟨b, o + q * 7 + 3, none⟩ = some (.int .i64 a3) ∧ W.cell? ⟨b, o + q * 7 + 4, none⟩ = some (.int .i64 a4) ∧ W.cell? ⟨b, o + q * 7 + 5, none⟩ = some (.int .i64 a5) ∧ W.cell? ⟨b, o + q * 7 + 6, none⟩ = some (.int .i64 a6)) := Lib.hid fun W hx => ⟨(hbc.ext hx).cell 0, (hbc.ext hx).cell 1, (hbc.ext hx).cell 2, (hbc.ext hx).cell 3, (hbc.ext hx).cell 4, (hbc.ext hx).cell 5, (hbc.ext hx).cell 6, (hbc.ext hx).cell 7, (hbc.ext hx).cell 8, (hsa.blk.ext hx).cell 0, (hsa.blk.ext hx).cell 1, (hsa.blk.ext hx).cell 2, (hsa.blk.ext hx).cell 3, (hsa.blk.ext hx).cell 4, (hsa.blk.ext hx).cell 5, hx.cellOf o0 (Nat.lt_of_lt_of_le hb hxr.size), hx.cellOf o1 (Nat.lt_of_lt_of_le hb hxr.size), hx.cellOf o2 (Nat.lt_of_lt_of_le hb hxr.size), hx.cellOf o3 (Nat.lt_of_lt_of_le hb hxr.size), hx.cellOf o4 (Nat.lt_of_lt_of_le hb hxr.size), hx.cellOf o5 (Nat.lt_of_lt_of_le hb hxr.size), hx.cellOf o6 (Nat.lt_of_lt_of_le hb hxr.size)⟩
      have HAP : Hid (∀ W, Ext wr W → Calls Tryd.prog 20 #[.agg #[.int .i64 c.nodes, .int .i64 c.queues, .int .i64 c.quota, .int .i64 c.wave, .int .i64 c.lease, .int .i64 c.retry, .int .i64 c.deadline, .int .i64 c.room, .int .i64 c.disk], .agg #[.slice An s.nodes.length cn, .slice Aj s.jobs.length cj, .int .i64 s.goal, .int .i64 s.prior, .int .i64 s.mode, .int .i64 s.term], .agg #[.int .i64 z, .int .i64 a1, .int .i64 a2, .int .i64 a3, .int .i64 a4, .int .i64 a5, .int .i64 a6]] W fun e w' => ∃ vn' vj' s' er', e = .returned (.tuple #[.agg #[vn', vj', .int .i64 s'.goal, .int .i64 s'.prior, .int .i64 s'.mode, .int .i64 s'.term], .int .i64 er']) ∧ RdSt w' vn' vj' s' ∧ Ext W w' ∧ (s', er') = (t, er) ∧ ∀ k, vn'.ownBlock = some k ∨ vj'.ownBlock = some k → W.heap.size ≤ k) := Lib.hid fun W hx => by
        refine (Apply_any c _ _ s (z, a1, a2, a3, a4, a5, a6) W (hsa.rd.ext hx) ((HL.out.ext hxr).ext hx)).mono ?_
        rintro e w' ⟨vn', vj', s', er', rfl, hr, hy, ha, -, hk⟩
        exact ⟨vn', vj', s', er', rfl, hr, hy, (ha hR).trans hap.symm, hk⟩
      have HER : Hid (er ≠ 0 → s = t) := Lib.hid fun h => by
        have := apply_err (c := c) (s := s) (o := (z, a1, a2, a3, a4, a5, a6))
        rw [← hap] at this
        exact (this h).symm
      have HRP := Lib.hid hR
      have HRT : Hid (RightP c t) := Lib.hid (by have := hR.apply (z, a1, a2, a3, a4, a5, a6); rw [← hap] at this; exact this)
      have HXR := Lib.hid hxr
      have HBR := Lib.hid hbc
      have HSR := Lib.hid hsa
      have HLT := Lib.hid hlt
      clear hop hat hxr hbc hsa hR hap hlt HK o0 o1 o2 o3 o4 o5 o6 hb
      go_wp2_with fail
      go_cut [8, 9] (fun p e wx => ApCut wr (t, er) p e wx)
      case first =>
        refine held_begin (by kernel_rfl) ?_
        have hHeld0 : True := True.intro
        refine held_more (S' := fun (W : World) => W.cell? ⟨w.heap.size, 0, none⟩ = some (.int .i64 c.nodes) ∧ W.cell? ⟨w.heap.size, 1, none⟩ = some (.int .i64 c.queues) ∧ W.cell? ⟨w.heap.size, 2, none⟩ = some (.int .i64 c.quota) ∧ W.cell? ⟨w.heap.size, 3, none⟩ = some (.int .i64 c.wave) ∧ W.cell? ⟨w.heap.size, 4, none⟩ = some (.int .i64 c.lease) ∧ W.cell? ⟨w.heap.size, 5, none⟩ = some (.int .i64 c.retry) ∧ W.cell? ⟨w.heap.size, 6, none⟩ = some (.int .i64 c.deadline) ∧ W.cell? ⟨w.heap.size, 7, none⟩ = some (.int .i64 c.room) ∧ W.cell? ⟨w.heap.size, 8, none⟩ = some (.int .i64 c.disk) ∧ W.cell? ⟨w.heap.size + 1, 0, none⟩ = some (.slice An s.nodes.length cn) ∧ W.cell? ⟨w.heap.size + 1, 1, none⟩ = some (.slice Aj s.jobs.length cj) ∧ W.cell? ⟨w.heap.size + 1, 2, none⟩ = some (.int .i64 s.goal) ∧ W.cell? ⟨w.heap.size + 1, 3, none⟩ = some (.int .i64 s.prior) ∧ W.cell? ⟨w.heap.size + 1, 4, none⟩ = some (.int .i64 s.mode) ∧ W.cell? ⟨w.heap.size + 1, 5, none⟩ = some (.int .i64 s.term) ∧ W.cell? ⟨b, o + q * 7, none⟩ = some (.int .i64 z) ∧ W.cell? ⟨b, o + q * 7 + 1, none⟩ = some (.int .i64 a1) ∧ W.cell? ⟨b, o + q * 7 + 2, none⟩ = some (.int .i64 a2) ∧ W.cell? ⟨b, o + q * 7 + 3, none⟩ = some (.int .i64 a3) ∧ W.cell? ⟨b, o + q * 7 + 4, none⟩ = some (.int .i64 a4) ∧ W.cell? ⟨b, o + q * 7 + 5, none⟩ = some (.int .i64 a5) ∧ W.cell? ⟨b, o + q * 7 + 6, none⟩ = some (.int .i64 a6)) (fun _ _ => True.intro) ?_
        have hHeld1 : (fun (W : World) => W.cell? ⟨w.heap.size, 0, none⟩ = some (.int .i64 c.nodes) ∧ W.cell? ⟨w.heap.size, 1, none⟩ = some (.int .i64 c.queues) ∧ W.cell? ⟨w.heap.size, 2, none⟩ = some (.int .i64 c.quota) ∧ W.cell? ⟨w.heap.size, 3, none⟩ = some (.int .i64 c.wave) ∧ W.cell? ⟨w.heap.size, 4, none⟩ = some (.int .i64 c.lease) ∧ W.cell? ⟨w.heap.size, 5, none⟩ = some (.int .i64 c.retry) ∧ W.cell? ⟨w.heap.size, 6, none⟩ = some (.int .i64 c.deadline) ∧ W.cell? ⟨w.heap.size, 7, none⟩ = some (.int .i64 c.room) ∧ W.cell? ⟨w.heap.size, 8, none⟩ = some (.int .i64 c.disk) ∧ W.cell? ⟨w.heap.size + 1, 0, none⟩ = some (.slice An s.nodes.length cn) ∧ W.cell? ⟨w.heap.size + 1, 1, none⟩ = some (.slice Aj s.jobs.length cj) ∧ W.cell? ⟨w.heap.size + 1, 2, none⟩ = some (.int .i64 s.goal) ∧ W.cell? ⟨w.heap.size + 1, 3, none⟩ = some (.int .i64 s.prior) ∧ W.cell? ⟨w.heap.size + 1, 4, none⟩ = some (.int .i64 s.mode) ∧ W.cell? ⟨w.heap.size + 1, 5, none⟩ = some (.int .i64 s.term) ∧ W.cell? ⟨b, o + q * 7, none⟩ = some (.int .i64 z) ∧ W.cell? ⟨b, o + q * 7 + 1, none⟩ = some (.int .i64 a1) ∧ W.cell? ⟨b, o + q * 7 + 2, none⟩ = some (.int .i64 a2) ∧ W.cell? ⟨b, o + q * 7 + 3, none⟩ = some (.int .i64 a3) ∧ W.cell? ⟨b, o + q * 7 + 4, none⟩ = some (.int .i64 a4) ∧ W.cell? ⟨b, o + q * 7 + 5, none⟩ = some (.int .i64 a5) ∧ W.cell? ⟨b, o + q * 7 + 6, none⟩ = some (.int .i64 a6)) _ := HSC.out _ (by first | exact Ext.refl _ | exact ext_drew9 (Ext.refl _) | exact Below.alloc (Ext.refl _) (Nat.le_refl _) _ | exact Below.alloc (ext_drew9 (Ext.refl _)) (Nat.le_refl _) _ | exact ext_drew9 (Below.alloc (Ext.refl _) (Nat.le_refl _) _))
        clear hHeld0
        refine held_take (i := 0) (v := ?_) rfl (by kernel_rfl) (by kernel_rfl) (by kernel_rfl) (by rfl) (by first | assumption | exact True.intro) ?_ ?_
        rotate_left
        · (intro w hSw; (try dsimp only at hSw); go_simp; (try with_reducible rfl))
        try simp only [Act.put, List.setIfInBounds_toArray, List.set_cons_zero, List.set_cons_succ]
        refine held_take (i := 1) (v := ?_) rfl (by kernel_rfl) (by kernel_rfl) (by kernel_rfl) (by rfl) (by first | assumption | exact True.intro) ?_ ?_
        rotate_left
        · (intro w hSw; (try dsimp only at hSw); go_simp; (try with_reducible rfl))
        try simp only [Act.put, List.setIfInBounds_toArray, List.set_cons_zero, List.set_cons_succ]
        refine held_take (i := 2) (v := ?_) rfl (by kernel_rfl) (by kernel_rfl) (by kernel_rfl) (by rfl) (by first | assumption | exact True.intro) ?_ ?_
        rotate_left
        · (intro w hSw; (try dsimp only at hSw); go_simp; (try with_reducible rfl))
        try simp only [Act.put, List.setIfInBounds_toArray, List.set_cons_zero, List.set_cons_succ]
        refine held_take (i := 3) (v := ?_) rfl (by kernel_rfl) (by kernel_rfl) (by kernel_rfl) (by rfl) (by first | assumption | exact True.intro) ?_ ?_
        rotate_left
        · (intro w hSw; (try dsimp only at hSw); go_simp; (try with_reducible rfl))
        try simp only [Act.put, List.setIfInBounds_toArray, List.set_cons_zero, List.set_cons_succ]
        refine held_take (i := 4) (v := ?_) rfl (by kernel_rfl) (by kernel_rfl) (by kernel_rfl) (by rfl) (by first | assumption | exact True.intro) ?_ ?_
        rotate_left
        · (intro w hSw; (try dsimp only at hSw); go_simp; (try with_reducible rfl))
        try simp only [Act.put, List.setIfInBounds_toArray, List.set_cons_zero, List.set_cons_succ]
        refine held_take (i := 5) (v := ?_) rfl (by kernel_rfl) (by kernel_rfl) (by kernel_rfl) (by rfl) (by first | assumption | exact True.intro) ?_ ?_
        rotate_left
        · (intro w hSw; (try dsimp only at hSw); go_simp; (try with_reducible rfl))
        try simp only [Act.put, List.setIfInBounds_toArray, List.set_cons_zero, List.set_cons_succ]
        refine held_two (i := 6) (j := 10) (by kernel_rfl) rfl rfl (fun K hK => ?_) (fun K hK => ?_)
        · go_simp
          go_at_call 20
          (refine (HAP.out _ (by first | exact Ext.refl _ | exact ext_drew9 (Ext.refl _) | exact Below.alloc (Ext.refl _) (Nat.le_refl _) _ | exact Below.alloc (ext_drew9 (Ext.refl _)) (Nat.le_refl _) _ | exact ext_drew9 (Below.alloc (Ext.refl _) (Nat.le_refl _) _))).mono ?_)
          rintro e3 w3 ⟨vn3, vj3, s3, er3, rfl, hr3, hx3, ha3, hf3⟩
          obtain ⟨A3, c3, rfl, -, -⟩ := hr3.nodes.slice_
          obtain ⟨B3, k3, rfl, -, -⟩ := hr3.jobs.slice_
          have hx13 : Ext wr w3 := (by first | exact hx3 | exact Ext.of_drew hx3 | exact Ext.trans (Below.alloc (Ext.refl _) (Nat.le_refl _) _) hx3 | exact Ext.trans (Below.alloc (ext_drew9 (Ext.refl _)) (Nat.le_refl _) _) hx3 | exact Ext.trans (ext_drew9 (Below.alloc (Ext.refl _) (Nat.le_refl _) _)) hx3)
          refine hK _ _ ?_ (fun hHeld2 => ?_)
          · exact HSC.out _ hx13
          clear hK K hHeld1
          try simp only [Act.put, List.setIfInBounds_toArray, List.set_cons_zero, List.set_cons_succ]
          refine held_take (i := 7) (v := ?_) rfl (by kernel_rfl) (by kernel_rfl) (by kernel_rfl) (by rfl) (by first | assumption | exact True.intro) ?_ ?_
          rotate_left
          · (intro w hSw; (try dsimp only at hSw); go_simp; (try with_reducible rfl))
          try simp only [Act.put, List.setIfInBounds_toArray, List.set_cons_zero, List.set_cons_succ]
          refine held_take (i := 8) (v := ?_) rfl (by kernel_rfl) (by kernel_rfl) (by kernel_rfl) (by rfl) (by first | assumption | exact True.intro) ?_ ?_
          rotate_left
          · (intro w hSw; (try dsimp only at hSw); go_simp; (try with_reducible rfl))
          try simp only [Act.put, List.setIfInBounds_toArray, List.set_cons_zero, List.set_cons_succ]
          refine held_take (i := 9) (v := ?_) rfl (by kernel_rfl) (by kernel_rfl) (by kernel_rfl) (by rfl) (by first | assumption | exact True.intro) ?_ ?_
          rotate_left
          · (intro w hSw; (try dsimp only at hSw); go_simp; (try with_reducible rfl))
          try simp only [Act.put, List.setIfInBounds_toArray, List.set_cons_zero, List.set_cons_succ]
          refine held_op (i := 10) (by kernel_rfl) rfl (fun K hK => ?_)
          go_simp
          refine hK _ _ ?_ (fun hHeld3 => ?_)
          · exact HSC.out _ (Ext.trans hx13 (by first | exact Ext.refl _ | exact ext_drew9 (Ext.refl _) | exact Below.alloc (Ext.refl _) (Nat.le_refl _) _ | exact Below.alloc (ext_drew9 (Ext.refl _)) (Nat.le_refl _) _ | exact ext_drew9 (Below.alloc (Ext.refl _) (Nat.le_refl _) _)))
          clear hK K hHeld2
          try simp only [Act.put, List.setIfInBounds_toArray, List.set_cons_zero, List.set_cons_succ]
          refine held_op (i := 11) (by kernel_rfl) rfl (fun K hK => ?_)
          go_simp
          refine hK _ _ ?_ (fun hHeld4 => ?_)
          · exact HSC.out _ (Ext.trans hx13 (by first | exact Ext.refl _ | exact ext_drew9 (Ext.refl _) | exact Below.alloc (Ext.refl _) (Nat.le_refl _) _ | exact Below.alloc (ext_drew9 (Ext.refl _)) (Nat.le_refl _) _ | exact ext_drew9 (Below.alloc (Ext.refl _) (Nat.le_refl _) _)))
          clear hK K hHeld3
          try simp only [Act.put, List.setIfInBounds_toArray, List.set_cons_zero, List.set_cons_succ]
          refine held_take (i := 12) (v := ?_) rfl (by kernel_rfl) (by kernel_rfl) (by kernel_rfl) (by rfl) (by first | assumption | exact True.intro) ?_ ?_
          rotate_left
          · (intro w hSw; (try dsimp only at hSw); go_simp; (try with_reducible rfl))
          try simp only [Act.put, List.setIfInBounds_toArray, List.set_cons_zero, List.set_cons_succ]
          refine wpAnyH_done (by kernel_rfl) ?_ _
          refine NoPanic.normal ?_
          clear hHeld4
          go_wp2_with fail
          go_meet
          cases ha3
          exact ApCut.made hx13 hr3 (fun k hk => Nat.le_trans (by (try simp); (try omega)) (hf3 k hk))
        · go_simp
          refine hK _ _ ?_ (fun hHeld2 => ?_)
          · exact HSC.out _ (by first | exact Ext.refl _ | exact ext_drew9 (Ext.refl _) | exact Below.alloc (Ext.refl _) (Nat.le_refl _) _ | exact Below.alloc (ext_drew9 (Ext.refl _)) (Nat.le_refl _) _ | exact ext_drew9 (Below.alloc (Ext.refl _) (Nat.le_refl _) _))
          clear hK K hHeld1
          try simp only [Act.put, List.setIfInBounds_toArray, List.set_cons_zero, List.set_cons_succ]
          refine held_op (i := 6) (by kernel_rfl) rfl (fun K hK => ?_)
          go_simp
          go_at_call 20
          (refine (HAP.out _ (by first | exact Ext.refl _ | exact ext_drew9 (Ext.refl _) | exact Below.alloc (Ext.refl _) (Nat.le_refl _) _ | exact Below.alloc (ext_drew9 (Ext.refl _)) (Nat.le_refl _) _ | exact ext_drew9 (Below.alloc (Ext.refl _) (Nat.le_refl _) _))).mono ?_)
          rintro e3 w3 ⟨vn3, vj3, s3, er3, rfl, hr3, hx3, ha3, hf3⟩
          obtain ⟨A3, c3, rfl, -, -⟩ := hr3.nodes.slice_
          obtain ⟨B3, k3, rfl, -, -⟩ := hr3.jobs.slice_
          have hx13 : Ext wr w3 := (by first | exact hx3 | exact Ext.of_drew hx3 | exact Ext.trans (Below.alloc (Ext.refl _) (Nat.le_refl _) _) hx3 | exact Ext.trans (Below.alloc (ext_drew9 (Ext.refl _)) (Nat.le_refl _) _) hx3 | exact Ext.trans (ext_drew9 (Below.alloc (Ext.refl _) (Nat.le_refl _) _)) hx3)
          refine hK _ _ ?_ (fun hHeld3 => ?_)
          · exact HSC.out _ hx13
          clear hK K hHeld2
          try simp only [Act.put, List.setIfInBounds_toArray, List.set_cons_zero, List.set_cons_succ]
          have pb : Blk w3 wr.heap.size 27 #[.slice none 0 0, .slice none 0 0, .int .i64 0, .int .i64 0, .int .i64 0, .int .i64 0] := Blk.ext (by first | exact Blk.new wr _ _ | exact Blk.new wr.drew _ _) hx3
          have pbz0 : w3.cell? ⟨wr.heap.size, 0, none⟩ = some (.slice none 0 0) := pb.cell 0
          have pbf0 : w3.frozen? ⟨wr.heap.size, 0, none⟩ = false := pb.frozen 0
          have pbz1 : w3.cell? ⟨wr.heap.size, 1, none⟩ = some (.slice none 0 0) := pb.cell 1
          have pbf1 : w3.frozen? ⟨wr.heap.size, 1, none⟩ = false := pb.frozen 1
          have pbz2 : w3.cell? ⟨wr.heap.size, 2, none⟩ = some (.int .i64 0) := pb.cell 2
          have pbf2 : w3.frozen? ⟨wr.heap.size, 2, none⟩ = false := pb.frozen 2
          have pbz3 : w3.cell? ⟨wr.heap.size, 3, none⟩ = some (.int .i64 0) := pb.cell 3
          have pbf3 : w3.frozen? ⟨wr.heap.size, 3, none⟩ = false := pb.frozen 3
          have pbz4 : w3.cell? ⟨wr.heap.size, 4, none⟩ = some (.int .i64 0) := pb.cell 4
          have pbf4 : w3.frozen? ⟨wr.heap.size, 4, none⟩ = false := pb.frozen 4
          have pbz5 : w3.cell? ⟨wr.heap.size, 5, none⟩ = some (.int .i64 0) := pb.cell 5
          have pbf5 : w3.frozen? ⟨wr.heap.size, 5, none⟩ = false := pb.frozen 5
          have hq := st_set (.slice A3 s3.nodes.length c3) (.slice B3 s3.jobs.length k3) s3.goal s3.prior s3.mode s3.term pb
          refine held_take (i := 7) (v := ?_) rfl (by kernel_rfl) (by kernel_rfl) (by kernel_rfl) (by rfl) (by first | assumption | exact True.intro) ?_ ?_
          rotate_left
          · (intro w hSw; (try dsimp only at hSw); go_simp; (try with_reducible rfl))
          try simp only [Act.put, List.setIfInBounds_toArray, List.set_cons_zero, List.set_cons_succ]
          refine held_take (i := 8) (v := ?_) rfl (by kernel_rfl) (by kernel_rfl) (by kernel_rfl) (by rfl) (by first | assumption | exact True.intro) ?_ ?_
          rotate_left
          · (intro w hSw; (try dsimp only at hSw); go_simp; (try with_reducible rfl))
          try simp only [Act.put, List.setIfInBounds_toArray, List.set_cons_zero, List.set_cons_succ]
          refine held_take (i := 9) (v := ?_) rfl (by kernel_rfl) (by kernel_rfl) (by kernel_rfl) (by rfl) (by first | assumption | exact True.intro) ?_ ?_
          rotate_left
          · (intro w hSw; (try dsimp only at hSw); go_simp; (try with_reducible rfl))
          try simp only [Act.put, List.setIfInBounds_toArray, List.set_cons_zero, List.set_cons_succ]
          refine held_op (i := 11) (by kernel_rfl) rfl (fun K hK => ?_)
          go_simp
          refine hK _ _ ?_ (fun hHeld4 => ?_)
          · exact HSC.out _ (hq.below _ _ hx13 (Nat.le_refl _))
          clear hK K hHeld3
          try simp only [Act.put, List.setIfInBounds_toArray, List.set_cons_zero, List.set_cons_succ]
          refine held_take (i := 12) (v := ?_) rfl (by kernel_rfl) (by kernel_rfl) (by kernel_rfl) (by rfl) (by first | assumption | exact True.intro) ?_ ?_
          rotate_left
          · (intro w hSw; (try dsimp only at hSw); go_simp; (try with_reducible rfl))
          try simp only [Act.put, List.setIfInBounds_toArray, List.set_cons_zero, List.set_cons_succ]
          refine wpAnyH_done (by kernel_rfl) ?_ _
          refine NoPanic.normal ?_
          clear hHeld4
          go_wp2_with fail
          go_meet
          cases ha3
          exact ApCut.ahead hx13 hr3 hq (fun k hk => by have := hf3 k hk; simp at this; omega)
      case rest =>
        obtain ⟨g, un, uj, rfl, rfl, hg, hxc, hsc, hk⟩ := hcut.out
        dsimp only at hsc hk
        obtain ⟨Bn, dn, rfl, -, -⟩ := hsc.rd.nodes.slice_
        obtain ⟨Bj, dj, rfl, -, -⟩ := hsc.rd.jobs.slice_
        have HXC := Lib.hid (HXR.out.trans (hxc.mono HXR.out.size))
        have HBC := Lib.hid (HBR.out.ext hxc)
        have HSS := Lib.hid (HSR.out.ext hxc)
        have HST := Lib.hid hsc
        have HKK : Hid (∀ k, (Value.slice Bn t.nodes.length dn).ownBlock = some k ∨ (Value.slice Bj t.jobs.length dj).ownBlock = some k → k ≠ w.heap.size + 1) := Lib.hid fun k h e => by
          have h1 := hk k h
          have h2 := HSR.out.blk.lt
          omega
        clear hcut hxc hsc hk HXR HBR HSR HAP HSC hg
        have HRC : Hid (∀ W, Ext wc W → Calls Tryd.prog 18 #[.agg #[.int .i64 c.nodes, .int .i64 c.queues, .int .i64 c.quota, .int .i64 c.wave, .int .i64 c.lease, .int .i64 c.retry, .int .i64 c.deadline, .int .i64 c.room, .int .i64 c.disk], .agg #[.slice Bn t.nodes.length dn, .slice Bj t.jobs.length dj, .int .i64 t.goal, .int .i64 t.prior, .int .i64 t.mode, .int .i64 t.term]] W fun e w' => e = .returned (.bool true) ∧ Ext W w') := Lib.hid fun W hx => Right_at (HST.out.rd.ext hx) HRT.out
        have HSM : Hid (∀ W, Ext wc W → Calls Tryd.prog 15 #[.agg #[.slice An s.nodes.length cn, .slice Aj s.jobs.length cj, .int .i64 s.goal, .int .i64 s.prior, .int .i64 s.mode, .int .i64 s.term], .agg #[.slice Bn t.nodes.length dn, .slice Bj t.jobs.length dj, .int .i64 t.goal, .int .i64 t.prior, .int .i64 t.mode, .int .i64 t.term]] W fun e w' => ∃ b, e = .returned (.bool b) ∧ (b = true ↔ s = t) ∧ Ext W w') := Lib.hid fun W hx => Same09_any _ _ _ _ s t W (HSS.out.rd.ext hx) (HST.out.rd.ext hx)
        have k0 : wc.cell? ⟨w.heap.size, 0, none⟩ = some (.int .i64 c.nodes) := HBC.out.cell 0
        have k1 : wc.cell? ⟨w.heap.size, 1, none⟩ = some (.int .i64 c.queues) := HBC.out.cell 1
        have k2 : wc.cell? ⟨w.heap.size, 2, none⟩ = some (.int .i64 c.quota) := HBC.out.cell 2
        have k3 : wc.cell? ⟨w.heap.size, 3, none⟩ = some (.int .i64 c.wave) := HBC.out.cell 3
        have k4 : wc.cell? ⟨w.heap.size, 4, none⟩ = some (.int .i64 c.lease) := HBC.out.cell 4
        have k5 : wc.cell? ⟨w.heap.size, 5, none⟩ = some (.int .i64 c.retry) := HBC.out.cell 5
        have k6 : wc.cell? ⟨w.heap.size, 6, none⟩ = some (.int .i64 c.deadline) := HBC.out.cell 6
        have k7 : wc.cell? ⟨w.heap.size, 7, none⟩ = some (.int .i64 c.room) := HBC.out.cell 7
        have k8 : wc.cell? ⟨w.heap.size, 8, none⟩ = some (.int .i64 c.disk) := HBC.out.cell 8
        have t0 : wc.cell? ⟨g, 0, none⟩ = some (.slice Bn t.nodes.length dn) := HST.out.blk.cell 0
        have t1 : wc.cell? ⟨g, 1, none⟩ = some (.slice Bj t.jobs.length dj) := HST.out.blk.cell 1
        have t2 : wc.cell? ⟨g, 2, none⟩ = some (.int .i64 t.goal) := HST.out.blk.cell 2
        have t3 : wc.cell? ⟨g, 3, none⟩ = some (.int .i64 t.prior) := HST.out.blk.cell 3
        have t4 : wc.cell? ⟨g, 4, none⟩ = some (.int .i64 t.mode) := HST.out.blk.cell 4
        have t5 : wc.cell? ⟨g, 5, none⟩ = some (.int .i64 t.term) := HST.out.blk.cell 5
        go_wp2_with fail
        refine (HRC.out wc (Ext.refl _)).mono ?_
        rintro e4 w4 ⟨rfl, hx4⟩
        have HX := Lib.hid hx4
        clear hx4 HRC k0 k1 k2 k3 k4 k5 k6 k7 k8 t0 t1 t2 t3 t4 t5
        by_cases he : er = 0
        · have e1 : (er != 0) = false := by rw [he]; rfl
          clear he
          obtain ⟨wf, hwf, hsf, hsame, hsize, hbel⟩ := (HSS.out.ext HX.out).put (HST.out.ext HX.out) (fun _ k h => HKK.out k (.inl h)) (fun _ k h => HKK.out k (.inr h))
          have HKR2 : Hid (KR9 w c t wf) := Lib.hid ⟨⟨_, _, hbel _ _ (HXC.out.trans (HX.out.mono HXC.out.size)) (Nat.le_succ _), (hsame _ (by omega)).trans (HBC.out.ext HX.out), hsf, HRT.out⟩⟩
          have u0_ := (HST.out.blk.ext HX.out).cell 0
          have s0_ := (HSS.out.blk.ext HX.out).cell 0
          have f0_ := (HSS.out.blk.ext HX.out).frozen 0
          have u1_ := (HST.out.blk.ext HX.out).cell 1
          have s1_ := (HSS.out.blk.ext HX.out).cell 1
          have f1_ := (HSS.out.blk.ext HX.out).frozen 1
          have u2_ := (HST.out.blk.ext HX.out).cell 2
          have s2_ := (HSS.out.blk.ext HX.out).cell 2
          have f2_ := (HSS.out.blk.ext HX.out).frozen 2
          have u3_ := (HST.out.blk.ext HX.out).cell 3
          have s3_ := (HSS.out.blk.ext HX.out).cell 3
          have f3_ := (HSS.out.blk.ext HX.out).frozen 3
          have u4_ := (HST.out.blk.ext HX.out).cell 4
          have s4_ := (HSS.out.blk.ext HX.out).cell 4
          have f4_ := (HSS.out.blk.ext HX.out).frozen 4
          have u5_ := (HST.out.blk.ext HX.out).cell 5
          have s5_ := (HSS.out.blk.ext HX.out).cell 5
          have f5_ := (HSS.out.blk.ext HX.out).frozen 5
          simp only [List.getElem?_toArray, List.getElem?_cons_succ, List.getElem?_cons_zero] at u0_ s0_ u1_ s1_ u2_ s2_ u3_ s3_ u4_ s4_ u5_ s5_
          clear hsf hsame hsize hbel HX
          go_wp2_with fail
          rw [← hwf]
          go_roundg (l.length - (q + 1))
          case measure => have := HLT.out; omega
          case rel => exact ⟨q + 1, t, by go_num, HLT.out, rfl, HKR2⟩
        · have e1 : (er != 0) = true := by rw [bne_iff_ne]; exact he
          have HEQ := Lib.hid (HER.out he)
          clear he
          have k0 : w4.cell? ⟨w.heap.size + 1, 0, none⟩ = some (.slice An s.nodes.length cn) := (HSS.out.blk.ext HX.out).cell 0
          have k1 : w4.cell? ⟨w.heap.size + 1, 1, none⟩ = some (.slice Aj s.jobs.length cj) := (HSS.out.blk.ext HX.out).cell 1
          have k2 : w4.cell? ⟨w.heap.size + 1, 2, none⟩ = some (.int .i64 s.goal) := (HSS.out.blk.ext HX.out).cell 2
          have k3 : w4.cell? ⟨w.heap.size + 1, 3, none⟩ = some (.int .i64 s.prior) := (HSS.out.blk.ext HX.out).cell 3
          have k4 : w4.cell? ⟨w.heap.size + 1, 4, none⟩ = some (.int .i64 s.mode) := (HSS.out.blk.ext HX.out).cell 4
          have k5 : w4.cell? ⟨w.heap.size + 1, 5, none⟩ = some (.int .i64 s.term) := (HSS.out.blk.ext HX.out).cell 5
          have t0 : w4.cell? ⟨g, 0, none⟩ = some (.slice Bn t.nodes.length dn) := (HST.out.blk.ext HX.out).cell 0
          have t1 : w4.cell? ⟨g, 1, none⟩ = some (.slice Bj t.jobs.length dj) := (HST.out.blk.ext HX.out).cell 1
          have t2 : w4.cell? ⟨g, 2, none⟩ = some (.int .i64 t.goal) := (HST.out.blk.ext HX.out).cell 2
          have t3 : w4.cell? ⟨g, 3, none⟩ = some (.int .i64 t.prior) := (HST.out.blk.ext HX.out).cell 3
          have t4 : w4.cell? ⟨g, 4, none⟩ = some (.int .i64 t.mode) := (HST.out.blk.ext HX.out).cell 4
          have t5 : w4.cell? ⟨g, 5, none⟩ = some (.int .i64 t.term) := (HST.out.blk.ext HX.out).cell 5
          go_wp2_with fail
          refine (HSM.out w4 HX.out).mono ?_
          rintro e5 w5 ⟨b, rfl, hb, hx5⟩
          obtain rfl := hb.2 HEQ.out
          have HX5 := Lib.hid (HX.out.trans hx5)
          clear hb hx5 HX k0 k1 k2 k3 k4 k5 t0 t1 t2 t3 t4 t5
          obtain ⟨wf, hwf, hsf, hsame, hsize, hbel⟩ := (HSS.out.ext HX5.out).put (HST.out.ext HX5.out) (fun _ k h => HKK.out k (.inl h)) (fun _ k h => HKK.out k (.inr h))
          have HKR2 : Hid (KR9 w c t wf) := Lib.hid ⟨⟨_, _, hbel _ _ (HXC.out.trans (HX5.out.mono HXC.out.size)) (Nat.le_succ _), (hsame _ (by omega)).trans (HBC.out.ext HX5.out), hsf, HRT.out⟩⟩
          have u0_ := (HST.out.blk.ext HX5.out).cell 0
          have s0_ := (HSS.out.blk.ext HX5.out).cell 0
          have f0_ := (HSS.out.blk.ext HX5.out).frozen 0
          have u1_ := (HST.out.blk.ext HX5.out).cell 1
          have s1_ := (HSS.out.blk.ext HX5.out).cell 1
          have f1_ := (HSS.out.blk.ext HX5.out).frozen 1
          have u2_ := (HST.out.blk.ext HX5.out).cell 2
          have s2_ := (HSS.out.blk.ext HX5.out).cell 2
          have f2_ := (HSS.out.blk.ext HX5.out).frozen 2
          have u3_ := (HST.out.blk.ext HX5.out).cell 3
          have s3_ := (HSS.out.blk.ext HX5.out).cell 3
          have f3_ := (HSS.out.blk.ext HX5.out).frozen 3
          have u4_ := (HST.out.blk.ext HX5.out).cell 4
          have s4_ := (HSS.out.blk.ext HX5.out).cell 4
          have f4_ := (HSS.out.blk.ext HX5.out).frozen 4
          have u5_ := (HST.out.blk.ext HX5.out).cell 5
          have s5_ := (HSS.out.blk.ext HX5.out).cell 5
          have f5_ := (HSS.out.blk.ext HX5.out).frozen 5
          simp only [List.getElem?_toArray, List.getElem?_cons_succ, List.getElem?_cons_zero] at u0_ s0_ u1_ s1_ u2_ s2_ u3_ s3_ u4_ s4_ u5_ s5_
          clear hsf hsame hsize hbel HX5
          go_wp2_with fail
          rw [← hwf]
          go_roundg (l.length - (q + 1))
          case measure => have := HLT.out; omega
          case rel => exact ⟨q + 1, t, by go_num, HLT.out, rfl, HKR2⟩
    · have d1 : decide ((q : Int) < (l.length : Int)) = false := decide_eq_false (by omega)
      have d1' : decide (q < l.length) = false := decide_eq_false hlt
      have HXE : Hid (Ext w wr) := Lib.hid (by obtain ⟨_, _, h, _⟩ := HK.out.out; exact h)
      clear HK hlt
      go_wp2
      go_ret
      exact ⟨rfl, HXE.out⟩

set_option maxRecDepth 100000 in
theorem BookStays_lifted (os : Os) (started : os.Started) (H : Type) (enc : TypeId × Value → H) :
    ReturnsInHanded {} Tryd.checked os 6 .any (fun w args => (Rows.bookStaysSpec.pre enc Tryd.prog Tryd.f6 [] false w args ∧ laidMetH Tryd.prog Rows.bookStaysRow.laid w) ∧ sizedMet enc Tryd.prog Tryd.f6 (OpenSpec.ofChange Rows.bookStaysSpec) false w args) (Rows.bookStaysSpec.post enc Tryd.prog Tryd.f6 false true false false) := by
  refine law_liftL (C := Tryd.checked) (tb := 4) Rows.bookStaysRow.laid Tryd.ownKnob started (by kernel_rfl) Tryd.func6 Tryd.laidOut (by kernel_rfl) rfl Tryd.underlying4 rfl rfl ?_
    (ChangeSpec.witness_shaped (enc := enc) (C := Tryd.checked) (os := os) (X := fun w _ => laidMetH Tryd.prog Rows.bookStaysRow.laid w) false (World.laidAll Tryd.prog os Rows.bookStaysRow.laid) #[.agg #[.int .i64 0, .int .i64 0, .int .i64 0, .int .i64 0, .int .i64 0, .int .i64 0, .int .i64 0, .int .i64 0, .int .i64 0], .agg #[.slice none 0 0, .slice none 0 0, .int .i64 0, .int .i64 0, .int .i64 0, .int .i64 0], .slice none 0 0] 8 (World.laidAll_os _ _ _)
      (World.shaped_of_ZipB (by kernel_rfl) (by kernel_rfl)) (by kernel_rfl) (by kernel_rfl) (by kernel_rfl)
      (by rw [MakeChecks.laidMetH_plain _ _ _ (by kernel_rfl)]; exact laidMet_laidAll _ (by kernel_rfl) (by kernel_rfl))) ?_
  · intro ds hd
    rw [Tryd.params6] at hd
    match ds, hd with
    | [d0, d1, d2], _ => rfl
  · intro W base args ds p hval hA hsz hL0 hsh
    have hL : laidMetH Tryd.prog Rows.bookStaysRow.laid W := hL0
    rw [MakeChecks.laidMetH_plain _ _ _ (by kernel_rfl)] at hL
    have hLd : Laid W := laid_of _ hL (by repeat (first | exact List.Mem.head _ | apply List.Mem.tail))
    rw [Tryd.params6] at hA hval hsz
    obtain ⟨v0, vs0, d0, ds0, p0, q0, hargs, rfl, rfl, h0, r0_⟩ := trodAll_cons hA
    obtain ⟨v1, vs1, d1, ds1, p1, q1, rfl, rfl, rfl, h1, r1_⟩ := trodAll_cons r0_
    obtain ⟨v2, vs2, d2, ds2, p2, q2, rfl, rfl, rfl, h2, r2_⟩ := trodAll_cons r1_
    obtain ⟨rfl, rfl, rfl⟩ := trodAll_nil r2_
    obtain rfl : args = #[v0, v1, v2] := by cases args; simp_all
    obtain ⟨a0, rfl⟩ := dec_conf (hval 0 23 v0 rfl rfl) h0
    obtain ⟨vn1, vj1, a1, rfl, r1⟩ := dec_state (hval 1 27 v1 rfl rfl) h1
    obtain ⟨a2, r2⟩ := dec_ops (hval 2 42 v2 rfl rfl) h2
    exact BookStays_calls a0 vn1 vj1 a1 v2 a2 W r1 r2 hLd

theorem BookStays_row : Rows.BookStaysSaid :=
  OpenClaim.holds_of_wide 6 Tryd.f6 rfl rfl rfl rfl rfl rfl rfl ⟨rfl, rfl, rfl, rfl, rfl⟩ rfl rfl rfl rfl rfl (by kernel_rfl) Tryd.func6 (by kernel_rfl)
    (of_decide_eq_true (by kernel_rfl)) (by unfold Func.isWrapper; first | (rw [if_pos (by decide +kernel)]; kernel_rfl) | (rw [if_neg (by decide +kernel)]; exact ⟨rfl, rfl⟩))
    (fun os started H enc _ => BookStays_lifted os started H enc)

/-- THE TIED CARD. -/
theorem BookStays_holds : Rows.BookStaysCardSaid :=
  Claim7.holds_tied_plain_at .later [] Rows.bookStaysCard.laidKinds true Rows.bookStaysCard.stood.harness Rows.bookStaysCard.stood.looks
    BookStays_row (fun _ h => by cases h) (by kernel_rfl) (fun _ h => by cases h) bookStays_row_tie rfl ⟨rfl, rfl⟩ (by kernel_rfl) rfl
    (fun f fn hf hfn => by
      obtain rfl : f = 6 := Option.some.inj ((show Tryd.prog.funcNamed "dunnage/dunnagelaw09.BookStays" = some 6 by kernel_rfl).symm.trans hf) |>.symm
      obtain rfl : fn = Tryd.f6 := (Option.some.inj (Tryd.func6.symm.trans hfn)).symm
      exact ⟨by kernel_rfl, fun j t ht => by
        rw [Tryd.params6] at ht
        have hm : t ∈ [23, 27, 42] := by simpa using Array.mem_of_getElem? ht
        have hall : ([23, 27, 42].all fun u => !Tryd.prog.wantsStandIn u) = true := by kernel_rfl
        exact (show Tryd.prog.wantsStandIn t = false by simpa using List.all_eq_true.1 hall t hm)⟩)
    (by kernel_rfl)

end Go.Proofs.YtmgbgpendpiahaaDoor
