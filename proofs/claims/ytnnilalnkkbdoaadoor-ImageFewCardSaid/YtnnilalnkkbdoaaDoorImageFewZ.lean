/- For every input ImageFew returns true: a state that may be has at most 900 bytes, and each beginning of them is none's; with the listed package-level variable as the program's text lays it. -/
import Derived.Test.YtnnilalnkkbdoaaDoorGQ14
import Derived.Test.YtnnilalnkkbdoaaDoorCards
import Derived.Test.YtnnilalnkkbdoaaDoorTie
import Derived.SevenTiedAt
import Derived.Deep.DeepCutAuto
import Derived.Deep.CutBlock
import Derived.Deep.LoopGhost
import Derived.BigQuiet
import Derived.Deep.RegionHeld3
namespace Go.Proofs.YtnnilalnkkbdoaaDoor
open Go.ChangeShapes Go.WideShapes Go.ChangeAt Go.RowKit

theorem rd_takeB {w : World} {A : Option Addr} {N c n : Nat} {bs : List UInt8} (h : Rd w (.slice A N c) (bs.map B)) (hn : n ≤ bs.length) : Rd w (.slice A n c) ((bs.take n).map B) := by
  obtain ⟨A', c', e, h1, h2, h3⟩ := h
  injection e with e1 e2 e3
  subst e1 e2 e3
  have hl : ((bs.take n).map B).length = n := by rw [List.length_map, List.length_take, Nat.min_eq_left hn]
  rw [List.length_map] at h1 h3
  refine ⟨A, c, by rw [hl], by rw [hl]; omega, h2, fun h0 => ?_⟩
  rw [hl] at h0
  obtain ⟨b, o, hA, hb, hc⟩ := h3 (by omega)
  refine ⟨b, o, hA, hb, fun j u hu => hc j u ?_⟩
  rw [List.map_take] at hu
  have hj : j < n := by
    have := (List.getElem?_eq_some_iff.1 hu).1
    rw [List.length_take] at this
    omega
  rwa [List.getElem?_take_of_lt hj] at hu

set_option maxRecDepth 100000 in
set_option maxHeartbeats 8000000 in
theorem ImageFew_calls (c : Cf) (vn vj : Value) (s : St) (w : World) (h : RdSt w vn vj s) (hL : LaidI w) :
    Calls Tryd.prog 9 #[cfV c, stV vn vj s] w fun e w' => e = .returned (.bool true) ∧ Ext w w' := by
  obtain ⟨An, cn, rfl, -, -⟩ := h.nodes.slice_
  obtain ⟨Aj, cj, rfl, -, -⟩ := h.jobs.slice_
  obtain ⟨W1, hW1, hx1, hb0, hb1⟩ := two_blocks w 23 27 #[.int .i64 c.nodes, .int .i64 c.queues, .int .i64 c.quota, .int .i64 c.wave, .int .i64 c.lease, .int .i64 c.retry, .int .i64 c.deadline, .int .i64 c.room, .int .i64 c.disk] #[.slice An s.nodes.length cn, .slice Aj s.jobs.length cj, .int .i64 s.goal, .int .i64 s.prior, .int .i64 s.mode, .int .i64 s.term]
  have HB1 := Lib.hid hb0
  have HS1 := Lib.hid hb1
  have HX1 := Lib.hid hx1
  have HL := Lib.hid hL
  have HR1 := Lib.hid (h.ext hx1)
  have HAL := Lib.hid (alive10_any W1 (hL.ext hx1))
  have HRT := Lib.hid fun W (hx : Ext w W) => RightS_any c _ _ s W (h.ext hx).nodes (h.ext hx).jobs
  unfold cfV stV at HRT
  unfold cfV stV
  clear hx1 hb0 hb1 h hL
  go_enter Tryd.func9, Tryd.ntmps9
  go_upto_region 1 with (fail)
  rw [← hW1]
  clear hW1
  go_wp2_with fail
  refine HAL.out.mono ?_
  rintro e1 w1 ⟨rfl, hx1⟩
  have HX2 := Lib.hid (HX1.out.trans hx1)
  have HB2 := Lib.hid (HB1.out.ext hx1)
  have HS2 := Lib.hid (HS1.out.ext hx1)
  have HR2 := Lib.hid (HR1.out.ext hx1)
  clear hx1 HX1 HB1 HS1 HR1 HAL
  have s0 : w1.cell? ⟨w.heap.size + 1, 0, none⟩ = some (.slice An s.nodes.length cn) := HS2.out.cell 0
  have s1 : w1.cell? ⟨w.heap.size + 1, 1, none⟩ = some (.slice Aj s.jobs.length cj) := HS2.out.cell 1
  have s2 : w1.cell? ⟨w.heap.size + 1, 2, none⟩ = some (.int .i64 s.goal) := HS2.out.cell 2
  have s3 : w1.cell? ⟨w.heap.size + 1, 3, none⟩ = some (.int .i64 s.prior) := HS2.out.cell 3
  have s4 : w1.cell? ⟨w.heap.size + 1, 4, none⟩ = some (.int .i64 s.mode) := HS2.out.cell 4
  have s5 : w1.cell? ⟨w.heap.size + 1, 5, none⟩ = some (.int .i64 s.term) := HS2.out.cell 5
  have k0 : w1.cell? ⟨w.heap.size, 0, none⟩ = some (.int .i64 c.nodes) := HB2.out.cell 0
  have k1 : w1.cell? ⟨w.heap.size, 1, none⟩ = some (.int .i64 c.queues) := HB2.out.cell 1
  have k2 : w1.cell? ⟨w.heap.size, 2, none⟩ = some (.int .i64 c.quota) := HB2.out.cell 2
  have k3 : w1.cell? ⟨w.heap.size, 3, none⟩ = some (.int .i64 c.wave) := HB2.out.cell 3
  have k4 : w1.cell? ⟨w.heap.size, 4, none⟩ = some (.int .i64 c.lease) := HB2.out.cell 4
  have k5 : w1.cell? ⟨w.heap.size, 5, none⟩ = some (.int .i64 c.retry) := HB2.out.cell 5
  have k6 : w1.cell? ⟨w.heap.size, 6, none⟩ = some (.int .i64 c.deadline) := HB2.out.cell 6
  have k7 : w1.cell? ⟨w.heap.size, 7, none⟩ = some (.int .i64 c.room) := HB2.out.cell 7
  have k8 : w1.cell? ⟨w.heap.size, 8, none⟩ = some (.int .i64 c.disk) := HB2.out.cell 8
  by_cases h1 : 50 < s.nodes.length
  · have d1 : decide ((50 : Int) < (s.nodes.length : Int)) = true := decide_eq_true (by omega)
    have d1' : decide (50 < s.nodes.length) = true := decide_eq_true h1
    clear h1
    go_wp2
    go_ret
    exact ⟨rfl, HX2.out⟩
  have d1 : decide ((50 : Int) < (s.nodes.length : Int)) = false := decide_eq_false (by omega)
  have d1' : decide (50 < s.nodes.length) = false := decide_eq_false h1
  clear h1
  by_cases h2 : 100 < s.jobs.length
  · have d2 : decide ((100 : Int) < (s.jobs.length : Int)) = true := decide_eq_true (by omega)
    have d2' : decide (100 < s.jobs.length) = true := decide_eq_true h2
    clear h2
    go_wp2
    go_ret
    exact ⟨rfl, HX2.out⟩
  have d2 : decide ((100 : Int) < (s.jobs.length : Int)) = false := decide_eq_false (by omega)
  have d2' : decide (100 < s.jobs.length) = false := decide_eq_false h2
  clear h2
  go_wp2_with fail
  refine (HRT.out w1 HX2.out).mono ?_
  rintro e3 w3 ⟨b, rfl, hb, hx3⟩
  have HRB := Lib.hid hb
  have HX3 := Lib.hid (HX2.out.trans hx3)
  have HS3 := Lib.hid (HS2.out.ext hx3)
  have HB3 := Lib.hid (HB2.out.ext hx3)
  have HR3 := Lib.hid (HR2.out.ext hx3)
  clear hb hx3 HX2 HS2 HB2 HR2 HRT d1 d1' d2 d2' s0 s1 s2 s3 s4 s5 k0 k1 k2 k3 k4 k5 k6 k7 k8
  cases b
  case false =>
    go_wp2
    go_ret
    exact ⟨rfl, HX3.out⟩
  have HRP : Hid (RightP c s) := Lib.hid (HRB.out.1 (by trivial))
  clear HRB
  have s0 : w3.cell? ⟨w.heap.size + 1, 0, none⟩ = some (.slice An s.nodes.length cn) := HS3.out.cell 0
  have s1 : w3.cell? ⟨w.heap.size + 1, 1, none⟩ = some (.slice Aj s.jobs.length cj) := HS3.out.cell 1
  have s2 : w3.cell? ⟨w.heap.size + 1, 2, none⟩ = some (.int .i64 s.goal) := HS3.out.cell 2
  have s3 : w3.cell? ⟨w.heap.size + 1, 3, none⟩ = some (.int .i64 s.prior) := HS3.out.cell 3
  have s4 : w3.cell? ⟨w.heap.size + 1, 4, none⟩ = some (.int .i64 s.mode) := HS3.out.cell 4
  have s5 : w3.cell? ⟨w.heap.size + 1, 5, none⟩ = some (.int .i64 s.term) := HS3.out.cell 5
  go_wp2_with fail
  refine (ImgPut_any _ _ s w3 HR3.out).mono ?_
  rintro e4 w4 ⟨v, rfl, hr4, hx4⟩
  obtain ⟨bs, hbs⟩ : ∃ bs, bs = imgB s := ⟨_, rfl⟩
  rw [← hbs] at hr4
  have HIM : Hid (IsImg c bs s) := Lib.hid ⟨HRP.out, hbs.symm⟩
  have hfew := HRP.out.few
  rw [← hbs] at hfew
  clear hbs
  have HRD := Lib.hid hr4
  obtain ⟨A, cv, rfl, hlc, hcm, -⟩ := hr4
  rw [List.length_map] at *
  unfold maxLen at hcm
  have HX4 := Lib.hid (HX3.out.trans hx4)
  have HB4 := Lib.hid (HB3.out.ext hx4)
  clear hx4 HX3 HB3 HS3 HR3 HRP s0 s1 s2 s3 s4 s5
  have d3 : decide ((bs.length : Int) < 10) = false := decide_eq_false (by omega)
  have d3' : decide (bs.length < 10) = false := decide_eq_false (by omega)
  have d4 : decide ((900 : Int) < (bs.length : Int)) = false := decide_eq_false (by omega)
  have d4' : decide (900 < bs.length) = false := decide_eq_false (by omega)
  go_wp2_with fail
  go_loopg [6] bs.length (fun gg i wr => ∃ q : Nat, i = .int .i64 q ∧ q ≤ bs.length ∧ gg = bs.length - q ∧ Hid (Ext w4 wr))
  case atStart => exact ⟨0, rfl, Nat.zero_le _, by omega, Lib.hid (Ext.refl _)⟩
  case round =>
    obtain ⟨q, rfl, hq, rfl, HE⟩ := hrel
    by_cases hlt : q < bs.length
    · have e1 : decide ((q : Int) < (bs.length : Int)) = true := decide_eq_true (by omega)
      have e1' : decide (q < bs.length) = true := decide_eq_true hlt
      have HLT := Lib.hid hlt
      have x1 : (0 : Int) ≤ (q : Int) := by omega
      have x2 : (q : Int) ≤ (cv : Int) := by omega
      have x2' : q ≤ cv := by omega
      have x3 : 0 ≤ q := Nat.zero_le _
      have HSC : Hid (∀ W, Ext wr W → W.cell? ⟨w.heap.size, 0, none⟩ = some (.int .i64 c.nodes) ∧ W.cell? ⟨w.heap.size, 1, none⟩ = some (.int .i64 c.queues) ∧ W.cell? ⟨w.heap.size, 2, none⟩ = some (.int .i64 c.quota) ∧ W.cell? ⟨w.heap.size, 3, none⟩ = some (.int .i64 c.wave) ∧ W.cell? ⟨w.heap.size, 4, none⟩ = some (.int .i64 c.lease) ∧ W.cell? ⟨w.heap.size, 5, none⟩ = some (.int .i64 c.retry) ∧ W.cell? ⟨w.heap.size, 6, none⟩ = some (.int .i64 c.deadline) ∧ W.cell? ⟨w.heap.size, 7, none⟩ = some (.int .i64 c.room) ∧ W.cell? ⟨w.heap.size, 8, none⟩ = some (.int .i64 c.disk)) := Lib.hid fun W hx => ⟨((HB4.out.ext HE.out).ext hx).cell 0, ((HB4.out.ext HE.out).ext hx).cell 1, ((HB4.out.ext HE.out).ext hx).cell 2, ((HB4.out.ext HE.out).ext hx).cell 3, ((HB4.out.ext HE.out).ext hx).cell 4, ((HB4.out.ext HE.out).ext hx).cell 5, ((HB4.out.ext HE.out).ext hx).cell 6, ((HB4.out.ext HE.out).ext hx).cell 7, ((HB4.out.ext HE.out).ext hx).cell 8⟩
      have HGT : Hid (∀ W, Ext wr W → Calls Tryd.prog 30 #[.agg #[.int .i64 c.nodes, .int .i64 c.queues, .int .i64 c.quota, .int .i64 c.wave, .int .i64 c.lease, .int .i64 c.retry, .int .i64 c.deadline, .int .i64 c.room, .int .i64 c.disk], .slice A q cv] W fun e w' => ∃ vn vj s', e = .returned (.tuple #[.agg #[vn, vj, .int .i64 s'.goal, .int .i64 s'.prior, .int .i64 s'.mode, .int .i64 s'.term], .bool false]) ∧ RdSt w' vn vj s' ∧ Ext W w') := Lib.hid fun W hx => by
        have hrt := rd_takeB ((HRD.out.ext HE.out).ext hx) (Nat.le_of_lt hlt)
        refine (ImgGet_any c (bs.take q) _ W hrt (by rw [List.length_take]; omega) (HL.out.ext ((HX4.out.trans HE.out).trans hx))).mono ?_
        rintro e w' ⟨vn, vj, s', ok, rfl, hs, hy, -, h1, h2⟩
        cases ok
        · exact ⟨vn, vj, s', rfl, hs, hy⟩
        · have := HIM.out.first (h1 rfl); omega
      clear hlt hq
      go_wp2_with fail
      go_cut [7, 8] (fun p e wx => e = .bool false ∧ Hid (Ext wr wx))
      case first =>
        refine held_begin (by kernel_rfl) ?_
        have hHeld0 : True := True.intro
        refine held_more (S' := fun (W : World) => W.cell? ⟨w.heap.size, 0, none⟩ = some (.int .i64 c.nodes) ∧ W.cell? ⟨w.heap.size, 1, none⟩ = some (.int .i64 c.queues) ∧ W.cell? ⟨w.heap.size, 2, none⟩ = some (.int .i64 c.quota) ∧ W.cell? ⟨w.heap.size, 3, none⟩ = some (.int .i64 c.wave) ∧ W.cell? ⟨w.heap.size, 4, none⟩ = some (.int .i64 c.lease) ∧ W.cell? ⟨w.heap.size, 5, none⟩ = some (.int .i64 c.retry) ∧ W.cell? ⟨w.heap.size, 6, none⟩ = some (.int .i64 c.deadline) ∧ W.cell? ⟨w.heap.size, 7, none⟩ = some (.int .i64 c.room) ∧ W.cell? ⟨w.heap.size, 8, none⟩ = some (.int .i64 c.disk)) (fun _ _ => True.intro) ?_
        have hHeld1 : (fun (W : World) => W.cell? ⟨w.heap.size, 0, none⟩ = some (.int .i64 c.nodes) ∧ W.cell? ⟨w.heap.size, 1, none⟩ = some (.int .i64 c.queues) ∧ W.cell? ⟨w.heap.size, 2, none⟩ = some (.int .i64 c.quota) ∧ W.cell? ⟨w.heap.size, 3, none⟩ = some (.int .i64 c.wave) ∧ W.cell? ⟨w.heap.size, 4, none⟩ = some (.int .i64 c.lease) ∧ W.cell? ⟨w.heap.size, 5, none⟩ = some (.int .i64 c.retry) ∧ W.cell? ⟨w.heap.size, 6, none⟩ = some (.int .i64 c.deadline) ∧ W.cell? ⟨w.heap.size, 7, none⟩ = some (.int .i64 c.room) ∧ W.cell? ⟨w.heap.size, 8, none⟩ = some (.int .i64 c.disk)) _ := HSC.out _ (by first | exact Ext.refl _ | exact ext_drew9 (Ext.refl _) | exact Below.alloc (Ext.refl _) (Nat.le_refl _) _ | exact Below.alloc (ext_drew9 (Ext.refl _)) (Nat.le_refl _) _ | exact ext_drew9 (Below.alloc (Ext.refl _) (Nat.le_refl _) _))
        clear hHeld0
        refine held_take (i := 0) (v := ?_) rfl (by kernel_rfl) (by kernel_rfl) (by kernel_rfl) (by rfl) (by first | assumption | exact True.intro) ?_ ?_
        rotate_left
        · (intro w hSw; (try dsimp only at hSw); go_simp; (try with_reducible rfl))
        try simp only [Act.put, List.setIfInBounds_toArray, List.set_cons_zero, List.set_cons_succ]
        refine held_take (i := 1) (v := ?_) rfl (by kernel_rfl) (by kernel_rfl) (by kernel_rfl) (by rfl) (by first | assumption | exact True.intro) ?_ ?_
        rotate_left
        · (intro w hSw; (try dsimp only at hSw); go_simp; (try with_reducible rfl))
        try simp only [Act.put, List.setIfInBounds_toArray, List.set_cons_zero, List.set_cons_succ]
        refine held_take (i := 2) (v := ?_) rfl (by kernel_rfl) (by kernel_rfl) (by kernel_rfl) (by rfl) (by first | assumption | exact True.intro) ?_ ?_
        rotate_left
        · (intro w hSw; (try dsimp only at hSw); go_simp; (try with_reducible rfl))
        try simp only [Act.put, List.setIfInBounds_toArray, List.set_cons_zero, List.set_cons_succ]
        refine held_take (i := 3) (v := ?_) rfl (by kernel_rfl) (by kernel_rfl) (by kernel_rfl) (by rfl) (by first | assumption | exact True.intro) ?_ ?_
        rotate_left
        · (intro w hSw; (try dsimp only at hSw); go_simp; (try with_reducible rfl))
        try simp only [Act.put, List.setIfInBounds_toArray, List.set_cons_zero, List.set_cons_succ]
        refine held_two (i := 4) (j := 8) (by kernel_rfl) rfl rfl (fun K hK => ?_) (fun K hK => ?_)
        · go_simp
          go_at_call 30
          (refine (HGT.out _ (by first | exact Ext.refl _ | exact ext_drew9 (Ext.refl _) | exact Below.alloc (Ext.refl _) (Nat.le_refl _) _ | exact Below.alloc (ext_drew9 (Ext.refl _)) (Nat.le_refl _) _ | exact ext_drew9 (Below.alloc (Ext.refl _) (Nat.le_refl _) _))).mono ?_)
          rintro e3 w3 ⟨vn3, vj3, s3, rfl, hr3, hx3⟩
          obtain ⟨A3, c3, rfl, -, -⟩ := hr3.nodes.slice_
          obtain ⟨B3, k3, rfl, -, -⟩ := hr3.jobs.slice_
          have hx13 : Ext wr w3 := (by first | exact hx3 | exact Ext.of_drew hx3 | exact Ext.trans (Below.alloc (Ext.refl _) (Nat.le_refl _) _) hx3 | exact Ext.trans (Below.alloc (ext_drew9 (Ext.refl _)) (Nat.le_refl _) _) hx3 | exact Ext.trans (ext_drew9 (Below.alloc (Ext.refl _) (Nat.le_refl _) _)) hx3)
          refine hK _ _ ?_ (fun hHeld2 => ?_)
          · exact HSC.out _ hx13
          clear hK K hHeld1
          try simp only [Act.put, List.setIfInBounds_toArray, List.set_cons_zero, List.set_cons_succ]
          refine held_take (i := 5) (v := ?_) rfl (by kernel_rfl) (by kernel_rfl) (by kernel_rfl) (by rfl) (by first | assumption | exact True.intro) ?_ ?_
          rotate_left
          · (intro w hSw; (try dsimp only at hSw); go_simp; (try with_reducible rfl))
          try simp only [Act.put, List.setIfInBounds_toArray, List.set_cons_zero, List.set_cons_succ]
          refine held_take (i := 6) (v := ?_) rfl (by kernel_rfl) (by kernel_rfl) (by kernel_rfl) (by rfl) (by first | assumption | exact True.intro) ?_ ?_
          rotate_left
          · (intro w hSw; (try dsimp only at hSw); go_simp; (try with_reducible rfl))
          try simp only [Act.put, List.setIfInBounds_toArray, List.set_cons_zero, List.set_cons_succ]
          refine held_take (i := 7) (v := ?_) rfl (by kernel_rfl) (by kernel_rfl) (by kernel_rfl) (by rfl) (by first | assumption | exact True.intro) ?_ ?_
          rotate_left
          · (intro w hSw; (try dsimp only at hSw); go_simp; (try with_reducible rfl))
          try simp only [Act.put, List.setIfInBounds_toArray, List.set_cons_zero, List.set_cons_succ]
          refine held_op (i := 8) (by kernel_rfl) rfl (fun K hK => ?_)
          go_simp
          refine hK _ _ ?_ (fun hHeld3 => ?_)
          · exact HSC.out _ (Ext.trans hx13 (by first | exact Ext.refl _ | exact ext_drew9 (Ext.refl _) | exact Below.alloc (Ext.refl _) (Nat.le_refl _) _ | exact Below.alloc (ext_drew9 (Ext.refl _)) (Nat.le_refl _) _ | exact ext_drew9 (Below.alloc (Ext.refl _) (Nat.le_refl _) _)))
          clear hK K hHeld2
          try simp only [Act.put, List.setIfInBounds_toArray, List.set_cons_zero, List.set_cons_succ]
          refine held_op (i := 9) (by kernel_rfl) rfl (fun K hK => ?_)
          go_simp
          refine hK _ _ ?_ (fun hHeld4 => ?_)
          · exact HSC.out _ (Ext.trans hx13 (by first | exact Ext.refl _ | exact ext_drew9 (Ext.refl _) | exact Below.alloc (Ext.refl _) (Nat.le_refl _) _ | exact Below.alloc (ext_drew9 (Ext.refl _)) (Nat.le_refl _) _ | exact ext_drew9 (Below.alloc (Ext.refl _) (Nat.le_refl _) _)))
          clear hK K hHeld3
          try simp only [Act.put, List.setIfInBounds_toArray, List.set_cons_zero, List.set_cons_succ]
          refine held_take (i := 10) (v := ?_) rfl (by kernel_rfl) (by kernel_rfl) (by kernel_rfl) (by rfl) (by first | assumption | exact True.intro) ?_ ?_
          rotate_left
          · (intro w hSw; (try dsimp only at hSw); go_simp; (try with_reducible rfl))
          try simp only [Act.put, List.setIfInBounds_toArray, List.set_cons_zero, List.set_cons_succ]
          refine wpAnyH_done (by kernel_rfl) ?_ _
          refine NoPanic.normal ?_
          clear hHeld4
          go_wp2_with fail
          go_meet
          exact ⟨rfl, Lib.hid (Ext.trans hx13 ((Below.refl _ _).alloc (Nat.le_refl _) _))⟩
        · go_simp
          refine hK _ _ ?_ (fun hHeld2 => ?_)
          · exact HSC.out _ (by first | exact Ext.refl _ | exact ext_drew9 (Ext.refl _) | exact Below.alloc (Ext.refl _) (Nat.le_refl _) _ | exact Below.alloc (ext_drew9 (Ext.refl _)) (Nat.le_refl _) _ | exact ext_drew9 (Below.alloc (Ext.refl _) (Nat.le_refl _) _))
          clear hK K hHeld1
          try simp only [Act.put, List.setIfInBounds_toArray, List.set_cons_zero, List.set_cons_succ]
          refine held_op (i := 4) (by kernel_rfl) rfl (fun K hK => ?_)
          go_simp
          go_at_call 30
          (refine (HGT.out _ (by first | exact Ext.refl _ | exact ext_drew9 (Ext.refl _) | exact Below.alloc (Ext.refl _) (Nat.le_refl _) _ | exact Below.alloc (ext_drew9 (Ext.refl _)) (Nat.le_refl _) _ | exact ext_drew9 (Below.alloc (Ext.refl _) (Nat.le_refl _) _))).mono ?_)
          rintro e3 w3 ⟨vn3, vj3, s3, rfl, hr3, hx3⟩
          obtain ⟨A3, c3, rfl, -, -⟩ := hr3.nodes.slice_
          obtain ⟨B3, k3, rfl, -, -⟩ := hr3.jobs.slice_
          have hx13 : Ext wr w3 := (by first | exact hx3 | exact Ext.of_drew hx3 | exact Ext.trans (Below.alloc (Ext.refl _) (Nat.le_refl _) _) hx3 | exact Ext.trans (Below.alloc (ext_drew9 (Ext.refl _)) (Nat.le_refl _) _) hx3 | exact Ext.trans (ext_drew9 (Below.alloc (Ext.refl _) (Nat.le_refl _) _)) hx3)
          refine hK _ _ ?_ (fun hHeld3 => ?_)
          · exact HSC.out _ hx13
          clear hK K hHeld2
          try simp only [Act.put, List.setIfInBounds_toArray, List.set_cons_zero, List.set_cons_succ]
          have pb : Blk w3 wr.heap.size 27 #[.slice none 0 0, .slice none 0 0, .int .i64 0, .int .i64 0, .int .i64 0, .int .i64 0] := Blk.ext (by first | exact Blk.new wr _ _ | exact Blk.new wr.drew _ _) hx3
          have pbz0 : w3.cell? ⟨wr.heap.size, 0, none⟩ = some (.slice none 0 0) := pb.cell 0
          have pbf0 : w3.frozen? ⟨wr.heap.size, 0, none⟩ = false := pb.frozen 0
          have pbz1 : w3.cell? ⟨wr.heap.size, 1, none⟩ = some (.slice none 0 0) := pb.cell 1
          have pbf1 : w3.frozen? ⟨wr.heap.size, 1, none⟩ = false := pb.frozen 1
          have pbz2 : w3.cell? ⟨wr.heap.size, 2, none⟩ = some (.int .i64 0) := pb.cell 2
          have pbf2 : w3.frozen? ⟨wr.heap.size, 2, none⟩ = false := pb.frozen 2
          have pbz3 : w3.cell? ⟨wr.heap.size, 3, none⟩ = some (.int .i64 0) := pb.cell 3
          have pbf3 : w3.frozen? ⟨wr.heap.size, 3, none⟩ = false := pb.frozen 3
          have pbz4 : w3.cell? ⟨wr.heap.size, 4, none⟩ = some (.int .i64 0) := pb.cell 4
          have pbf4 : w3.frozen? ⟨wr.heap.size, 4, none⟩ = false := pb.frozen 4
          have pbz5 : w3.cell? ⟨wr.heap.size, 5, none⟩ = some (.int .i64 0) := pb.cell 5
          have pbf5 : w3.frozen? ⟨wr.heap.size, 5, none⟩ = false := pb.frozen 5
          have hq := st_set (.slice A3 s3.nodes.length c3) (.slice B3 s3.jobs.length k3) s3.goal s3.prior s3.mode s3.term pb
          refine held_take (i := 5) (v := ?_) rfl (by kernel_rfl) (by kernel_rfl) (by kernel_rfl) (by rfl) (by first | assumption | exact True.intro) ?_ ?_
          rotate_left
          · (intro w hSw; (try dsimp only at hSw); go_simp; (try with_reducible rfl))
          try simp only [Act.put, List.setIfInBounds_toArray, List.set_cons_zero, List.set_cons_succ]
          refine held_take (i := 6) (v := ?_) rfl (by kernel_rfl) (by kernel_rfl) (by kernel_rfl) (by rfl) (by first | assumption | exact True.intro) ?_ ?_
          rotate_left
          · (intro w hSw; (try dsimp only at hSw); go_simp; (try with_reducible rfl))
          try simp only [Act.put, List.setIfInBounds_toArray, List.set_cons_zero, List.set_cons_succ]
          refine held_take (i := 7) (v := ?_) rfl (by kernel_rfl) (by kernel_rfl) (by kernel_rfl) (by rfl) (by first | assumption | exact True.intro) ?_ ?_
          rotate_left
          · (intro w hSw; (try dsimp only at hSw); go_simp; (try with_reducible rfl))
          try simp only [Act.put, List.setIfInBounds_toArray, List.set_cons_zero, List.set_cons_succ]
          refine held_op (i := 9) (by kernel_rfl) rfl (fun K hK => ?_)
          go_simp
          refine hK _ _ ?_ (fun hHeld4 => ?_)
          · exact HSC.out _ (hq.below _ _ hx13 (Nat.le_refl _))
          clear hK K hHeld3
          try simp only [Act.put, List.setIfInBounds_toArray, List.set_cons_zero, List.set_cons_succ]
          refine held_take (i := 10) (v := ?_) rfl (by kernel_rfl) (by kernel_rfl) (by kernel_rfl) (by rfl) (by first | assumption | exact True.intro) ?_ ?_
          rotate_left
          · (intro w hSw; (try dsimp only at hSw); go_simp; (try with_reducible rfl))
          try simp only [Act.put, List.setIfInBounds_toArray, List.set_cons_zero, List.set_cons_succ]
          refine wpAnyH_done (by kernel_rfl) ?_ _
          refine NoPanic.normal ?_
          clear hHeld4
          go_wp2_with fail
          go_meet
          exact ⟨rfl, Lib.hid (hq.below _ _ hx13 (Nat.le_refl _))⟩
      case rest =>
      obtain ⟨rfl, HE2⟩ := hcut
      have HE3 := Lib.hid (HE.out.trans HE2.out)
      clear HE2 HSC HGT
      go_wp2
      go_roundg (bs.length - (q + 1))
      case measure => have := HLT.out; omega
      case rel => exact ⟨q + 1, by first | go_num | (rw [IntWalk.wrap64_in _ (by have := HLT.out; omega)]; first | rfl | simp), HLT.out, rfl, HE3⟩
    · have e1 : decide ((q : Int) < (bs.length : Int)) = false := decide_eq_false (by omega)
      have e1' : decide (q < bs.length) = false := decide_eq_false hlt
      have HX9 := Lib.hid (HX4.out.trans HE.out)
      clear hlt hq HE
      go_wp2
      go_ret
      exact ⟨rfl, HX9.out⟩

set_option maxRecDepth 100000 in
theorem ImageFew_lifted (os : Os) (started : os.Started) (H : Type) (enc : TypeId × Value → H) :
    ReturnsInHanded {} Tryd.checked os 9 .any (fun w args => (Rows.imageFewSpec.pre enc Tryd.prog Tryd.f9 [] false w args ∧ laidMetH Tryd.prog Rows.imageFewRow.laid w) ∧ sizedMet enc Tryd.prog Tryd.f9 (OpenSpec.ofChange Rows.imageFewSpec) false w args) (Rows.imageFewSpec.post enc Tryd.prog Tryd.f9 false true false false) := by
  refine law_liftL (C := Tryd.checked) (tb := 4) Rows.imageFewRow.laid Tryd.ownKnob started (by kernel_rfl) Tryd.func9 Tryd.laidOut (by kernel_rfl) rfl Tryd.underlying4 rfl rfl ?_
    (ChangeSpec.witness_shaped (enc := enc) (C := Tryd.checked) (os := os) (X := fun w _ => laidMetH Tryd.prog Rows.imageFewRow.laid w) false (World.laidAll Tryd.prog os Rows.imageFewRow.laid) #[.agg #[.int .i64 0, .int .i64 0, .int .i64 0, .int .i64 0, .int .i64 0, .int .i64 0, .int .i64 0, .int .i64 0, .int .i64 0], .agg #[.slice none 0 0, .slice none 0 0, .int .i64 0, .int .i64 0, .int .i64 0, .int .i64 0]] 8 (World.laidAll_os _ _ _)
      (World.shaped_of_ZipB (by kernel_rfl) (by kernel_rfl)) (by kernel_rfl) (by kernel_rfl) (by kernel_rfl)
      (by rw [MakeChecks.laidMetH_plain _ _ _ (by kernel_rfl)]; exact laidMet_laidAll _ (by kernel_rfl) (by kernel_rfl))) ?_
  · intro ds hd
    rw [Tryd.params9] at hd
    match ds, hd with
    | [d0, d1], _ => rfl
  · intro W base args ds p hval hA hsz hL0 hsh
    have hL : laidMetH Tryd.prog Rows.imageFewRow.laid W := hL0
    rw [MakeChecks.laidMetH_plain _ _ _ (by kernel_rfl)] at hL
    have hLd : LaidI W := laidI_of _ hL (by repeat (first | exact List.Mem.head _ | apply List.Mem.tail))
    rw [Tryd.params9] at hA hval hsz
    obtain ⟨v0, vs0, d0, ds0, p0, q0, hargs, rfl, rfl, h0, r0_⟩ := trodAll_cons hA
    obtain ⟨v1, vs1, d1, ds1, p1, q1, rfl, rfl, rfl, h1, r1_⟩ := trodAll_cons r0_
    obtain ⟨rfl, rfl, rfl⟩ := trodAll_nil r1_
    obtain rfl : args = #[v0, v1] := by cases args; simp_all
    obtain ⟨a0, rfl⟩ := dec_conf (hval 0 23 v0 rfl rfl) h0
    obtain ⟨vn1, vj1, a1, rfl, r1⟩ := dec_state (hval 1 27 v1 rfl rfl) h1
    exact ImageFew_calls a0 vn1 vj1 a1 W r1 hLd

theorem ImageFew_row : Rows.ImageFewSaid :=
  OpenClaim.holds_of_wide 9 Tryd.f9 rfl rfl rfl rfl rfl rfl rfl ⟨rfl, rfl, rfl, rfl, rfl⟩ rfl rfl rfl rfl rfl (by kernel_rfl) Tryd.func9 (by kernel_rfl)
    (of_decide_eq_true (by kernel_rfl)) (by unfold Func.isWrapper; first | (rw [if_pos (by decide +kernel)]; kernel_rfl) | (rw [if_neg (by decide +kernel)]; exact ⟨rfl, rfl⟩))
    (fun os started H enc _ => ImageFew_lifted os started H enc)

/-- THE TIED CARD. -/
theorem ImageFew_holds : Rows.ImageFewCardSaid :=
  Claim7.holds_tied_plain_at .later [] Rows.imageFewCard.laidKinds true Rows.imageFewCard.stood.harness Rows.imageFewCard.stood.looks
    ImageFew_row (fun _ h => by cases h) (by kernel_rfl) (fun _ h => by cases h) imageFew_row_tie rfl ⟨rfl, rfl⟩ (by kernel_rfl) rfl
    (fun f fn hf hfn => by
      obtain rfl : f = 9 := Option.some.inj ((show Tryd.prog.funcNamed "dunnage/dunnagelaw10.ImageFew" = some 9 by kernel_rfl).symm.trans hf) |>.symm
      obtain rfl : fn = Tryd.f9 := (Option.some.inj (Tryd.func9.symm.trans hfn)).symm
      exact ⟨by kernel_rfl, fun j t ht => by
        rw [Tryd.params9] at ht
        have hm : t ∈ [23, 27] := by simpa using Array.mem_of_getElem? ht
        have hall : ([23, 27].all fun u => !Tryd.prog.wantsStandIn u) = true := by kernel_rfl
        exact (show Tryd.prog.wantsStandIn t = false by simpa using List.all_eq_true.1 hall t hm)⟩)
    (by kernel_rfl)

end Go.Proofs.YtnnilalnkkbdoaaDoor
