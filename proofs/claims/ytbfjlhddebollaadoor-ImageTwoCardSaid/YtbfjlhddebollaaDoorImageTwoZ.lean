/- For every input ImageTwo returns true: two states that may be have the same bytes just if they are the same; with the listed package-level variables as the program's text lays them. -/
import Derived.Test.YtbfjlhddebollaaDoorHQ13
import Derived.Test.YtbfjlhddebollaaDoorCards
import Derived.Test.YtbfjlhddebollaaDoorTie
import Derived.SevenTiedAt
import Derived.Deep.DeepCutAuto
import Derived.Deep.CutBlock
import Derived.Deep.LoopGhost
import Derived.BigQuiet
import Derived.Deep.RegionHeld3
namespace Go.Proofs.YtbfjlhddebollaaDoor
open Go.ChangeShapes Go.WideShapes Go.ChangeAt Go.RowKit

/-- What the two listed variables hold. -/
structure LaidT (w : World) : Prop where
  a : Laid w
  b : LaidI w
theorem laidT_of {W : World} (L : List (String × DataW Unit)) (h : laidMet Tryd.prog L W) (m1 : ("dunnage/ops.counts", Rows.laid_dunnage_ops_counts) ∈ L) (m2 : ("dunnage/image.errGivenUp", Rows.laid_dunnage_image_errGivenUp) ∈ L) : LaidT W := ⟨laid_of L h m1, laidI_of L h m2⟩
theorem RdS.chg {K n g : Nat} {w w' : World} {v : Value} {xs : List Value} (h : RdS K w v n xs) (hc : Chg (fun k => k = g) w w') (ho : offG g v n) : RdS K w' v n xs := by
  obtain ⟨h0, A, c, e, h1, h2, h3⟩ := h
  refine ⟨h0, A, c, e, h1, h2, fun hn => ?_⟩
  obtain ⟨b, o, hA, hlt, hce⟩ := h3 hn
  refine ⟨b, o, hA, Nat.lt_of_lt_of_le hlt hc.size, fun j u hu => ?_⟩
  have := hc.block b hlt (ho hn b (by rw [e, hA]; rfl))
  exact (World.cell?_of_block (a := ⟨b, o + j, none⟩) this).trans (hce j u hu)
theorem RdSt.chg {g : Nat} {w w' : World} {vn vj : Value} {s : St} (h : RdSt w vn vj s) (hc : Chg (fun k => k = g) w w') (ho : offG g vn s.nodes.length ∧ offG g vj s.jobs.length) : RdSt w' vn vj s := ⟨h.nodes.chg hc ho.1, h.jobs.chg hc ho.2⟩

set_option maxRecDepth 100000 in
set_option maxHeartbeats 8000000 in
theorem ImageTwo_calls (c : Cf) (vn vj : Value) (s : St) (v : Value) (l : List OpN) (w : World) (h : RdSt w vn vj s) (hl : RdOps w v l) (hL : LaidT w) :
    Calls Tryd.prog 5 #[cfV c, stV vn vj s, v] w fun e w' => e = .returned (.bool true) ∧ Ext w w' := by
  obtain ⟨A, cp, rfl, hlc, hcm, hAT⟩ := ops_cells hl
  obtain ⟨An, cn, rfl, -, -⟩ := h.nodes.slice_
  obtain ⟨Aj, cj, rfl, -, -⟩ := h.jobs.slice_
  obtain ⟨W1, hW1, hx1, hb0, hb1⟩ := two_blocks w 23 30 #[.int .i64 c.nodes, .int .i64 c.queues, .int .i64 c.quota, .int .i64 c.wave, .int .i64 c.lease, .int .i64 c.retry, .int .i64 c.deadline, .int .i64 c.room, .int .i64 c.disk] #[.slice An s.nodes.length cn, .slice Aj s.jobs.length cj, .int .i64 s.goal, .int .i64 s.prior, .int .i64 s.mode, .int .i64 s.term]
  have HB1 := Lib.hid hb0
  have HS1 := Lib.hid hb1
  have HX1 := Lib.hid hx1
  have HL := Lib.hid hL
  have HAT := Lib.hid hAT
  have HR0 := Lib.hid h
  have HAL := Lib.hid (alive10_any W1 (hL.b.ext hx1))
  have HRT := Lib.hid fun W (hx : Ext w W) => RightS_any c _ _ s W (h.ext hx).nodes (h.ext hx).jobs
  unfold cfV stV at HRT
  unfold cfV stV
  clear hx1 hb0 hb1 h hL hAT hl
  go_enter Tryd.func5, Tryd.ntmps5
  go_upto_region 1 with (fail)
  rw [← hW1]
  clear hW1
  go_wp2_with fail
  refine HAL.out.mono ?_
  rintro e1 w1 ⟨rfl, hx1⟩
  have HX2 := Lib.hid (HX1.out.trans hx1)
  have HB2 := Lib.hid (HB1.out.ext hx1)
  have HS2 := Lib.hid (HS1.out.ext hx1)
  clear hx1 HX1 HB1 HS1 HAL
  have s0 : w1.cell? ⟨w.heap.size + 1, 0, none⟩ = some (.slice An s.nodes.length cn) := HS2.out.cell 0
  have s1 : w1.cell? ⟨w.heap.size + 1, 1, none⟩ = some (.slice Aj s.jobs.length cj) := HS2.out.cell 1
  have s2 : w1.cell? ⟨w.heap.size + 1, 2, none⟩ = some (.int .i64 s.goal) := HS2.out.cell 2
  have s3 : w1.cell? ⟨w.heap.size + 1, 3, none⟩ = some (.int .i64 s.prior) := HS2.out.cell 3
  have s4 : w1.cell? ⟨w.heap.size + 1, 4, none⟩ = some (.int .i64 s.mode) := HS2.out.cell 4
  have s5 : w1.cell? ⟨w.heap.size + 1, 5, none⟩ = some (.int .i64 s.term) := HS2.out.cell 5
  have k0 : w1.cell? ⟨w.heap.size, 0, none⟩ = some (.int .i64 c.nodes) := HB2.out.cell 0
  have k1 : w1.cell? ⟨w.heap.size, 1, none⟩ = some (.int .i64 c.queues) := HB2.out.cell 1
  have k2 : w1.cell? ⟨w.heap.size, 2, none⟩ = some (.int .i64 c.quota) := HB2.out.cell 2
  have k3 : w1.cell? ⟨w.heap.size, 3, none⟩ = some (.int .i64 c.wave) := HB2.out.cell 3
  have k4 : w1.cell? ⟨w.heap.size, 4, none⟩ = some (.int .i64 c.lease) := HB2.out.cell 4
  have k5 : w1.cell? ⟨w.heap.size, 5, none⟩ = some (.int .i64 c.retry) := HB2.out.cell 5
  have k6 : w1.cell? ⟨w.heap.size, 6, none⟩ = some (.int .i64 c.deadline) := HB2.out.cell 6
  have k7 : w1.cell? ⟨w.heap.size, 7, none⟩ = some (.int .i64 c.room) := HB2.out.cell 7
  have k8 : w1.cell? ⟨w.heap.size, 8, none⟩ = some (.int .i64 c.disk) := HB2.out.cell 8
  by_cases h1 : 50 < s.nodes.length
  · have d1 : decide ((50 : Int) < (s.nodes.length : Int)) = true := decide_eq_true (by omega)
    have d1' : decide (50 < s.nodes.length) = true := decide_eq_true h1
    clear h1
    go_wp2
    go_ret
    exact ⟨rfl, HX2.out⟩
  have d1 : decide ((50 : Int) < (s.nodes.length : Int)) = false := decide_eq_false (by omega)
  have d1' : decide (50 < s.nodes.length) = false := decide_eq_false h1
  clear h1
  by_cases h2 : 100 < s.jobs.length
  · have d2 : decide ((100 : Int) < (s.jobs.length : Int)) = true := decide_eq_true (by omega)
    have d2' : decide (100 < s.jobs.length) = true := decide_eq_true h2
    clear h2
    go_wp2
    go_ret
    exact ⟨rfl, HX2.out⟩
  have d2 : decide ((100 : Int) < (s.jobs.length : Int)) = false := decide_eq_false (by omega)
  have d2' : decide (100 < s.jobs.length) = false := decide_eq_false h2
  clear h2
  by_cases h3 : 50 < l.length
  · have d3 : decide ((50 : Int) < (l.length : Int)) = true := decide_eq_true (by omega)
    have d3' : decide (50 < l.length) = true := decide_eq_true h3
    clear h3
    go_wp2
    go_ret
    exact ⟨rfl, HX2.out⟩
  have d3 : decide ((50 : Int) < (l.length : Int)) = false := decide_eq_false (by omega)
  have d3' : decide (50 < l.length) = false := decide_eq_false h3
  have HLN : Hid (l.length ≤ 50) := Lib.hid (by omega)
  clear h3
  go_wp2_with fail
  refine (HRT.out w1 HX2.out).mono ?_
  rintro e3 w3 ⟨b, rfl, hb, hx3⟩
  have HRB := Lib.hid hb
  have HX3 := Lib.hid (HX2.out.trans hx3)
  have HS3 := Lib.hid (HS2.out.ext hx3)
  have HB3 := Lib.hid (HB2.out.ext hx3)
  clear hb hx3 HX2 HS2 HB2 HRT d1 d1' d2 d2' d3 d3' s0 s1 s2 s3 s4 s5 k0 k1 k2 k3 k4 k5 k6 k7 k8
  cases b
  case false =>
    go_wp2
    go_ret
    exact ⟨rfl, HX3.out⟩
  have HRP : Hid (RightP c s) := Lib.hid (HRB.out.1 (by trivial))
  clear HRB
  have s0 : w3.cell? ⟨w.heap.size + 1, 0, none⟩ = some (.slice An s.nodes.length cn) := HS3.out.cell 0
  have s1 : w3.cell? ⟨w.heap.size + 1, 1, none⟩ = some (.slice Aj s.jobs.length cj) := HS3.out.cell 1
  have s2 : w3.cell? ⟨w.heap.size + 1, 2, none⟩ = some (.int .i64 s.goal) := HS3.out.cell 2
  have s3 : w3.cell? ⟨w.heap.size + 1, 3, none⟩ = some (.int .i64 s.prior) := HS3.out.cell 3
  have s4 : w3.cell? ⟨w.heap.size + 1, 4, none⟩ = some (.int .i64 s.mode) := HS3.out.cell 4
  have s5 : w3.cell? ⟨w.heap.size + 1, 5, none⟩ = some (.int .i64 s.term) := HS3.out.cell 5
  obtain ⟨w5, hw5⟩ : ∃ W, W = w3.alloc (.cells #[.slice An s.nodes.length cn, .slice Aj s.jobs.length cj, .int .i64 s.goal, .int .i64 s.prior, .int .i64 s.mode, .int .i64 s.term] 30) := ⟨_, rfl⟩
  have hx5 : Ext w3 w5 := by rw [hw5]; exact (Below.refl _ _).alloc (Nat.le_refl _) _
  have hb5 : Blk w5 w3.heap.size 30 #[.slice An s.nodes.length cn, .slice Aj s.jobs.length cj, .int .i64 s.goal, .int .i64 s.prior, .int .i64 s.mode, .int .i64 s.term] := by rw [hw5]; exact Blk.new _ _ _
  have HX5 := Lib.hid (HX3.out.trans hx5)
  have HB5 := Lib.hid (HB3.out.ext hx5)
  have HS5 := Lib.hid (HS3.out.ext hx5)
  have HRS5 : Hid (RdSt w5 (.slice An s.nodes.length cn) (.slice Aj s.jobs.length cj) s) := Lib.hid (HR0.out.ext HX5.out)
  have hg7 : w.heap.size + 1 < w3.heap.size := HS3.out.lt
  have HOF : Hid (offG w3.heap.size (.slice An s.nodes.length cn) s.nodes.length ∧ offG w3.heap.size (.slice Aj s.jobs.length cj) s.jobs.length) := Lib.hid ⟨.of_lt HR0.out.nodes HX3.out.size, .of_lt HR0.out.jobs HX3.out.size⟩
  have HST : Hid (SAt w5 w3.heap.size (.slice An s.nodes.length cn) (.slice Aj s.jobs.length cj) s) := Lib.hid ⟨hb5, HRS5.out, HOF.out.1, HOF.out.2⟩
  have HG7 := Lib.hid hg7
  clear hx5 hb5 hg7 HX3 HB3 HS3 HR0
  go_upto_region 6 with (fail)
  rw [← hw5]
  clear hw5 s0 s1 s2 s3 s4 s5
  generalize w3.heap.size = g7 at *
  go_wp2_with fail
  go_loopg [8] l.length (fun gg i wr => ∃ (q : Nat) (t : St), i = .int .i64 q ∧ q ≤ l.length ∧ gg = l.length - q ∧ Hid (Chg (fun k => k = g7) w5 wr ∧ RightP c t ∧ ∃ tn tj, SAt wr g7 tn tj t))
  case atStart => exact ⟨0, s, rfl, Nat.zero_le _, by omega, Lib.hid ⟨Chg.refl _ _, HRP.out, _, _, HST.out⟩⟩
  case round =>
    obtain ⟨q, t, rfl, hq, rfl, HK⟩ := hrel
    clear HST
    obtain ⟨tn, tj, hst⟩ := HK.out.2.2
    obtain ⟨Tn, pn, rfl, -, -⟩ := hst.rd.nodes.slice_
    obtain ⟨Tj, pj, rfl, -, -⟩ := hst.rd.jobs.slice_
    have HSR := Lib.hid hst
    clear hst
    by_cases hlt : q < l.length
    · have d1 : decide ((q : Int) < (l.length : Int)) = true := decide_eq_true (by omega)
      have d1' : decide (q < l.length) = true := decide_eq_true hlt
      have HLT := Lib.hid hlt
      obtain ⟨⟨z, a1, a2, a3, a4, a5, a6⟩, hop⟩ : ∃ o, l[q]? = some o := ⟨_, List.getElem?_eq_getElem hlt⟩
      obtain ⟨b, o, rfl, hb, hat⟩ := HAT.out q _ hop
      have x1 : (0 : Int) ≤ (q : Int) ∧ (q : Int) < (l.length : Int) := by omega
      obtain ⟨⟨t2, er⟩, hap⟩ : ∃ r, r = applyS c t (z, a1, a2, a3, a4, a5, a6) := ⟨_, rfl⟩
      obtain ⟨u0, hu⟩ : ∃ u, u = wr.drew := ⟨_, rfl⟩
      have hxu : Ext wr u0 := by rw [hu]; exact ext_drew9 (Ext.refl _)
      have hc0 : Chg (fun k => k = g7) w5 u0 := HK.out.1.trans (Chg.of_ext hxu) (fun _ _ h => h)
      have HSC : Hid (∀ W, Chg (fun k => k = g7) w5 W → W.cell? ⟨w.heap.size, 0, none⟩ = some (.int .i64 c.nodes) ∧ W.cell? ⟨w.heap.size, 1, none⟩ = some (.int .i64 c.queues) ∧ W.cell? ⟨w.heap.size, 2, none⟩ = some (.int .i64 c.quota) ∧ W.cell? ⟨w.heap.size, 3, none⟩ = some (.int .i64 c.wave) ∧ W.cell? ⟨w.heap.size, 4, none⟩ = some (.int .i64 c.lease) ∧ W.cell? ⟨w.heap.size, 5, none⟩ = some (.int .i64 c.retry) ∧ W.cell? ⟨w.heap.size, 6, none⟩ = some (.int .i64 c.deadline) ∧ W.cell? ⟨w.heap.size, 7, none⟩ = some (.int .i64 c.room) ∧ W.cell? ⟨w.heap.size, 8, none⟩ = some (.int .i64 c.disk) ∧ W.cell? ⟨b, o + q * 7, none⟩ = some (.int .i64 z) ∧ W.cell? ⟨b, o + q * 7 + 1, none⟩ = some (.int .i64 a1) ∧ W.cell? ⟨b, o + q * 7 + 2, none⟩ = some (.int .i64 a2) ∧ W.cell? ⟨b, o + q * 7 + 3, none⟩ = some (.int .i64 a3) ∧ W.cell? ⟨b, o + q * 7 + 4, none⟩ = some (.int .i64 a4) ∧ W.cell? ⟨b, o + q * 7 + 5, none⟩ = some (.int .i64 a5) ∧ W.cell? ⟨b, o + q * 7 + 6, none⟩ = some (.int .i64 a6)) := Lib.hid fun W hc => by
        have hbk : Blk W w.heap.size 23 #[.int .i64 c.nodes, .int .i64 c.queues, .int .i64 c.quota, .int .i64 c.wave, .int .i64 c.lease, .int .i64 c.retry, .int .i64 c.deadline, .int .i64 c.room, .int .i64 c.disk] := (hc.block _ HB5.out.lt (by have := HG7.out; intro h; have h : w.heap.size = g7 := h; omega)).trans HB5.out
        have hbb : W.heap[b]? = w5.heap[b]? := hc.block b (Nat.lt_of_lt_of_le hb HX5.out.size) (by have := HG7.out; intro h; have h : b = g7 := h; omega)
        have ho := hat.low HX5.out hb
        exact ⟨hbk.cell 0, hbk.cell 1, hbk.cell 2, hbk.cell 3, hbk.cell 4, hbk.cell 5, hbk.cell 6, hbk.cell 7, hbk.cell 8, (World.cell?_of_block (a := ⟨b, o + q * 7, none⟩) hbb).trans ho.c0, (World.cell?_of_block (a := ⟨b, o + q * 7 + 1, none⟩) hbb).trans ho.c1, (World.cell?_of_block (a := ⟨b, o + q * 7 + 2, none⟩) hbb).trans ho.c2, (World.cell?_of_block (a := ⟨b, o + q * 7 + 3, none⟩) hbb).trans ho.c3, (World.cell?_of_block (a := ⟨b, o + q * 7 + 4, none⟩) hbb).trans ho.c4, (World.cell?_of_block (a := ⟨b, o + q * 7 + 5, none⟩) hbb).trans ho.c5, (World.cell?_of_block (a := ⟨b, o + q * 7 + 6, none⟩) hbb).trans ho.c6⟩
      have hs0 := HSR.out.ext hxu
      have HS0 := Lib.hid hs0
      have HAP : Hid (Calls Tryd.prog 10 #[.agg #[.int .i64 c.nodes, .int .i64 c.queues, .int .i64 c.quota, .int .i64 c.wave, .int .i64 c.lease, .int .i64 c.retry, .int .i64 c.deadline, .int .i64 c.room, .int .i64 c.disk], .agg #[.slice Tn t.nodes.length pn, .slice Tj t.jobs.length pj, .int .i64 t.goal, .int .i64 t.prior, .int .i64 t.mode, .int .i64 t.term], .agg #[.int .i64 z, .int .i64 a1, .int .i64 a2, .int .i64 a3, .int .i64 a4, .int .i64 a5, .int .i64 a6]] u0 fun e w' => ∃ vn' vj', e = .returned (.tuple #[.agg #[vn', vj', .int .i64 t2.goal, .int .i64 t2.prior, .int .i64 t2.mode, .int .i64 t2.term], .int .i64 er]) ∧ RdSt w' vn' vj' t2 ∧ Ext u0 w' ∧ ∀ k, vn'.ownBlock = some k ∨ vj'.ownBlock = some k → u0.heap.size ≤ k) := Lib.hid (Apply_at hs0.rd (HL.out.a.ext (hc0.ext HX5.out (fun k hk => by have hk : k = g7 := hk; have := HG7.out; omega))) HK.out.2.1 hap.symm)
      have HRT : Hid (RightP c t2) := Lib.hid (by have := HK.out.2.1.apply (z, a1, a2, a3, a4, a5, a6); rw [← hap] at this; exact this)
      have HC0 := Lib.hid hc0
      have y0 : u0.cell? ⟨g7, 0, none⟩ = some (.slice Tn t.nodes.length pn) := hs0.blk.cell 0
      have y1 : u0.cell? ⟨g7, 1, none⟩ = some (.slice Tj t.jobs.length pj) := hs0.blk.cell 1
      have y2 : u0.cell? ⟨g7, 2, none⟩ = some (.int .i64 t.goal) := hs0.blk.cell 2
      have y3 : u0.cell? ⟨g7, 3, none⟩ = some (.int .i64 t.prior) := hs0.blk.cell 3
      have y4 : u0.cell? ⟨g7, 4, none⟩ = some (.int .i64 t.mode) := hs0.blk.cell 4
      have y5 : u0.cell? ⟨g7, 5, none⟩ = some (.int .i64 t.term) := hs0.blk.cell 5
      clear hop hat hap hb hs0 hc0 hxu hlt hq
      go_wp2_with fail
      refine held_begin (by kernel_rfl) ?_
      have hHeld0 : True := True.intro
      rw [← hu]
      clear hu
      refine held_more (S' := fun (W : World) => W.cell? ⟨w.heap.size, 0, none⟩ = some (.int .i64 c.nodes) ∧ W.cell? ⟨w.heap.size, 1, none⟩ = some (.int .i64 c.queues) ∧ W.cell? ⟨w.heap.size, 2, none⟩ = some (.int .i64 c.quota) ∧ W.cell? ⟨w.heap.size, 3, none⟩ = some (.int .i64 c.wave) ∧ W.cell? ⟨w.heap.size, 4, none⟩ = some (.int .i64 c.lease) ∧ W.cell? ⟨w.heap.size, 5, none⟩ = some (.int .i64 c.retry) ∧ W.cell? ⟨w.heap.size, 6, none⟩ = some (.int .i64 c.deadline) ∧ W.cell? ⟨w.heap.size, 7, none⟩ = some (.int .i64 c.room) ∧ W.cell? ⟨w.heap.size, 8, none⟩ = some (.int .i64 c.disk) ∧ W.cell? ⟨b, o + q * 7, none⟩ = some (.int .i64 z) ∧ W.cell? ⟨b, o + q * 7 + 1, none⟩ = some (.int .i64 a1) ∧ W.cell? ⟨b, o + q * 7 + 2, none⟩ = some (.int .i64 a2) ∧ W.cell? ⟨b, o + q * 7 + 3, none⟩ = some (.int .i64 a3) ∧ W.cell? ⟨b, o + q * 7 + 4, none⟩ = some (.int .i64 a4) ∧ W.cell? ⟨b, o + q * 7 + 5, none⟩ = some (.int .i64 a5) ∧ W.cell? ⟨b, o + q * 7 + 6, none⟩ = some (.int .i64 a6)) (fun _ _ => True.intro) ?_
      have hHeld1 : (fun (W : World) => W.cell? ⟨w.heap.size, 0, none⟩ = some (.int .i64 c.nodes) ∧ W.cell? ⟨w.heap.size, 1, none⟩ = some (.int .i64 c.queues) ∧ W.cell? ⟨w.heap.size, 2, none⟩ = some (.int .i64 c.quota) ∧ W.cell? ⟨w.heap.size, 3, none⟩ = some (.int .i64 c.wave) ∧ W.cell? ⟨w.heap.size, 4, none⟩ = some (.int .i64 c.lease) ∧ W.cell? ⟨w.heap.size, 5, none⟩ = some (.int .i64 c.retry) ∧ W.cell? ⟨w.heap.size, 6, none⟩ = some (.int .i64 c.deadline) ∧ W.cell? ⟨w.heap.size, 7, none⟩ = some (.int .i64 c.room) ∧ W.cell? ⟨w.heap.size, 8, none⟩ = some (.int .i64 c.disk) ∧ W.cell? ⟨b, o + q * 7, none⟩ = some (.int .i64 z) ∧ W.cell? ⟨b, o + q * 7 + 1, none⟩ = some (.int .i64 a1) ∧ W.cell? ⟨b, o + q * 7 + 2, none⟩ = some (.int .i64 a2) ∧ W.cell? ⟨b, o + q * 7 + 3, none⟩ = some (.int .i64 a3) ∧ W.cell? ⟨b, o + q * 7 + 4, none⟩ = some (.int .i64 a4) ∧ W.cell? ⟨b, o + q * 7 + 5, none⟩ = some (.int .i64 a5) ∧ W.cell? ⟨b, o + q * 7 + 6, none⟩ = some (.int .i64 a6)) _ := HSC.out _ HC0.out
      clear hHeld0
      refine held_take (i := 0) (v := ?_) rfl (by kernel_rfl) (by kernel_rfl) (by kernel_rfl) (by rfl) (by first | assumption | exact True.intro) ?_ ?_
      rotate_left
      · (intro w hSw; (try dsimp only at hSw); go_simp; (try with_reducible rfl))
      try simp only [Act.put, List.setIfInBounds_toArray, List.set_cons_zero, List.set_cons_succ]
      refine held_take (i := 2) (v := ?_) rfl (by kernel_rfl) (by kernel_rfl) (by kernel_rfl) (by rfl) (by first | assumption | exact True.intro) ?_ ?_
      rotate_left
      · (intro w hSw; (try dsimp only at hSw); go_simp; (try with_reducible rfl))
      try simp only [Act.put, List.setIfInBounds_toArray, List.set_cons_zero, List.set_cons_succ]
      refine held_take (i := 3) (v := ?_) rfl (by kernel_rfl) (by kernel_rfl) (by kernel_rfl) (by rfl) (by first | assumption | exact True.intro) ?_ ?_
      rotate_left
      · (intro w hSw; (try dsimp only at hSw); go_simp; (try with_reducible rfl))
      try simp only [Act.put, List.setIfInBounds_toArray, List.set_cons_zero, List.set_cons_succ]
      refine held_take (i := 4) (v := ?_) rfl (by kernel_rfl) (by kernel_rfl) (by kernel_rfl) (by rfl) (by first | assumption | exact True.intro) ?_ ?_
      rotate_left
      · (intro w hSw; (try dsimp only at hSw); go_simp; (try with_reducible rfl))
      try simp only [Act.put, List.setIfInBounds_toArray, List.set_cons_zero, List.set_cons_succ]
      refine held_take (i := 5) (v := ?_) rfl (by kernel_rfl) (by kernel_rfl) (by kernel_rfl) (by rfl) (by first | assumption | exact True.intro) ?_ ?_
      rotate_left
      · (intro w hSw; (try dsimp only at hSw); go_simp; (try with_reducible rfl))
      try simp only [Act.put, List.setIfInBounds_toArray, List.set_cons_zero, List.set_cons_succ]
      refine held_op (i := 1) (by kernel_rfl) rfl (fun K hK => ?_)
      go_simp
      refine hK _ _ ?_ (fun hHeld2 => ?_)
      · exact HSC.out _ HC0.out
      clear hK K hHeld1
      try simp only [Act.put, List.setIfInBounds_toArray, List.set_cons_zero, List.set_cons_succ]
      refine held_op (i := 6) (by kernel_rfl) rfl (fun K hK => ?_)
      go_simp
      go_at_call 10
      (with_reducible refine HAP.out.mono ?_)
      rintro e6 w6 ⟨vn3, vj3, rfl, hr6, hx6, hk6⟩
      obtain ⟨A3, c3, rfl, -, -⟩ := hr6.nodes.slice_
      obtain ⟨B3, k3, rfl, -, -⟩ := hr6.jobs.slice_
      have hc6 : Chg (fun k => k = g7) w5 w6 := HC0.out.trans (Chg.of_ext hx6) (fun _ _ h => h)
      have hl7 : g7 < u0.heap.size := HS0.out.blk.lt
      refine hK _ _ ?_ (fun hHeld3 => ?_)
      · exact HSC.out _ hc6
      clear hK K hHeld2
      try simp only [Act.put, List.setIfInBounds_toArray, List.set_cons_zero, List.set_cons_succ]
      refine held_take (i := 7) (v := ?_) rfl (by kernel_rfl) (by kernel_rfl) (by kernel_rfl) (by rfl) (by first | assumption | exact True.intro) ?_ ?_
      rotate_left
      · (intro w hSw; (try dsimp only at hSw); go_simp; (try with_reducible rfl))
      try simp only [Act.put, List.setIfInBounds_toArray, List.set_cons_zero, List.set_cons_succ]
      refine held_take (i := 8) (v := ?_) rfl (by kernel_rfl) (by kernel_rfl) (by kernel_rfl) (by rfl) (by first | assumption | exact True.intro) ?_ ?_
      rotate_left
      · (intro w hSw; (try dsimp only at hSw); go_simp; (try with_reducible rfl))
      try simp only [Act.put, List.setIfInBounds_toArray, List.set_cons_zero, List.set_cons_succ]
      refine held_take (i := 9) (v := ?_) rfl (by kernel_rfl) (by kernel_rfl) (by kernel_rfl) (by rfl) (by first | assumption | exact True.intro) ?_ ?_
      rotate_left
      · (intro w hSw; (try dsimp only at hSw); go_simp; (try with_reducible rfl))
      try simp only [Act.put, List.setIfInBounds_toArray, List.set_cons_zero, List.set_cons_succ]
      have o3 : offG g7 (.slice A3 t2.nodes.length c3) t2.nodes.length ∧ offG g7 (.slice B3 t2.jobs.length k3) t2.jobs.length := ⟨fun _ k h e => by have := hk6 k (.inl h); omega, fun _ k h e => by have := hk6 k (.inr h); omega⟩
      obtain ⟨wf, hwf, hsf, hsame, hsize, hbel⟩ := (HS0.out.ext hx6).putR hr6 o3.1 o3.2
      have hcf : Chg (fun k => k = g7) w5 wf := by rw [hwf]; exact (((((hc6.setCell fun _ => rfl).setCell fun _ => rfl).setCell fun _ => rfl).setCell fun _ => rfl).setCell fun _ => rfl).setCell fun _ => rfl
      have hs6 := HS0.out.ext hx6
      have v0 : w6.cell? ⟨g7, 0, none⟩ = some (.slice Tn t.nodes.length pn) := hs6.blk.cell 0
      have f0 := hs6.blk.frozen 0
      have v1 : w6.cell? ⟨g7, 1, none⟩ = some (.slice Tj t.jobs.length pj) := hs6.blk.cell 1
      have f1 := hs6.blk.frozen 1
      have v2 : w6.cell? ⟨g7, 2, none⟩ = some (.int .i64 t.goal) := hs6.blk.cell 2
      have f2 := hs6.blk.frozen 2
      have v3 : w6.cell? ⟨g7, 3, none⟩ = some (.int .i64 t.prior) := hs6.blk.cell 3
      have f3 := hs6.blk.frozen 3
      have v4 : w6.cell? ⟨g7, 4, none⟩ = some (.int .i64 t.mode) := hs6.blk.cell 4
      have f4 := hs6.blk.frozen 4
      have v5 : w6.cell? ⟨g7, 5, none⟩ = some (.int .i64 t.term) := hs6.blk.cell 5
      have f5 := hs6.blk.frozen 5
      refine held_op (i := 10) (by kernel_rfl) rfl (fun K hK => ?_)
      go_simp
      refine hK _ _ ?_ (fun hHeld4 => ?_)
      · rw [← hwf]; exact HSC.out _ hcf
      clear hK K hHeld3
      try simp only [Act.put, List.setIfInBounds_toArray, List.set_cons_zero, List.set_cons_succ]
      rw [← hwf]
      clear hwf
      refine wpAnyH_done (by kernel_rfl) ?_ _
      refine NoPanic.normal ?_
      clear hHeld4
      have HKN : Hid (Chg (fun k => k = g7) w5 wf ∧ RightP c t2 ∧ ∃ tn tj, SAt wf g7 tn tj t2) := Lib.hid ⟨hcf, HRT.out, _, _, hsf⟩
      clear hcf hsf hsame hsize hbel hs6 o3 hk6 hr6 hx6 hc6 hl7 v0 f0 v1 f1 v2 f2 v3 f3 v4 f4 v5 f5 y0 y1 y2 y3 y4 y5
      go_wp2
      go_roundg (l.length - (q + 1))
      case measure => have := HLT.out; omega
      case rel => exact ⟨q + 1, t2, by first | go_num | (rw [IntWalk.wrap64_in _ (by have := HLT.out; have := HLN.out; omega)]; first | rfl | simp), HLT.out, rfl, HKN⟩
    · have d1 : decide ((q : Int) < (l.length : Int)) = false := decide_eq_false (by omega)
      have d1' : decide (q < l.length) = false := decide_eq_false hlt
      have hc := HK.out.1
      have HSS : Hid (Blk wr (w.heap.size + 1) 30 #[.slice An s.nodes.length cn, .slice Aj s.jobs.length cj, .int .i64 s.goal, .int .i64 s.prior, .int .i64 s.mode, .int .i64 s.term]) := Lib.hid ((hc.block _ HS5.out.lt (by have := HG7.out; intro h; have h : w.heap.size + 1 = g7 := h; omega)).trans HS5.out)
      have HRS : Hid (RdSt wr (.slice An s.nodes.length cn) (.slice Aj s.jobs.length cj) s) := Lib.hid (HRS5.out.chg hc HOF.out)
      have HXW : Hid (Ext w wr) := Lib.hid (hc.ext HX5.out (fun k hk => by have hk : k = g7 := hk; have := HG7.out; omega))
      have HRT2 := Lib.hid HK.out.2.1
      have HCC : Hid (∀ W, Ext wr W → W.cell? ⟨w.heap.size + 1, 0, none⟩ = some (.slice An s.nodes.length cn) ∧ W.cell? ⟨w.heap.size + 1, 1, none⟩ = some (.slice Aj s.jobs.length cj) ∧ W.cell? ⟨w.heap.size + 1, 2, none⟩ = some (.int .i64 s.goal) ∧ W.cell? ⟨w.heap.size + 1, 3, none⟩ = some (.int .i64 s.prior) ∧ W.cell? ⟨w.heap.size + 1, 4, none⟩ = some (.int .i64 s.mode) ∧ W.cell? ⟨w.heap.size + 1, 5, none⟩ = some (.int .i64 s.term) ∧ W.cell? ⟨g7, 0, none⟩ = some (.slice Tn t.nodes.length pn) ∧ W.cell? ⟨g7, 1, none⟩ = some (.slice Tj t.jobs.length pj) ∧ W.cell? ⟨g7, 2, none⟩ = some (.int .i64 t.goal) ∧ W.cell? ⟨g7, 3, none⟩ = some (.int .i64 t.prior) ∧ W.cell? ⟨g7, 4, none⟩ = some (.int .i64 t.mode) ∧ W.cell? ⟨g7, 5, none⟩ = some (.int .i64 t.term)) := Lib.hid fun W hx => ⟨(HSS.out.ext hx).cell 0, (HSS.out.ext hx).cell 1, (HSS.out.ext hx).cell 2, (HSS.out.ext hx).cell 3, (HSS.out.ext hx).cell 4, (HSS.out.ext hx).cell 5, (HSR.out.blk.ext hx).cell 0, (HSR.out.blk.ext hx).cell 1, (HSR.out.blk.ext hx).cell 2, (HSR.out.blk.ext hx).cell 3, (HSR.out.blk.ext hx).cell 4, (HSR.out.blk.ext hx).cell 5⟩
      obtain ⟨bs, hbs⟩ : ∃ bs, bs = imgB s := ⟨_, rfl⟩
      obtain ⟨bt, hbt⟩ : ∃ bt, bt = imgB t := ⟨_, rfl⟩
      obtain ⟨X, hX⟩ : ∃ X : Bool, X = decide (bs = bt) := ⟨_, rfl⟩
      have hXS : X = true ↔ s = t := by
        rw [hX, decide_eq_true_iff]
        constructor
        · intro e; exact IsImg.one (bs := bs) ⟨HRP.out, hbs.symm⟩ ⟨HRT2.out, by rw [e, hbt]⟩
        · intro e; rw [hbs, hbt, e]
      have K1 : Hid (∀ W, Ext wr W → Calls Tryd.prog 25 #[.agg #[.slice An s.nodes.length cn, .slice Aj s.jobs.length cj, .int .i64 s.goal, .int .i64 s.prior, .int .i64 s.mode, .int .i64 s.term]] W fun e w' => ∃ v, e = .returned v ∧ Rd w' v (bs.map B) ∧ Ext wr w') := Lib.hid fun W h => (ImgPut_any _ _ s W (HRS.out.ext h)).mono (by rintro e w' ⟨v, rfl, hr, hh⟩; rw [← hbs] at hr; exact ⟨v, rfl, hr, h.trans hh⟩)
      have K2 : Hid (∀ {V : World} W, Ext wr V → Ext V W → Calls Tryd.prog 25 #[.agg #[.slice Tn t.nodes.length pn, .slice Tj t.jobs.length pj, .int .i64 t.goal, .int .i64 t.prior, .int .i64 t.mode, .int .i64 t.term]] W fun e w' => ∃ v, e = .returned v ∧ Rd w' v (bt.map B) ∧ Ext V w') := Lib.hid fun W hv h => (ImgPut_any _ _ t W (HSR.out.rd.ext (hv.trans h))).mono (by rintro e w' ⟨v, rfl, hr, hh⟩; rw [← hbt] at hr; exact ⟨v, rfl, hr, h.trans hh⟩)
      have K3 : Hid (∀ W u v, Rd W u (bs.map B) → Rd W v (bt.map B) → Ext wr W → Calls Tryd.prog 24 #[u, v] W fun e w' => e = .returned (.bool X) ∧ Ext wr w') := Lib.hid fun W u v hu hv h => (Bytes_any bs bt u v W hu hv).mono (by rintro e w' ⟨rfl, n, rfl⟩; exact ⟨by rw [hX], Below.drewN' h n⟩)
      have K4 : Hid (∀ W, Ext wr W → Calls Tryd.prog 12 #[.agg #[.slice An s.nodes.length cn, .slice Aj s.jobs.length cj, .int .i64 s.goal, .int .i64 s.prior, .int .i64 s.mode, .int .i64 s.term], .agg #[.slice Tn t.nodes.length pn, .slice Tj t.jobs.length pj, .int .i64 t.goal, .int .i64 t.prior, .int .i64 t.mode, .int .i64 t.term]] W fun e w' => e = .returned (.bool X) ∧ Ext wr w') := Lib.hid fun W h => (Same09_any _ _ _ _ s t W (HRS.out.ext h) (HSR.out.rd.ext h)).mono (by rintro e w' ⟨x, rfl, hx, hh⟩; rw [Bool.eq_iff_iff.2 (hx.trans hXS.symm)]; exact ⟨rfl, h.trans hh⟩)
      clear hX hXS hbs hbt hc hlt hq HK
      go_wp2_with fail
      go_region_held3 (fun W => W.cell? ⟨w.heap.size + 1, 0, none⟩ = some (.slice An s.nodes.length cn) ∧ W.cell? ⟨w.heap.size + 1, 1, none⟩ = some (.slice Aj s.jobs.length cj) ∧ W.cell? ⟨w.heap.size + 1, 2, none⟩ = some (.int .i64 s.goal) ∧ W.cell? ⟨w.heap.size + 1, 3, none⟩ = some (.int .i64 s.prior) ∧ W.cell? ⟨w.heap.size + 1, 4, none⟩ = some (.int .i64 s.mode) ∧ W.cell? ⟨w.heap.size + 1, 5, none⟩ = some (.int .i64 s.term) ∧ W.cell? ⟨g7, 0, none⟩ = some (.slice Tn t.nodes.length pn) ∧ W.cell? ⟨g7, 1, none⟩ = some (.slice Tj t.jobs.length pj) ∧ W.cell? ⟨g7, 2, none⟩ = some (.int .i64 t.goal) ∧ W.cell? ⟨g7, 3, none⟩ = some (.int .i64 t.prior) ∧ W.cell? ⟨g7, 4, none⟩ = some (.int .i64 t.mode) ∧ W.cell? ⟨g7, 5, none⟩ = some (.int .i64 t.term)) (first | exact HCC.out _ y4 | exact HCC.out _ y3 | exact HCC.out _ y2 | exact HCC.out _ y1 | exact HCC.out _ (Ext.refl _) | exact HCC.out _ (ext_drew9 (Ext.refl _)) | go_keep) (first | (go_at_call 25; (first | (with_reducible refine (K1.out _ (Ext.refl wr)).mono ?_) | (with_reducible refine (K1.out _ (ext_drew9 (Ext.refl wr))).mono ?_)); rintro e1 v1 ⟨x1, rfl, r1, y1⟩) | (go_at_call 25; (first | (with_reducible refine (K2.out _ y1 (Ext.refl v1)).mono ?_) | (with_reducible refine (K2.out _ y1 (ext_drew9 (Ext.refl v1))).mono ?_)); rintro e2 v2 ⟨x2, rfl, r2, z2⟩; have y2 : Ext wr v2 := Ext.trans y1 z2; have r1' := r1.ext z2) | (go_at_call 24; (first | (with_reducible refine (K3.out _ _ _ r1' r2 y2).mono ?_) | (with_reducible refine (K3.out _ _ _ (r1'.ext (ext_drew9 (Ext.refl v2))) (r2.ext (ext_drew9 (Ext.refl v2))) (ext_drew9 y2)).mono ?_)); rintro e3 v3 ⟨rfl, y3⟩) | (go_at_call 12; (first | (with_reducible refine (K4.out _ y3).mono ?_) | (with_reducible refine (K4.out _ (ext_drew9 y3)).mono ?_)); rintro e4 v4 ⟨rfl, y4⟩))
      all_goals
        have HX9 := Lib.hid (Ext.trans HXW.out y4)
        clear y1 y2 y3 y4
        go_wp2
        go_ret
        exact ⟨by simp, HX9.out⟩

set_option maxRecDepth 100000 in
theorem ImageTwo_lifted (os : Os) (started : os.Started) (H : Type) (enc : TypeId × Value → H) :
    ReturnsInHanded {} Tryd.checked os 5 .any (fun w args => (Rows.imageTwoSpec.pre enc Tryd.prog Tryd.f5 [] false w args ∧ laidMetH Tryd.prog Rows.imageTwoRow.laid w) ∧ sizedMet enc Tryd.prog Tryd.f5 (OpenSpec.ofChange Rows.imageTwoSpec) false w args) (Rows.imageTwoSpec.post enc Tryd.prog Tryd.f5 false true false false) := by
  refine law_liftL (C := Tryd.checked) (tb := 4) Rows.imageTwoRow.laid Tryd.ownKnob started (by kernel_rfl) Tryd.func5 Tryd.laidOut (by kernel_rfl) rfl Tryd.underlying4 rfl rfl ?_
    (ChangeSpec.witness_shaped (enc := enc) (C := Tryd.checked) (os := os) (X := fun w _ => laidMetH Tryd.prog Rows.imageTwoRow.laid w) false (World.laidAll Tryd.prog os Rows.imageTwoRow.laid) #[.agg #[.int .i64 0, .int .i64 0, .int .i64 0, .int .i64 0, .int .i64 0, .int .i64 0, .int .i64 0, .int .i64 0, .int .i64 0], .agg #[.slice none 0 0, .slice none 0 0, .int .i64 0, .int .i64 0, .int .i64 0, .int .i64 0], .slice none 0 0] 8 (World.laidAll_os _ _ _)
      (World.shaped_of_ZipB (by kernel_rfl) (by kernel_rfl)) (by kernel_rfl) (by kernel_rfl) (by kernel_rfl)
      (by rw [MakeChecks.laidMetH_plain _ _ _ (by kernel_rfl)]; exact laidMet_laidAll _ (by kernel_rfl) (by kernel_rfl))) ?_
  · intro ds hd
    rw [Tryd.params5] at hd
    match ds, hd with
    | [d0, d1, d2], _ => rfl
  · intro W base args ds p hval hA hsz hL0 hsh
    have hL : laidMetH Tryd.prog Rows.imageTwoRow.laid W := hL0
    rw [MakeChecks.laidMetH_plain _ _ _ (by kernel_rfl)] at hL
    have hLd : LaidT W := laidT_of _ hL (by repeat (first | exact List.Mem.head _ | apply List.Mem.tail)) (by repeat (first | exact List.Mem.head _ | apply List.Mem.tail))
    rw [Tryd.params5] at hA hval hsz
    obtain ⟨v0, vs0, d0, ds0, p0, q0, hargs, rfl, rfl, h0, r0_⟩ := trodAll_cons hA
    obtain ⟨v1, vs1, d1, ds1, p1, q1, rfl, rfl, rfl, h1, r1_⟩ := trodAll_cons r0_
    obtain ⟨v2, vs2, d2, ds2, p2, q2, rfl, rfl, rfl, h2, r2_⟩ := trodAll_cons r1_
    obtain ⟨rfl, rfl, rfl⟩ := trodAll_nil r2_
    obtain rfl : args = #[v0, v1, v2] := by cases args; simp_all
    obtain ⟨a0, rfl⟩ := dec_conf (hval 0 23 v0 rfl rfl) h0
    obtain ⟨vn1, vj1, a1, rfl, r1⟩ := dec_state (hval 1 30 v1 rfl rfl) h1
    obtain ⟨a2, r2⟩ := dec_ops (hval 2 24 v2 rfl rfl) h2
    exact ImageTwo_calls a0 vn1 vj1 a1 _ a2 W r1 r2 hLd

theorem ImageTwo_row : Rows.ImageTwoSaid :=
  OpenClaim.holds_of_wide 5 Tryd.f5 rfl rfl rfl rfl rfl rfl rfl ⟨rfl, rfl, rfl, rfl, rfl⟩ rfl rfl rfl rfl rfl (by kernel_rfl) Tryd.func5 (by kernel_rfl)
    (of_decide_eq_true (by kernel_rfl)) (by unfold Func.isWrapper; first | (rw [if_pos (by decide +kernel)]; kernel_rfl) | (rw [if_neg (by decide +kernel)]; exact ⟨rfl, rfl⟩))
    (fun os started H enc _ => ImageTwo_lifted os started H enc)

/-- THE TIED CARD. -/
theorem ImageTwo_holds : Rows.ImageTwoCardSaid :=
  Claim7.holds_tied_plain_at .later [] Rows.imageTwoCard.laidKinds true Rows.imageTwoCard.stood.harness Rows.imageTwoCard.stood.looks
    ImageTwo_row (fun _ h => by cases h) (by kernel_rfl) (fun _ h => by cases h) imageTwo_row_tie rfl ⟨rfl, rfl⟩ (by kernel_rfl) rfl
    (fun f fn hf hfn => by
      obtain rfl : f = 5 := Option.some.inj ((show Tryd.prog.funcNamed "dunnage/dunnagelaw10.ImageTwo" = some 5 by kernel_rfl).symm.trans hf) |>.symm
      obtain rfl : fn = Tryd.f5 := (Option.some.inj (Tryd.func5.symm.trans hfn)).symm
      exact ⟨by kernel_rfl, fun j t ht => by
        rw [Tryd.params5] at ht
        have hm : t ∈ [23, 30, 24] := by simpa using Array.mem_of_getElem? ht
        have hall : ([23, 30, 24].all fun u => !Tryd.prog.wantsStandIn u) = true := by kernel_rfl
        exact (show Tryd.prog.wantsStandIn t = false by simpa using List.all_eq_true.1 hall t hm)⟩)
    (by kernel_rfl)

end Go.Proofs.YtbfjlhddebollaaDoor
