/- For every input BookStates returns true: whether every fleet, and every state, may be, and the first state, are the document's; with the listed package-level variable as the program's text lays it. -/
import Derived.Test.YtmgbgpendpiahaaDoorDQ12
import Derived.Test.YtmgbgpendpiahaaDoorCards
import Derived.Test.YtmgbgpendpiahaaDoorTie
import Derived.SevenTiedAt
import Derived.Deep.DeepCutAuto
import Derived.Deep.CutBlock
import Derived.Deep.LoopGhost
import Derived.BigQuiet
import Derived.Deep.RegionHeld3
namespace Go.Proofs.YtmgbgpendpiahaaDoor
open Go.ChangeShapes Go.WideShapes Go.ChangeAt Go.RowKit

set_option maxRecDepth 100000 in
set_option maxHeartbeats 8000000 in
theorem BookStates_calls (c : Cf) (vn vj : Value) (s : St) (w : World) (h : RdSt w vn vj s) (hL : Laid w) :
    Calls Tryd.prog 3 #[cfV c, stV vn vj s] w fun e w' => e = .returned (.bool true) ∧ Ext w w' := by
  obtain ⟨W2, hW2, hx2, hb0, hb1⟩ := two_blocks w 23 27 #[.int .i64 c.nodes, .int .i64 c.queues, .int .i64 c.quota, .int .i64 c.wave, .int .i64 c.lease, .int .i64 c.retry, .int .i64 c.deadline, .int .i64 c.room, .int .i64 c.disk] #[vn, vj, .int .i64 s.goal, .int .i64 s.prior, .int .i64 s.mode, .int .i64 s.term]
  have HSA := Lib.hid (SAt.first h hx2 hb1 (Nat.le_succ _))
  have HBC := Lib.hid hb0
  have HX2 := Lib.hid hx2
  have HAL := Lib.hid (alive9_any W2 (hL.ext hx2))
  have HGR := Lib.hid fun W (hx : Ext w W) => great_any vn vj s W (h.ext hx)
  obtain ⟨bR, hbR⟩ : ∃ bR : Bool, (bR = true ↔ RightP c s) := by
    by_cases hp : RightP c s
    · exact ⟨true, ⟨fun _ => hp, fun _ => rfl⟩⟩
    · exact ⟨false, ⟨(fun h => by cases h), fun h => absurd h hp⟩⟩
  have HRB := Lib.hid hbR
  have HH := Lib.hid h
  unfold stV at HGR
  unfold cfV stV
  clear hL h hx2 hb0 hb1 hbR
  go_enter Tryd.func3, Tryd.ntmps3
  go_wp2_with fail
  rw [← hW2]
  clear hW2
  refine HAL.out.mono ?_
  rintro e1 w1 ⟨rfl, hx1⟩
  have HX1 := Lib.hid (HX2.out.trans hx1)
  have HS1 := Lib.hid (HSA.out.ext hx1)
  have HB1 := Lib.hid (HBC.out.ext hx1)
  clear hx1 HX2 HSA HBC HAL
  have s0 : w1.cell? ⟨w.heap.size + 1, 0, none⟩ = some (vn) := HS1.out.blk.cell 0
  have s1 : w1.cell? ⟨w.heap.size + 1, 1, none⟩ = some (vj) := HS1.out.blk.cell 1
  have s2 : w1.cell? ⟨w.heap.size + 1, 2, none⟩ = some (.int .i64 s.goal) := HS1.out.blk.cell 2
  have s3 : w1.cell? ⟨w.heap.size + 1, 3, none⟩ = some (.int .i64 s.prior) := HS1.out.blk.cell 3
  have s4 : w1.cell? ⟨w.heap.size + 1, 4, none⟩ = some (.int .i64 s.mode) := HS1.out.blk.cell 4
  have s5 : w1.cell? ⟨w.heap.size + 1, 5, none⟩ = some (.int .i64 s.term) := HS1.out.blk.cell 5
  have HG1 := Lib.hid (HGR.out w1 HX1.out)
  generalize greatS s = gs at *
  go_wp2_with fail
  refine HG1.out.mono ?_
  rintro e2 w2 ⟨rfl, hx2⟩
  have HX2 := Lib.hid (HX1.out.trans hx2)
  have HS2 := Lib.hid (HS1.out.ext hx2)
  have HB2 := Lib.hid (HB1.out.ext hx2)
  clear hx2 HX1 HS1 HB1 HGR HG1 s0 s1 s2 s3 s4 s5
  cases gs
  case true =>
    go_wp2
    go_ret
    exact ⟨rfl, HX2.out⟩
  have HCC : Hid (∀ W, Ext w2 W → W.cell? ⟨w.heap.size, 0, none⟩ = some (.int .i64 c.nodes) ∧ W.cell? ⟨w.heap.size, 1, none⟩ = some (.int .i64 c.queues) ∧ W.cell? ⟨w.heap.size, 2, none⟩ = some (.int .i64 c.quota) ∧ W.cell? ⟨w.heap.size, 3, none⟩ = some (.int .i64 c.wave) ∧ W.cell? ⟨w.heap.size, 4, none⟩ = some (.int .i64 c.lease) ∧ W.cell? ⟨w.heap.size, 5, none⟩ = some (.int .i64 c.retry) ∧ W.cell? ⟨w.heap.size, 6, none⟩ = some (.int .i64 c.deadline) ∧ W.cell? ⟨w.heap.size, 7, none⟩ = some (.int .i64 c.room) ∧ W.cell? ⟨w.heap.size, 8, none⟩ = some (.int .i64 c.disk) ∧ W.cell? ⟨w.heap.size + 1, 0, none⟩ = some (vn) ∧ W.cell? ⟨w.heap.size + 1, 1, none⟩ = some (vj) ∧ W.cell? ⟨w.heap.size + 1, 2, none⟩ = some (.int .i64 s.goal) ∧ W.cell? ⟨w.heap.size + 1, 3, none⟩ = some (.int .i64 s.prior) ∧ W.cell? ⟨w.heap.size + 1, 4, none⟩ = some (.int .i64 s.mode) ∧ W.cell? ⟨w.heap.size + 1, 5, none⟩ = some (.int .i64 s.term)) := Lib.hid fun W hx => ⟨(HB2.out.ext hx).cell 0, (HB2.out.ext hx).cell 1, (HB2.out.ext hx).cell 2, (HB2.out.ext hx).cell 3, (HB2.out.ext hx).cell 4, (HB2.out.ext hx).cell 5, (HB2.out.ext hx).cell 6, (HB2.out.ext hx).cell 7, (HB2.out.ext hx).cell 8, (HS2.out.blk.ext hx).cell 0, (HS2.out.blk.ext hx).cell 1, (HS2.out.blk.ext hx).cell 2, (HS2.out.blk.ext hx).cell 3, (HS2.out.blk.ext hx).cell 4, (HS2.out.blk.ext hx).cell 5⟩
  obtain ⟨m, hm⟩ : ∃ m, m = mayC c := ⟨_, rfl⟩
  obtain ⟨ns, hns⟩ : ∃ ns, ns = newSt c := ⟨_, rfl⟩
  have K1 : Hid (∀ W, Ext w2 W → Calls Tryd.prog 13 #[.agg #[.int .i64 c.nodes, .int .i64 c.queues, .int .i64 c.quota, .int .i64 c.wave, .int .i64 c.lease, .int .i64 c.retry, .int .i64 c.deadline, .int .i64 c.room, .int .i64 c.disk]] W fun e w' => e = .returned (.bool m) ∧ Ext w2 w') := Lib.hid fun W h => (May_any c W).mono (by rintro e w' ⟨rfl, hh⟩; exact ⟨by rw [hm], h.trans hh⟩)
  have K2 : Hid (∀ W, Ext w2 W → Calls Tryd.prog 14 #[.agg #[.int .i64 c.nodes, .int .i64 c.queues, .int .i64 c.quota, .int .i64 c.wave, .int .i64 c.lease, .int .i64 c.retry, .int .i64 c.deadline, .int .i64 c.room, .int .i64 c.disk]] W fun e w' => e = .returned (.bool m) ∧ Ext w2 w') := Lib.hid fun W h => (RefMay_any c W).mono (by rintro e w' ⟨rfl, hh⟩; exact ⟨by rw [hm], h.trans hh⟩)
  have K3 : Hid (∀ W, Ext w2 W → Calls Tryd.prog 16 #[.agg #[.int .i64 c.nodes, .int .i64 c.queues, .int .i64 c.quota, .int .i64 c.wave, .int .i64 c.lease, .int .i64 c.retry, .int .i64 c.deadline, .int .i64 c.room, .int .i64 c.disk]] W fun e w' => ∃ vn' vj', e = .returned (.agg #[vn', vj', .int .i64 ns.goal, .int .i64 ns.prior, .int .i64 ns.mode, .int .i64 ns.term]) ∧ RdSt w' vn' vj' ns ∧ Ext w2 w') := Lib.hid fun W h => (New_any c W).mono (by rintro e w' ⟨vn', vj', rfl, hr, hh, -⟩; rw [← hns] at hr ⊢; exact ⟨vn', vj', rfl, hr, h.trans hh⟩)
  have K4 : Hid (∀ {V : World} W, Ext V W → Calls Tryd.prog 17 #[.agg #[.int .i64 c.nodes, .int .i64 c.queues, .int .i64 c.quota, .int .i64 c.wave, .int .i64 c.lease, .int .i64 c.retry, .int .i64 c.deadline, .int .i64 c.room, .int .i64 c.disk]] W fun e w' => ∃ vn' vj', e = .returned (.agg #[vn', vj', .int .i64 ns.goal, .int .i64 ns.prior, .int .i64 ns.mode, .int .i64 ns.term]) ∧ RdSt w' vn' vj' ns ∧ Ext V w') := Lib.hid fun W h => (RefNew_any c W).mono (by rintro e w' ⟨vn', vj', rfl, hr, hh, -⟩; rw [← hns] at hr ⊢; exact ⟨vn', vj', rfl, hr, h.trans hh⟩)
  have K5 : Hid (∀ {V : World} W a b a' b', RdSt W a b ns → RdSt W a' b' ns → Ext V W → Calls Tryd.prog 15 #[.agg #[a, b, .int .i64 ns.goal, .int .i64 ns.prior, .int .i64 ns.mode, .int .i64 ns.term], .agg #[a', b', .int .i64 ns.goal, .int .i64 ns.prior, .int .i64 ns.mode, .int .i64 ns.term]] W fun e w' => e = .returned (.bool true) ∧ Ext V w') := Lib.hid fun W a b a' b' h1 h2 h => (Same09_any a b a' b' ns ns W h1 h2).mono (by rintro e w' ⟨x, rfl, hx, hh⟩; rw [hx.2 rfl]; exact ⟨rfl, h.trans hh⟩)
  have K6 : Hid (∀ W, Ext w2 W → Calls Tryd.prog 18 #[.agg #[.int .i64 c.nodes, .int .i64 c.queues, .int .i64 c.quota, .int .i64 c.wave, .int .i64 c.lease, .int .i64 c.retry, .int .i64 c.deadline, .int .i64 c.room, .int .i64 c.disk], .agg #[vn, vj, .int .i64 s.goal, .int .i64 s.prior, .int .i64 s.mode, .int .i64 s.term]] W fun e w' => e = .returned (.bool bR) ∧ Ext w2 w') := Lib.hid fun W h => (RightS_any c vn vj s W (HS2.out.rd.ext h).nodes (HS2.out.rd.ext h).jobs).mono (by rintro e w' ⟨x, rfl, hx, hh⟩; rw [Bool.eq_iff_iff.2 (hx.trans HRB.out.symm)]; exact ⟨rfl, h.trans hh⟩)
  have K7 : Hid (∀ W, Ext w2 W → Calls Tryd.prog 19 #[.agg #[.int .i64 c.nodes, .int .i64 c.queues, .int .i64 c.quota, .int .i64 c.wave, .int .i64 c.lease, .int .i64 c.retry, .int .i64 c.deadline, .int .i64 c.room, .int .i64 c.disk], .agg #[vn, vj, .int .i64 s.goal, .int .i64 s.prior, .int .i64 s.mode, .int .i64 s.term]] W fun e w' => e = .returned (.bool bR) ∧ Ext w2 w') := Lib.hid fun W h => (RefRight_any c vn vj s W (HS2.out.rd.ext h).nodes (HS2.out.rd.ext h).jobs).mono (by rintro e w' ⟨x, rfl, hx, hh⟩; rw [Bool.eq_iff_iff.2 (hx.trans HRB.out.symm)]; exact ⟨rfl, h.trans hh⟩)
  clear hm hns
  go_wp2_with fail
  go_region_held3 (fun W => W.cell? ⟨w.heap.size, 0, none⟩ = some (.int .i64 c.nodes) ∧ W.cell? ⟨w.heap.size, 1, none⟩ = some (.int .i64 c.queues) ∧ W.cell? ⟨w.heap.size, 2, none⟩ = some (.int .i64 c.quota) ∧ W.cell? ⟨w.heap.size, 3, none⟩ = some (.int .i64 c.wave) ∧ W.cell? ⟨w.heap.size, 4, none⟩ = some (.int .i64 c.lease) ∧ W.cell? ⟨w.heap.size, 5, none⟩ = some (.int .i64 c.retry) ∧ W.cell? ⟨w.heap.size, 6, none⟩ = some (.int .i64 c.deadline) ∧ W.cell? ⟨w.heap.size, 7, none⟩ = some (.int .i64 c.room) ∧ W.cell? ⟨w.heap.size, 8, none⟩ = some (.int .i64 c.disk) ∧ W.cell? ⟨w.heap.size + 1, 0, none⟩ = some (vn) ∧ W.cell? ⟨w.heap.size + 1, 1, none⟩ = some (vj) ∧ W.cell? ⟨w.heap.size + 1, 2, none⟩ = some (.int .i64 s.goal) ∧ W.cell? ⟨w.heap.size + 1, 3, none⟩ = some (.int .i64 s.prior) ∧ W.cell? ⟨w.heap.size + 1, 4, none⟩ = some (.int .i64 s.mode) ∧ W.cell? ⟨w.heap.size + 1, 5, none⟩ = some (.int .i64 s.term)) (first | exact HCC.out _ y7 | exact HCC.out _ y6 | exact HCC.out _ y5 | exact HCC.out _ y4 | exact HCC.out _ y3 | exact HCC.out _ y2 | exact HCC.out _ y1 | exact HCC.out _ (Ext.refl _) | exact HCC.out _ (ext_drew9 (Ext.refl _)) | go_keep) (first | (go_at_call 13; (first | (with_reducible refine (K1.out _ (Ext.refl w2)).mono ?_) | (with_reducible refine (K1.out _ (ext_drew9 (Ext.refl w2))).mono ?_)); rintro e1 v1 ⟨rfl, y1⟩) | (go_at_call 14; (first | (with_reducible refine (K2.out _ y1).mono ?_) | (with_reducible refine (K2.out _ (ext_drew9 y1)).mono ?_)); rintro e2 v2 ⟨rfl, y2⟩) | (go_at_call 16; (first | (with_reducible refine (K3.out _ y2).mono ?_) | (with_reducible refine (K3.out _ (ext_drew9 y2)).mono ?_)); rintro e3 v3 ⟨a3, b3, rfl, r3, y3⟩; obtain ⟨A3, k3, rfl, -, -⟩ := r3.nodes.slice_; obtain ⟨B3, l3, rfl, -, -⟩ := r3.jobs.slice_) | (go_at_call 17; (first | (with_reducible refine (K4.out _ (Ext.refl v3)).mono ?_) | (with_reducible refine (K4.out _ (ext_drew9 (Ext.refl v3))).mono ?_)); rintro e4 v4 ⟨a4, b4, rfl, r4, z4⟩; obtain ⟨A4, k4, rfl, -, -⟩ := r4.nodes.slice_; obtain ⟨B4, l4, rfl, -, -⟩ := r4.jobs.slice_; have y4 : Ext w2 v4 := Ext.trans y3 z4; have r3' := r3.ext z4) | (go_at_call 15; (first | (with_reducible refine (K5.out _ _ _ _ _ r3' r4 y4).mono ?_) | (with_reducible refine (K5.out _ _ _ _ _ (r3'.ext (ext_drew9 (Ext.refl v4))) (r4.ext (ext_drew9 (Ext.refl v4))) (ext_drew9 y4)).mono ?_)); rintro e5 v5 ⟨rfl, y5⟩) | (go_at_call 18; (first | (with_reducible refine (K6.out _ y5).mono ?_) | (with_reducible refine (K6.out _ (ext_drew9 y5)).mono ?_)); rintro e6 v6 ⟨rfl, y6⟩) | (go_at_call 19; (first | (with_reducible refine (K7.out _ y6).mono ?_) | (with_reducible refine (K7.out _ (ext_drew9 y6)).mono ?_)); rintro e7 v7 ⟨rfl, y7⟩))
  all_goals
    have HX9 := Lib.hid (Ext.trans HX2.out y7)
    clear y1 y2 y3 y4 y5 y6 y7
    go_wp2
    go_ret
    exact ⟨rfl, HX9.out⟩

set_option maxRecDepth 100000 in
theorem BookStates_lifted (os : Os) (started : os.Started) (H : Type) (enc : TypeId × Value → H) :
    ReturnsInHanded {} Tryd.checked os 3 .any (fun w args => (Rows.bookStatesSpec.pre enc Tryd.prog Tryd.f3 [] false w args ∧ laidMetH Tryd.prog Rows.bookStatesRow.laid w) ∧ sizedMet enc Tryd.prog Tryd.f3 (OpenSpec.ofChange Rows.bookStatesSpec) false w args) (Rows.bookStatesSpec.post enc Tryd.prog Tryd.f3 false true false false) := by
  refine law_liftL (C := Tryd.checked) (tb := 4) Rows.bookStatesRow.laid Tryd.ownKnob started (by kernel_rfl) Tryd.func3 Tryd.laidOut (by kernel_rfl) rfl Tryd.underlying4 rfl rfl ?_
    (ChangeSpec.witness_shaped (enc := enc) (C := Tryd.checked) (os := os) (X := fun w _ => laidMetH Tryd.prog Rows.bookStatesRow.laid w) false (World.laidAll Tryd.prog os Rows.bookStatesRow.laid) #[.agg #[.int .i64 0, .int .i64 0, .int .i64 0, .int .i64 0, .int .i64 0, .int .i64 0, .int .i64 0, .int .i64 0, .int .i64 0], .agg #[.slice none 0 0, .slice none 0 0, .int .i64 0, .int .i64 0, .int .i64 0, .int .i64 0]] 8 (World.laidAll_os _ _ _)
      (World.shaped_of_ZipB (by kernel_rfl) (by kernel_rfl)) (by kernel_rfl) (by kernel_rfl) (by kernel_rfl)
      (by rw [MakeChecks.laidMetH_plain _ _ _ (by kernel_rfl)]; exact laidMet_laidAll _ (by kernel_rfl) (by kernel_rfl))) ?_
  · intro ds hd
    rw [Tryd.params3] at hd
    match ds, hd with
    | [d0, d1], _ => rfl
  · intro W base args ds p hval hA hsz hL0 hsh
    have hL : laidMetH Tryd.prog Rows.bookStatesRow.laid W := hL0
    rw [MakeChecks.laidMetH_plain _ _ _ (by kernel_rfl)] at hL
    have hLd : Laid W := laid_of _ hL (by repeat (first | exact List.Mem.head _ | apply List.Mem.tail))
    rw [Tryd.params3] at hA hval hsz
    obtain ⟨v0, vs0, d0, ds0, p0, q0, hargs, rfl, rfl, h0, r0_⟩ := trodAll_cons hA
    obtain ⟨v1, vs1, d1, ds1, p1, q1, rfl, rfl, rfl, h1, r1_⟩ := trodAll_cons r0_
    obtain ⟨rfl, rfl, rfl⟩ := trodAll_nil r1_
    obtain rfl : args = #[v0, v1] := by cases args; simp_all
    obtain ⟨a0, rfl⟩ := dec_conf (hval 0 23 v0 rfl rfl) h0
    obtain ⟨vn1, vj1, a1, rfl, r1⟩ := dec_state (hval 1 27 v1 rfl rfl) h1
    exact BookStates_calls a0 vn1 vj1 a1 W r1 hLd

theorem BookStates_row : Rows.BookStatesSaid :=
  OpenClaim.holds_of_wide 3 Tryd.f3 rfl rfl rfl rfl rfl rfl rfl ⟨rfl, rfl, rfl, rfl, rfl⟩ rfl rfl rfl rfl rfl (by kernel_rfl) Tryd.func3 (by kernel_rfl)
    (of_decide_eq_true (by kernel_rfl)) (by unfold Func.isWrapper; first | (rw [if_pos (by decide +kernel)]; kernel_rfl) | (rw [if_neg (by decide +kernel)]; exact ⟨rfl, rfl⟩))
    (fun os started H enc _ => BookStates_lifted os started H enc)

/-- THE TIED CARD. -/
theorem BookStates_holds : Rows.BookStatesCardSaid :=
  Claim7.holds_tied_plain_at .later [] Rows.bookStatesCard.laidKinds true Rows.bookStatesCard.stood.harness Rows.bookStatesCard.stood.looks
    BookStates_row (fun _ h => by cases h) (by kernel_rfl) (fun _ h => by cases h) bookStates_row_tie rfl ⟨rfl, rfl⟩ (by kernel_rfl) rfl
    (fun f fn hf hfn => by
      obtain rfl : f = 3 := Option.some.inj ((show Tryd.prog.funcNamed "dunnage/dunnagelaw09.BookStates" = some 3 by kernel_rfl).symm.trans hf) |>.symm
      obtain rfl : fn = Tryd.f3 := (Option.some.inj (Tryd.func3.symm.trans hfn)).symm
      exact ⟨by kernel_rfl, fun j t ht => by
        rw [Tryd.params3] at ht
        have hm : t ∈ [23, 27] := by simpa using Array.mem_of_getElem? ht
        have hall : ([23, 27].all fun u => !Tryd.prog.wantsStandIn u) = true := by kernel_rfl
        exact (show Tryd.prog.wantsStandIn t = false by simpa using List.all_eq_true.1 hall t hm)⟩)
    (by kernel_rfl)

end Go.Proofs.YtmgbgpendpiahaaDoor
