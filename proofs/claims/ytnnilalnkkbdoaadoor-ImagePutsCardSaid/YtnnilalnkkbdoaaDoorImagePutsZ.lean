/- For every input ImagePuts returns true: every state's bytes are the document's; with the listed package-level variable as the program's text lays it. -/
import Derived.Test.YtnnilalnkkbdoaaDoorGQ14
import Derived.Test.YtnnilalnkkbdoaaDoorCards
import Derived.Test.YtnnilalnkkbdoaaDoorTie
import Derived.SevenTiedAt
import Derived.Deep.DeepCutAuto
import Derived.Deep.CutBlock
import Derived.Deep.LoopGhost
import Derived.BigQuiet
import Derived.Deep.RegionHeld3
namespace Go.Proofs.YtnnilalnkkbdoaaDoor
open Go.ChangeShapes Go.WideShapes Go.ChangeAt Go.RowKit

set_option maxRecDepth 100000 in
set_option maxHeartbeats 8000000 in
theorem ImagePuts_calls (vn vj : Value) (s : St) (w : World) (h : RdSt w vn vj s) (hL : LaidI w) :
    Calls Tryd.prog 5 #[stV vn vj s] w fun e w' => e = .returned (.bool true) ∧ Ext w w' := by
  obtain ⟨An, cn, rfl, -, -⟩ := h.nodes.slice_
  obtain ⟨Aj, cj, rfl, -, -⟩ := h.jobs.slice_
  obtain ⟨W1, hW1⟩ : ∃ W, W = w.alloc (.cells #[.slice An s.nodes.length cn, .slice Aj s.jobs.length cj, .int .i64 s.goal, .int .i64 s.prior, .int .i64 s.mode, .int .i64 s.term] 27) := ⟨_, rfl⟩
  have hx1 : Ext w W1 := by rw [hW1]; exact (Below.refl _ _).alloc (Nat.le_refl _) _
  have HB1 : Hid (Blk W1 w.heap.size 27 #[.slice An s.nodes.length cn, .slice Aj s.jobs.length cj, .int .i64 s.goal, .int .i64 s.prior, .int .i64 s.mode, .int .i64 s.term]) := Lib.hid (by rw [hW1]; exact Blk.new _ _ _)
  have HX1 := Lib.hid hx1
  have HR1 := Lib.hid (h.ext hx1)
  have HAL := Lib.hid (alive10_any W1 (hL.ext hx1))
  unfold stV
  clear hx1 h hL
  go_enter Tryd.func5, Tryd.ntmps5
  go_upto_region 1 with (fail)
  rw [← hW1]
  clear hW1
  go_wp2_with fail
  refine HAL.out.mono ?_
  rintro e1 w1 ⟨rfl, hx1⟩
  have HX2 := Lib.hid (HX1.out.trans hx1)
  have HB2 := Lib.hid (HB1.out.ext hx1)
  have HR2 := Lib.hid (HR1.out.ext hx1)
  clear hx1 HX1 HB1 HR1 HAL
  have s0 : w1.cell? ⟨w.heap.size, 0, none⟩ = some (.slice An s.nodes.length cn) := HB2.out.cell 0
  have s1 : w1.cell? ⟨w.heap.size, 1, none⟩ = some (.slice Aj s.jobs.length cj) := HB2.out.cell 1
  have s2 : w1.cell? ⟨w.heap.size, 2, none⟩ = some (.int .i64 s.goal) := HB2.out.cell 2
  have s3 : w1.cell? ⟨w.heap.size, 3, none⟩ = some (.int .i64 s.prior) := HB2.out.cell 3
  have s4 : w1.cell? ⟨w.heap.size, 4, none⟩ = some (.int .i64 s.mode) := HB2.out.cell 4
  have s5 : w1.cell? ⟨w.heap.size, 5, none⟩ = some (.int .i64 s.term) := HB2.out.cell 5
  by_cases h1 : 100 < s.nodes.length
  · have d1 : decide ((100 : Int) < (s.nodes.length : Int)) = true := decide_eq_true (by omega)
    have d1' : decide (100 < s.nodes.length) = true := decide_eq_true h1
    clear h1
    go_wp2
    go_ret
    exact ⟨rfl, HX2.out⟩
  have d1 : decide ((100 : Int) < (s.nodes.length : Int)) = false := decide_eq_false (by omega)
  have d1' : decide (100 < s.nodes.length) = false := decide_eq_false h1
  by_cases h2 : 100 < s.jobs.length
  · have d2 : decide ((100 : Int) < (s.jobs.length : Int)) = true := decide_eq_true (by omega)
    have d2' : decide (100 < s.jobs.length) = true := decide_eq_true h2
    clear h1 h2
    go_wp2
    go_ret
    exact ⟨rfl, HX2.out⟩
  have d2 : decide ((100 : Int) < (s.jobs.length : Int)) = false := decide_eq_false (by omega)
  have d2' : decide (100 < s.jobs.length) = false := decide_eq_false h2
  clear h1 h2
  have HCC : Hid (∀ W, Ext w1 W → W.cell? ⟨w.heap.size, 0, none⟩ = some (.slice An s.nodes.length cn) ∧ W.cell? ⟨w.heap.size, 1, none⟩ = some (.slice Aj s.jobs.length cj) ∧ W.cell? ⟨w.heap.size, 2, none⟩ = some (.int .i64 s.goal) ∧ W.cell? ⟨w.heap.size, 3, none⟩ = some (.int .i64 s.prior) ∧ W.cell? ⟨w.heap.size, 4, none⟩ = some (.int .i64 s.mode) ∧ W.cell? ⟨w.heap.size, 5, none⟩ = some (.int .i64 s.term)) := Lib.hid fun W hx => ⟨(HB2.out.ext hx).cell 0, (HB2.out.ext hx).cell 1, (HB2.out.ext hx).cell 2, (HB2.out.ext hx).cell 3, (HB2.out.ext hx).cell 4, (HB2.out.ext hx).cell 5⟩
  obtain ⟨bs, hbs⟩ : ∃ bs, bs = imgB s := ⟨_, rfl⟩
  have K1 : Hid (∀ W, Ext w1 W → Calls Tryd.prog 28 #[.agg #[.slice An s.nodes.length cn, .slice Aj s.jobs.length cj, .int .i64 s.goal, .int .i64 s.prior, .int .i64 s.mode, .int .i64 s.term]] W fun e w' => ∃ v, e = .returned v ∧ Rd w' v (bs.map B) ∧ Ext w1 w') := Lib.hid fun W h => (ImgPut_any _ _ s W (HR2.out.ext h)).mono (by rintro e w' ⟨v, rfl, hr, hh⟩; rw [← hbs] at hr; exact ⟨v, rfl, hr, h.trans hh⟩)
  have K2 : Hid (∀ {V : World} W, Ext w1 V → Ext V W → Calls Tryd.prog 29 #[.agg #[.slice An s.nodes.length cn, .slice Aj s.jobs.length cj, .int .i64 s.goal, .int .i64 s.prior, .int .i64 s.mode, .int .i64 s.term]] W fun e w' => ∃ v, e = .returned v ∧ Rd w' v (bs.map B) ∧ Ext V w') := Lib.hid fun W hv h => (RefPut10_any _ _ s W (HR2.out.ext (hv.trans h))).mono (by rintro e w' ⟨v, rfl, hr, hh⟩; rw [← hbs] at hr; exact ⟨v, rfl, hr, h.trans hh⟩)
  have K3 : Hid (∀ W u v, Rd W u (bs.map B) → Rd W v (bs.map B) → Ext w1 W → Calls Tryd.prog 27 #[u, v] W fun e w' => e = .returned (.bool true) ∧ Ext w1 w') := Lib.hid fun W u v hu hv h => (Bytes_any bs bs u v W hu hv).mono (by rintro e w' ⟨rfl, n, rfl⟩; exact ⟨by simp, Below.drewN' h n⟩)
  clear hbs
  go_wp2_with fail
  clear s0 s1
  go_region_held3 (fun W => W.cell? ⟨w.heap.size, 0, none⟩ = some (.slice An s.nodes.length cn) ∧ W.cell? ⟨w.heap.size, 1, none⟩ = some (.slice Aj s.jobs.length cj) ∧ W.cell? ⟨w.heap.size, 2, none⟩ = some (.int .i64 s.goal) ∧ W.cell? ⟨w.heap.size, 3, none⟩ = some (.int .i64 s.prior) ∧ W.cell? ⟨w.heap.size, 4, none⟩ = some (.int .i64 s.mode) ∧ W.cell? ⟨w.heap.size, 5, none⟩ = some (.int .i64 s.term)) (first | exact HCC.out _ y3 | exact HCC.out _ y2 | exact HCC.out _ y1 | exact HCC.out _ (Ext.refl _) | exact HCC.out _ (ext_drew9 (Ext.refl _)) | go_keep) (first | (go_at_call 28; (first | (with_reducible refine (K1.out _ (Ext.refl w1)).mono ?_) | (with_reducible refine (K1.out _ (ext_drew9 (Ext.refl w1))).mono ?_)); rintro e1 v1 ⟨x1, rfl, r1, y1⟩) | (go_at_call 29; (first | (with_reducible refine (K2.out _ y1 (Ext.refl v1)).mono ?_) | (with_reducible refine (K2.out _ y1 (ext_drew9 (Ext.refl v1))).mono ?_)); rintro e2 v2 ⟨x2, rfl, r2, z2⟩; have y2 : Ext w1 v2 := Ext.trans y1 z2; have r1' := r1.ext z2) | (go_at_call 27; (first | (with_reducible refine (K3.out _ _ _ r1' r2 y2).mono ?_) | (with_reducible refine (K3.out _ _ _ (r1'.ext (ext_drew9 (Ext.refl v2))) (r2.ext (ext_drew9 (Ext.refl v2))) (ext_drew9 y2)).mono ?_)); rintro e3 v3 ⟨rfl, y3⟩))
  all_goals
    have HX9 := Lib.hid (Ext.trans HX2.out y3)
    clear y1 y2 y3
    go_wp2
    go_ret
    exact ⟨rfl, HX9.out⟩

set_option maxRecDepth 100000 in
theorem ImagePuts_lifted (os : Os) (started : os.Started) (H : Type) (enc : TypeId × Value → H) :
    ReturnsInHanded {} Tryd.checked os 5 .any (fun w args => (Rows.imagePutsSpec.pre enc Tryd.prog Tryd.f5 [] false w args ∧ laidMetH Tryd.prog Rows.imagePutsRow.laid w) ∧ sizedMet enc Tryd.prog Tryd.f5 (OpenSpec.ofChange Rows.imagePutsSpec) false w args) (Rows.imagePutsSpec.post enc Tryd.prog Tryd.f5 false true false false) := by
  refine law_liftL (C := Tryd.checked) (tb := 4) Rows.imagePutsRow.laid Tryd.ownKnob started (by kernel_rfl) Tryd.func5 Tryd.laidOut (by kernel_rfl) rfl Tryd.underlying4 rfl rfl ?_
    (ChangeSpec.witness_shaped (enc := enc) (C := Tryd.checked) (os := os) (X := fun w _ => laidMetH Tryd.prog Rows.imagePutsRow.laid w) false (World.laidAll Tryd.prog os Rows.imagePutsRow.laid) #[.agg #[.slice none 0 0, .slice none 0 0, .int .i64 0, .int .i64 0, .int .i64 0, .int .i64 0]] 8 (World.laidAll_os _ _ _)
      (World.shaped_of_ZipB (by kernel_rfl) (by kernel_rfl)) (by kernel_rfl) (by kernel_rfl) (by kernel_rfl)
      (by rw [MakeChecks.laidMetH_plain _ _ _ (by kernel_rfl)]; exact laidMet_laidAll _ (by kernel_rfl) (by kernel_rfl))) ?_
  · intro ds hd
    rw [Tryd.params5] at hd
    match ds, hd with
    | [d0], _ => rfl
  · intro W base args ds p hval hA hsz hL0 hsh
    have hL : laidMetH Tryd.prog Rows.imagePutsRow.laid W := hL0
    rw [MakeChecks.laidMetH_plain _ _ _ (by kernel_rfl)] at hL
    have hLd : LaidI W := laidI_of _ hL (by repeat (first | exact List.Mem.head _ | apply List.Mem.tail))
    rw [Tryd.params5] at hA hval hsz
    obtain ⟨v0, vs0, d0, ds0, p0, q0, hargs, rfl, rfl, h0, r0_⟩ := trodAll_cons hA
    obtain ⟨rfl, rfl, rfl⟩ := trodAll_nil r0_
    obtain rfl : args = #[v0] := by cases args; simp_all
    obtain ⟨vn0, vj0, a0, rfl, r0⟩ := dec_state (hval 0 27 v0 rfl rfl) h0
    exact ImagePuts_calls vn0 vj0 a0 W r0 hLd

theorem ImagePuts_row : Rows.ImagePutsSaid :=
  OpenClaim.holds_of_wide 5 Tryd.f5 rfl rfl rfl rfl rfl rfl rfl ⟨rfl, rfl, rfl, rfl, rfl⟩ rfl rfl rfl rfl rfl (by kernel_rfl) Tryd.func5 (by kernel_rfl)
    (of_decide_eq_true (by kernel_rfl)) (by unfold Func.isWrapper; first | (rw [if_pos (by decide +kernel)]; kernel_rfl) | (rw [if_neg (by decide +kernel)]; exact ⟨rfl, rfl⟩))
    (fun os started H enc _ => ImagePuts_lifted os started H enc)

/-- THE TIED CARD. -/
theorem ImagePuts_holds : Rows.ImagePutsCardSaid :=
  Claim7.holds_tied_plain_at .later [] Rows.imagePutsCard.laidKinds true Rows.imagePutsCard.stood.harness Rows.imagePutsCard.stood.looks
    ImagePuts_row (fun _ h => by cases h) (by kernel_rfl) (fun _ h => by cases h) imagePuts_row_tie rfl ⟨rfl, rfl⟩ (by kernel_rfl) rfl
    (fun f fn hf hfn => by
      obtain rfl : f = 5 := Option.some.inj ((show Tryd.prog.funcNamed "dunnage/dunnagelaw10.ImagePuts" = some 5 by kernel_rfl).symm.trans hf) |>.symm
      obtain rfl : fn = Tryd.f5 := (Option.some.inj (Tryd.func5.symm.trans hfn)).symm
      exact ⟨by kernel_rfl, fun j t ht => by
        rw [Tryd.params5] at ht
        have hm : t ∈ [27] := by simpa using Array.mem_of_getElem? ht
        have hall : ([27].all fun u => !Tryd.prog.wantsStandIn u) = true := by kernel_rfl
        exact (show Tryd.prog.wantsStandIn t = false by simpa using List.all_eq_true.1 hall t hm)⟩)
    (by kernel_rfl)

end Go.Proofs.YtnnilalnkkbdoaaDoor
