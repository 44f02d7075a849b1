/- For every input ImageGets returns true: the state of all bytes, or that they are none's, is the document's, of every fleet; with the listed package-level variable as the program's text lays it. -/
import Derived.Test.YtddhbokknbmdfaaDoorIQ16
import Derived.Test.YtddhbokknbmdfaaDoorCards
import Derived.Test.YtddhbokknbmdfaaDoorTie
import Derived.SevenTiedAt
import Derived.Deep.DeepCutAuto
import Derived.Deep.CutBlock
import Derived.Deep.LoopGhost
import Derived.BigQuiet
import Derived.Deep.RegionHeld3
namespace Go.Proofs.YtddhbokknbmdfaaDoor
open Go.ChangeShapes Go.WideShapes Go.ChangeAt Go.RowKit

set_option maxRecDepth 100000 in
set_option maxHeartbeats 8000000 in
theorem ImageGets_calls (c : Cf) (bs : List UInt8) (v : Value) (w : World) (hv : Rd w v (bs.map B)) (hL : LaidI w) :
    Calls Tryd.prog 4 #[cfV c, v] w fun e w' => e = .returned (.bool true) ∧ Ext w w' := by
  obtain ⟨A, cv, rfl, -, -⟩ := hv.sliceN (List.length_map _)
  obtain ⟨W1, hW1⟩ : ∃ W, W = w.alloc (.cells #[.int .i64 c.nodes, .int .i64 c.queues, .int .i64 c.quota, .int .i64 c.wave, .int .i64 c.lease, .int .i64 c.retry, .int .i64 c.deadline, .int .i64 c.room, .int .i64 c.disk] 23) := ⟨_, rfl⟩
  have hx1 : Ext w W1 := by rw [hW1]; exact (Below.refl _ _).alloc (Nat.le_refl _) _
  have HB1 : Hid (Blk W1 w.heap.size 23 #[.int .i64 c.nodes, .int .i64 c.queues, .int .i64 c.quota, .int .i64 c.wave, .int .i64 c.lease, .int .i64 c.retry, .int .i64 c.deadline, .int .i64 c.room, .int .i64 c.disk]) := Lib.hid (by rw [hW1]; exact Blk.new _ _ _)
  have HX1 := Lib.hid hx1
  have HV0 := Lib.hid hv
  have HL := Lib.hid hL
  have HAL := Lib.hid (alive10_any W1 (hL.ext hx1))
  unfold cfV
  clear hx1 hv hL
  go_enter Tryd.func4, Tryd.ntmps4
  go_upto_region 1 with (fail)
  rw [← hW1]
  clear hW1
  go_wp2_with fail
  refine HAL.out.mono ?_
  rintro e1 w1 ⟨rfl, hx1⟩
  have HX2 := Lib.hid (HX1.out.trans hx1)
  have HB2 := Lib.hid (HB1.out.ext hx1)
  clear hx1 HX1 HB1 HAL
  by_cases h1 : 2000 < bs.length
  · have d1 : decide ((2000 : Int) < (bs.length : Int)) = true := decide_eq_true (by omega)
    have d1' : decide (2000 < bs.length) = true := decide_eq_true h1
    clear h1
    go_wp2
    go_ret
    exact ⟨rfl, HX2.out⟩
  have d1 : decide ((2000 : Int) < (bs.length : Int)) = false := decide_eq_false (by omega)
  have d1' : decide (2000 < bs.length) = false := decide_eq_false h1
  have HLN : Hid (bs.length ≤ 2000) := Lib.hid (by omega)
  clear h1
  have k0 : w1.cell? ⟨w.heap.size, 0, none⟩ = some (.int .i64 c.nodes) := HB2.out.cell 0
  have k1 : w1.cell? ⟨w.heap.size, 1, none⟩ = some (.int .i64 c.queues) := HB2.out.cell 1
  have k2 : w1.cell? ⟨w.heap.size, 2, none⟩ = some (.int .i64 c.quota) := HB2.out.cell 2
  have k3 : w1.cell? ⟨w.heap.size, 3, none⟩ = some (.int .i64 c.wave) := HB2.out.cell 3
  have k4 : w1.cell? ⟨w.heap.size, 4, none⟩ = some (.int .i64 c.lease) := HB2.out.cell 4
  have k5 : w1.cell? ⟨w.heap.size, 5, none⟩ = some (.int .i64 c.retry) := HB2.out.cell 5
  have k6 : w1.cell? ⟨w.heap.size, 6, none⟩ = some (.int .i64 c.deadline) := HB2.out.cell 6
  have k7 : w1.cell? ⟨w.heap.size, 7, none⟩ = some (.int .i64 c.room) := HB2.out.cell 7
  have k8 : w1.cell? ⟨w.heap.size, 8, none⟩ = some (.int .i64 c.disk) := HB2.out.cell 8
  go_wp2_with fail
  refine (ImgGet_any c bs _ w1 (HV0.out.ext HX2.out) (by have := HLN.out; omega) (HL.out.ext HX2.out)).mono ?_
  rintro e3 w3 ⟨un, uj, t, ok, rfl, ht, hx3, hk3, ho1, ho2⟩
  obtain ⟨Bn, dn, rfl, -, -⟩ := ht.nodes.slice_
  obtain ⟨Bj, dj, rfl, -, -⟩ := ht.jobs.slice_
  unfold stV
  obtain ⟨w4, hw4⟩ : ∃ W, W = w3.alloc (.cells #[.slice Bn t.nodes.length dn, .slice Bj t.jobs.length dj, .int .i64 t.goal, .int .i64 t.prior, .int .i64 t.mode, .int .i64 t.term] 30) := ⟨_, rfl⟩
  have hx4 : Ext w3 w4 := by rw [hw4]; exact (Below.refl _ _).alloc (Nat.le_refl _) _
  have HT4 : Hid (Blk w4 w3.heap.size 30 #[.slice Bn t.nodes.length dn, .slice Bj t.jobs.length dj, .int .i64 t.goal, .int .i64 t.prior, .int .i64 t.mode, .int .i64 t.term]) := Lib.hid (by rw [hw4]; exact Blk.new _ _ _)
  have HRT4 := Lib.hid (ht.ext hx4)
  have HX4 := Lib.hid ((HX2.out.trans hx3).trans hx4)
  have HB4 := Lib.hid ((HB2.out.ext hx3).ext hx4)
  have HO1 := Lib.hid ho1
  have HO2 := Lib.hid ho2
  clear ht hx3 hk3 ho1 ho2 hx4 HX2 HB2 k0 k1 k2 k3 k4 k5 k6 k7 k8
  go_upto_region 6 with (fail)
  rw [← hw4]
  clear hw4
  generalize w3.heap.size = g at *
  have k0 : w4.cell? ⟨w.heap.size, 0, none⟩ = some (.int .i64 c.nodes) := HB4.out.cell 0
  have k1 : w4.cell? ⟨w.heap.size, 1, none⟩ = some (.int .i64 c.queues) := HB4.out.cell 1
  have k2 : w4.cell? ⟨w.heap.size, 2, none⟩ = some (.int .i64 c.quota) := HB4.out.cell 2
  have k3 : w4.cell? ⟨w.heap.size, 3, none⟩ = some (.int .i64 c.wave) := HB4.out.cell 3
  have k4 : w4.cell? ⟨w.heap.size, 4, none⟩ = some (.int .i64 c.lease) := HB4.out.cell 4
  have k5 : w4.cell? ⟨w.heap.size, 5, none⟩ = some (.int .i64 c.retry) := HB4.out.cell 5
  have k6 : w4.cell? ⟨w.heap.size, 6, none⟩ = some (.int .i64 c.deadline) := HB4.out.cell 6
  have k7 : w4.cell? ⟨w.heap.size, 7, none⟩ = some (.int .i64 c.room) := HB4.out.cell 7
  have k8 : w4.cell? ⟨w.heap.size, 8, none⟩ = some (.int .i64 c.disk) := HB4.out.cell 8
  go_wp2_with fail
  refine (RefGet10_any c bs _ w4 (HV0.out.ext HX4.out) (by have := HLN.out; omega)).mono ?_
  rintro e5 w5 ⟨pn, pj, u, is, rfl, hu, hx5, hk5, hp1, hp2⟩
  obtain ⟨Cn, fn, rfl, -, -⟩ := hu.nodes.slice_
  obtain ⟨Cj, fj, rfl, -, -⟩ := hu.jobs.slice_
  unfold stV
  obtain ⟨w6, hw6⟩ : ∃ W, W = w5.alloc (.cells #[.slice Cn u.nodes.length fn, .slice Cj u.jobs.length fj, .int .i64 u.goal, .int .i64 u.prior, .int .i64 u.mode, .int .i64 u.term] 30) := ⟨_, rfl⟩
  have hx6 : Ext w5 w6 := by rw [hw6]; exact (Below.refl _ _).alloc (Nat.le_refl _) _
  have HU6 : Hid (Blk w6 w5.heap.size 30 #[.slice Cn u.nodes.length fn, .slice Cj u.jobs.length fj, .int .i64 u.goal, .int .i64 u.prior, .int .i64 u.mode, .int .i64 u.term]) := Lib.hid (by rw [hw6]; exact Blk.new _ _ _)
  have HRU6 := Lib.hid (hu.ext hx6)
  have HRT6 := Lib.hid ((HRT4.out.ext hx5).ext hx6)
  have HT6 := Lib.hid ((HT4.out.ext hx5).ext hx6)
  have HX6 := Lib.hid ((HX4.out.trans hx5).trans hx6)
  have HEQ : Hid (t = u ∧ ok = is) := Lib.hid (by
    cases ok with
    | true =>
      cases is with
      | true => exact ⟨(HO1.out rfl).one (hp1 rfl), rfl⟩
      | false => exact absurd (HO1.out rfl) ((hp2 rfl).2 t)
    | false =>
      cases is with
      | true => exact absurd (hp1 rfl) ((HO2.out rfl).2 u)
      | false => exact ⟨(HO2.out rfl).1.trans (hp2 rfl).1.symm, rfl⟩)
  clear hu hx5 hk5 hp1 hp2 hx6 HX4 HB4 HO1 HO2 HT4 HRT4 k0 k1 k2 k3 k4 k5 k6 k7 k8
  go_upto_region 7 with (fail)
  rw [← hw6]
  clear hw6
  generalize w5.heap.size = g2 at *
  have s0 : w6.cell? ⟨g, 0, none⟩ = some (.slice Bn t.nodes.length dn) := HT6.out.cell 0
  have s1 : w6.cell? ⟨g, 1, none⟩ = some (.slice Bj t.jobs.length dj) := HT6.out.cell 1
  have s2 : w6.cell? ⟨g, 2, none⟩ = some (.int .i64 t.goal) := HT6.out.cell 2
  have s3 : w6.cell? ⟨g, 3, none⟩ = some (.int .i64 t.prior) := HT6.out.cell 3
  have s4 : w6.cell? ⟨g, 4, none⟩ = some (.int .i64 t.mode) := HT6.out.cell 4
  have s5 : w6.cell? ⟨g, 5, none⟩ = some (.int .i64 t.term) := HT6.out.cell 5
  have r0 : w6.cell? ⟨g2, 0, none⟩ = some (.slice Cn u.nodes.length fn) := HU6.out.cell 0
  have r1 : w6.cell? ⟨g2, 1, none⟩ = some (.slice Cj u.jobs.length fj) := HU6.out.cell 1
  have r2 : w6.cell? ⟨g2, 2, none⟩ = some (.int .i64 u.goal) := HU6.out.cell 2
  have r3 : w6.cell? ⟨g2, 3, none⟩ = some (.int .i64 u.prior) := HU6.out.cell 3
  have r4 : w6.cell? ⟨g2, 4, none⟩ = some (.int .i64 u.mode) := HU6.out.cell 4
  have r5 : w6.cell? ⟨g2, 5, none⟩ = some (.int .i64 u.term) := HU6.out.cell 5
  have HSM : Hid (Calls Tryd.prog 11 #[.agg #[.slice Bn t.nodes.length dn, .slice Bj t.jobs.length dj, .int .i64 t.goal, .int .i64 t.prior, .int .i64 t.mode, .int .i64 t.term], .agg #[.slice Cn u.nodes.length fn, .slice Cj u.jobs.length fj, .int .i64 u.goal, .int .i64 u.prior, .int .i64 u.mode, .int .i64 u.term]] w6 fun e w' => e = .returned (.bool true) ∧ Ext w6 w') := Lib.hid ((Same09_any _ _ _ _ t u w6 HRT6.out HRU6.out).mono (by rintro e w' ⟨b, rfl, hb, hx⟩; exact ⟨by rw [hb.2 HEQ.out.1], hx⟩))
  have hoi := HEQ.out.2
  subst hoi
  have hoo : (ok == ok) = true := by simp
  clear HEQ HRT6 HRU6 HT6 HU6
  go_wp2_with fail
  refine HSM.out.mono ?_
  rintro e7 w7 ⟨rfl, hx7⟩
  have HX7 := Lib.hid (HX6.out.trans hx7)
  clear hx7 s0 s1 s2 s3 s4 s5 r0 r1 r2 r3 r4 r5
  go_wp2
  go_ret
  exact ⟨rfl, HX7.out⟩

set_option maxRecDepth 100000 in
theorem ImageGets_lifted (os : Os) (started : os.Started) (H : Type) (enc : TypeId × Value → H) :
    ReturnsInHanded {} Tryd.checked os 4 .any (fun w args => (Rows.imageGetsSpec.pre enc Tryd.prog Tryd.f4 [] false w args ∧ laidMetH Tryd.prog Rows.imageGetsRow.laid w) ∧ sizedMet enc Tryd.prog Tryd.f4 (OpenSpec.ofChange Rows.imageGetsSpec) false w args) (Rows.imageGetsSpec.post enc Tryd.prog Tryd.f4 false true false false) := by
  refine law_liftL (C := Tryd.checked) (tb := 4) Rows.imageGetsRow.laid Tryd.ownKnob started (by kernel_rfl) Tryd.func4 Tryd.laidOut (by kernel_rfl) rfl Tryd.underlying4 rfl rfl ?_
    (ChangeSpec.witness_shaped (enc := enc) (C := Tryd.checked) (os := os) (X := fun w _ => laidMetH Tryd.prog Rows.imageGetsRow.laid w) false (World.laidAll Tryd.prog os Rows.imageGetsRow.laid) #[.agg #[.int .i64 0, .int .i64 0, .int .i64 0, .int .i64 0, .int .i64 0, .int .i64 0, .int .i64 0, .int .i64 0, .int .i64 0], .slice none 0 0] 8 (World.laidAll_os _ _ _)
      (World.shaped_of_ZipB (by kernel_rfl) (by kernel_rfl)) (by kernel_rfl) (by kernel_rfl) (by kernel_rfl)
      (by rw [MakeChecks.laidMetH_plain _ _ _ (by kernel_rfl)]; exact laidMet_laidAll _ (by kernel_rfl) (by kernel_rfl))) ?_
  · intro ds hd
    rw [Tryd.params4] at hd
    match ds, hd with
    | [d0, d1], _ => rfl
  · intro W base args ds p hval hA hsz hL0 hsh
    have hL : laidMetH Tryd.prog Rows.imageGetsRow.laid W := hL0
    rw [MakeChecks.laidMetH_plain _ _ _ (by kernel_rfl)] at hL
    have hLd : LaidI W := laidI_of _ hL (by repeat (first | exact List.Mem.head _ | apply List.Mem.tail))
    rw [Tryd.params4] at hA hval hsz
    obtain ⟨v0, vs0, d0, ds0, p0, q0, hargs, rfl, rfl, h0, r0_⟩ := trodAll_cons hA
    obtain ⟨v1, vs1, d1, ds1, p1, q1, rfl, rfl, rfl, h1, r1_⟩ := trodAll_cons r0_
    obtain ⟨rfl, rfl, rfl⟩ := trodAll_nil r1_
    obtain rfl : args = #[v0, v1] := by cases args; simp_all
    obtain ⟨a0, rfl⟩ := dec_conf (hval 0 23 v0 rfl rfl) h0
    obtain ⟨a1, r1, s1⟩ := dec_bytes Tryd.underlying47 Tryd.underlying5 (by kernel_rfl) (by kernel_rfl) (hval 1 47 v1 rfl rfl) h1 hsz (j := 1) rfl rfl
    exact ImageGets_calls a0 a1 _ W r1 hLd

theorem ImageGets_row : Rows.ImageGetsSaid :=
  OpenClaim.holds_of_wide 4 Tryd.f4 rfl rfl rfl rfl rfl rfl rfl ⟨rfl, rfl, rfl, rfl, rfl⟩ rfl rfl rfl rfl rfl (by kernel_rfl) Tryd.func4 (by kernel_rfl)
    (of_decide_eq_true (by kernel_rfl)) (by unfold Func.isWrapper; first | (rw [if_pos (by decide +kernel)]; kernel_rfl) | (rw [if_neg (by decide +kernel)]; exact ⟨rfl, rfl⟩))
    (fun os started H enc _ => ImageGets_lifted os started H enc)

/-- THE TIED CARD. -/
theorem ImageGets_holds : Rows.ImageGetsCardSaid :=
  Claim7.holds_tied_plain_at .later [] Rows.imageGetsCard.laidKinds true Rows.imageGetsCard.stood.harness Rows.imageGetsCard.stood.looks
    ImageGets_row (fun _ h => by cases h) (by kernel_rfl) (fun _ h => by cases h) imageGets_row_tie rfl ⟨rfl, rfl⟩ (by kernel_rfl) rfl
    (fun f fn hf hfn => by
      obtain rfl : f = 4 := Option.some.inj ((show Tryd.prog.funcNamed "dunnage/dunnagelaw10.ImageGets" = some 4 by kernel_rfl).symm.trans hf) |>.symm
      obtain rfl : fn = Tryd.f4 := (Option.some.inj (Tryd.func4.symm.trans hfn)).symm
      exact ⟨by kernel_rfl, fun j t ht => by
        rw [Tryd.params4] at ht
        have hm : t ∈ [23, 47] := by simpa using Array.mem_of_getElem? ht
        have hall : ([23, 47].all fun u => !Tryd.prog.wantsStandIn u) = true := by kernel_rfl
        exact (show Tryd.prog.wantsStandIn t = false by simpa using List.all_eq_true.1 hall t hm)⟩)
    (by kernel_rfl)

end Go.Proofs.YtddhbokknbmdfaaDoor
