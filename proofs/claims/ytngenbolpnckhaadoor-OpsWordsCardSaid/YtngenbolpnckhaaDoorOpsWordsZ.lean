/- The law OpsWords (P8.2): a kind's name, an op's words, and the op of words are the document's; for every op, all words and every kind, with the listed package-level variables as the program's text lays them. -/
import Derived.Test.YtngenbolpnckhaaDoorOpsWQ6
import Derived.Test.YtngenbolpnckhaaDoorCards
import Derived.Test.YtngenbolpnckhaaDoorTie
import Derived.SevenTiedAt
import Derived.Deep.RegionHeld3
namespace Go.Proofs.YtngenbolpnckhaaDoor
open Go.ChangeShapes Go.WideShapes Go.ChangeAt Go.RowKit

set_option maxRecDepth 100000 in
set_option maxHeartbeats 4000000 in
theorem OpsWords_calls (o : OpN) (s : List UInt8) (kind : Int) (w : World) (hL : Laid w) :
    Calls Tryd.prog 4 #[opV o, .string (strB s), .int .i64 kind] w fun e w' => e = .returned (.bool true) ∧ Ext w w' := by
  have HLD := Lib.hid hL
  have KR := Lib.hid fun W h => Name_any kind W h
  have KS := Lib.hid fun W => RefName08 kind W
  have KP := Lib.hid fun W h => Text_any o W h
  have KQ := Lib.hid fun W => RefText08 o W
  obtain ⟨R, hR⟩ : ∃ R, R = strB (nameK kind) := ⟨_, rfl⟩
  obtain ⟨P, hP⟩ : ∃ P, P = strB (textO o) := ⟨_, rfl⟩
  rw [← hR] at KR KS
  rw [← hP] at KP KQ
  obtain ⟨N, hN⟩ : ∃ n, (strB s).size = n := ⟨_, rfl⟩
  have HN : Hid (N = s.length) := Lib.hid (by rw [← hN, strB_size])
  have HPA := Lib.hid fun (W : World) h h' => Parse_any s W h h'
  have HPR := Lib.hid fun (W : World) h => RefParse08 s W h
  generalize strB s = sb at *
  clear hL hR hP
  obtain ⟨k, a, b, c, d, e, f⟩ := o
  rw [show opV (k, a, b, c, d, e, f) = .agg #[.int .i64 k, .int .i64 a, .int .i64 b, .int .i64 c, .int .i64 d, .int .i64 e, .int .i64 f] from rfl] at KP KQ ⊢
  have hE : Ext w (w.alloc (.cells #[.int .i64 k, .int .i64 a, .int .i64 b, .int .i64 c, .int .i64 d, .int .i64 e, .int .i64 f] 23)) := (Below.refl _ _).alloc (Nat.le_refl _) _
  have HBK := Lib.hid (Blk.new w 23 #[.int .i64 k, .int .i64 a, .int .i64 b, .int .i64 c, .int .i64 d, .int .i64 e, .int .i64 f])
  have HE := Lib.hid hE
  have HAL := Lib.hid (alive8_any _ (HLD.out.ext hE))
  clear hE
  go_enter Tryd.func4, Tryd.ntmps4
  go_wp2_with fail
  refine HAL.out.mono ?_
  rintro e1 w2 ⟨rfl, hx2⟩
  have HB2 := Lib.hid (HBK.out.ext hx2)
  have HX2 := Lib.hid (HE.out.trans hx2)
  clear hx2 HBK HE HAL
  by_cases h300 : N ≤ 300
  · have d1 : decide ((300 : Int) < (N : Int)) = false := decide_eq_false (by omega)
    have d1' : decide (300 < N) = false := decide_eq_false (by omega)
    have HG1 := Lib.hid (HPA.out w2 (by have := HN.out; omega) (HLD.out.ext HX2.out))
    have HG2 := Lib.hid fun W => HPR.out W (by have := HN.out; omega)
    clear h300 HPA HPR
    go_wp2_with fail
    refine HG1.out.mono ?_
    rintro e3 w3 ⟨o1, ok, rfl, hg1, hx3⟩
    obtain ⟨x0, x1, x2, x3, x4, x5, x6⟩ := o1
    rw [show opV (x0, x1, x2, x3, x4, x5, x6) = .agg #[.int .i64 x0, .int .i64 x1, .int .i64 x2, .int .i64 x3, .int .i64 x4, .int .i64 x5, .int .i64 x6] from rfl]
    have hx4 : Ext w3 (w3.alloc (.cells #[.int .i64 x0, .int .i64 x1, .int .i64 x2, .int .i64 x3, .int .i64 x4, .int .i64 x5, .int .i64 x6] 23)) := (Below.refl _ _).alloc (Nat.le_refl _) _
    have HC4 := Lib.hid (Blk.new w3 23 #[.int .i64 x0, .int .i64 x1, .int .i64 x2, .int .i64 x3, .int .i64 x4, .int .i64 x5, .int .i64 x6])
    have HB4 := Lib.hid ((HB2.out.ext hx3).ext hx4)
    have HX4 := Lib.hid ((HX2.out.trans hx3).trans hx4)
    have HGO := Lib.hid hg1
    clear hx3 hx4 hg1 HB2 HG1
    go_wp2_with fail
    refine (HG2.out _).mono ?_
    rintro e5 w5 ⟨o2, ok2, rfl, hg2, hx5⟩
    obtain ⟨eo, ek⟩ := hg2.one HGO.out
    subst eo ek
    rw [show opV (x0, x1, x2, x3, x4, x5, x6) = .agg #[.int .i64 x0, .int .i64 x1, .int .i64 x2, .int .i64 x3, .int .i64 x4, .int .i64 x5, .int .i64 x6] from rfl]
    have hx6 : Ext w5 (w5.alloc (.cells #[.int .i64 x0, .int .i64 x1, .int .i64 x2, .int .i64 x3, .int .i64 x4, .int .i64 x5, .int .i64 x6] 23)) := (Below.refl _ _).alloc (Nat.le_refl _) _
    have HD6 := Lib.hid (Blk.new w5 23 #[.int .i64 x0, .int .i64 x1, .int .i64 x2, .int .i64 x3, .int .i64 x4, .int .i64 x5, .int .i64 x6])
    have HC6 := Lib.hid ((HC4.out.ext hx5).ext hx6)
    have HB6 := Lib.hid ((HB4.out.ext hx5).ext hx6)
    have HX6 := Lib.hid ((HX4.out.trans hx5).trans hx6)
    clear hx5 hx6 hg2 HB4 HC4 HX4 HG2
    go_wp2_with fail
    generalize hw7 : w5.alloc _ = w7 at *
    clear hw7
    generalize w5.heap.size = g7 at *
    generalize w3.heap.size = g5 at *
    obtain ⟨b0, b1, b2, b3, b4, b5, b6⟩ := box_cells HB6.out
    obtain ⟨m0, m1, m2, m3, m4, m5, m6⟩ := box_cells HC6.out
    obtain ⟨n0, n1, n2, n3, n4, n5, n6⟩ := box_cells HD6.out
    have HC : Hid (∀ w', Ext w7 w' → (w'.cell? ⟨w.heap.size, 0, none⟩ = some (.int .i64 k) ∧ w'.cell? ⟨w.heap.size, 1, none⟩ = some (.int .i64 a) ∧ w'.cell? ⟨w.heap.size, 2, none⟩ = some (.int .i64 b) ∧ w'.cell? ⟨w.heap.size, 3, none⟩ = some (.int .i64 c) ∧ w'.cell? ⟨w.heap.size, 4, none⟩ = some (.int .i64 d) ∧ w'.cell? ⟨w.heap.size, 5, none⟩ = some (.int .i64 e) ∧ w'.cell? ⟨w.heap.size, 6, none⟩ = some (.int .i64 f)) ∧ (w'.cell? ⟨g5, 0, none⟩ = some (.int .i64 x0) ∧ w'.cell? ⟨g5, 1, none⟩ = some (.int .i64 x1) ∧ w'.cell? ⟨g5, 2, none⟩ = some (.int .i64 x2) ∧ w'.cell? ⟨g5, 3, none⟩ = some (.int .i64 x3) ∧ w'.cell? ⟨g5, 4, none⟩ = some (.int .i64 x4) ∧ w'.cell? ⟨g5, 5, none⟩ = some (.int .i64 x5) ∧ w'.cell? ⟨g5, 6, none⟩ = some (.int .i64 x6)) ∧ w'.cell? ⟨g7, 0, none⟩ = some (.int .i64 x0) ∧ w'.cell? ⟨g7, 1, none⟩ = some (.int .i64 x1) ∧ w'.cell? ⟨g7, 2, none⟩ = some (.int .i64 x2) ∧ w'.cell? ⟨g7, 3, none⟩ = some (.int .i64 x3) ∧ w'.cell? ⟨g7, 4, none⟩ = some (.int .i64 x4) ∧ w'.cell? ⟨g7, 5, none⟩ = some (.int .i64 x5) ∧ w'.cell? ⟨g7, 6, none⟩ = some (.int .i64 x6)) := Lib.hid fun w' hy => ⟨box_cells (HB6.out.ext hy), box_cells (HC6.out.ext hy), box_cells (HD6.out.ext hy)⟩
    have K1 : Hid (∀ W, Ext w7 W → Calls Tryd.prog 18 #[.int .i64 kind] W fun e w' => e = .returned (.string R) ∧ Ext w7 w') := Lib.hid fun W h => (KR.out W ((HLD.out.ext HX6.out).ext h)).mono (by rintro e w' ⟨rfl, rfl⟩; exact ⟨rfl, h⟩)
    have K2 : Hid (∀ W, Ext w7 W → Calls Tryd.prog 19 #[.int .i64 kind] W fun e w' => e = .returned (.string R) ∧ Ext w7 w') := Lib.hid fun W h => (KS.out W).mono (by rintro e w' ⟨rfl, hh⟩; exact ⟨rfl, h.trans hh⟩)
    have K3 : Hid (∀ W, Ext w7 W → Calls Tryd.prog 20 #[.agg #[.int .i64 k, .int .i64 a, .int .i64 b, .int .i64 c, .int .i64 d, .int .i64 e, .int .i64 f]] W fun e w' => e = .returned (.string P) ∧ Ext w7 w') := Lib.hid fun W h => (KP.out W ((HLD.out.ext HX6.out).ext h)).mono (by rintro e w' ⟨rfl, hh⟩; exact ⟨rfl, h.trans hh⟩)
    have K4 : Hid (∀ W, Ext w7 W → Calls Tryd.prog 21 #[.agg #[.int .i64 k, .int .i64 a, .int .i64 b, .int .i64 c, .int .i64 d, .int .i64 e, .int .i64 f]] W fun e w' => e = .returned (.string P) ∧ Ext w7 w') := Lib.hid fun W h => (KQ.out W).mono (by rintro e w' ⟨rfl, hh⟩; exact ⟨rfl, h.trans hh⟩)
    have qR : (R.toList == R.toList) = true := beq_self_eq_true _
    have qP : (P.toList == P.toList) = true := beq_self_eq_true _
    clear KR KS KP KQ HB6 HC6 HD6
    go_region_held3 (fun w' => (w'.cell? ⟨w.heap.size, 0, none⟩ = some (.int .i64 k) ∧ w'.cell? ⟨w.heap.size, 1, none⟩ = some (.int .i64 a) ∧ w'.cell? ⟨w.heap.size, 2, none⟩ = some (.int .i64 b) ∧ w'.cell? ⟨w.heap.size, 3, none⟩ = some (.int .i64 c) ∧ w'.cell? ⟨w.heap.size, 4, none⟩ = some (.int .i64 d) ∧ w'.cell? ⟨w.heap.size, 5, none⟩ = some (.int .i64 e) ∧ w'.cell? ⟨w.heap.size, 6, none⟩ = some (.int .i64 f)) ∧ (w'.cell? ⟨g5, 0, none⟩ = some (.int .i64 x0) ∧ w'.cell? ⟨g5, 1, none⟩ = some (.int .i64 x1) ∧ w'.cell? ⟨g5, 2, none⟩ = some (.int .i64 x2) ∧ w'.cell? ⟨g5, 3, none⟩ = some (.int .i64 x3) ∧ w'.cell? ⟨g5, 4, none⟩ = some (.int .i64 x4) ∧ w'.cell? ⟨g5, 5, none⟩ = some (.int .i64 x5) ∧ w'.cell? ⟨g5, 6, none⟩ = some (.int .i64 x6)) ∧ w'.cell? ⟨g7, 0, none⟩ = some (.int .i64 x0) ∧ w'.cell? ⟨g7, 1, none⟩ = some (.int .i64 x1) ∧ w'.cell? ⟨g7, 2, none⟩ = some (.int .i64 x2) ∧ w'.cell? ⟨g7, 3, none⟩ = some (.int .i64 x3) ∧ w'.cell? ⟨g7, 4, none⟩ = some (.int .i64 x4) ∧ w'.cell? ⟨g7, 5, none⟩ = some (.int .i64 x5) ∧ w'.cell? ⟨g7, 6, none⟩ = some (.int .i64 x6)) (first | go_keep | (exact HC.out _ y1) | (exact HC.out _ y2) | (exact HC.out _ y3) | (exact HC.out _ y4)) (first | (go_at_call 18; (first | (with_reducible refine (K1.out _ (Ext.refl w7)).mono ?_) | (with_reducible refine (K1.out _ (ext_drew (Ext.refl w7))).mono ?_)); rintro e1 v1 ⟨rfl, y1⟩) | (go_at_call 19; (first | (with_reducible refine (K2.out _ y1).mono ?_) | (with_reducible refine (K2.out _ (ext_drew y1)).mono ?_)); rintro e2 v2 ⟨rfl, y2⟩) | (go_at_call 20; (first | (with_reducible refine (K3.out _ y2).mono ?_) | (with_reducible refine (K3.out _ (ext_drew y2)).mono ?_)); rintro e3 v3 ⟨rfl, y3⟩) | (go_at_call 21; (first | (with_reducible refine (K4.out _ y3).mono ?_) | (with_reducible refine (K4.out _ (ext_drew y3)).mono ?_)); rintro e4 v4 ⟨rfl, y4⟩))
    all_goals
      have HX9 := Lib.hid (Ext.trans HX6.out y4)
      clear y1 y2 y3 y4
      go_wp2
      go_ret
      exact ⟨rfl, HX9.out⟩
  · have d1 : decide ((300 : Int) < (N : Int)) = true := decide_eq_true (by omega)
    have d1' : decide (300 < N) = true := decide_eq_true (by omega)
    clear h300
    go_wp2
    go_ret
    exact ⟨rfl, HX2.out⟩

set_option maxRecDepth 100000 in
theorem OpsWords_lifted (os : Os) (started : os.Started) (H : Type) (enc : TypeId × Value → H) :
    ReturnsInHanded {} Tryd.checked os 4 .any (fun w args => (Rows.opsWordsSpec.pre enc Tryd.prog Tryd.f4 [] false w args ∧ laidMetH Tryd.prog Rows.opsWordsRow.laid w) ∧ sizedMet enc Tryd.prog Tryd.f4 (OpenSpec.ofChange Rows.opsWordsSpec) false w args) (Rows.opsWordsSpec.post enc Tryd.prog Tryd.f4 false true false false) := by
  refine law_liftL (C := Tryd.checked) (tb := 4) Rows.opsWordsRow.laid Tryd.ownKnob started (by kernel_rfl) Tryd.func4 Tryd.laidOut (by kernel_rfl) rfl Tryd.underlying4 rfl rfl ?_
    (ChangeSpec.witness_shaped (enc := enc) (C := Tryd.checked) (os := os) (X := fun w _ => laidMetH Tryd.prog Rows.opsWordsRow.laid w) false (World.laidAll Tryd.prog os Rows.opsWordsRow.laid) #[.agg #[.int .i64 0, .int .i64 0, .int .i64 0, .int .i64 0, .int .i64 0, .int .i64 0, .int .i64 0], .string ⟨#[]⟩, .int .i64 0] 8 (World.laidAll_os _ _ _)
      (World.shaped_of_ZipB (by kernel_rfl) (by kernel_rfl)) (by kernel_rfl) (by kernel_rfl) (by kernel_rfl)
      (by rw [MakeChecks.laidMetH_plain _ _ _ (by kernel_rfl)]; exact laidMet_laidAll _ (by kernel_rfl) (by kernel_rfl))) ?_
  · intro ds hd
    rw [Tryd.params4] at hd
    match ds, hd with
    | [d0, d1, d2], _ => rfl
  · intro W base args ds p hval hA hsz hL0 hsh
    have hL : laidMetH Tryd.prog Rows.opsWordsRow.laid W := hL0
    rw [MakeChecks.laidMetH_plain _ _ _ (by kernel_rfl)] at hL
    have hLd : Laid W := laid_of _ hL hsh (by repeat (first | exact List.Mem.head _ | apply List.Mem.tail)) (by repeat (first | exact List.Mem.head _ | apply List.Mem.tail)) (by repeat (first | exact List.Mem.head _ | apply List.Mem.tail)) (by repeat (first | exact List.Mem.head _ | apply List.Mem.tail)) (by repeat (first | exact List.Mem.head _ | apply List.Mem.tail))
    rw [Tryd.params4] at hA hval hsz
    obtain ⟨v0, vs0, d0, ds0, p0, q0, hargs, rfl, rfl, h0, r0_⟩ := trodAll_cons hA
    obtain ⟨v1, vs1, d1, ds1, p1, q1, rfl, rfl, rfl, h1, r1_⟩ := trodAll_cons r0_
    obtain ⟨v2, vs2, d2, ds2, p2, q2, rfl, rfl, rfl, h2, r2_⟩ := trodAll_cons r1_
    obtain ⟨rfl, rfl, rfl⟩ := trodAll_nil r2_
    obtain rfl : args = #[v0, v1, v2] := by cases args; simp_all
    obtain ⟨a0, rfl⟩ := dec_op Tryd.underlying23 (by kernel_rfl) (by kernel_rfl) ⟨rfl, rfl, rfl, rfl, rfl, rfl, rfl⟩ Tryd.underlying3 (hval 0 23 v0 rfl rfl) h0
    obtain ⟨a1, rfl, s1⟩ := dec_str Tryd.underlying9 (hval 1 9 v1 rfl rfl) h1 hsz (j := 1) rfl rfl
    obtain ⟨a2, rfl, lo2, hi2⟩ := dec_int Tryd.underlying3 (hval 2 3 v2 rfl rfl) h2
    exact (by have h := OpsWords_calls a0 a1.data.toList a2 W hLd; rw [strB_back] at h; exact h)

theorem OpsWords_row : Rows.OpsWordsSaid :=
  OpenClaim.holds_of_wide 4 Tryd.f4 rfl rfl rfl rfl rfl rfl rfl ⟨rfl, rfl, rfl, rfl, rfl⟩ rfl rfl rfl rfl rfl (by kernel_rfl) Tryd.func4 (by kernel_rfl)
    (of_decide_eq_true (by kernel_rfl)) (by unfold Func.isWrapper; first | (rw [if_pos (by decide +kernel)]; kernel_rfl) | (rw [if_neg (by decide +kernel)]; exact ⟨rfl, rfl⟩))
    (fun os started H enc _ => OpsWords_lifted os started H enc)

/-- THE TIED CARD. -/
theorem OpsWords_holds : Rows.OpsWordsCardSaid :=
  Claim7.holds_tied_plain_at .later [] Rows.opsWordsCard.laidKinds true Rows.opsWordsCard.stood.harness Rows.opsWordsCard.stood.looks
    OpsWords_row (fun _ h => by cases h) (by kernel_rfl) (fun _ h => by cases h) opsWords_row_tie rfl ⟨rfl, rfl⟩ (by kernel_rfl) rfl
    (fun f fn hf hfn => by
      obtain rfl : f = 4 := Option.some.inj ((show Tryd.prog.funcNamed "dunnage/dunnagelaw08.OpsWords" = some 4 by kernel_rfl).symm.trans hf) |>.symm
      obtain rfl : fn = Tryd.f4 := (Option.some.inj (Tryd.func4.symm.trans hfn)).symm
      exact ⟨by kernel_rfl, fun j t ht => by
        rw [Tryd.params4] at ht
        have hm : t ∈ [23, 9, 3] := by simpa using Array.mem_of_getElem? ht
        have hall : ([23, 9, 3].all fun u => !Tryd.prog.wantsStandIn u) = true := by kernel_rfl
        exact (show Tryd.prog.wantsStandIn t = false by simpa using List.all_eq_true.1 hall t hm)⟩)
    (by kernel_rfl)


end Go.Proofs.YtngenbolpnckhaaDoor
