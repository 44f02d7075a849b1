/- The law OpsFew (P8.3): a right op has 2 to 25 bytes, and words of two letters at least, without two blanks beside one another or at an end; one that isn't right has none; for every op, with the listed package-level variables as the program's text lays them. -/
import Derived.Test.YtngenbolpnckhaaDoorOpsQ5
import Derived.Test.YtngenbolpnckhaaDoorCards
import Derived.Test.YtngenbolpnckhaaDoorTie
import Derived.SevenTiedAt
import Derived.PlainAid
import Derived.Deep.RegionHeld3
namespace Go.Proofs.YtngenbolpnckhaaDoor
open Go.ChangeShapes Go.WideShapes Go.ChangeAt Go.RowKit Go.PlainAid

theorem bt_strB (T : List UInt8) {n : Nat} {c : UInt8} (h : T[n]? = some c) : bt (strB T) n = (c.toNat : Int) := by
  have hlt := (List.getElem?_eq_some_iff.1 h).1
  have hz := strB_size T
  rw [bt, dif_pos (by omega)]
  have e : (strB T)[n]'(by omega) = c := by
    have : T[n] = c := by
      rw [List.getElem?_eq_getElem hlt] at h
      injection h
    rw [← this]
    simp [strB, ByteArray.getElem_eq_getElem_data]
  rw [e]

set_option maxRecDepth 100000 in
set_option maxHeartbeats 4000000 in
theorem OpsFew_calls (o : OpN) (w : World) (hL : Laid w) :
    Calls Tryd.prog 7 #[opV o] w fun e w' => e = .returned (.bool true) ∧ Ext w w' := by
  have HLD := Lib.hid hL
  have HKR := Lib.hid fun W h => Right_any o W h
  have HKP := Lib.hid fun W h => Put_any o W h
  have HKT := Lib.hid fun W h => Text_any o W h
  have HPL := Lib.hid fun h => put_len (o := o) h
  have HTL := Lib.hid fun h => text_two (o := o) h
  have HTB := Lib.hid fun h i hi => text_blank (o := o) h (i := i) hi
  have HNO : Hid (rightO o = false → putO o = [] ∧ textO o = []) := Lib.hid fun h => ⟨put_wrong h, by rw [textO, if_neg (by rw [h]; decide)]⟩
  have HTM : Hid ((textO o).length ≤ 10000000) := Lib.hid (by
    cases h : rightO o with
    | true => rw [textO, if_pos h]; exact textO_len h
    | false => rw [textO, if_neg (by rw [h]; decide)]; simp)
  obtain ⟨T, hT⟩ : ∃ T, T = textO o := ⟨_, rfl⟩
  obtain ⟨P, hP⟩ : ∃ P, P = putO o := ⟨_, rfl⟩
  obtain ⟨R, hR⟩ : ∃ R, R = rightO o := ⟨_, rfl⟩
  rw [← hT] at HKT HTL HTB HNO HTM
  rw [← hP] at HKP HPL HNO
  rw [← hR] at HKR HPL HTL HTB HNO
  clear hL hT hP hR
  obtain ⟨k, a, b, c, d, e, f⟩ := o
  rw [show opV (k, a, b, c, d, e, f) = .agg #[.int .i64 k, .int .i64 a, .int .i64 b, .int .i64 c, .int .i64 d, .int .i64 e, .int .i64 f] from rfl] at HKR HKP HKT ⊢
  have hE : Ext w (w.alloc (.cells #[.int .i64 k, .int .i64 a, .int .i64 b, .int .i64 c, .int .i64 d, .int .i64 e, .int .i64 f] 23)) := (Below.refl _ _).alloc (Nat.le_refl _) _
  have HBK := Lib.hid (Blk.new w 23 #[.int .i64 k, .int .i64 a, .int .i64 b, .int .i64 c, .int .i64 d, .int .i64 e, .int .i64 f])
  have HE := Lib.hid hE
  have HAL := Lib.hid (alive8_any _ (HLD.out.ext hE))
  clear hE
  go_enter Tryd.func7, Tryd.ntmps7
  go_wp2_with fail
  refine HAL.out.mono ?_
  rintro e1 w2 ⟨rfl, hx2⟩
  have HB2 := Lib.hid (HBK.out.ext hx2)
  have HX2 := Lib.hid (HE.out.trans hx2)
  have HKP' : Hid (∀ W, Ext w2 W → Calls Tryd.prog 14 #[.agg #[.int .i64 k, .int .i64 a, .int .i64 b, .int .i64 c, .int .i64 d, .int .i64 e, .int .i64 f]] W fun e w' => ∃ v, e = .returned v ∧ Rd w' v (P.map B) ∧ Ext W w') := Lib.hid fun W h => HKP.out W ((HLD.out.ext HX2.out).ext h)
  have HKT' : Hid (∀ W, Ext w2 W → Calls Tryd.prog 20 #[.agg #[.int .i64 k, .int .i64 a, .int .i64 b, .int .i64 c, .int .i64 d, .int .i64 e, .int .i64 f]] W fun e w' => e = .returned (.string (strB T)) ∧ Ext W w') := Lib.hid fun W h => HKT.out W ((HLD.out.ext HX2.out).ext h)
  obtain ⟨c0, c1, c2, c3, c4, c5, c6⟩ := box_cells HB2.out
  obtain ⟨sb, hsb⟩ : ∃ sb, sb = strB T := ⟨_, rfl⟩
  rw [← hsb] at HKT'
  have HSB := Lib.hid hsb
  clear hx2 HBK HE HKP HKT HAL hsb
  obtain ⟨pl, hpl⟩ : ∃ n, n = P.length := ⟨_, rfl⟩
  have HPN := Lib.hid hpl
  clear hpl
  go_wp2_with fail
  go_region_held3 (fun w' => w'.cell? ⟨w.heap.size, 0, none⟩ = some (.int .i64 k) ∧ w'.cell? ⟨w.heap.size, 1, none⟩ = some (.int .i64 a) ∧ w'.cell? ⟨w.heap.size, 2, none⟩ = some (.int .i64 b) ∧ w'.cell? ⟨w.heap.size, 3, none⟩ = some (.int .i64 c) ∧ w'.cell? ⟨w.heap.size, 4, none⟩ = some (.int .i64 d) ∧ w'.cell? ⟨w.heap.size, 5, none⟩ = some (.int .i64 e) ∧ w'.cell? ⟨w.heap.size, 6, none⟩ = some (.int .i64 f)) (first | go_keep | (exact box_cells HB4.out) | (exact box_cells HB5.out)) (first | (go_at_call 14; (first | (with_reducible refine (HKP'.out _ (Ext.refl w2)).mono ?_) | (with_reducible refine (HKP'.out _ (ext_drew (Ext.refl w2))).mono ?_) | (with_reducible refine (HKP'.out _ hy5).mono ?_) | (with_reducible refine (HKP'.out _ (ext_drew hy5)).mono ?_)); rintro e4 w4 ⟨v4, rfl, hr4, hx4⟩; obtain ⟨A4, k4, rfl, -, -⟩ := hr4.sliceN (n := pl) (by rw [List.length_map, HPN.out]); (first | (have hy4 : Ext w2 w4 := hx4) | (have hy4 : Ext w2 w4 := hy5.trans hx4) | (have hy4 : Ext w2 w4 := Ext.trans (ext_drew (Ext.refl w2)) hx4) | (have hy4 : Ext w2 w4 := Ext.trans (ext_drew hy5) hx4)); have HB4 := Lib.hid (HB2.out.ext hy4)) | (go_at_call 20; (first | (with_reducible refine (HKT'.out _ (Ext.refl w2)).mono ?_) | (with_reducible refine (HKT'.out _ (ext_drew (Ext.refl w2))).mono ?_) | (with_reducible refine (HKT'.out _ hy4).mono ?_) | (with_reducible refine (HKT'.out _ (ext_drew hy4)).mono ?_)); rintro e5 w5 ⟨rfl, hx5⟩; (first | (have hy5 : Ext w2 w5 := hx5) | (have hy5 : Ext w2 w5 := hy4.trans hx5) | (have hy5 : Ext w2 w5 := Ext.trans (ext_drew (Ext.refl w2)) hx5) | (have hy5 : Ext w2 w5 := Ext.trans (ext_drew hy4) hx5)); have HB5 := Lib.hid (HB2.out.ext hy5)))
  all_goals
    have HX5 := Lib.hid (HX2.out.trans hy5)
    have HKR5 := Lib.hid (HKR.out _ (HLD.out.ext HX5.out))
    obtain ⟨N, hN⟩ : ∃ n, sb.size = n := ⟨_, rfl⟩
    have HN : Hid (N = T.length) := Lib.hid (by rw [← hN, HSB.out, strB_size])
    obtain ⟨g0, g1, g2, g3, g4, g5, g6⟩ := box_cells HB5.out
    clear HB4 HB2 hx4 hx5 hy4 hy5 hr4 HKP' HKT' HKR
    have hn7 : N ≤ 10000000 := by
      rw [HN.out]
      exact HTM.out
    cases R with
    | false =>
      obtain ⟨p1, p2⟩ := HNO.out rfl
      have hp0 : pl = 0 := by rw [HPN.out, p1]; rfl
      have hn0 : N = 0 := by rw [HN.out, p2]; rfl
      subst hp0 hn0
      clear p1 p2 hn7
      go_wp2_with fail
      refine HKR5.out.mono ?_
      rintro e6 w6 ⟨rfl, hx6⟩
      have HX6 := Lib.hid (HX5.out.trans hx6)
      clear hx6
      go_wp2
      go_ret
      exact ⟨rfl, HX6.out⟩
    | true =>
      have hp2 := HPL.out rfl
      rw [← HPN.out] at hp2
      obtain ⟨hpa, hpb⟩ := hp2
      have hnt := HTL.out rfl
      rw [← HN.out] at hnt
      have hgb := get_bt sb
      have HBB : Hid (∀ n c, T[n]? = some c → bt sb n = (c.toNat : Int)) := Lib.hid fun n c h => by rw [HSB.out]; exact bt_strB T h
      have HTB' := Lib.hid (HTB.out rfl)
      have q1 : decide ((2 : Int) ≤ (pl : Int)) = true := decide_eq_true (by omega)
      have q1' : decide (2 ≤ pl) = true := decide_eq_true hpa
      have q2 : decide ((pl : Int) ≤ 25) = true := decide_eq_true (by omega)
      have q2' : decide (pl ≤ 25) = true := decide_eq_true hpb
      have q3 : decide ((2 : Int) ≤ (N : Int)) = true := decide_eq_true (by omega)
      have q3' : decide (2 ≤ N) = true := decide_eq_true hnt
      clear HTB
      go_wp2_with fail
      refine HKR5.out.mono ?_
      rintro e6 w6 ⟨rfl, hx6⟩
      have HX6 := Lib.hid (HX5.out.trans hx6)
      clear hx6 HB5 HKR5 g0 g1 g2 g3 g4 g5 g6
      go_wp2
      go_loop [5] (fun i => ∃ n : Nat, i = .int .i64 n ∧ n ≤ N) (fun i => N - (intOf i).toNat)
      case atStart => exact ⟨0, rfl, Nat.zero_le _⟩
      case round =>
        obtain ⟨n, rfl, hn⟩ := hrel
        by_cases hlt : n < N
        · have d1 : decide (n < N) = true := decide_eq_true hlt
          obtain ⟨c', hc⟩ : ∃ c, T[n]? = some c := ⟨_, List.getElem?_eq_getElem (by rw [← HN.out]; exact hlt)⟩
          have hb := HBB.out n c' hc
          have hnz : n < sb.size := by rw [hN]; exact hlt
          by_cases h32 : c' = 32
          · rw [h32] at hc hb
            obtain ⟨i1, c2, i2, i3⟩ := HTB'.out n hc
            have i4 := (List.getElem?_eq_some_iff.1 i2).1
            rw [← HN.out] at i4
            have hb2 := HBB.out (n + 1) c2 i2
            have e1 : (bt sb n == 32) = true := by rw [hb]; rfl
            have e2 : (bt sb (n + 1) == 32) = false := by
              rw [hb2, beq_eq_false_iff_ne]
              intro e
              exact i3 (UInt8.toNat_inj.1 (by have : c2.toNat = 32 := by omega
                                              rw [this]
                                              rfl))
            have e3 : ((n : Int) == 0) = false := by rw [beq_eq_false_iff_ne]; omega
            have e4 : ((n : Int) == (N : Int) - 1) = false := by rw [beq_eq_false_iff_ne]; omega
            have hnz2 : n + 1 < sb.size := by rw [hN]; exact i4
            have HLT := Lib.hid hlt
            clear hc hb h32 i1 i2 i3 hb2
            go_wp2
            go_round
            case rel => exact ⟨n + 1, by go_num, HLT.out⟩
            case measure => have := HLT.out; simp [intOf]; omega
          · have e1 : (bt sb n == 32) = false := by
              rw [hb, beq_eq_false_iff_ne]
              intro e
              exact h32 (UInt8.toNat_inj.1 (by have : c'.toNat = 32 := by omega
                                               rw [this]
                                               rfl))
            have HLT := Lib.hid hlt
            clear hc hb h32
            go_wp2
            go_round
            case rel => exact ⟨n + 1, by go_num, HLT.out⟩
            case measure => have := HLT.out; simp [intOf]; omega
        · have d1 : decide (n < N) = false := decide_eq_false hlt
          obtain rfl : n = N := by omega
          go_wp2
          go_ret
          exact ⟨rfl, HX6.out⟩

set_option maxRecDepth 100000 in
theorem OpsFew_lifted (os : Os) (started : os.Started) (H : Type) (enc : TypeId × Value → H) :
    ReturnsInHanded {} Tryd.checked os 7 .any (fun w args => (Rows.opsFewSpec.pre enc Tryd.prog Tryd.f7 [] false w args ∧ laidMetH Tryd.prog Rows.opsFewRow.laid w) ∧ sizedMet enc Tryd.prog Tryd.f7 (OpenSpec.ofChange Rows.opsFewSpec) false w args) (Rows.opsFewSpec.post enc Tryd.prog Tryd.f7 false true false false) := by
  refine law_liftL (C := Tryd.checked) (tb := 4) Rows.opsFewRow.laid Tryd.ownKnob started (by kernel_rfl) Tryd.func7 Tryd.laidOut (by kernel_rfl) rfl Tryd.underlying4 rfl rfl ?_
    (ChangeSpec.witness_shaped (enc := enc) (C := Tryd.checked) (os := os) (X := fun w _ => laidMetH Tryd.prog Rows.opsFewRow.laid w) false (World.laidAll Tryd.prog os Rows.opsFewRow.laid) #[.agg #[.int .i64 0, .int .i64 0, .int .i64 0, .int .i64 0, .int .i64 0, .int .i64 0, .int .i64 0]] 8 (World.laidAll_os _ _ _)
      (World.shaped_of_ZipB (by kernel_rfl) (by kernel_rfl)) (by kernel_rfl) (by kernel_rfl) (by kernel_rfl)
      (by rw [MakeChecks.laidMetH_plain _ _ _ (by kernel_rfl)]; exact laidMet_laidAll _ (by kernel_rfl) (by kernel_rfl))) ?_
  · intro ds hd
    rw [Tryd.params7] at hd
    match ds, hd with
    | [d0], _ => rfl
  · intro W base args ds p hval hA hsz hL0 hsh
    have hL : laidMetH Tryd.prog Rows.opsFewRow.laid W := hL0
    rw [MakeChecks.laidMetH_plain _ _ _ (by kernel_rfl)] at hL
    have hLd : Laid W := laid_of _ hL hsh (by repeat (first | exact List.Mem.head _ | apply List.Mem.tail)) (by repeat (first | exact List.Mem.head _ | apply List.Mem.tail)) (by repeat (first | exact List.Mem.head _ | apply List.Mem.tail)) (by repeat (first | exact List.Mem.head _ | apply List.Mem.tail)) (by repeat (first | exact List.Mem.head _ | apply List.Mem.tail))
    rw [Tryd.params7] at hA hval hsz
    obtain ⟨v0, vs0, d0, ds0, p0, q0, hargs, rfl, rfl, h0, r0_⟩ := trodAll_cons hA
    obtain ⟨rfl, rfl, rfl⟩ := trodAll_nil r0_
    obtain rfl : args = #[v0] := by cases args; simp_all
    obtain ⟨a0, rfl⟩ := dec_op Tryd.underlying23 (by kernel_rfl) (by kernel_rfl) ⟨rfl, rfl, rfl, rfl, rfl, rfl, rfl⟩ Tryd.underlying3 (hval 0 23 v0 rfl rfl) h0
    exact OpsFew_calls a0 W hLd

theorem OpsFew_row : Rows.OpsFewSaid :=
  OpenClaim.holds_of_wide 7 Tryd.f7 rfl rfl rfl rfl rfl rfl rfl ⟨rfl, rfl, rfl, rfl, rfl⟩ rfl rfl rfl rfl rfl (by kernel_rfl) Tryd.func7 (by kernel_rfl)
    (of_decide_eq_true (by kernel_rfl)) (by unfold Func.isWrapper; first | (rw [if_pos (by decide +kernel)]; kernel_rfl) | (rw [if_neg (by decide +kernel)]; exact ⟨rfl, rfl⟩))
    (fun os started H enc _ => OpsFew_lifted os started H enc)

/-- THE TIED CARD. -/
theorem OpsFew_holds : Rows.OpsFewCardSaid :=
  Claim7.holds_tied_plain_at .later [] Rows.opsFewCard.laidKinds true Rows.opsFewCard.stood.harness Rows.opsFewCard.stood.looks
    OpsFew_row (fun _ h => by cases h) (by kernel_rfl) (fun _ h => by cases h) opsFew_row_tie rfl ⟨rfl, rfl⟩ (by kernel_rfl) rfl
    (fun f fn hf hfn => by
      obtain rfl : f = 7 := Option.some.inj ((show Tryd.prog.funcNamed "dunnage/dunnagelaw08.OpsFew" = some 7 by kernel_rfl).symm.trans hf) |>.symm
      obtain rfl : fn = Tryd.f7 := (Option.some.inj (Tryd.func7.symm.trans hfn)).symm
      exact ⟨by kernel_rfl, fun j t ht => by
        rw [Tryd.params7] at ht
        have hm : t ∈ [23] := by simpa using Array.mem_of_getElem? ht
        have hall : ([23].all fun u => !Tryd.prog.wantsStandIn u) = true := by kernel_rfl
        exact (show Tryd.prog.wantsStandIn t = false by simpa using List.all_eq_true.1 hall t hm)⟩)
    (by kernel_rfl)


end Go.Proofs.YtngenbolpnckhaaDoor
