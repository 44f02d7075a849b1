/- The law OpsBack (P8.3): what is put, or told, is read again, and what is read is what would be put, or told; for every op, all bytes and every text, with the listed package-level variables as the program's text lays them. -/
import Derived.Test.YtngenbolpnckhaaDoorOpsQ5
import Derived.Test.YtngenbolpnckhaaDoorCards
import Derived.Test.YtngenbolpnckhaaDoorTie
import Derived.SevenTiedAt
import Derived.Deep.RegionHeld3
namespace Go.Proofs.YtngenbolpnckhaaDoor
open Go.ChangeShapes Go.WideShapes Go.ChangeAt Go.RowKit

set_option maxRecDepth 100000 in
set_option maxHeartbeats 20000000 in
theorem OpsBack_calls (o : OpN) (bs s : List UInt8) (v : Value) (w : World) (hr : Rd w v (bs.map B)) (hL : Laid w) :
    Calls Tryd.prog 5 #[opV o, v, .string (strB s)] w fun e w' => e = .returned (.bool true) ∧ Ext w w' := by
  have HLD := Lib.hid hL
  have HR := Lib.hid hr
  have KR := Lib.hid fun W h => Right_any o W h
  have KP := Lib.hid fun W h => Put_any o W h
  have KT := Lib.hid fun W h => Text_any o W h
  have HP25 := Lib.hid fun h => put_len (o := o) h
  have HT60 := Lib.hid fun h => text_60 (o := o) h
  have HGP : Hid (rightO o = true → GetO (putO o) o true ∧ ParseO (textO o) o true) := Lib.hid fun h => ⟨.inl ⟨rfl, h, rfl⟩, .inl ⟨rfl, h, rfl⟩⟩
  have HNO : Hid (rightO o = false → putO o = [] ∧ textO o = []) := Lib.hid fun h => ⟨put_wrong h, by rw [textO, if_neg (by rw [h]; decide)]⟩
  obtain ⟨N, hN⟩ : ∃ n, n = bs.length := ⟨_, rfl⟩
  have HN := Lib.hid hN
  obtain ⟨M, hM⟩ : ∃ n, (strB s).size = n := ⟨_, rfl⟩
  have HM : Hid (M = s.length) := Lib.hid (by rw [← hM, strB_size])
  obtain ⟨A, cp, rfl, hc1, hc2⟩ := hr.sliceN (n := N) (by rw [List.length_map, hN])
  unfold maxLen at hc2
  clear hr hL hN
  obtain ⟨k, a, b, c, d, e, f⟩ := o
  rw [show opV (k, a, b, c, d, e, f) = .agg #[.int .i64 k, .int .i64 a, .int .i64 b, .int .i64 c, .int .i64 d, .int .i64 e, .int .i64 f] from rfl] at KR KP KT ⊢
  have hE : Ext w (w.alloc (.cells #[.int .i64 k, .int .i64 a, .int .i64 b, .int .i64 c, .int .i64 d, .int .i64 e, .int .i64 f] 23)) := (Below.refl _ _).alloc (Nat.le_refl _) _
  have HBK := Lib.hid (Blk.new w 23 #[.int .i64 k, .int .i64 a, .int .i64 b, .int .i64 c, .int .i64 d, .int .i64 e, .int .i64 f])
  have HE := Lib.hid hE
  have HAL := Lib.hid (alive8_any _ (HLD.out.ext hE))
  clear hE
  go_enter Tryd.func5, Tryd.ntmps5
  go_wp2_with fail
  refine HAL.out.mono ?_
  rintro e1 w2 ⟨rfl, hx2⟩
  have HB2 := Lib.hid (HBK.out.ext hx2)
  have HX2 := Lib.hid (HE.out.trans hx2)
  clear hx2 HBK HE HAL
  by_cases h300 : N ≤ 300
  · have d1 : decide ((300 : Int) < (N : Int)) = false := decide_eq_false (by omega)
    have d1' : decide (300 < N) = false := decide_eq_false (by omega)
    by_cases g300 : M ≤ 300
    · have d2 : decide ((300 : Int) < (M : Int)) = false := decide_eq_false (by omega)
      have d2' : decide (300 < M) = false := decide_eq_false (by omega)
      have KG : Hid (∀ W, Ext w W → Calls Tryd.prog 9 #[.slice A N cp] W fun e w' => ∃ o ok, e = .returned (.tuple #[opV o, .bool ok]) ∧ GetO bs o ok ∧ Ext w w') := Lib.hid fun W h =>
        (Get_any bs _ W (HR.out.ext h) (by have := HN.out; omega) (HLD.out.ext h)).mono (by rintro e w' ⟨o, ok, rfl, hg, hx⟩; exact ⟨o, ok, rfl, hg, h.trans hx⟩)
      have KPs : Hid (∀ W, Ext w W → Calls Tryd.prog 16 #[.string (strB s)] W fun e w' => ∃ o ok, e = .returned (.tuple #[opV o, .bool ok]) ∧ ParseO s o ok ∧ (Ext w w' ∧ Ext W w')) := Lib.hid fun W h =>
        (Parse_any s W (by have := HM.out; omega) (HLD.out.ext h)).mono (by rintro e w' ⟨o, ok, rfl, hg, hx⟩; exact ⟨o, ok, rfl, hg, h.trans hx, hx⟩)
      obtain ⟨c0, c1, c2, c3, c4, c5, c6⟩ := box_cells HB2.out
      clear h300 g300
      go_wp2_with fail
      refine (KR.out _ (HLD.out.ext HX2.out)).mono ?_
      rintro e3 w3 ⟨rfl, hx3⟩
      have HX3 := Lib.hid (HX2.out.trans hx3)
      have HB3 := Lib.hid (HB2.out.ext hx3)
      clear hx3 HX2 HB2 c0 c1 c2 c3 c4 c5 c6 KR
      obtain ⟨c0, c1, c2, c3, c4, c5, c6⟩ := box_cells HB3.out
      cases hR : rightO (k, a, b, c, d, e, f) with
      | true =>
        have HGO0 := Lib.hid (HGP.out hR).1
        have HPO0 := Lib.hid (HGP.out hR).2
        have HPL := Lib.hid (HP25.out hR)
        have HTL := Lib.hid (HT60.out hR)
        clear hR HGP HNO HP25 HT60
        go_wp2_with fail
        refine (KP.out _ (HLD.out.ext HX3.out)).mono ?_
        rintro e4 w4 ⟨v4, rfl, hr4, hx4⟩
        have HX4 := Lib.hid (HX3.out.trans hx4)
        have HB4 := Lib.hid (HB3.out.ext hx4)
        have hg4 := Get_any _ v4 w4 hr4 (by have := HPL.out; omega) (HLD.out.ext HX4.out)
        have HG4 := Lib.hid hg4
        clear hr4 hx4 hg4 HX3 HB3 c0 c1 c2 c3 c4 c5 c6
        go_wp2_with fail
        refine HG4.out.mono ?_
        rintro e5 w5 ⟨o5, k5, rfl, hg5, hx5⟩
        obtain ⟨rfl, rfl⟩ := hg5.one HGO0.out
        rw [show opV (k, a, b, c, d, e, f) = .agg #[.int .i64 k, .int .i64 a, .int .i64 b, .int .i64 c, .int .i64 d, .int .i64 e, .int .i64 f] from rfl]
        have hx6 : Ext w5 (w5.alloc (.cells #[.int .i64 k, .int .i64 a, .int .i64 b, .int .i64 c, .int .i64 d, .int .i64 e, .int .i64 f] 23)) := (Below.refl _ _).alloc (Nat.le_refl _) _
        have HO6 := Lib.hid (Blk.new w5 23 #[.int .i64 k, .int .i64 a, .int .i64 b, .int .i64 c, .int .i64 d, .int .i64 e, .int .i64 f])
        have hb5 := HB4.out.ext hx5
        have HB6 := Lib.hid (hb5.ext hx6)
        have HX6 := Lib.hid ((HX4.out.trans hx5).trans hx6)
        have lt5 := hb5.lt
        obtain ⟨c0, c1, c2, c3, c4, c5, c6⟩ := box_cells hb5
        clear hg5 hx5 hx6 hb5 HG4 HX4 HB4
        go_wp2_with fail
        refine (KT.out _ (HLD.out.ext HX6.out)).mono ?_
        rintro e7 w7 ⟨rfl, hx7⟩
        have HX7 := Lib.hid (HX6.out.trans hx7)
        have HB7 := Lib.hid (HB6.out.ext hx7)
        have HO7 := Lib.hid (HO6.out.ext hx7)
        have HP7 := Lib.hid (Parse_any (textO (k, a, b, c, d, e, f)) w7 (by have := HTL.out; omega) (HLD.out.ext HX7.out))
        clear hx7 HX6 HB6 HO6 c0 c1 c2 c3 c4 c5 c6 lt5
        go_wp2_with fail
        refine HP7.out.mono ?_
        rintro e8 w8 ⟨o8, k8, rfl, hg8, hx8⟩
        obtain ⟨rfl, rfl⟩ := hg8.one HPO0.out
        rw [show opV (k, a, b, c, d, e, f) = .agg #[.int .i64 k, .int .i64 a, .int .i64 b, .int .i64 c, .int .i64 d, .int .i64 e, .int .i64 f] from rfl]
        have hx9 : Ext w8 (w8.alloc (.cells #[.int .i64 k, .int .i64 a, .int .i64 b, .int .i64 c, .int .i64 d, .int .i64 e, .int .i64 f] 23)) := (Below.refl _ _).alloc (Nat.le_refl _) _
        have hb8 := HB7.out.ext hx8
        have ho8 := HO7.out.ext hx8
        have HX := Lib.hid ((HX7.out.trans hx8).trans hx9)
        have lt8 := hb8.lt
        have lu8 := ho8.lt
        obtain ⟨c0, c1, c2, c3, c4, c5, c6⟩ := box_cells hb8
        obtain ⟨r0, r1, r2, r3, r4, r5, r6⟩ := box_cells ho8
        clear hg8 hx8 hx9 hb8 ho8 HP7 HX7 HB7 HO7
        go_wp2_with fail
        clear c0 c1 c2 c3 c4 c5 c6 r0 r1 r2 r3 r4 r5 r6 lt8 lu8
        refine (KG.out _ HX.out).mono ?_
        rintro e20 w20 ⟨o1, ok, rfl, hg1, hx20⟩
        obtain ⟨x0, x1, x2, x3, x4, x5, x6⟩ := o1
        rw [show opV (x0, x1, x2, x3, x4, x5, x6) = .agg #[.int .i64 x0, .int .i64 x1, .int .i64 x2, .int .i64 x3, .int .i64 x4, .int .i64 x5, .int .i64 x6] from rfl]
        have hx21 : Ext w20 (w20.alloc (.cells #[.int .i64 x0, .int .i64 x1, .int .i64 x2, .int .i64 x3, .int .i64 x4, .int .i64 x5, .int .i64 x6] 23)) := (Below.refl _ _).alloc (Nat.le_refl _) _
        have HC21 := Lib.hid (Blk.new w20 23 #[.int .i64 x0, .int .i64 x1, .int .i64 x2, .int .i64 x3, .int .i64 x4, .int .i64 x5, .int .i64 x6])
        have HX21 := Lib.hid (Ext.trans hx20 hx21)
        have HGO := Lib.hid hg1
        clear hx20 hx21 hg1
        go_wp2_with fail
        refine (KPs.out _ HX21.out).mono ?_
        rintro e22 w22 ⟨o2, is, rfl, hg2, hx22⟩
        obtain ⟨y0, y1, y2, y3, y4, y5, y6⟩ := o2
        rw [show opV (y0, y1, y2, y3, y4, y5, y6) = .agg #[.int .i64 y0, .int .i64 y1, .int .i64 y2, .int .i64 y3, .int .i64 y4, .int .i64 y5, .int .i64 y6] from rfl]
        have hy22 : Ext (w20.alloc (.cells #[.int .i64 x0, .int .i64 x1, .int .i64 x2, .int .i64 x3, .int .i64 x4, .int .i64 x5, .int .i64 x6] 23)) w22 := hx22.2
        have hx23 : Ext w22 (w22.alloc (.cells #[.int .i64 y0, .int .i64 y1, .int .i64 y2, .int .i64 y3, .int .i64 y4, .int .i64 y5, .int .i64 y6] 23)) := (Below.refl _ _).alloc (Nat.le_refl _) _
        have HD23 := Lib.hid (Blk.new w22 23 #[.int .i64 y0, .int .i64 y1, .int .i64 y2, .int .i64 y3, .int .i64 y4, .int .i64 y5, .int .i64 y6])
        have hc22 := HC21.out.ext hy22
        have HC23 := Lib.hid (hc22.ext hx23)
        have HX23 := Lib.hid (Ext.trans hx22.1 hx23)
        have HPO := Lib.hid hg2
        have lt22 := hc22.lt
        obtain ⟨m0, m1, m2, m3, m4, m5, m6⟩ := box_cells hc22
        clear hx22 hy22 hx23 hg2 hc22 HC21 HX21
        cases ok with
        | false =>
          cases is with
          | false =>
            go_wp2
            go_ret
            exact ⟨rfl, HX23.out⟩
          | true =>
            have HPR : Hid (rightO (y0, y1, y2, y3, y4, y5, y6) = true ∧ textO (y0, y1, y2, y3, y4, y5, y6) = s) := Lib.hid (by
              rcases HPO.out with ⟨-, h1, h2⟩ | ⟨h1, -, -⟩
              · exact ⟨h1, h2⟩
              · cases h1)
            go_wp2_with fail
            refine (Right_any (y0, y1, y2, y3, y4, y5, y6) _ (HLD.out.ext HX23.out)).mono ?_
            rintro e34 w34 ⟨rfl, hx34⟩
            rw [HPR.out.1]
            have HX34 := Lib.hid (HX23.out.trans hx34)
            have HD34 := Lib.hid (HD23.out.ext hx34)
            clear hx34 HX23 HD23
            obtain ⟨n0, n1, n2, n3, n4, n5, n6⟩ := box_cells HD34.out
            go_wp2_with fail
            refine (Text_any (y0, y1, y2, y3, y4, y5, y6) _ (HLD.out.ext HX34.out)).mono ?_
            rintro e35 w35 ⟨rfl, hx35⟩
            rw [HPR.out.2]
            have HX35 := Lib.hid (HX34.out.trans hx35)
            clear hx35 HX34 HD34 n0 n1 n2 n3 n4 n5 n6
            go_wp2
            go_ret
            exact ⟨rfl, HX35.out⟩
        | true =>
          have HGR : Hid (rightO (x0, x1, x2, x3, x4, x5, x6) = true ∧ putO (x0, x1, x2, x3, x4, x5, x6) = bs) := Lib.hid (by
            rcases HGO.out with ⟨-, h1, h2⟩ | ⟨h1, -, -⟩
            · exact ⟨h1, h2⟩
            · cases h1)
          go_wp2_with fail
          refine (Right_any (x0, x1, x2, x3, x4, x5, x6) _ (HLD.out.ext HX23.out)).mono ?_
          rintro e24 w24 ⟨rfl, hx24⟩
          rw [HGR.out.1]
          have HX24 := Lib.hid (HX23.out.trans hx24)
          have HC24 := Lib.hid (HC23.out.ext hx24)
          have HD24 := Lib.hid (HD23.out.ext hx24)
          clear hx24 HX23 HC23 HD23 m0 m1 m2 m3 m4 m5 m6 lt22
          obtain ⟨m0, m1, m2, m3, m4, m5, m6⟩ := box_cells HC24.out
          go_wp2_with fail
          refine (Put_any (x0, x1, x2, x3, x4, x5, x6) _ (HLD.out.ext HX24.out)).mono ?_
          rintro e25 w25 ⟨v25, rfl, hr25, hx25⟩
          rw [HGR.out.2] at hr25
          obtain ⟨A25, c25, rfl, -, -⟩ := hr25.sliceN (n := N) (by rw [List.length_map, HN.out])
          have HX25 := Lib.hid (HX24.out.trans hx25)
          have HD25 := Lib.hid (HD24.out.ext hx25)
          have HR25 := Lib.hid hr25
          clear hx25 hr25 HX24 HC24 HD24 m0 m1 m2 m3 m4 m5 m6
          go_wp2_with fail
          refine (Bytes_any bs bs _ _ _ HR25.out (HR.out.ext HX25.out)).mono ?_
          rintro e26 w26 ⟨rfl, nd, hw26⟩
          have hx26 : Ext w25 w26 := by
            rw [hw26]
            exact Below.drewN' (Ext.refl _) nd
          rw [decide_eq_true (rfl : bs = bs)]
          have HX23 := Lib.hid (HX25.out.trans hx26)
          have HD23 := Lib.hid (HD25.out.ext hx26)
          clear hw26 hx26 HX25 HD25 HR25
          cases is with
          | false =>
            go_wp2
            go_ret
            exact ⟨rfl, HX23.out⟩
          | true =>
            have HPR : Hid (rightO (y0, y1, y2, y3, y4, y5, y6) = true ∧ textO (y0, y1, y2, y3, y4, y5, y6) = s) := Lib.hid (by
              rcases HPO.out with ⟨-, h1, h2⟩ | ⟨h1, -, -⟩
              · exact ⟨h1, h2⟩
              · cases h1)
            obtain ⟨q0, q1, q2, q3, q4, q5, q6⟩ := box_cells HD23.out
            go_wp2_with fail
            refine (Right_any (y0, y1, y2, y3, y4, y5, y6) _ (HLD.out.ext HX23.out)).mono ?_
            rintro e34 w34 ⟨rfl, hx34⟩
            rw [HPR.out.1]
            have HX34 := Lib.hid (HX23.out.trans hx34)
            have HD34 := Lib.hid (HD23.out.ext hx34)
            clear hx34 HX23 HD23
            obtain ⟨n0, n1, n2, n3, n4, n5, n6⟩ := box_cells HD34.out
            go_wp2_with fail
            refine (Text_any (y0, y1, y2, y3, y4, y5, y6) _ (HLD.out.ext HX34.out)).mono ?_
            rintro e35 w35 ⟨rfl, hx35⟩
            rw [HPR.out.2]
            have HX35 := Lib.hid (HX34.out.trans hx35)
            clear hx35 HX34 HD34 n0 n1 n2 n3 n4 n5 n6
            go_wp2
            go_ret
            exact ⟨rfl, HX35.out⟩
      | false =>
        obtain ⟨hp, ht⟩ := HNO.out hR
        rw [hp] at KP
        rw [ht] at KT
        have K1 : Hid (∀ W, Ext w3 W → Calls Tryd.prog 14 #[.agg #[.int .i64 k, .int .i64 a, .int .i64 b, .int .i64 c, .int .i64 d, .int .i64 e, .int .i64 f]] W fun e w' => ∃ A c, e = .returned (.slice A 0 c) ∧ Ext w3 w') := Lib.hid fun W h => (KP.out W ((HLD.out.ext HX3.out).ext h)).mono (by
          rintro e w' ⟨v, rfl, hv, hh⟩
          obtain ⟨A, c, rfl, -, -⟩ := hv.sliceN (n := 0) rfl
          exact ⟨A, c, rfl, h.trans hh⟩)
        have K2 : Hid (∀ W, Ext w3 W → Calls Tryd.prog 20 #[.agg #[.int .i64 k, .int .i64 a, .int .i64 b, .int .i64 c, .int .i64 d, .int .i64 e, .int .i64 f]] W fun e w' => e = .returned (.string ⟨#[]⟩) ∧ Ext w3 w') := Lib.hid fun W h => (KT.out W ((HLD.out.ext HX3.out).ext h)).mono (by
          rintro e w' ⟨rfl, hh⟩
          exact ⟨rfl, h.trans hh⟩)
        have HC : Hid (∀ w', Ext w3 w' → (w'.cell? ⟨w.heap.size, 0, none⟩ = some (.int .i64 k) ∧ w'.cell? ⟨w.heap.size, 1, none⟩ = some (.int .i64 a) ∧ w'.cell? ⟨w.heap.size, 2, none⟩ = some (.int .i64 b) ∧ w'.cell? ⟨w.heap.size, 3, none⟩ = some (.int .i64 c) ∧ w'.cell? ⟨w.heap.size, 4, none⟩ = some (.int .i64 d) ∧ w'.cell? ⟨w.heap.size, 5, none⟩ = some (.int .i64 e) ∧ w'.cell? ⟨w.heap.size, 6, none⟩ = some (.int .i64 f))) := Lib.hid fun w' hy => box_cells (HB3.out.ext hy)
        clear hR HGP HNO HP25 HT60 KP KT hp ht
        go_wp2_with fail
        go_region_held3 (fun w' => w'.cell? ⟨w.heap.size, 0, none⟩ = some (.int .i64 k) ∧ w'.cell? ⟨w.heap.size, 1, none⟩ = some (.int .i64 a) ∧ w'.cell? ⟨w.heap.size, 2, none⟩ = some (.int .i64 b) ∧ w'.cell? ⟨w.heap.size, 3, none⟩ = some (.int .i64 c) ∧ w'.cell? ⟨w.heap.size, 4, none⟩ = some (.int .i64 d) ∧ w'.cell? ⟨w.heap.size, 5, none⟩ = some (.int .i64 e) ∧ w'.cell? ⟨w.heap.size, 6, none⟩ = some (.int .i64 f)) (first | go_keep | (exact HC.out _ y1) | (exact HC.out _ y2)) (first | (go_at_call 14; (first | (with_reducible refine (K1.out _ (Ext.refl w3)).mono ?_) | (with_reducible refine (K1.out _ (ext_drew (Ext.refl w3))).mono ?_)); rintro e4 w4 ⟨A4, k4, rfl, y1⟩) | (go_at_call 20; (first | (with_reducible refine (K2.out _ y1).mono ?_) | (with_reducible refine (K2.out _ (ext_drew y1)).mono ?_)); rintro e5 w5 ⟨rfl, y2⟩))
        all_goals
          have HX := Lib.hid (HX3.out.trans y2)
          clear y1 y2 c0 c1 c2 c3 c4 c5 c6 HC K1 K2 HB3
          go_wp2_with fail
          refine (KG.out _ HX.out).mono ?_
          rintro e20 w20 ⟨o1, ok, rfl, hg1, hx20⟩
          obtain ⟨x0, x1, x2, x3, x4, x5, x6⟩ := o1
          rw [show opV (x0, x1, x2, x3, x4, x5, x6) = .agg #[.int .i64 x0, .int .i64 x1, .int .i64 x2, .int .i64 x3, .int .i64 x4, .int .i64 x5, .int .i64 x6] from rfl]
          have hx21 : Ext w20 (w20.alloc (.cells #[.int .i64 x0, .int .i64 x1, .int .i64 x2, .int .i64 x3, .int .i64 x4, .int .i64 x5, .int .i64 x6] 23)) := (Below.refl _ _).alloc (Nat.le_refl _) _
          have HC21 := Lib.hid (Blk.new w20 23 #[.int .i64 x0, .int .i64 x1, .int .i64 x2, .int .i64 x3, .int .i64 x4, .int .i64 x5, .int .i64 x6])
          have HX21 := Lib.hid (Ext.trans hx20 hx21)
          have HGO := Lib.hid hg1
          clear hx20 hx21 hg1
          go_wp2_with fail
          refine (KPs.out _ HX21.out).mono ?_
          rintro e22 w22 ⟨o2, is, rfl, hg2, hx22⟩
          obtain ⟨y0, y1, y2, y3, y4, y5, y6⟩ := o2
          rw [show opV (y0, y1, y2, y3, y4, y5, y6) = .agg #[.int .i64 y0, .int .i64 y1, .int .i64 y2, .int .i64 y3, .int .i64 y4, .int .i64 y5, .int .i64 y6] from rfl]
          have hy22 : Ext (w20.alloc (.cells #[.int .i64 x0, .int .i64 x1, .int .i64 x2, .int .i64 x3, .int .i64 x4, .int .i64 x5, .int .i64 x6] 23)) w22 := hx22.2
          have hx23 : Ext w22 (w22.alloc (.cells #[.int .i64 y0, .int .i64 y1, .int .i64 y2, .int .i64 y3, .int .i64 y4, .int .i64 y5, .int .i64 y6] 23)) := (Below.refl _ _).alloc (Nat.le_refl _) _
          have HD23 := Lib.hid (Blk.new w22 23 #[.int .i64 y0, .int .i64 y1, .int .i64 y2, .int .i64 y3, .int .i64 y4, .int .i64 y5, .int .i64 y6])
          have hc22 := HC21.out.ext hy22
          have HC23 := Lib.hid (hc22.ext hx23)
          have HX23 := Lib.hid (Ext.trans hx22.1 hx23)
          have HPO := Lib.hid hg2
          have lt22 := hc22.lt
          obtain ⟨m0, m1, m2, m3, m4, m5, m6⟩ := box_cells hc22
          clear hx22 hy22 hx23 hg2 hc22 HC21 HX21
          cases ok with
          | false =>
            cases is with
            | false =>
              go_wp2
              go_ret
              exact ⟨rfl, HX23.out⟩
            | true =>
              have HPR : Hid (rightO (y0, y1, y2, y3, y4, y5, y6) = true ∧ textO (y0, y1, y2, y3, y4, y5, y6) = s) := Lib.hid (by
                rcases HPO.out with ⟨-, h1, h2⟩ | ⟨h1, -, -⟩
                · exact ⟨h1, h2⟩
                · cases h1)
              go_wp2_with fail
              refine (Right_any (y0, y1, y2, y3, y4, y5, y6) _ (HLD.out.ext HX23.out)).mono ?_
              rintro e34 w34 ⟨rfl, hx34⟩
              rw [HPR.out.1]
              have HX34 := Lib.hid (HX23.out.trans hx34)
              have HD34 := Lib.hid (HD23.out.ext hx34)
              clear hx34 HX23 HD23
              obtain ⟨n0, n1, n2, n3, n4, n5, n6⟩ := box_cells HD34.out
              go_wp2_with fail
              refine (Text_any (y0, y1, y2, y3, y4, y5, y6) _ (HLD.out.ext HX34.out)).mono ?_
              rintro e35 w35 ⟨rfl, hx35⟩
              rw [HPR.out.2]
              have HX35 := Lib.hid (HX34.out.trans hx35)
              clear hx35 HX34 HD34 n0 n1 n2 n3 n4 n5 n6
              go_wp2
              go_ret
              exact ⟨rfl, HX35.out⟩
          | true =>
            have HGR : Hid (rightO (x0, x1, x2, x3, x4, x5, x6) = true ∧ putO (x0, x1, x2, x3, x4, x5, x6) = bs) := Lib.hid (by
              rcases HGO.out with ⟨-, h1, h2⟩ | ⟨h1, -, -⟩
              · exact ⟨h1, h2⟩
              · cases h1)
            go_wp2_with fail
            refine (Right_any (x0, x1, x2, x3, x4, x5, x6) _ (HLD.out.ext HX23.out)).mono ?_
            rintro e24 w24 ⟨rfl, hx24⟩
            rw [HGR.out.1]
            have HX24 := Lib.hid (HX23.out.trans hx24)
            have HC24 := Lib.hid (HC23.out.ext hx24)
            have HD24 := Lib.hid (HD23.out.ext hx24)
            clear hx24 HX23 HC23 HD23 m0 m1 m2 m3 m4 m5 m6 lt22
            obtain ⟨m0, m1, m2, m3, m4, m5, m6⟩ := box_cells HC24.out
            go_wp2_with fail
            refine (Put_any (x0, x1, x2, x3, x4, x5, x6) _ (HLD.out.ext HX24.out)).mono ?_
            rintro e25 w25 ⟨v25, rfl, hr25, hx25⟩
            rw [HGR.out.2] at hr25
            obtain ⟨A25, c25, rfl, -, -⟩ := hr25.sliceN (n := N) (by rw [List.length_map, HN.out])
            have HX25 := Lib.hid (HX24.out.trans hx25)
            have HD25 := Lib.hid (HD24.out.ext hx25)
            have HR25 := Lib.hid hr25
            clear hx25 hr25 HX24 HC24 HD24 m0 m1 m2 m3 m4 m5 m6
            go_wp2_with fail
            refine (Bytes_any bs bs _ _ _ HR25.out (HR.out.ext HX25.out)).mono ?_
            rintro e26 w26 ⟨rfl, nd, hw26⟩
            have hx26 : Ext w25 w26 := by
              rw [hw26]
              exact Below.drewN' (Ext.refl _) nd
            rw [decide_eq_true (rfl : bs = bs)]
            have HX23 := Lib.hid (HX25.out.trans hx26)
            have HD23 := Lib.hid (HD25.out.ext hx26)
            clear hw26 hx26 HX25 HD25 HR25
            cases is with
            | false =>
              go_wp2
              go_ret
              exact ⟨rfl, HX23.out⟩
            | true =>
              have HPR : Hid (rightO (y0, y1, y2, y3, y4, y5, y6) = true ∧ textO (y0, y1, y2, y3, y4, y5, y6) = s) := Lib.hid (by
                rcases HPO.out with ⟨-, h1, h2⟩ | ⟨h1, -, -⟩
                · exact ⟨h1, h2⟩
                · cases h1)
              obtain ⟨q0, q1, q2, q3, q4, q5, q6⟩ := box_cells HD23.out
              go_wp2_with fail
              refine (Right_any (y0, y1, y2, y3, y4, y5, y6) _ (HLD.out.ext HX23.out)).mono ?_
              rintro e34 w34 ⟨rfl, hx34⟩
              rw [HPR.out.1]
              have HX34 := Lib.hid (HX23.out.trans hx34)
              have HD34 := Lib.hid (HD23.out.ext hx34)
              clear hx34 HX23 HD23
              obtain ⟨n0, n1, n2, n3, n4, n5, n6⟩ := box_cells HD34.out
              go_wp2_with fail
              refine (Text_any (y0, y1, y2, y3, y4, y5, y6) _ (HLD.out.ext HX34.out)).mono ?_
              rintro e35 w35 ⟨rfl, hx35⟩
              rw [HPR.out.2]
              have HX35 := Lib.hid (HX34.out.trans hx35)
              clear hx35 HX34 HD34 n0 n1 n2 n3 n4 n5 n6
              go_wp2
              go_ret
              exact ⟨rfl, HX35.out⟩
    · have d2 : decide ((300 : Int) < (M : Int)) = true := decide_eq_true (by omega)
      have d2' : decide (300 < M) = true := decide_eq_true (by omega)
      go_wp2
      go_ret
      exact ⟨rfl, HX2.out⟩
  · have d1 : decide ((300 : Int) < (N : Int)) = true := decide_eq_true (by omega)
    have d1' : decide (300 < N) = true := decide_eq_true (by omega)
    go_wp2
    go_ret
    exact ⟨rfl, HX2.out⟩

set_option maxRecDepth 100000 in
theorem OpsBack_lifted (os : Os) (started : os.Started) (H : Type) (enc : TypeId × Value → H) :
    ReturnsInHanded {} Tryd.checked os 5 .any (fun w args => (Rows.opsBackSpec.pre enc Tryd.prog Tryd.f5 [] false w args ∧ laidMetH Tryd.prog Rows.opsBackRow.laid w) ∧ sizedMet enc Tryd.prog Tryd.f5 (OpenSpec.ofChange Rows.opsBackSpec) false w args) (Rows.opsBackSpec.post enc Tryd.prog Tryd.f5 false true false false) := by
  refine law_liftL (C := Tryd.checked) (tb := 4) Rows.opsBackRow.laid Tryd.ownKnob started (by kernel_rfl) Tryd.func5 Tryd.laidOut (by kernel_rfl) rfl Tryd.underlying4 rfl rfl ?_
    (ChangeSpec.witness_shaped (enc := enc) (C := Tryd.checked) (os := os) (X := fun w _ => laidMetH Tryd.prog Rows.opsBackRow.laid w) false (World.laidAll Tryd.prog os Rows.opsBackRow.laid) #[.agg #[.int .i64 0, .int .i64 0, .int .i64 0, .int .i64 0, .int .i64 0, .int .i64 0, .int .i64 0], .slice none 0 0, .string ⟨#[]⟩] 8 (World.laidAll_os _ _ _)
      (World.shaped_of_ZipB (by kernel_rfl) (by kernel_rfl)) (by kernel_rfl) (by kernel_rfl) (by kernel_rfl)
      (by rw [MakeChecks.laidMetH_plain _ _ _ (by kernel_rfl)]; exact laidMet_laidAll _ (by kernel_rfl) (by kernel_rfl))) ?_
  · intro ds hd
    rw [Tryd.params5] at hd
    match ds, hd with
    | [d0, d1, d2], _ => rfl
  · intro W base args ds p hval hA hsz hL0 hsh
    have hL : laidMetH Tryd.prog Rows.opsBackRow.laid W := hL0
    rw [MakeChecks.laidMetH_plain _ _ _ (by kernel_rfl)] at hL
    have hLd : Laid W := laid_of _ hL hsh (by repeat (first | exact List.Mem.head _ | apply List.Mem.tail)) (by repeat (first | exact List.Mem.head _ | apply List.Mem.tail)) (by repeat (first | exact List.Mem.head _ | apply List.Mem.tail)) (by repeat (first | exact List.Mem.head _ | apply List.Mem.tail)) (by repeat (first | exact List.Mem.head _ | apply List.Mem.tail))
    rw [Tryd.params5] at hA hval hsz
    obtain ⟨v0, vs0, d0, ds0, p0, q0, hargs, rfl, rfl, h0, r0_⟩ := trodAll_cons hA
    obtain ⟨v1, vs1, d1, ds1, p1, q1, rfl, rfl, rfl, h1, r1_⟩ := trodAll_cons r0_
    obtain ⟨v2, vs2, d2, ds2, p2, q2, rfl, rfl, rfl, h2, r2_⟩ := trodAll_cons r1_
    obtain ⟨rfl, rfl, rfl⟩ := trodAll_nil r2_
    obtain rfl : args = #[v0, v1, v2] := by cases args; simp_all
    obtain ⟨a0, rfl⟩ := dec_op Tryd.underlying23 (by kernel_rfl) (by kernel_rfl) ⟨rfl, rfl, rfl, rfl, rfl, rfl, rfl⟩ Tryd.underlying3 (hval 0 23 v0 rfl rfl) h0
    obtain ⟨a1, r1, s1⟩ := dec_bytes Tryd.underlying24 Tryd.underlying5 (by kernel_rfl) (by kernel_rfl) (hval 1 24 v1 rfl rfl) h1 hsz (j := 1) rfl rfl
    obtain ⟨a2, rfl, s2⟩ := dec_str Tryd.underlying9 (hval 2 9 v2 rfl rfl) h2 hsz (j := 2) rfl rfl
    exact (by have h := OpsBack_calls a0 a1 a2.data.toList _ W r1 hLd; rw [strB_back] at h; exact h)

theorem OpsBack_row : Rows.OpsBackSaid :=
  OpenClaim.holds_of_wide 5 Tryd.f5 rfl rfl rfl rfl rfl rfl rfl ⟨rfl, rfl, rfl, rfl, rfl⟩ rfl rfl rfl rfl rfl (by kernel_rfl) Tryd.func5 (by kernel_rfl)
    (of_decide_eq_true (by kernel_rfl)) (by unfold Func.isWrapper; first | (rw [if_pos (by decide +kernel)]; kernel_rfl) | (rw [if_neg (by decide +kernel)]; exact ⟨rfl, rfl⟩))
    (fun os started H enc _ => OpsBack_lifted os started H enc)

/-- THE TIED CARD. -/
theorem OpsBack_holds : Rows.OpsBackCardSaid :=
  Claim7.holds_tied_plain_at .later [] Rows.opsBackCard.laidKinds true Rows.opsBackCard.stood.harness Rows.opsBackCard.stood.looks
    OpsBack_row (fun _ h => by cases h) (by kernel_rfl) (fun _ h => by cases h) opsBack_row_tie rfl ⟨rfl, rfl⟩ (by kernel_rfl) rfl
    (fun f fn hf hfn => by
      obtain rfl : f = 5 := Option.some.inj ((show Tryd.prog.funcNamed "dunnage/dunnagelaw08.OpsBack" = some 5 by kernel_rfl).symm.trans hf) |>.symm
      obtain rfl : fn = Tryd.f5 := (Option.some.inj (Tryd.func5.symm.trans hfn)).symm
      exact ⟨by kernel_rfl, fun j t ht => by
        rw [Tryd.params5] at ht
        have hm : t ∈ [23, 24, 9] := by simpa using Array.mem_of_getElem? ht
        have hall : ([23, 24, 9].all fun u => !Tryd.prog.wantsStandIn u) = true := by kernel_rfl
        exact (show Tryd.prog.wantsStandIn t = false by simpa using List.all_eq_true.1 hall t hm)⟩)
    (by kernel_rfl)


end Go.Proofs.YtngenbolpnckhaaDoor
