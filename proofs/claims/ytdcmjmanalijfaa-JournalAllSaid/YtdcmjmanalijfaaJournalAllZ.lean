/- For every input JournalAll returns true: behind a crash at any place of a Start, and Open, there are all ops that were appended, and that one, if it lasts as a whole, and nothing else, whatever was compacted or torn ahead. No condition. -/
import Derived.Test.YtdcmjmanalijfaaJournalAllQ10
import Derived.Deep.DeepCutAuto
import Derived.Deep.CutBlock
import Derived.Deep.LoopGhost
import Derived.BigQuiet
namespace Go.Proofs.Ytdcmjmanalijfaa
open Go.ChangeShapes Go.WideShapes Go.ChangeAt Go.RowKit

/-- Behind k acts. -/
def JaSt (w1 : World) (j g k c : Nat) (vw vp : Value) (w : World) : Prop :=
  ∃ t L W a pic F, JW w1 w j g 4000 1000 2000 2000 (2 + 3 * k) t L W c a pic F ∧ WantR w1 F w vw W ∧ Rd w1 vp (pic.map B) ∧ (catF L).length ≤ 47 * k ∧ c ≤ k
/-- Behind an act, ahead of Open. -/
def JaCut (w1 : World) (g k : Nat) (vw vp vc : Value) (w : World) : Prop :=
  ∃ s L W c a pic F, DsW w1 w g s F ∧ JOpens 4000 1000 2000 2000 (2 + 3 * k + 2) s L W c a pic ∧ s.2.1.length ≤ 10000000 ∧ WantR w1 F w vw W ∧ Rd w1 vp (pic.map B) ∧ vc = .int .i64 (c : Int) ∧ (catF L).length ≤ 47 * (k + 1) ∧ c ≤ k + 1

set_option maxRecDepth 100000 in
set_option maxHeartbeats 2000000 in
theorem JournalAll_main (l : List (Int × Int × List UInt8)) (v : Value) (w : World) (hr : RdActs w v l) (hf : fewJ l = true) :
    Calls Try.prog 4 #[v] w fun e w' => e = .returned (.bool true) ∧ Ext w w' := by
  obtain ⟨A, c, rfl, hlc, hcm⟩ := hr.slice_
  have hl40 := (fewJ_yes hf).1
  go_enter Try.func4, Try.ntmps4
  go_wp2_with fail
  refine (alive7_any w).mono ?_
  rintro e w1 ⟨rfl, hx1⟩
  have hr1 := hr.ext hx1
  have KF := fewJ_any l _ w1 hr1
  rw [hf] at KF
  go_wp2_with fail
  refine KF.mono ?_
  rintro e w1' ⟨rfl, rfl⟩
  clear KF hf
  go_wp2_with fail
  refine (DsW.new (Ext.refl w1) 4000 (by decide) (by decide)).mono ?_
  rintro e w2 ⟨g, rfl, hd2, -⟩
  go_wp2_with fail
  refine (hd2.jopen (JOpens.new geo4000 (by decide)) (Nat.zero_le _) (by decide)).mono ?_
  rintro e w3 ⟨j0, pv, ov, rfl, hj3, -, hov, -⟩
  obtain ⟨Ao, co, rfl, _, _⟩ := hov.sliceN rfl
  have HJ3 : JaSt w1 j0 g 0 0 (.slice none 0 0) (.slice none 0 0) w3 := ⟨_, _, _, _, _, _, hj3, WantR.nil _ _ _, Rd.nil _, Nat.le_refl _, Nat.le_refl _⟩
  clear hd2 hj3 hov
  go_wp2
  go_loopg [4, 8, 9, 10, 11] l.length (fun gg vj vw' vp' vc i wr => ∃ (k j c : Nat) (vw vp : Value), i = .int .i64 k ∧ vj = .pointer (some ⟨j, 0, none⟩) ∧ vc = .int .i64 c ∧ vw = vw' ∧ vp = vp' ∧ k ≤ l.length ∧ gg = l.length - k ∧ JaSt w1 j g k c vw vp wr)
  case atStart => exact ⟨0, j0, 0, _, _, rfl, rfl, rfl, rfl, rfl, Nat.zero_le _, rfl, HJ3⟩
  case round =>
    obtain ⟨k, j, cc, vw, vp, rfl, rfl, rfl, rfl, rfl, hk, rfl, t, L, W, a, pic, F, hj, hw, hp, hu, hck⟩ := hrel
    by_cases hlt : k < l.length
    · clear HJ3
      obtain ⟨b, o, rfl, hb, hcl⟩ := hr1.get (by omega)
      obtain ⟨e0, e1, b0, b1, u, e2, hq⟩ := hcl k _ (List.getElem?_eq_getElem hlt)
      generalize l[k] = x at *
      obtain ⟨kind, keep, p⟩ := x
      dsimp only at hq e0 e1 b0 b1
      have hxw := hj.2.2.2
      have d0 : wr.cell? ⟨b, o + k * 3, none⟩ = some (.int .i64 kind) := hxw.cellOf e0 hb
      have d1 : wr.cell? ⟨b, o + k * 3 + 1, none⟩ = some (.int .i64 keep) := hxw.cellOf e1 hb
      have d2 : wr.cell? ⟨b, o + k * 3 + 2, none⟩ = some u := hxw.cellOf e2 hb
      obtain ⟨m, hm⟩ : ∃ m, p.length = m := ⟨_, rfl⟩
      obtain ⟨Au, cu, rfl, hcu, hcmu⟩ := hq.sliceN (n := m) (by rw [List.length_map, hm])
      unfold maxLen at hcmu
      have hE : Ext wr (wr.alloc (.cells #[.int .i64 kind, .int .i64 keep, .slice Au m cu] 42)) := (Below.refl _ _).alloc (Nat.le_refl _) _
      have hB : Blk (wr.alloc (.cells #[.int .i64 kind, .int .i64 keep, .slice Au m cu] 42)) wr.heap.size 42 #[.int .i64 kind, .int .i64 keep, .slice Au m cu] := Blk.new _ _ _
      have hiF : ¬ F wr.heap.size := fun hF => by have := hj.isIn _ hF; omega
      have HJ := Lib.hid (hj.ext hE)
      have HW := Lib.hid (hw.ext hE)
      have HOF := Lib.hid (And.intro hiF (show ¬ vw.ownBlock = some wr.heap.size from fun hv => by have := (hw.lt _ hv).2; omega))
      have HBB := Lib.hid b1
      have HU := Lib.hid hu
      have HPV := Lib.hid hp
      have HQ := Lib.hid hq
      have HB := Lib.hid hB
      have HM := Lib.hid hm
      clear hcl e0 e1 e2 b0 b1 hq hj hw hp hu hB hE hxw hiF hm
      by_cases hm0 : m = 0
      · have hmd : ((m : Int) == 0) = true := by simp [hm0]
        have hmd' : (m == 0) = true := by simp [hm0]
        clear hm0
        go_wp2
        go_roundg (l.length - (k + 1))
        case measure => omega
        case rel => exact ⟨k + 1, j, cc, vw, vp, by go_num, rfl, rfl, rfl, rfl, by omega, rfl, _, _, _, _, _, _, HJ.out.later (by omega) (by omega), HW.out, HPV.out, by have := HU.out; omega, by omega⟩
      · have hmd : ((m : Int) == 0) = false := by rw [beq_eq_false_iff_ne]; omega
        have hmd' : (m == 0) = false := by rw [beq_eq_false_iff_ne]; omega
        by_cases hm40 : 40 < m
        · have hme : decide (40 < (m : Int)) = true := decide_eq_true (by omega)
          have hme' : decide (40 < m) = true := decide_eq_true (by omega)
          clear hm0
          go_wp2
          go_roundg (l.length - (k + 1))
          case measure => omega
          case rel => exact ⟨k + 1, j, cc, vw, vp, by go_num, rfl, rfl, rfl, rfl, by omega, rfl, _, _, _, _, _, _, HJ.out.later (by omega) (by omega), HW.out, HPV.out, by have := HU.out; omega, by omega⟩
        · have hme : decide (40 < (m : Int)) = false := decide_eq_false (by omega)
          have hme' : decide (40 < m) = false := decide_eq_false (by omega)
          have hpl : 1 ≤ p.length ∧ p.length ≤ 40 := by have := HM.out; omega
          have HPL := Lib.hid hpl
          clear hm0 hm40 hpl
          go_upto_block 2 with (fail)
          generalize wr.alloc _ = wa at *
          generalize wr.heap.size = ix at *
          clear d0 d1 d2
          go_cut [8, 9, 10] (fun vw vp vc wx => JaCut w1 g k vw vp vc wx)
          case first =>
            have hop := all_op HJ.out.1 HU.out hck (by omega) HPL.out
            have HOP := Lib.hid hop
            have f2 : wa.cell? ⟨ix, 2, none⟩ = some (.slice Au m cu) := HB.out.cell 2
            have hw1 := HJ.out.2.2.2.size
            have hiF := HJ.out.isIn
            have HIF := Lib.hid hiF
            clear hop hiF
            by_cases k0 : kind = 0
            · subst k0
              go_wp2_with fail
              refine (HJ.out.append_yes (HQ.out.ext HJ.out.2.2.2) (by have := HPL.out; omega) (by omega) HOP.out.1).mono ?_
              rintro e w4 ⟨rfl, hj4, hc4⟩
              have HW4 := Lib.hid (HW.out.turn hc4 (fun b hb => hb))
              have HB4 : Hid (Blk w4 ix 42 #[.int .i64 0, .int .i64 keep, .slice Au m cu]) := Lib.hid ((hc4.block ix HB.out.lt HOF.out.1).trans HB.out)
              have g2 : w4.cell? ⟨ix, 2, none⟩ = some (.slice Au m cu) := HB4.out.cell 2
              have HJ4 := Lib.hid hj4
              have hlt1 := HJ4.out.2.2.2.size
              have hWl : W.length < 1000000000000 := by have := HJ.out.1.gj.count; omega
              clear hj4 hc4 f2
              go_wp2_with (at_builtin; refine push_want rfl _ _ rfl vw HW4.out HJ4.out.isIn hlt1 Au m cu p HQ.out rfl rfl hWl ?_; intro v5 w5 hw5 hc5; have HW5 := Lib.hid hw5; have HC5 := Lib.hid hc5; clear hw5 hc5)
              go_meet
              have hj5 := HJ4.out.chg HC5.out (fun b hb hv => HW4.out.off b hv hb) (fun b hv => (HW4.out.lt b hv).1)
              exact ⟨_, _, _, cc + 1, _, _, _, hj5.dsW, hj5.js.opens.later (by omega) (by omega), by rw [hj5.js.ji.still]; exact Nat.zero_le _, HW5.out, HPV.out, by go_num, HOP.out.2, by omega⟩
            · have kb0 : (kind == 0) = false := by rw [beq_eq_false_iff_ne]; exact k0
              by_cases k1 : kind = 1
              · subst k1
                rcases all_cp HJ.out.1 HPL.out.2 with ⟨h0, -⟩ | ⟨h0, hW0⟩
                · have KC := HJ.out.compact_yes (old_rdS HQ.out HJ.out.2.2.2) (old_apartS HJ.out.2.2.1) (old_inS HJ.out.2.2.2) (by have := HPL.out; omega) (by omega) h0
                  have HKC := Lib.hid KC
                  clear KC h0
                  go_wp2_with fail
                  refine HKC.out.mono ?_
                  rintro e w4 ⟨rfl, hj4, hc4⟩
                  have HB4 : Hid (Blk w4 ix 42 #[.int .i64 1, .int .i64 keep, .slice Au m cu]) := Lib.hid ((hc4.block ix HB.out.lt HOF.out.1).trans HB.out)
                  have g2 : w4.cell? ⟨ix, 2, none⟩ = some (.slice Au m cu) := HB4.out.cell 2
                  have HJ4 := Lib.hid hj4
                  clear hj4 hc4 f2 HKC
                  go_wp2
                  go_meet
                  exact ⟨_, _, _, cc, _, _, _, HJ4.out.dsW, HJ4.out.js.opens.later (by omega) (by omega), by rw [HJ4.out.js.ji.still]; exact Nat.zero_le _, WantR.nil _ _ _, HQ.out, rfl, Nat.zero_le _, by omega⟩
                · have KC := HJ.out.compact_no (old_rdS HQ.out HJ.out.2.2.2) (old_apartS HJ.out.2.2.1) (old_inS HJ.out.2.2.2) (by have := HPL.out; omega) h0
                  have HKC := Lib.hid KC
                  obtain ⟨Aw, cw, hvw, hcw⟩ := HW.out.rd
                  rw [hW0] at hvw hcw
                  subst hvw
                  clear KC h0
                  go_wp2_with fail
                  refine HKC.out.mono ?_
                  rintro e w4 ⟨rfl, hj4, hc4⟩
                  have HW4 := Lib.hid (HW.out.turn hc4 (fun b hb => hb))
                  have HJ4 := Lib.hid hj4
                  clear hj4 hc4 f2 HKC
                  go_wp2
                  go_meet
                  exact ⟨_, _, _, cc, _, _, _, HJ4.out.dsW, HJ4.out.js.opens.later (by omega) (by omega), by rw [HJ4.out.js.ji.still]; exact Nat.zero_le _, HW4.out, HPV.out, rfl, by have := HU.out; omega, by omega⟩
              · have kb1 : (kind == 1) = false := by rw [beq_eq_false_iff_ne]; exact k1
                clear k0 k1
                have KS := HJ.out.start_any (HQ.out.ext HJ.out.2.2.2) (by have := HPL.out; omega) (by omega)
                rw [HOP.out.1] at KS
                have HKS := Lib.hid KS
                clear KS
                go_wp2_with fail
                refine HKS.out.mono ?_
                rintro e w4 ⟨rfl, s, F4, hd4, hw4, hwl, ho4, hF4, hc4⟩
                have hwl : s.2.1.length = (frameB (payB cc p)).length := hwl (by simp)
                have hyes : ((frameB (payB cc p)).length : Int) ≤ keep → JOpens 4000 1000 2000 2000 (2 + 3 * k + 1) (crD s keep) (L ++ [payB cc p]) (W ++ [p]) (cc + 1) a pic := fun h => (ho4 keep).1 (by simpa using h)
                have hno : ¬ ((frameB (payB cc p)).length : Int) ≤ keep → JOpens 4000 1000 2000 2000 (2 + 3 * k + 1) (crD s keep) L W cc a pic := fun h => (ho4 keep).2 (by simpa using h)
                rw [← hwl] at hyes hno
                obtain ⟨fl, hfl⟩ : ∃ x, s.2.1.length = x := ⟨_, rfl⟩
                rw [hfl] at hyes hno
                have HY := Lib.hid hyes
                have HN := Lib.hid hno
                have HW4 := Lib.hid (HW.out.turn hc4 hF4)
                have HB4 : Hid (Blk w4 ix 42 #[.int .i64 kind, .int .i64 keep, .slice Au m cu]) := Lib.hid ((hc4.block ix HB.out.lt HOF.out.1).trans HB.out)
                have HD4 := Lib.hid hd4
                have KW := DkWaits F4 g s w4.drew (Dk.ext hd4.1 (Ext.dr (Ext.refl w4))) (by omega)
                rw [hfl] at KW
                have HKW := Lib.hid KW
                have HDI := Lib.hid (Dk.isIn hd4.1)
                have hlt4 := hd4.2.2.size
                have HFL := Lib.hid hfl
                have HW4' := Lib.hid hw4
                have hWl : W.length < 1000000000000 := by have := HJ.out.1.gj.count; omega
                have hsame : ∀ (w' : World), Ext w4 w' → w'.cell? ⟨ix, 1, none⟩ = some (.int .i64 keep) ∧ w'.cell? ⟨ix, 2, none⟩ = some (.slice Au m cu) := fun w' hx => ⟨(HB4.out.ext hx).cell 1, (HB4.out.ext hx).cell 2⟩
                have f1 := (hsame w4.drew (Ext.dr (Ext.refl w4))).1
                have HSM := Lib.hid hsame
                have hx4 : Ext w4 w4.drew := Ext.dr (Ext.refl w4)
                clear hwl hyes hno hd4 hw4 ho4 hF4 hc4 hfl KW hsame f2 HJ
                by_cases hge : (fl : Int) ≤ keep
                · have hgd : decide ((fl : Int) ≤ keep) = true := decide_eq_true hge
                  have HOK := Lib.hid (HY.out hge)
                  clear hge
                  go_wp2
                  go_region_held3 (fun w' => w'.cell? ⟨ix, 1, none⟩ = some (.int .i64 keep)) (first | go_keep | (exact f15)) (first | (go_at_call 28; (with_reducible refine HKW.out.mono ?_); rintro e w5 ⟨rfl, hx5⟩; have hy5 := hx4.trans hx5; have f15 := (HSM.out w5 hy5).1))
                  all_goals
                    have f25 := (HSM.out w5 hy5).2
                    have HD5 := Lib.hid (HD4.out.ext hy5)
                    have HW5 := Lib.hid (HW4.out.ext hy5)
                    have HB5 := Lib.hid (HB4.out.ext hy5)
                    have hlt5 := HD5.out.2.2.size
                    have hpp : ∀ w6, Chg (fun b => vw.ownBlock = some b) w5 w6 → w6.cell? ⟨ix, 1, none⟩ = some (.int .i64 keep) := fun w6 hc => by
                      have hb6 : Blk w6 ix 42 #[.int .i64 kind, .int .i64 keep, .slice Au m cu] := (hc.block ix HB5.out.lt HOF.out.2).trans HB5.out
                      exact hb6.cell 1
                    have HPP := Lib.hid hpp
                    have hdi := Dk.isIn HD5.out.1
                    have HDI5 := Lib.hid hdi
                    clear hx4 hx5 hy5 f1 f15 hpp hdi
                    go_wp2_with (at_builtin; refine push_want rfl _ _ rfl vw HW5.out HDI5.out hlt5 Au m cu p HQ.out rfl rfl hWl ?_; intro v6 w6 hw6 hc6; have HW6 := Lib.hid hw6; have f16 := HPP.out w6 hc6; have HC6 := Lib.hid hc6; clear hw6 hc6)
                    have hd6 : DsW w1 w6 g s F4 := ⟨Dk.chg HD5.out.1 HC6.out (fun b hb hv => HW5.out.off b hv hb), HD5.out.2.1, HC6.out.ext HD5.out.2.2 (fun b hv => (HW5.out.lt b hv).1)⟩
                    refine (hd6.crash keep HBB.out.1 HBB.out.2 (by rw [HFL.out]; have := HW4'.out; rw [HFL.out] at this; omega)).mono ?_
                    rintro e w7 ⟨rfl, hd7, hc7⟩
                    have HD7 := Lib.hid hd7
                    have HW7 := Lib.hid (HW6.out.turn hc7 (fun b hb => hb))
                    clear hd7 hc7 f16 hd6
                    go_wp2
                    go_meet
                    exact ⟨_, _, _, cc + 1, _, _, _, HD7.out, HOK.out.later (by omega) (by omega), Nat.zero_le _, HW7.out, HPV.out, by go_num, HOP.out.2, by omega⟩
                · have hgd : decide ((fl : Int) ≤ keep) = false := decide_eq_false hge
                  have HOK := Lib.hid (HN.out hge)
                  clear hge
                  go_wp2
                  go_region_held3 (fun w' => w'.cell? ⟨ix, 1, none⟩ = some (.int .i64 keep)) (first | go_keep | (exact f15)) (first | (go_at_call 28; (with_reducible refine HKW.out.mono ?_); rintro e w5 ⟨rfl, hx5⟩; have hy5 := hx4.trans hx5; have f15 := (HSM.out w5 hy5).1))
                  all_goals
                    have HD5 := Lib.hid (HD4.out.ext hy5)
                    have HW5 := Lib.hid (HW4.out.ext hy5)
                    clear hx4 hx5 hy5 f1
                    go_wp2_with fail
                    refine (HD5.out.crash keep HBB.out.1 HBB.out.2 (by rw [HFL.out]; have := HW4'.out; rw [HFL.out] at this; omega)).mono ?_
                    rintro e w7 ⟨rfl, hd7, hc7⟩
                    have HD7 := Lib.hid hd7
                    have HW7 := Lib.hid (HW5.out.turn hc7 (fun b hb => hb))
                    clear hd7 hc7 f15
                    go_wp2
                    go_meet
                    exact ⟨_, _, _, cc, _, _, _, HD7.out, HOK.out.later (by omega) (by omega), Nat.zero_le _, HW7.out, HPV.out, rfl, by have := HU.out; omega, by omega⟩
          case rest =>
            clear HJ HW HOF HBB HU HPV HQ HB HM HPL hck
            obtain ⟨s, L', W', c', a', pic', F', hd, hop, hws, hwx, hpx, rfl, hu', hc'⟩ := hcut
            have HD := Lib.hid hd
            have HOP := Lib.hid hop
            have HWS := Lib.hid hws
            have HWX := Lib.hid hwx
            have HPX := Lib.hid hpx
            have HU := Lib.hid hu'
            clear hd hop hws hwx hpx hu'
            go_wp2_with fail
            refine (HD.out.jopen HOP.out HWS.out (by omega)).mono ?_
            rintro e w4 ⟨j4, pv4, ov4, rfl, hj4, hp4, ho4, hc4⟩
            have HJ4 := Lib.hid hj4
            have HW4 := Lib.hid (HWX.out.turn hc4 (fun b hb => hb))
            have HP4 := Lib.hid hp4
            have HO4 := Lib.hid ho4
            clear hj4 hp4 ho4 hc4 HWX HD
            go_wp2_with fail
            refine (Bytes_same pic' _ _ w4 HP4.out (HPX.out.ext HJ4.out.2.2.2)).mono ?_
            rintro e w5' ⟨rfl, n5, rfl⟩
            have hx5 : Ext w4 (w4.drewN n5) := Below.drewN' (Ext.refl w4) n5
            have HJ5 := Lib.hid (HJ4.out.ext hx5)
            have HW5 := Lib.hid (HW4.out.ext hx5)
            have HO5 := Lib.hid (HO4.out.ext hx5)
            clear HJ4 HW4 HO4 HP4 hx5
            generalize w4.drewN n5 = w5 at *
            have KS := RefSame_any W' W' _ _ w5 HO5.out (HW5.out.rdl HJ5.out.2.2.2)
            rw [decide_eq_true rfl] at KS
            have HKS := Lib.hid KS
            clear KS
            go_wp2_with fail
            refine HKS.out.mono ?_
            rintro e w6' ⟨rfl, n6, rfl⟩
            have hx6 : Ext w5 (w5.drewN n6) := Below.drewN' (Ext.refl w5) n6
            have HJ6 := Lib.hid (HJ5.out.ext hx6)
            have HW6 := Lib.hid (HW5.out.ext hx6)
            clear HJ5 HW5 HO5 HKS hx6
            generalize w5.drewN n6 = w6 at *
            have hbd : ((c' : Int) != (c' : Int)) = false := by simp
            go_wp2_with fail
            refine HJ6.out.count.mono ?_
            rintro e w7 ⟨rfl, hj7, hx7⟩
            have HJ7 := Lib.hid (hj7.later (k' := 2 + 3 * (k + 1)) (by omega) (by omega))
            have HW7 := Lib.hid (HW6.out.ext hx7)
            clear hj7 hx7 HJ6 HW6
            go_wp2
            go_roundg (l.length - (k + 1))
            case measure => omega
            case rel => exact ⟨k + 1, j4, c', _, _, by go_num, rfl, rfl, rfl, rfl, by omega, rfl, _, _, _, _, _, _, HJ7.out, HW7.out, HPX.out, HU.out, hc'⟩
    · obtain rfl : k = l.length := by omega
      have hx := hx1.trans hj.2.2.2
      clear hj hw hp HJ3 hr hr1 hu
      go_wp2
      go_ret
      exact ⟨rfl, hx⟩

set_option maxRecDepth 100000 in
theorem JournalAll_calls (l : List (Int × Int × List UInt8)) (v : Value) (w : World) (hr : RdActs w v l) :
    Calls Try.prog 4 #[v] w fun e w' => e = .returned (.bool true) ∧ Ext w w' := by
  by_cases hf : fewJ l = true
  · exact JournalAll_main l v w hr hf
  · have hf' : fewJ l = false := by simpa using hf
    obtain ⟨A, c, rfl, hlc, hcm⟩ := hr.slice_
    clear hf
    go_enter Try.func4, Try.ntmps4
    go_wp2_with fail
    refine (alive7_any w).mono ?_
    rintro e w1 ⟨rfl, hx1⟩
    have KF := fewJ_any l _ w1 (hr.ext hx1)
    rw [hf'] at KF
    go_wp2_with fail
    refine KF.mono ?_
    rintro e w1' ⟨rfl, rfl⟩
    clear KF hr
    go_wp2
    go_ret
    exact ⟨rfl, hx1⟩

set_option maxRecDepth 100000 in
theorem JournalAll_lifted (os : Os) (started : os.Started) (H : Type) (enc : TypeId × Value → H) :
    ReturnsInHanded {} Try.checked os 4 .any (Rows.journalAllSpec.pre6 enc Try.prog Try.f4 Rows.journalAllRow.domain false) (Rows.journalAllSpec.post enc Try.prog Try.f4 false true false false) := by
  refine law_lift (C := Try.checked) (tb := 4) Try.ownKnob started (by kernel_rfl) Try.func4 Try.laidOut (by kernel_rfl) rfl Try.underlying4 rfl rfl ?_
    (ChangeSpec.witness6 (enc := enc) (C := Try.checked) false ⟨#[], #[.slice none 0 0], []⟩ 8 (by kernel_rfl) (by kernel_rfl) (by kernel_rfl) (by kernel_rfl)) ?_
  · intro ds hd
    rw [Try.params4] at hd
    match ds, hd with
    | [d0], _ => rfl
  · intro W base args ds p hval hA hsz
    rw [Try.params4] at hA hval hsz
    obtain ⟨v0, vs0, d0, ds0, p0, q0, hargs, rfl, rfl, h0, r0_⟩ := trodAll_cons hA
    obtain ⟨rfl, rfl, rfl⟩ := trodAll_nil r0_
    obtain rfl : args = #[v0] := by cases args; simp_all
    obtain ⟨a0, r0⟩ := dec_acts Try.underlying22 Try.underlying42 (by kernel_rfl) (by kernel_rfl) rfl rfl rfl rfl Try.underlying3 Try.underlying3 Try.underlying30 Try.underlying5 (by kernel_rfl) (hval 0 22 v0 rfl rfl) h0
    exact JournalAll_calls a0 _ W r0

theorem JournalAll_holds : Rows.JournalAllSaid :=
  OpenClaim.holds_of_wide 4 Try.f4 rfl rfl rfl rfl rfl rfl rfl ⟨rfl, rfl, rfl, rfl, rfl⟩ rfl rfl rfl rfl rfl (by kernel_rfl) Try.func4 (by kernel_rfl)
    (of_decide_eq_true (by kernel_rfl)) (by unfold Func.isWrapper; first | (rw [if_pos (by decide +kernel)]; kernel_rfl) | (rw [if_neg (by decide +kernel)]; exact ⟨rfl, rfl⟩))
    (fun os started H enc _ => JournalAll_lifted os started H enc)


end Go.Proofs.Ytdcmjmanalijfaa
