/- Texts that the proof of JournalActs rests on, one behind the other. -/
import Derived.Test.YtdcmjmanalijfaaJournalActsQ12
import Derived.Deep.DeepCutAuto
import Derived.Deep.CutBlock
import Derived.Deep.LoopGhost
import Derived.Deep.RegionHeld3
import Derived.BigQuiet

/- JournalActs, where there is a journal: act by act. -/
namespace Go.Proofs.Ytdcmjmanalijfaa
open Go.RowKit

/-- What holds ahead of an act. -/
def JcSt (w1 : World) (j g m r N q f z k : Nat) (w : World) : Prop := ∃ t L W c a pic, JP1 (jA w1 j g N q f z (2 + 3 * k) t L W c a pic) (jB m r q f z t L c a) w1 w
/-- What an act leaves, ahead of what is looked at. -/
def JcCut (w1 : World) (ix g r N q f z k : Nat) (cs : Array Value) (vj vm : Value) (w : World) : Prop :=
  ∃ (j m : Nat) (t : DkS) (L W : List (List UInt8)) (c : Nat) (a : Int) (pic : List UInt8), vj = .pointer (some ⟨j, 0, none⟩) ∧ vm = .pointer (some ⟨m, 0, none⟩) ∧ JP2 (jA w1 j g N q f z (2 + 3 * (k + 1)) t L W c a pic) (jB m r q f z t L c a) w1 w ix ∧ Blk w ix 42 cs

set_option maxRecDepth 100000 in
set_option maxHeartbeats 8000000 in
theorem JournalActs_main (N q f z : Nat) (geo : Geo N q f z) (l : List (Int × Int × List UInt8)) (v : Value) (w : World) (hr : RdActs w v l) (hf : fewJ l = true) (hN6 : N ≤ 600) :
    Calls Try.prog 3 #[.int .i64 (N : Int), v] w fun e w' => e = .returned (.bool true) ∧ Ext w w' := by
  obtain ⟨A, c0, rfl, hlc, hcm⟩ := hr.slice_
  obtain ⟨hl40, hl200⟩ := fewJ_yes hf
  have hN64 := geo.small
  have hz39 : z ≤ 3900 := by have := geo.hz; omega
  have d1 : decide ((N : Int) < 1) = false := decide_eq_false (by omega)
  have d2 : decide (600 < (N : Int)) = false := decide_eq_false (by omega)
  go_enter Try.func3, Try.ntmps3
  go_wp2_with fail
  refine (alive7_any w).mono ?_
  rintro e w1 ⟨rfl, hx1⟩
  have hr1 := hr.ext hx1
  go_wp2_with fail
  refine (fewJ_any l _ _ hr1).mono ?_
  rintro e w1' ⟨rfl, rfl⟩
  rw [hf]
  go_wp2_with fail
  refine (DsW.new (Ext.refl w1) N (by omega) (by omega)).mono ?_
  rintro e w2 ⟨g, rfl, hd2, hx2⟩
  go_wp2_with fail
  refine (RkNew N w2 (by omega)).mono ?_
  rintro e w3 ⟨r, rfl, hk3, hx3⟩
  have hp3 : JP1 (dA w1 g (List.replicate N 0, [], 0)) (dB r (List.replicate N 0, [], 0)) w1 w3 := ⟨_, _, hd2.ext hx3, hk3, (fun b hb hg => by omega), ⟨(fun b hb => Nat.lt_of_lt_of_le hb.2 hx3.size), (fun b hb => hb.2)⟩, ⟨(fun b hb => hb.1), (fun b hb => Nat.le_trans hx2.size hb.1)⟩⟩
  have hs0 : JOpens N q f z 1 (List.replicate N 0, [], 0) [] [] 0 (-1) [] := JOpens.new geo hz39
  have hw0 : ((List.replicate N 0, [], 0) : DkS).2.1.length ≤ 10000000 := Nat.zero_le _
  generalize ((List.replicate N 0, [], 0) : DkS) = s0 at *
  have hsz := Nat.le_trans hx2.size hx3.size
  have HS0 := Lib.hid hs0
  have HP3 := Lib.hid hp3
  have HW0 := Lib.hid hw0
  clear hs0 hp3 hd2 hk3 hx2 hx3 hw0
  go_wp2_with fail
  refine (HP3.out.openA dB_stands hsz HS0.out HW0.out (by decide)).mono ?_
  rintro e w4 ⟨j0, pv0, ov0, rfl, hp4, hs4⟩
  have HP4 := Lib.hid hp4
  have hsz4 := Nat.le_trans hsz hs4
  clear hp4 HP3 hs4
  go_wp2_with fail
  refine (HP4.out.openB jA_stands hsz4 HS0.out HW0.out).mono ?_
  rintro e w5 ⟨m0, pm0, om0, rfl, hp5⟩
  have HP5 : Hid (JcSt w1 j0 g m0 r N q f z 0 w5) := Lib.hid ⟨_, _, _, _, _, _, hp5⟩
  clear hp5 HP4 HS0 HW0 hsz hsz4
  go_wp2
  go_loopg [7, 11, 15] l.length (fun gg vj vm i wr => ∃ k j m : Nat, i = .int .i64 k ∧ vj = .pointer (some ⟨j, 0, none⟩) ∧ vm = .pointer (some ⟨m, 0, none⟩) ∧ k ≤ l.length ∧ gg = l.length - k ∧ Hid (JcSt w1 j g m r N q f z k wr))
  case atStart => exact ⟨0, j0, m0, rfl, rfl, rfl, Nat.zero_le _, rfl, HP5⟩
  case round =>
    clear HP5
    obtain ⟨k, j, m, rfl, rfl, rfl, hk, rfl, ⟨t, L, W, c, a, pic, hp⟩⟩ := hrel
    obtain ⟨hjs, hxw⟩ := hp.js
    by_cases hlt : k < l.length
    · obtain ⟨b, o, rfl, hb, hcl⟩ := hr1.get (by omega)
      obtain ⟨e0, e1, b0, b1, u, e2, hq⟩ := hcl k _ (List.getElem?_eq_getElem hlt)
      have hp200 := hl200 l[k] (List.getElem_mem hlt)
      generalize l[k] = x at *
      obtain ⟨kind, keep, p⟩ := x
      dsimp only at hq e0 e1 b0 b1 hp200
      have f0 : wr.cell? ⟨b, o + k * 3, none⟩ = some (.int .i64 kind) := hxw.cellOf e0 hb
      have f1 : wr.cell? ⟨b, o + k * 3 + 1, none⟩ = some (.int .i64 keep) := hxw.cellOf e1 hb
      have f2 : wr.cell? ⟨b, o + k * 3 + 2, none⟩ = some u := hxw.cellOf e2 hb
      obtain ⟨pl, hpl⟩ : ∃ x, p.length = x := ⟨_, rfl⟩
      obtain ⟨Au, cu, rfl, hcu, hcmu⟩ := hq.sliceN (n := pl) (by rw [List.length_map, hpl])
      unfold maxLen at hcmu
      have hE : Ext wr (wr.alloc (.cells #[.int .i64 kind, .int .i64 keep, .slice Au pl cu] 42)) := (Below.refl _ _).alloc (Nat.le_refl _) _
      have hB : Blk (wr.alloc (.cells #[.int .i64 kind, .int .i64 keep, .slice Au pl cu] 42)) wr.heap.size 42 #[.int .i64 kind, .int .i64 keep, .slice Au pl cu] := Blk.new _ _ _
      have HP := Lib.hid (hp.at_ jA_stands jB_stands hE)
      have HJS := Lib.hid hjs
      have HBB := Lib.hid b1
      have HQ := Lib.hid hq
      have HB := Lib.hid hB
      have HPL := Lib.hid hpl
      have hpl2 : pl ≤ 200 := by omega
      clear hcl e0 e1 e2 b0 b1 hq hp hjs hB hE hxw hpl hp200
      go_upto_block 2 with (fail)
      generalize wr.alloc _ = wa at *
      generalize wr.heap.size = ix at *
      clear f0 f1 f2
      go_cut [7, 11] (fun vj vm wx => JcCut w1 ix g r N q f z k #[.int .i64 kind, .int .i64 keep, .slice Au pl cu] vj vm wx)
      case first =>
        by_cases k0 : kind = 0
        · subst k0
          have hx0 : Ext wa wa.drew := Ext.dr (Ext.refl wa)
          have hpd := HP.out.ext jA_stands jB_stands hx0
          have hbd := HB.out.ext hx0
          have hxd := hpd.ext1
          have KA := hpd.appendA jB_stands hbd.lt HQ.out hxd (by have := HPL.out; omega) (by omega)
          have KB := fun (w' : World) (hp : JP2 (jA w1 j g N q f z (2 + 3 * k + 1) (jaT t f z (catF L).length c p) (jL z (catF L).length L c p) (jaW z (catF L).length c W p) (jC z (catF L).length c p) a pic) (jB m r q f z t L c a) w1 w' ix) (hb : ix < w'.heap.size) (hx : Ext w1 w') => hp.appendB HJS.out jA_stands hb HQ.out hx
          have HKA := Lib.hid KA
          have HKB := Lib.hid KB
          have HBd := Lib.hid hbd
          have g20 : wa.drew.cell? ⟨ix, 2, none⟩ = some (.slice Au pl cu) := hbd.cell 2
          clear KA KB hpd hbd hxd
          generalize jE z (catF L).length c p = E at *
          generalize jaT t f z (catF L).length c p = t2 at *
          generalize jL z (catF L).length L c p = L2 at *
          generalize jaW z (catF L).length c W p = W2 at *
          generalize jC z (catF L).length c p = c2 at *
          have hE : (E != E) = false := by simp
          go_wp2
          go_region_held3 (fun w' => w'.cell? ⟨ix, 2, none⟩ = some (.slice Au pl cu)) (first | go_keep | (exact g2) | (exact i2)) (first | (go_at_call 13; (with_reducible refine HKA.out.mono ?_); rintro e w4 ⟨rfl, hp4, hk4⟩; have HB4 := Lib.hid (hk4.1 _ _ HBd.out); have g2 : w4.cell? ⟨ix, 2, none⟩ = some (.slice Au pl cu) := HB4.out.cell 2; have HP4 := Lib.hid hp4; clear hp4 hk4) | (go_at_call 18; (with_reducible refine (HKB.out w4 HP4.out HB4.out.lt HP4.out.ext1).mono ?_); rintro e w5 ⟨rfl, hp5, hk5⟩; have HB5 := Lib.hid (hk5.1 _ _ HB4.out); have i2 : w5.cell? ⟨ix, 2, none⟩ = some (.slice Au pl cu) := HB5.out.cell 2; have HP5 := Lib.hid hp5; clear hp5 hk5))
          all_goals
            go_wp2
            go_meet
            exact ⟨j, m, _, _, _, _, _, _, rfl, rfl, HP5.out.later (by omega) (by omega), HB5.out⟩
        · have kb0 : (kind == 0) = false := by rw [beq_eq_false_iff_ne]; exact k0
          by_cases k1 : kind = 1
          · subst k1
            have hx0 : Ext wa wa.drew := Ext.dr (Ext.refl wa)
            have hpd := HP.out.ext jA_stands jB_stands hx0
            have hbd := HB.out.ext hx0
            have hxd := hpd.ext1
            have KA := hpd.compactA jB_stands hbd.lt HQ.out hxd (by have := HPL.out; omega) (by omega)
            have KB := fun (w' : World) (hp : JP2 (jA w1 j g N q f z (2 + 3 * k + 1) (cpS t q f z p c a) (cpL t q L p c a) (cpW t q W p c a) c (cpA t q p c a) (cpP t q pic p c a)) (jB m r q f z t L c a) w1 w' ix) (hb : ix < w'.heap.size) (hx : Ext w1 w') => hp.compactB HJS.out jA_stands hb HQ.out hx (by have := HPL.out; omega)
            have HKA := Lib.hid KA
            have HKB := Lib.hid KB
            have HBd := Lib.hid hbd
            have g20 : wa.drew.cell? ⟨ix, 2, none⟩ = some (.slice Au pl cu) := hbd.cell 2
            clear KA KB hpd hbd hxd
            generalize cpE t q p c a = E at *
            generalize cpS t q f z p c a = t2 at *
            generalize cpL t q L p c a = L2 at *
            generalize cpW t q W p c a = W2 at *
            generalize cpA t q p c a = a2 at *
            generalize cpP t q pic p c a = pic2 at *
            have hE : (E != E) = false := by simp
            go_wp2
            go_region_held3 (fun w' => w'.cell? ⟨ix, 2, none⟩ = some (.slice Au pl cu)) (first | go_keep | (exact g2) | (exact i2)) (first | (go_at_call 15; (with_reducible refine HKA.out.mono ?_); rintro e w4 ⟨rfl, hp4, hk4⟩; have HB4 := Lib.hid (hk4.1 _ _ HBd.out); have g2 : w4.cell? ⟨ix, 2, none⟩ = some (.slice Au pl cu) := HB4.out.cell 2; have HP4 := Lib.hid hp4; clear hp4 hk4) | (go_at_call 19; (with_reducible refine (HKB.out w4 HP4.out HB4.out.lt HP4.out.ext1).mono ?_); rintro e w5 ⟨rfl, hp5, hk5⟩; have HB5 := Lib.hid (hk5.1 _ _ HB4.out); have i2 : w5.cell? ⟨ix, 2, none⟩ = some (.slice Au pl cu) := HB5.out.cell 2; have HP5 := Lib.hid hp5; clear hp5 hk5))
            all_goals
              go_wp2
              go_meet
              exact ⟨j, m, _, _, _, _, _, _, rfl, rfl, HP5.out.later (by omega) (by omega), HB5.out⟩
          · have kb1 : (kind == 1) = false := by rw [beq_eq_false_iff_ne]; exact k1
            by_cases k2 : kind = 2
            · subst k2
              have hx0 : Ext wa wa.drew := Ext.dr (Ext.refl wa)
              have hpd := HP.out.ext jA_stands jB_stands hx0
              have hbd := HB.out.ext hx0
              have hxd := hpd.ext1
              have KA := hpd.startA jB_stands hbd.lt HQ.out hxd (by have := HPL.out; omega)
              have KB := fun (w' : World) (hp : JP2 (dA w1 g (jsS t f z (catF L).length c p)) (jB m r q f z t L c a) w1 w' ix) (hb : ix < w'.heap.size) (hx : Ext w1 w') => hp.startB HJS.out dA_stands hb HQ.out hx
              have HKA := Lib.hid KA
              have HKB := Lib.hid KB
              have HBd := Lib.hid hbd
              have g20 : wa.drew.cell? ⟨ix, 2, none⟩ = some (.slice Au pl cu) := hbd.cell 2
              have g00 : wa.drew.cell? ⟨ix, 0, none⟩ = some (.int .i64 2) := hbd.cell 0
              have g0a : wa.cell? ⟨ix, 0, none⟩ = some (.int .i64 2) := HB.out.cell 0
              have hop := HJS.out.opensJ (p := p) (by omega) keep
              have hsw := HJS.out.jsS_waits (p := p)
              obtain ⟨L', W', c', hop⟩ := hop
              have HOP := Lib.hid hop
              have HSW := Lib.hid hsw
              clear KA KB hpd hbd hxd hop hsw
              generalize jE z (catF L).length c p = E at *
              generalize jsS t f z (catF L).length c p = S at *
              have hE : (E != E) = false := by simp
              go_wp2
              go_region_held3 (fun w' => w'.cell? ⟨ix, 0, none⟩ = some (.int .i64 2) ∧ w'.cell? ⟨ix, 2, none⟩ = some (.slice Au pl cu)) (first | go_keep | (exact g2) | (exact i2)) (first | (go_at_call 14; (with_reducible refine HKA.out.mono ?_); rintro e w4 ⟨rfl, hp4, hk4⟩; have HB4 := Lib.hid (hk4.1 _ _ HBd.out); have g2 : w4.cell? ⟨ix, 0, none⟩ = some (.int .i64 2) ∧ w4.cell? ⟨ix, 2, none⟩ = some (.slice Au pl cu) := ⟨HB4.out.cell 0, HB4.out.cell 2⟩; have HP4 := Lib.hid hp4; clear hp4 hk4) | (go_at_call 20; (with_reducible refine (HKB.out w4 HP4.out HB4.out.lt HP4.out.extD).mono ?_); rintro e wS ⟨rfl, hp5, hk5⟩; have HBS := Lib.hid (hk5.1 _ _ HB4.out); have i2 : wS.cell? ⟨ix, 0, none⟩ = some (.int .i64 2) ∧ wS.cell? ⟨ix, 2, none⟩ = some (.slice Au pl cu) := ⟨HBS.out.cell 0, HBS.out.cell 2⟩; have HPS := Lib.hid hp5; clear hp5 hk5))
              all_goals
                clear g20 g00 g0a HKA HKB HBd HP4 HB4 HP HB g2 i2 hx0
                have h1S : wS.cell? ⟨ix, 1, none⟩ = some (.int .i64 keep) := HBS.out.cell 1
                have hszS := HPS.out.extD.size
                go_wp2_with fail
                refine (HPS.out.crashA dB_stands HBS.out.lt hszS HBB.out.1 HBB.out.2 (Nat.le_trans HSW.out (by decide))).mono ?_
                rintro e wC ⟨rfl, hpC, hkC⟩
                have HBC := Lib.hid (hkC.1 _ _ HBS.out)
                have HPC := Lib.hid hpC
                have h1C : wC.cell? ⟨ix, 1, none⟩ = some (.int .i64 keep) := HBC.out.cell 1
                have hszC := hpC.extD.size
                clear hpC hkC h1S hszS HPS
                go_wp2_with fail
                refine (HPC.out.crashB dA_stands HBC.out.lt hszC (Nat.le_trans HSW.out (by decide))).mono ?_
                rintro e wD ⟨rfl, hpD, hkD⟩
                have HBD := Lib.hid (hkD.1 _ _ HBC.out)
                have HPD := Lib.hid hpD
                have hszD := hpD.extD.size
                have hw0 : (crD S keep).2.1.length ≤ 10000000 := Nat.zero_le _
                have HW0 := Lib.hid hw0
                clear hpD hkD h1C hszC HPC HBC hw0 HSW
                generalize crD S keep = S' at *
                go_wp2_with fail
                refine (HPD.out.openA dB_stands HBD.out.lt hszD HOP.out HW0.out (by omega)).mono ?_
                rintro e wE ⟨j2, pvE, ovE, rfl, hpE, hkE⟩
                have HBE := Lib.hid (hkE.1 _ _ HBD.out)
                have HPE := Lib.hid hpE
                have hszE := hpE.extR.size
                clear hpE hkE hszD HPD HBD
                go_wp2_with fail
                refine (HPE.out.openB jAr_stands HBE.out.lt hszE HOP.out HW0.out).mono ?_
                rintro e wF ⟨m2, pvF, ovF, rfl, hpF, hrF, hoF, hkF⟩
                obtain ⟨hpF2, hrE, hoE⟩ := hpF.read
                have HBF := Lib.hid (hkF.1 _ _ HBE.out)
                have HPF := Lib.hid hpF2
                have HRE := Lib.hid hrE
                have HRF := Lib.hid hrF
                have HOE := Lib.hid hoE
                have HOF := Lib.hid hoF
                clear hpF hpF2 hrE hoE hrF hoF hkF hszE HPE HBE
                go_wp2_with fail
                refine (Bytes_same pic _ _ wF HRE.out HRF.out).mono ?_
                rintro e wG ⟨rfl, nG, rfl⟩
                have hxG : Ext wF (wF.drewN nG) := Below.drewN' (Ext.refl wF) nG
                have HPG := Lib.hid (HPF.out.ext jA_stands jB_stands hxG)
                have HBG := Lib.hid (HBF.out.ext hxG)
                have KS := RefSame_any W' W' _ _ (wF.drewN nG) (HOE.out.ext hxG) (HOF.out.ext hxG)
                rw [decide_eq_true rfl] at KS
                have HKS := Lib.hid KS
                clear KS hxG HRE HRF HOE HOF HPF HBF
                generalize wF.drewN nG = wG at *
                go_wp2_with fail
                refine HKS.out.mono ?_
                rintro e wH ⟨rfl, nH, rfl⟩
                have hxH : Ext wG (wG.drewN nH) := Below.drewN' (Ext.refl wG) nH
                have HPH := Lib.hid (HPG.out.ext jA_stands jB_stands hxH)
                have HBH := Lib.hid (HBG.out.ext hxH)
                clear hxH HPG HBG HKS
                go_wp2
                go_meet
                exact ⟨j2, m2, _, _, _, _, _, _, rfl, rfl, HPH.out.later (by omega) (by omega), HBH.out⟩
            · have kb2 : (kind == 2) = false := by rw [beq_eq_false_iff_ne]; exact k2
              by_cases k3 : kind = 3
              · subst k3
                have g0a : wa.cell? ⟨ix, 0, none⟩ = some (.int .i64 3) := HB.out.cell 0
                go_wp2
                go_quiet (fail)
                have hxq : Ext wa (wa.drewN nq) := Below.drewN' (Ext.refl wa) nq
                have HPS := Lib.hid (HP.out.ext jA_stands jB_stands hxq).diskA.diskB
                have HBS := Lib.hid (HB.out.ext hxq)
                have hop := HJS.out.opens0 keep
                have hsw : t.2.1.length ≤ 10000 := by rw [HJS.out.ji.still]; exact Nat.zero_le _
                obtain ⟨W', hW'⟩ : ∃ x, x = W := ⟨_, rfl⟩
                rw [← hW'] at hop
                have HOP := Lib.hid hop
                have HSW := Lib.hid hsw
                clear g0a HP HB hxq hop hsw hW'
                generalize wa.drewN nq = wS at *
                obtain ⟨S, hS⟩ : ∃ x, x = t := ⟨_, rfl⟩
                rw [← hS] at HPS HOP HSW
                clear hS

                have h1S : wS.cell? ⟨ix, 1, none⟩ = some (.int .i64 keep) := HBS.out.cell 1
                have hszS := HPS.out.extD.size
                go_wp2_with fail
                refine (HPS.out.crashA dB_stands HBS.out.lt hszS HBB.out.1 HBB.out.2 (Nat.le_trans HSW.out (by decide))).mono ?_
                rintro e wC ⟨rfl, hpC, hkC⟩
                have HBC := Lib.hid (hkC.1 _ _ HBS.out)
                have HPC := Lib.hid hpC
                have h1C : wC.cell? ⟨ix, 1, none⟩ = some (.int .i64 keep) := HBC.out.cell 1
                have hszC := hpC.extD.size
                clear hpC hkC h1S hszS HPS
                go_wp2_with fail
                refine (HPC.out.crashB dA_stands HBC.out.lt hszC (Nat.le_trans HSW.out (by decide))).mono ?_
                rintro e wD ⟨rfl, hpD, hkD⟩
                have HBD := Lib.hid (hkD.1 _ _ HBC.out)
                have HPD := Lib.hid hpD
                have hszD := hpD.extD.size
                have hw0 : (crD S keep).2.1.length ≤ 10000000 := Nat.zero_le _
                have HW0 := Lib.hid hw0
                clear hpD hkD h1C hszC HPC HBC hw0 HSW
                generalize crD S keep = S' at *
                go_wp2_with fail
                refine (HPD.out.openA dB_stands HBD.out.lt hszD HOP.out HW0.out (by omega)).mono ?_
                rintro e wE ⟨j2, pvE, ovE, rfl, hpE, hkE⟩
                have HBE := Lib.hid (hkE.1 _ _ HBD.out)
                have HPE := Lib.hid hpE
                have hszE := hpE.extR.size
                clear hpE hkE hszD HPD HBD
                go_wp2_with fail
                refine (HPE.out.openB jAr_stands HBE.out.lt hszE HOP.out HW0.out).mono ?_
                rintro e wF ⟨m2, pvF, ovF, rfl, hpF, hrF, hoF, hkF⟩
                obtain ⟨hpF2, hrE, hoE⟩ := hpF.read
                have HBF := Lib.hid (hkF.1 _ _ HBE.out)
                have HPF := Lib.hid hpF2
                have HRE := Lib.hid hrE
                have HRF := Lib.hid hrF
                have HOE := Lib.hid hoE
                have HOF := Lib.hid hoF
                clear hpF hpF2 hrE hoE hrF hoF hkF hszE HPE HBE
                go_wp2_with fail
                refine (Bytes_same pic _ _ wF HRE.out HRF.out).mono ?_
                rintro e wG ⟨rfl, nG, rfl⟩
                have hxG : Ext wF (wF.drewN nG) := Below.drewN' (Ext.refl wF) nG
                have HPG := Lib.hid (HPF.out.ext jA_stands jB_stands hxG)
                have HBG := Lib.hid (HBF.out.ext hxG)
                have KS := RefSame_any W' W' _ _ (wF.drewN nG) (HOE.out.ext hxG) (HOF.out.ext hxG)
                rw [decide_eq_true rfl] at KS
                have HKS := Lib.hid KS
                clear KS hxG HRE HRF HOE HOF HPF HBF
                generalize wF.drewN nG = wG at *
                go_wp2_with fail
                refine HKS.out.mono ?_
                rintro e wH ⟨rfl, nH, rfl⟩
                have hxH : Ext wG (wG.drewN nH) := Below.drewN' (Ext.refl wG) nH
                have HPH := Lib.hid (HPG.out.ext jA_stands jB_stands hxH)
                have HBH := Lib.hid (HBG.out.ext hxH)
                clear hxH HPG HBG HKS
                go_wp2
                go_meet
                exact ⟨j2, m2, _, _, _, _, _, _, rfl, rfl, HPH.out.later (by omega) (by omega), HBH.out⟩
              · have kb3 : (kind == 3) = false := by rw [beq_eq_false_iff_ne]; exact k3
                clear k0 k1 k2 k3
                go_wp2
                go_meet
                exact ⟨j, m, _, _, _, _, _, _, rfl, rfl, HP.out.later (by omega) (by omega), HB.out⟩
      case rest =>
        clear HP HJS HBB HQ HB HPL
        obtain ⟨j', m', t', L', W', c', a', pic', rfl, rfl, hp, hb⟩ := hcut
        have hx0 : Ext wc wc.drew := Ext.dr (Ext.refl wc)
        have HP := Lib.hid hp
        have HB := Lib.hid hb
        have hcell : ∀ w', Ext wc w' → w'.cell? ⟨m', 2, none⟩ = some (.int .i64 (c' : Int)) ∧ w'.cell? ⟨ix, 2, none⟩ = some (.slice Au pl cu) := fun w' hx => ⟨HP.out.cellB w' hx, (HB.out.ext hx).cell 2⟩
        have HC := Lib.hid hcell
        have HX0 := Lib.hid hx0
        obtain ⟨g20, g22⟩ := hcell _ hx0
        have hcc : ((c' : Int) != (c' : Int)) = false := by simp
        have KRA := fun w' hx => HP.out.roomA pl (by omega) w' hx
        have KRB := fun w' hx => HP.out.roomB pl (by omega) w' hx
        obtain ⟨R, hR⟩ : ∃ x, x = jroom z (catF L').length c' pl := ⟨_, rfl⟩
        simp only [← hR] at KRA KRB
        have hRR : (R != R) = false := by cases R <;> rfl
        have HRA := Lib.hid KRA
        have HRB := Lib.hid KRB
        clear hp hb hcell hx0 KRA KRB hR
        go_wp2
        go_region_held3 (fun w' => w'.cell? ⟨m', 2, none⟩ = some (.int .i64 (c' : Int)) ∧ w'.cell? ⟨ix, 2, none⟩ = some (.slice Au pl cu)) (first | go_keep | (exact HC.out _ hy4) | (exact HC.out _ hy5) | (exact HC.out _ hy6) | (exact HC.out _ hy7) | (exact HC.out _ hy8) | (exact HC.out _ hy9)) (first | (go_at_call 16; (with_reducible refine (HP.out.countA _ HX0.out).mono ?_); rintro e w4 ⟨rfl, hx4⟩; have hy4 := HX0.out.trans hx4) | (go_at_call 25; (with_reducible refine (HP.out.bytesA w4 hy4).mono ?_); rintro e w5 ⟨A5, c5, rfl, hr5, hx5⟩; have hy5 := hy4.trans hx5; have HR5 := Lib.hid hr5; clear hr5) | (go_at_call 26; (with_reducible refine (HP.out.bytesB w5 hy5).mono ?_); rintro e w6 ⟨A6, c6, rfl, hr6, hx6⟩; have hy6 := hy5.trans hx6; have HR6 := Lib.hid hr6; have HR5' := Lib.hid (HR5.out.ext hx6); clear hr6) | (go_at_call 23; (with_reducible refine (Bytes_same _ _ _ w6 HR5'.out HR6.out).mono ?_); rintro e w7 ⟨rfl, n7, rfl⟩; have hy7 := hy6.trans (Below.drewN' (Ext.refl w6) n7)) | (go_at_call 17; (with_reducible refine (HRA.out _ hy7).mono ?_); rintro e w8 ⟨rfl, hx8⟩; have hy8 := hy7.trans hx8) | (go_at_call 27; (with_reducible refine (HRB.out w8 hy8).mono ?_); rintro e w9 ⟨rfl, hx9⟩; have hy9 := hy8.trans hx9))
        all_goals
          have HP9 := Lib.hid (HP.out.ext jA_stands jB_stands hy9).forget
          clear hx4 hx5 hx6 hx8 hx9 hy4 hy5 hy6 hy7 hy8 hy9 g20 g22
          go_wp2
          go_roundg (l.length - (k + 1))
          case measure => omega
          case rel => exact ⟨k + 1, j', m', by go_num, rfl, rfl, by omega, rfl, Lib.hid ⟨_, _, _, _, _, _, HP9.out⟩⟩
    · obtain rfl : k = l.length := by omega
      have hx := hx1.trans hxw
      clear hp hjs hr hr1
      go_wp2
      go_ret
      exact ⟨rfl, hx⟩

end Go.Proofs.Ytdcmjmanalijfaa
