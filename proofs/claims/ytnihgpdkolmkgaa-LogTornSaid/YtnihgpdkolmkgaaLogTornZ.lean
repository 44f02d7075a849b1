/- For every input LogTorn returns true: behind any torn Puts, each with a crash and Open, there are the records that were synced, and each that lasts as a whole, and no other. No condition. -/
import Derived.Test.YtnihgpdkolmkgaaLogTornQ7
namespace Go.Proofs.Ytnihgpdkolmkgaa
open Go.ChangeShapes Go.WideShapes Go.ChangeAt Go.RowKit

theorem catF_80 : ∀ (l : List (List UInt8)), (∀ p ∈ l, p.length ≤ 80) → (catF l).length ≤ 93 * l.length
  | [], _ => by simp [catF]
  | p :: l, h => by
    have h1 := frameB_max p
    have h0 := h p (List.mem_cons_self ..)
    have h2 := catF_80 l (fun q hq => h q (List.mem_cons_of_mem _ hq))
    have e : catF (p :: l) = frameB p ++ catF l := by simp [catF]
    rw [e, List.length_append, List.length_cons]
    omega

theorem Blk.chg0 {F : Fp} {w w' : World} {g : Nat} {t : TypeId} {cs : Array Value} (h : Blk w g t cs) (hc : Chg F w w') (hg : ¬ F g) : Blk w' g t cs := (hc.block g h.lt hg).trans h

/-- How far it has come. -/
def TornSt (w1 : World) (g : Nat) (k : Nat) (lv wv : Value) (wr : World) (L : List (List UInt8)) (h : Nat) (s : DkS) (F : Fp) : Prop :=
  lv = .pointer (some ⟨h, 0, none⟩) ∧ LgW w1 wr h g s 8 3900 (catF L).length F ∧ LogIs (rdD s) 8 3900 L ∧ s.2.1 = [] ∧ s.1.length = 4000 ∧ 0 ≤ s.2.2 ∧ s.2.2 ≤ 2 * k + 1 ∧ WantR w1 wr wv L F ∧ L.length ≤ k ∧ ∀ p ∈ L, p.length ≤ 80

set_option maxRecDepth 100000 in
set_option maxHeartbeats 2000000 in
theorem LogTorn_main (l : List (Int × Int × List UInt8)) (v : Value) (w : World) (hr : RdActs w v l) (hf : fewL l = true) :
    Calls Try.prog 4 #[v] w fun e w' => e = .returned (.bool true) ∧ Ext w w' := by
  obtain ⟨A, c, rfl, hlc, hcm⟩ := hr.slice_
  obtain ⟨hl40, hl200⟩ := fewL_yes hf
  go_enter Try.func4, Try.ntmps4
  go_wp2_with fail
  refine (alive_any w).mono ?_
  rintro e w1 ⟨rfl, hx1⟩
  have hr1 := hr.ext hx1
  go_wp2_with fail
  refine (fewL_any l _ _ hr1).mono ?_
  rintro e w1' ⟨rfl, rfl⟩
  rw [hf]
  go_wp2_with fail
  refine (DkW.new (Ext.refl w1) 4000 (by decide) (by decide)).mono ?_
  rintro e w2 ⟨g, rfl, hd2, -⟩
  obtain ⟨s0, hs0, sl0, sw0, sn0, hnew⟩ := newD 4000
  rw [← hs0] at hd2
  clear hs0
  go_wp2_with fail
  refine (hd2.open_ (f := 8) (z := 3900) (by omega) (by decide) (by rw [sw0]; decide) (by omega) (by omega)).mono ?_
  rintro e w3 ⟨h, v3, rfl, hl3, -, -⟩
  have hrec := LogIs.rec (hnew 8 3900 (by decide))
  have hop := opD_is (s := s0) (f := 8) (z := 3900) (by omega)
  rw [hrec.1] at hop
  rw [hrec.2] at hl3
  have hlen1 : (opD s0 8 3900).1.length = 4000 := by rw [opD_len, sl0]
  have hn1 : (opD s0 8 3900).2.2 = 1 := by rw [opD_n, sn0]; rfl
  have hw1 := opD_waits s0 8 3900
  have HL3 := Lib.hid hl3
  have HOP := Lib.hid hop
  have HH := Lib.hid (And.intro hlen1 (And.intro hn1 hw1))
  clear hd2 hrec hnew hl3 hop hlen1 hn1 hw1 sl0 sw0 sn0
  generalize opD s0 8 3900 = s3 at *
  generalize (Fp.since _ w2 w3) = F3 at *
  go_wp2
  go_loopw [4, 7, 8] (fun lv wv i wr => ∃ k : Nat, i = .int .i64 k ∧ k ≤ l.length ∧ ∃ L h s F, TornSt w1 g k lv wv wr L h s F) (fun _ _ i _ => l.length - (intOf i).toNat)
  case atStart => exact ⟨0, rfl, Nat.zero_le _, [], h, s3, F3, rfl, HL3.out, HOP.out, HH.out.2.2, HH.out.1, by rw [HH.out.2.1]; decide, by rw [HH.out.2.1]; decide, WantR.nil _ _ _, Nat.zero_le _, by simp⟩
  case round =>
    obtain ⟨k, rfl, hk, L, h, s, F, rfl, hlg, his, hws, hsl, hn0, hn1, hwant, hLk, hL80⟩ := hrel
    by_cases hlt : k < l.length
    · obtain ⟨b, o, rfl, hb, hcl⟩ := hr1.get (by omega)
      obtain ⟨e0, e1, b0, b1, u, e2, hu⟩ := hcl k _ (List.getElem?_eq_getElem hlt)
      have hp200 := hl200 l[k] (List.getElem_mem hlt)
      generalize l[k] = x at *
      obtain ⟨kind, keep, p⟩ := x
      dsimp only at hu e0 e1 e2 b0 b1 hp200
      have d0 : wr.cell? ⟨b, o + k * 3, none⟩ = some (.int .i64 kind) := hlg.2.2.cellOf e0 hb
      have d1 : wr.cell? ⟨b, o + k * 3 + 1, none⟩ = some (.int .i64 keep) := by rw [Nat.add_assoc]; exact hlg.2.2.cellOf e1 hb
      have d2 : wr.cell? ⟨b, o + k * 3 + 2, none⟩ = some u := by rw [Nat.add_assoc]; exact hlg.2.2.cellOf e2 hb
      obtain ⟨Au, cu, rfl, hcu, hcmu⟩ := hu.sliceN (List.length_map _)
      unfold maxLen at hcmu
      have hE : Ext wr (wr.alloc (.cells #[.int .i64 kind, .int .i64 keep, .slice Au p.length cu] 42)) := (Below.refl _ _).alloc (Nat.le_refl _) _
      have hB : Blk (wr.alloc (.cells #[.int .i64 kind, .int .i64 keep, .slice Au p.length cu] 42)) wr.heap.size 42 #[.int .i64 kind, .int .i64 keep, .slice Au p.length cu] := Blk.new _ _ _
      have HB1 := Lib.hid b1
      clear hcl e0 e1 e2 b0 b1
      by_cases hp : p.length = 0 ∨ 80 < p.length
      · have HS : Hid (TornSt w1 g (k + 1) (.pointer (some ⟨h, 0, none⟩)) _ (wr.alloc (.cells #[.int .i64 kind, .int .i64 keep, .slice Au p.length cu] 42)) L h s F) := Lib.hid (show TornSt w1 g (k + 1) _ _ _ L h s F from ⟨rfl, hlg.ext hE, his, hws, hsl, hn0, by omega, hwant.ext hE, by omega, hL80⟩)
        obtain ⟨Aw, cw, rfl, _, _⟩ := hwant.rdl.sliceN rfl
        clear hlg his hwant hsl hws hn0 hn1
        rcases hp with hp | hp
        · rw [hp] at HS
          go_wp2
          go_roundw
          case rel => exact ⟨k + 1, by go_num, by omega, L, h, s, F, HS.out⟩
          case measure => simp [intOf]; omega
        · have hpd : decide (80 < p.length) = true := by simp; omega
          have hp0 : ¬ p.length = 0 := by omega
          go_wp2
          go_roundw
          case rel => exact ⟨k + 1, by go_num, by omega, L, h, s, F, HS.out⟩
          case measure => simp [intOf]; omega
      · have hok : okP p := by omega
        have hfl := frameB_max p
        have hcl := catF_80 L hL80
        have hpe : putE 3900 (catF L).length p = 0 := by rw [putE, if_neg (by rw [frameB_nil]; omega), if_neg (by omega)]
        have hroom := (putE_yes hpe).2
        have hpd : decide (80 < p.length) = false := by simp; omega
        have hp0 : ¬ p.length = 0 := by omega
        have hp1 : ((p.length : Int) == 0) = false := by rw [beq_eq_false_iff_ne]; omega
        have hp2 : ¬ (80 : Int) < (p.length : Int) := by omega
        obtain ⟨Aw, cw, rfl, _, _⟩ := hwant.rdl.sliceN rfl
        have HLG := Lib.hid (hlg.ext hE)
        have HW := Lib.hid (hwant.ext hE)
        have HIS := Lib.hid his
        have HU := Lib.hid hu
        have HF := Lib.hid hlg.1.isIn
        by_cases hk0 : kind = 0
        · subst hk0
          have his5 := his.ptD hok hroom
          have hws5 : (appS s 8 3900 (catF L).length p).2.1 = [] := by rw [appS, if_pos hpe]; rfl
          have hrd5 : rdD (appS s 8 3900 (catF L).length p) = rdD (ptD s 8 (catF L).length p) := by rw [appS, if_pos hpe, syD_rd]
          have hsl5 := appS_len s 8 3900 (catF L).length p
          have hn5 := appS_n s 8 3900 (catF L).length p
          have hu5 : putU 3900 (catF L).length p = (catF (L ++ [p])).length := by rw [putU, if_pos hpe, catF_snoc_len]
          rw [← hrd5] at his5
          have H5 := Lib.hid (And.intro his5 (And.intro hws5 (And.intro hsl5 hn5)))
          have HA := Lib.hid (HLG.out.append (p := p) hu (by omega) (by omega) (by rw [hws]; exact Nat.zero_le _) hn0 (by omega))
          rw [hpe, hu5] at HA
          have HSL := Lib.hid (And.intro hsl (And.intro hn0 hn1))
          clear hlg his hwant his5 hws5 hrd5 hsl5 hn5 hu5 hsl hws hn0 hn1
          go_wp2_with fail
          refine HA.out.mono ?_
          rintro e w5 ⟨rfl, hl5, hc5⟩
          have hB5 := hB.chg0 hc5 (fun hF => by have := HF.out _ hF; omega)
          have f2 : w5.cell? ⟨wr.heap.size, 2, none⟩ = some (.slice Au p.length cu) := hB5.cell 2
          have hW5 := HW.out.chg hc5 HLG.out.2.1
          have hlt5 := hB5.lt
          have HL5 := Lib.hid hl5
          have HW5 := Lib.hid hW5
          clear hl5 hW5 hc5 HA HLG HW hB hE hB5
          go_wp2_with (at_builtin; refine push_want rfl _ _ rfl _ L _ HW5.out HL5.out.1.isIn HL5.out.2.2.size Au p.length cu p (old_rd HU.out HL5.out.2.2) rfl rfl (by omega) ?_; intro v6 w6 hW6 hc6)
          go_roundw
          case rel =>
            have hl6 := HL5.out.chg hc6 (fun k hk hk2 => hk2.2 hk) (fun k hk => hk.1)
            exact ⟨k + 1, by go_num, by omega, L ++ [p], h, _, _, rfl, hl6, H5.out.1, H5.out.2.1, by rw [H5.out.2.2.1]; exact HSL.out.1, by have := H5.out.2.2.2; have := HSL.out.2; omega, by have := H5.out.2.2.2; have := HSL.out.2; omega, hW6, by rw [List.length_append, List.length_singleton]; omega, fun q hq => by
              rcases List.mem_append.1 hq with hq | hq
              · exact hL80 q hq
              · rw [List.mem_singleton.1 hq]; omega⟩
          case measure => simp [intOf]; omega
        · have hkb : (kind == 0) = false := by rw [beq_eq_false_iff_ne]; exact hk0
          have hps : putS s 8 3900 (catF L).length p = ptD s 8 (catF L).length p := by rw [putS, if_pos hpe]
          have hpu : putU 3900 (catF L).length p = (catF L).length + (frameB p).length := by rw [putU, if_pos hpe]
          have hrec := his.crash hws hok hroom keep
          have hop := opD_is (s := crD (putS s 8 3900 (catF L).length p) keep) (f := 8) (z := 3900) (by rw [crD_len, putS_len]; omega)
          have hnn : (opD (crD (putS s 8 3900 (catF L).length p) keep) 8 3900).2.2 = s.2.2 + 1 := by rw [opD_n, crD, putS_n]
          have hwt := putS_waits s 8 3900 (catF L).length p
          rw [hws] at hwt
          have hwt2 : (putS s 8 3900 (catF L).length p).2.1.length ≤ 1000 := by simp only [List.length_nil] at hwt; omega
          have HK5 := Lib.hid (HLG.out.used (by omega))
          have HSL := Lib.hid (And.intro hsl (And.intro hn0 hn1))
          have HN := Lib.hid hnn
          have HWS := Lib.hid hws
          have HIO := Lib.hid (And.intro hrec hop)
          have HPS := Lib.hid (And.intro hps (And.intro hpu hpe))
          have hq1 : (frameB p).length ≤ 93 := by omega
          have hq2 : (catF L).length ≤ 3720 := by omega
          have HQ : Hid ((frameB p).length ≤ 3900 - (catF L).length) := Lib.hid hroom
          have HWT := Lib.hid hwt2
          clear hlg his hwant hsl hws hn0 hn1 hrec hop hnn hwt hwt2 hps hpu hpe hroom hok hfl hcl
          go_wp2_with fail
          refine HK5.out.mono ?_
          rintro e w5 ⟨rfl, hl5, hx5⟩
          have hB5 := hB.ext hx5
          have hW5 := HW.out.ext hx5
          have f2 : w5.cell? ⟨wr.heap.size, 2, none⟩ = some (.slice Au p.length cu) := hB5.cell 2
          have HP6 := Lib.hid (hl5.put (p := p) HU.out (by rw [HSL.out.1]; omega) (by omega) (by rw [HWS.out]; exact Nat.zero_le _))
          have hnF : ¬ F wr.heap.size := fun hF => by have := HF.out _ hF; omega
          have HLOW := Lib.hid hl5.2.1
          rw [HPS.out.2.2, HPS.out.2.1] at HP6
          clear HK5 hl5 HW HLG hE
          go_wp2_with fail
          refine HP6.out.mono ?_
          rintro e w6 ⟨rfl, hl6, hc6⟩
          have hB6 := hB5.chg0 hc6 hnF
          have hnF6 : ¬ (F.since w5 w6) wr.heap.size := nsince hnF hB5.lt
          have hW6 := hW5.chg hc6 HLOW.out
          clear HP6 hB5 hW5 hc6 f2 hnF HLOW hB
          go_wp2_with fail
          refine (hl6.used (by omega)).mono ?_
          rintro e w7 ⟨rfl, hl7, hx7⟩
          have hB7 := hB6.ext hx7
          have hW7 := hW6.ext hx7
          have f1 : w7.cell? ⟨wr.heap.size, 1, none⟩ = some (.int .i64 keep) := hB7.cell 1
          have HLOW7 := Lib.hid hl7.2.1
          have HC8 := Lib.hid (hl7.dkW.crash keep HB1.out.1 HB1.out.2 (by have := HWT.out; omega))
          have hlong : ((((catF L).length + (frameB p).length : Nat) : Int)) - ((catF L).length : Int) = ((frameB p).length : Int) := by omega
          clear hl6 hB6 hW6 hl7 hx7
          generalize hqq : (frameB p).length = q at *
          go_wp2_with fail
          refine HC8.out.mono ?_
          rintro e w8 ⟨rfl, hd8, hc8⟩
          have hB8 := hB7.chg0 hc8 hnF6
          have hnF8 := nsince (w' := w8) hnF6 hB7.lt
          have hW8 := hW7.chg hc8 HLOW7.out
          have HD8 := Lib.hid hd8
          have HO9 := Lib.hid (hd8.open_ (f := 8) (z := 3900) (by rw [crD_len, putS_len, HSL.out.1]; decide) (by decide) (by simp [crD]) (by show 0 ≤ (putS s 8 3900 (catF L).length p).2.2; rw [putS_n]; exact HSL.out.2.1) (by show (putS s 8 3900 (catF L).length p).2.2 ≤ _; rw [putS_n]; have := HSL.out.2; omega))
          clear hB7 hW7 hc8 hd8 HC8 f1 HLOW7 hnF6
          go_wp2_with fail
          refine HO9.out.mono ?_
          rintro e w9 ⟨h9, v9, rfl, hl9, hr9, hc9⟩
          have hB9 := hB8.chg0 hc9 hnF8
          have hW9 := hW8.chg hc9 HD8.out.2.1
          have f1 : w9.cell? ⟨wr.heap.size, 1, none⟩ = some (.int .i64 keep) := hB9.cell 1
          have f2 : w9.cell? ⟨wr.heap.size, 2, none⟩ = some (.slice Au p.length cu) := hB9.cell 2
          have hlt9 := hB9.lt
          have HL9 := Lib.hid hl9
          have HR9 := Lib.hid hr9
          have HW9 := Lib.hid hW9
          have hps := HPS.out.1
          obtain ⟨hrec, hop⟩ := HIO.out
          obtain ⟨nr, hnr⟩ : ∃ nr, nr = (recD (crD (putS s 8 3900 (catF L).length p) keep) 8 3900).length := ⟨_, rfl⟩
          obtain ⟨A9, c9, rfl, _, _⟩ := hr9.rdl.sliceN hnr.symm
          clear hnr
          clear hl9 hr9 hW9 hW8 hB8 hB9 hc9 HO9 HD8 HIO hnF8
          by_cases hkeep : (q : Int) ≤ keep
          ·
            rw [if_pos hkeep] at hrec
            have hrr : recD (crD (putS s 8 3900 (catF L).length p) keep) 8 3900 = L ++ [p] := by rw [hps]; exact hrec
            rw [hrr] at HR9
            have hend : endD (crD (putS s 8 3900 (catF L).length p) keep) 8 3900 = (catF (L ++ [p])).length := by rw [endD, hrr]
            rw [hend] at HL9
            rw [hrr] at hop
            have HOP := Lib.hid hop
            clear hrec hrr hend hop hps
            go_wp2_with (first | (at_builtin; refine push_want rfl _ _ rfl _ L _ HW9.out HL9.out.1.isIn HL9.out.2.2.size Au p.length cu p (old_rd HU.out HL9.out.2.2) rfl rfl (by omega) ?_; intro v10 w10 hW10 hc10) | fail)
            have hl10 := HL9.out.chg hc10 (fun k hk hk2 => hk2.2 hk) (fun k hk => hk.1)
            have hr10 := HR9.out.chg hc10 (fun k hk hk2 => hk2.2 (.inr hk))
            obtain ⟨Aw2, cw2, rfl, _, _⟩ := hW10.rdl.sliceN (n := L.length + 1) (by rw [List.length_append]; rfl)
            refine (RefSame_any (L ++ [p]) (L ++ [p]) _ _ _ hr10.rdl hW10.rdl).mono ?_
            rintro e w11 ⟨he, n11, rfl⟩
            obtain rfl := he.trans (congrArg (fun n => Ending.returned (.bool n)) (decide_eq_true rfl))
            have HL10 := Lib.hid (hl10.ext (Below.drewN' (Ext.refl _) n11))
            have HW10 := Lib.hid (hW10.ext (Below.drewN' (Ext.refl _) n11))
            clear he hl10 hr10 hW10 hc10
            go_wp2
            go_roundw
            case rel =>
              exact ⟨k + 1, by go_num, by omega, L ++ [p], h9, _, _, rfl, HL10.out, HOP.out, rfl, by rw [opD_len, crD_len, putS_len]; exact HSL.out.1, by rw [HN.out]; have := HSL.out.2; omega, by rw [HN.out]; have := HSL.out.2; omega, HW10.out, by rw [List.length_append, List.length_singleton]; omega, fun q hq => by
                rcases List.mem_append.1 hq with hq | hq
                · exact hL80 q hq
                · rw [List.mem_singleton.1 hq]; omega⟩
            case measure => simp [intOf]; omega
          ·
            rw [if_neg hkeep] at hrec
            have hrr : recD (crD (putS s 8 3900 (catF L).length p) keep) 8 3900 = L := by rw [hps]; exact hrec
            rw [hrr] at HR9
            have hend : endD (crD (putS s 8 3900 (catF L).length p) keep) 8 3900 = (catF (L)).length := by rw [endD, hrr]
            rw [hend] at HL9
            rw [hrr] at hop
            have HOP := Lib.hid hop
            clear hrec hrr hend hop hps
            go_wp2_with fail
            have hl10 := HL9.out
            have hr10 := HR9.out
            have hW10 := HW9.out
            refine (RefSame_any (L) (L) _ _ _ hr10.rdl hW10.rdl).mono ?_
            rintro e w11 ⟨he, n11, rfl⟩
            obtain rfl := he.trans (congrArg (fun n => Ending.returned (.bool n)) (decide_eq_true rfl))
            have HL10 := Lib.hid (hl10.ext (Below.drewN' (Ext.refl _) n11))
            have HW10 := Lib.hid (hW10.ext (Below.drewN' (Ext.refl _) n11))
            clear he hl10 hr10 hW10 
            go_wp2
            go_roundw
            case rel =>
              exact ⟨k + 1, by go_num, by omega, L, h9, _, _, rfl, HL10.out, HOP.out, rfl, by rw [opD_len, crD_len, putS_len]; exact HSL.out.1, by rw [HN.out]; have := HSL.out.2; omega, by rw [HN.out]; have := HSL.out.2; omega, HW10.out, by omega, hL80⟩
            case measure => simp [intOf]; omega
    · obtain rfl : k = l.length := by omega
      have hx := hx1.trans hlg.2.2
      obtain ⟨Aw, cw, rfl, _, _⟩ := hwant.rdl.sliceN rfl
      clear hlg his hwant
      go_wp2
      go_ret
      exact ⟨rfl, hx⟩

theorem LogTorn_calls (l : List (Int × Int × List UInt8)) (v : Value) (w : World) (hr : RdActs w v l) :
    Calls Try.prog 4 #[v] w fun e w' => e = .returned (.bool true) ∧ Ext w w' := by
  cases hf : fewL l with
  | true => exact LogTorn_main l v w hr hf
  | false =>
    have HF := Lib.hid hf
    clear hf
    go_enter Try.func4, Try.ntmps4
    go_wp2_with fail
    refine (alive_any w).mono ?_
    rintro e w1 ⟨rfl, hx1⟩
    go_wp2_with fail
    refine (fewL_any l _ _ (hr.ext hx1)).mono ?_
    rintro e w1' ⟨rfl, rfl⟩
    rw [HF.out]
    go_wp2
    go_ret
    exact ⟨rfl, hx1⟩

set_option maxRecDepth 100000 in
theorem LogTorn_lifted (os : Os) (started : os.Started) (H : Type) (enc : TypeId × Value → H) :
    ReturnsInHanded {} Try.checked os 4 .any (Rows.logTornSpec.pre6 enc Try.prog Try.f4 Rows.logTornRow.domain false) (Rows.logTornSpec.post enc Try.prog Try.f4 false true false false) := by
  refine law_lift (C := Try.checked) (tb := 4) Try.ownKnob started (by kernel_rfl) Try.func4 Try.laidOut (by kernel_rfl) rfl Try.underlying4 rfl rfl ?_
    (ChangeSpec.witness6 (enc := enc) (C := Try.checked) false ⟨#[], #[.slice none 0 0], []⟩ 8 (by kernel_rfl) (by kernel_rfl) (by kernel_rfl) (by kernel_rfl)) ?_
  · intro ds hd
    rw [Try.params4] at hd
    match ds, hd with
    | [d0], _ => rfl
  · intro W base args ds p hval hA hsz
    rw [Try.params4] at hA hval hsz
    obtain ⟨v0, vs0, d0, ds0, p0, q0, hargs, rfl, rfl, h0, r0_⟩ := trodAll_cons hA
    obtain ⟨rfl, rfl, rfl⟩ := trodAll_nil r0_
    obtain rfl : args = #[v0] := by cases args; simp_all
    obtain ⟨a0, r0⟩ := dec_acts Try.underlying22 Try.underlying42 (by kernel_rfl) (by kernel_rfl) rfl rfl rfl rfl Try.underlying3 Try.underlying3 Try.underlying38 Try.underlying5 (by kernel_rfl) (hval 0 22 v0 rfl rfl) h0
    exact LogTorn_calls a0 _ W r0

theorem LogTorn_holds : Rows.LogTornSaid :=
  OpenClaim.holds_of_wide 4 Try.f4 rfl rfl rfl rfl rfl rfl rfl ⟨rfl, rfl, rfl, rfl, rfl⟩ rfl rfl rfl rfl rfl (by kernel_rfl) Try.func4 (by kernel_rfl)
    (of_decide_eq_true (by kernel_rfl)) (by unfold Func.isWrapper; first | (rw [if_pos (by decide +kernel)]; kernel_rfl) | (rw [if_neg (by decide +kernel)]; exact ⟨rfl, rfl⟩))
    (fun os started H enc _ => LogTorn_lifted os started H enc)

end Go.Proofs.Ytnihgpdkolmkgaa
