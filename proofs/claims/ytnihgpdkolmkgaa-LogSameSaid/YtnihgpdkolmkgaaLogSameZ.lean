/- For every input LogSame returns true: a log that is opened again tells the same records, each time, and has the same room. No condition. -/
import Derived.Test.YtnihgpdkolmkgaaLogSameQ7
namespace Go.Proofs.Ytnihgpdkolmkgaa
open Go.ChangeShapes Go.WideShapes Go.ChangeAt Go.RowKit

/-- How far it has come. -/
def SameSt (w1 : World) (h g : Nat) (k z : Nat) (wv : Value) (wr : World) (L : List (List UInt8)) (s : DkS) (F : Fp) : Prop :=
  LgW w1 wr h g s 0 z (catF L).length F ∧ LogIs (rdD s) 0 z L ∧ s.2.1 = [] ∧ s.1.length = 300 ∧ 0 ≤ s.2.2 ∧ s.2.2 ≤ k + 1 ∧ WantR w1 wr wv L F ∧ L.length ≤ k

theorem catF_many : ∀ (l : List (List UInt8)), (∀ p ∈ l, okP p) → l.length ≤ (catF l).length
  | [], _ => by simp [catF]
  | p :: l, h => by
    have h1 := frameB_len (h p (List.mem_cons_self ..))
    have h2 := catF_many l (fun q hq => h q (List.mem_cons_of_mem _ hq))
    have e : catF (p :: l) = frameB p ++ catF l := by simp [catF]
    rw [e, List.length_append, List.length_cons]
    omega

set_option maxRecDepth 100000 in
set_option maxHeartbeats 4000000 in
theorem LogSame_main (n : Nat) (ls : List (List UInt8)) (v : Value) (w : World) (hn : n ≤ 255) (hr : RdL w v ls) (h40 : ls.length ≤ 40) :
    Calls Try.prog 7 #[.int .u8 (n : Int), v] w fun e w' => e = .returned (.bool true) ∧ Ext w w' := by
  obtain ⟨A, c, rfl, hlc, hcm⟩ := hr.sliceN rfl
  unfold maxLen at hcm
  go_enter Try.func7, Try.ntmps7
  go_wp2_with fail
  refine (alive_any w).mono ?_
  rintro e w1 ⟨rfl, hx1⟩
  have hr1 := hr.ext hx1
  go_wp2_with fail
  refine (DkW.new (Ext.refl w1) 300 (by decide) (by decide)).mono ?_
  rintro e w2 ⟨g, rfl, hd2, -⟩
  obtain ⟨s0, hs0, sl0, sw0, sn0, hnew⟩ := newD 300
  rw [← hs0] at hd2
  clear hs0
  obtain ⟨z, hz⟩ : ∃ z, z = 1 + n := ⟨_, rfl⟩
  have HZI : Hid ((1 : Int) + (n : Int) = (z : Int)) := Lib.hid (show (1 : Int) + (n : Int) = (z : Int) by omega)
  have hzb : z ≤ 256 := by omega
  have hzc : 1 ≤ z := by omega
  clear hz
  go_wp2_with fail
  rw [HZI.out]
  refine (hd2.open_ (f := 0) (z := z) (by omega) (by omega) (by rw [sw0]; decide) (by omega) (by omega)).mono ?_
  rintro e w3 ⟨h, v3, rfl, hl3, -, -⟩
  have hrec := LogIs.rec (hnew 0 z (by omega))
  have hop := opD_is (s := s0) (f := 0) (z := z) (by omega)
  rw [hrec.1] at hop
  rw [hrec.2] at hl3
  have hlen1 : (opD s0 0 z).1.length = 300 := by rw [opD_len, sl0]
  have hn1 : (opD s0 0 z).2.2 = 1 := by rw [opD_n, sn0]; rfl
  have hw1 := opD_waits s0 0 z
  have HL3 := Lib.hid hl3
  have HOP := Lib.hid hop
  have HH := Lib.hid (And.intro hlen1 (And.intro hn1 hw1))
  clear hd2 hl3 hlen1 hn1 hw1 sl0 sw0 sn0 hrec hop hnew
  generalize opD s0 0 z = s3 at *
  generalize (Fp.since _ w2 w3) = F3 at *
  go_wp2
  go_loopw [9, 10] (fun wv i wr => ∃ k : Nat, i = .int .i64 k ∧ k ≤ ls.length ∧ ∃ L s F, SameSt w1 h g k z wv wr L s F) (fun _ i _ => ls.length - (intOf i).toNat)
  case atStart => exact ⟨0, rfl, Nat.zero_le _, [], s3, F3, HL3.out, HOP.out, HH.out.2.2, HH.out.1, by rw [HH.out.2.1]; decide, by rw [HH.out.2.1]; decide, WantR.nil _ _ _, Nat.zero_le _⟩
  case round =>
    obtain ⟨k, rfl, hk, L, s, F, hlg, his, hws, hsl, hn0, hn1, hwant, hLk⟩ := hrel
    have hu := his.2.2.1
    obtain ⟨Aw, cw, rfl, _, _⟩ := hwant.rdl.sliceN rfl
    by_cases hlt : k < ls.length
    · obtain ⟨b, o, rfl, hb, hcl⟩ := hr1.at (by omega)
      obtain ⟨q, eq, hq⟩ := hcl k _ (List.getElem?_eq_getElem hlt)
      generalize ls[k] = p at *
      obtain ⟨Au, cu, rfl, hcu, hcmu⟩ := hq.sliceN (List.length_map _)
      unfold maxLen at hcmu
      have cells : ∀ w', Ext w1 w' → w'.cell? ⟨b, o + k, none⟩ = some (.slice Au p.length cu) := fun w' hx => hx.cellOf eq hb
      have d0 := cells wr hlg.2.2
      have HCE := Lib.hid cells
      have HQ := Lib.hid hq
      clear hcl eq cells hq
      by_cases hp : 120 < p.length
      · have hx := hx1.trans hlg.2.2
        have hpd : decide (120 < p.length) = true := by simp; omega
        clear hlg hws hsl hn0 hn1 his hwant
        go_wp2
        go_ret
        exact ⟨rfl, hx⟩
      · have hpd : decide (120 < p.length) = false := by simp; omega
        have HS := Lib.hid (And.intro hws (And.intro hsl (And.intro hn0 hn1)))
        have HA := Lib.hid (hlg.append (p := p) HQ.out (by rw [hsl]; omega) hu (by rw [hws]; exact Nat.zero_le _) hn0 (by omega))
        have HW := Lib.hid hwant
        have HIS := Lib.hid his
        have HLOW := Lib.hid hlg.2.1
        clear hlg hws hsl hn0 hn1 his hwant
        go_wp2_with fail
        refine HA.out.mono ?_
        rintro e w6 ⟨rfl, hl6, hc6⟩
        have hW6 := HW.out.chg hc6 HLOW.out
        have d6 := HCE.out w6 hl6.2.2
        have hsl6 := appS_len s 0 z (catF L).length p
        have hn6 := appS_n s 0 z (catF L).length p
        have hw6 := appS_waits s 0 z (catF L).length p
        have H6 := Lib.hid (And.intro hsl6 (And.intro hn6 (List.eq_nil_of_length_eq_zero (show (appS s 0 z (catF L).length p).2.1.length = 0 by rw [HS.out.1] at hw6; simpa using hw6))))
        have HW6 := Lib.hid hW6
        clear hsl6 hn6 hw6 hW6 hc6 HA HW d0
        by_cases he : putE z (catF L).length p = 0
        · have hpy := putE_yes he
          have his6 : LogIs (rdD (appS s 0 z (catF L).length p)) 0 z (L ++ [p]) := by
            rw [appS, if_pos he, syD_rd]
            exact HIS.out.ptD hpy.1 hpy.2
          have hpu : putU z (catF L).length p = (catF (L ++ [p])).length := by rw [putU, if_pos he, catF_snoc_len]
          rw [hpu] at hl6
          rw [he]
          have HL6 := Lib.hid hl6
          have HI6 := Lib.hid his6
          clear he hpy his6 hpu hl6
          go_wp2_with (at_builtin; refine push_want rfl _ _ rfl _ L _ HW6.out HL6.out.1.isIn HL6.out.2.2.size Au p.length cu p (old_rd HQ.out HL6.out.2.2) rfl rfl (by omega) ?_; intro v7 w7 hW7 hc7)
          have hl7 := HL6.out.chg hc7 (fun k hk hk2 => hk2.2 hk) (fun k hk => hk.1)
          have HL7 := Lib.hid hl7
          have HW7 := Lib.hid hW7
          clear hl7 hW7 hc7
          go_roundw
          case rel => exact ⟨k + 1, by go_num, by omega, L ++ [p], _, _, HL7.out, HI6.out, H6.out.2.2, by rw [H6.out.1]; exact HS.out.2.1, by have := H6.out.2.1; have := HS.out.2.2; omega, by have := H6.out.2.1; have := HS.out.2.2; omega, HW7.out, by rw [List.length_append, List.length_singleton]; omega⟩
          case measure => simp [intOf]; omega
        · have hbe : (putE z (catF L).length p == 0) = false := by rw [beq_eq_false_iff_ne]; exact he
          have hpu : putU z (catF L).length p = (catF L).length := by rw [putU, if_neg he]
          have hss : appS s 0 z (catF L).length p = s := by rw [appS, if_neg he]
          rw [hpu, hss] at hl6
          have HL6 := Lib.hid hl6
          clear hpu hss hl6 he
          generalize putE z (catF L).length p = e6 at *
          go_wp2
          go_roundw
          case rel => exact ⟨k + 1, by go_num, by omega, L, s, _, HL6.out, HIS.out, HS.out.1, HS.out.2.1, by have := HS.out.2.2; omega, by have := HS.out.2.2; omega, HW6.out, by omega⟩
          case measure => simp [intOf]; omega
    · obtain rfl : k = ls.length := by omega
      obtain ⟨hld5, hlow5, hx5⟩ := hlg
      obtain ⟨F1, F2, hk5, hg5, ha5, hs1, hs2, hi5⟩ := hld5.parts hws
      clear hld5
      have hrec := his.rec
      have hop := opD_is (s := s) (f := 0) (z := z) (by rw [hsl]; omega)
      rw [hrec.1] at hop
      have hrec2 := hop.rec
      have HR := Lib.hid (And.intro hrec hrec2)
      have HS := Lib.hid (And.intro hws (And.intro hsl (And.intro hn0 hn1)))
      have H5 := Lib.hid (And.intro hk5 (And.intro hg5 (And.intro ha5 (And.intro hs1 (And.intro hs2 (And.intro hlow5 hx5))))))
      have HW5 := Lib.hid hwant
      have hcat : (catF L).length ≤ 256 := by omega
      clear hk5 hg5 ha5 hs1 hs2 hi5 hlow5 hx5 his hws hsl hn0 hn1 hwant hrec hop hrec2
      go_wp2_with fail
      rw [HZI.out]
      refine (LgOpen_yes F1 g s 0 z wr H5.out.1 (by rw [HS.out.2.1]; omega) hzc (by rw [HS.out.1]; exact Nat.zero_le _) HS.out.2.2.1 (by have := HS.out.2.2; omega)).mono ?_
      rintro e w6 ⟨h6, v6, G1, Y, V, rfl, hk6, hy6, hv6, hyg, hvg, hvy, hgs, hys, hvs, hc6⟩
      have hx6 : Ext w1 w6 := hc6.ext H5.out.2.2.2.2.2.2 (fun k hk => H5.out.2.2.2.2.2.1 k (H5.out.2.2.2.1 k hk))
      have hxl6 := H5.out.2.1.chg hc6 H5.out.2.2.1
      have hW6 := (HW5.out.to (G := F1) H5.out.2.2.2.1).chg hc6 (fun k hk => H5.out.2.2.2.2.2.1 k (H5.out.2.2.2.1 k hk))
      have hxg : F2.apart G1 := fun k hk hk2 => by
        rcases hgs k hk2 with hk3 | hk3
        · exact H5.out.2.2.1 k hk hk3
        · have := H5.out.2.1.isIn k hk
          omega
      have hlow6 : ∀ k, G1 k → w1.heap.size ≤ k := fun k hk => since_low (fun k hk => H5.out.2.2.2.2.2.1 k (H5.out.2.2.2.1 k hk)) H5.out.2.2.2.2.2.2.size k (hgs k hk)
      rw [HR.out.1.1] at hv6
      rw [HR.out.1.2] at hy6
      have hW6' := hW6.to (G := G1) hgs
      have hsl6 : (opD s 0 z).1.length = 300 := by rw [opD_len, HS.out.2.1]
      have hn6 : (opD s 0 z).2.2 = s.2.2 + 1 := opD_n _ _ _
      have hw6 := opD_waits s 0 z
      obtain ⟨A6, c6, rfl, _, _⟩ := hv6.rdl.sliceN rfl
      have H6 := Lib.hid (And.intro hk6 (And.intro hy6 (And.intro hv6 (And.intro hyg (And.intro hvg (And.intro hxl6 (And.intro hxg (And.intro hlow6 (And.intro hx6 hW6')))))))))
      have HS6 := Lib.hid (And.intro hsl6 (And.intro hn6 hw6))
      clear hk6 hy6 hv6 hyg hvg hvy hgs hys hvs hc6 hx6 hxl6 hW6 hxg hlow6 hW6' hsl6 hn6 hw6 HW5
      go_wp2_with fail
      rw [HZI.out]
      refine (LgOpen_yes G1 g (opD s 0 z) 0 z w6 H6.out.1 (by rw [HS6.out.1]; omega) hzc (by rw [HS6.out.2.2]; exact Nat.zero_le _) (by rw [HS6.out.2.1]; have := HS.out.2.2; omega) (by rw [HS6.out.2.1]; have := HS.out.2.2; omega)).mono ?_
      rintro e w7 ⟨h7, v7, G2, Z, V2, rfl, -, hz7, hv7, -, -, -, -, -, -, hc7⟩
      rw [HR.out.2.1] at hv7
      rw [HR.out.2.2] at hz7
      have hy7 := H6.out.2.1.chg hc7 H6.out.2.2.2.1
      have hp7 := H6.out.2.2.1.chg hc7 H6.out.2.2.2.2.1
      have hxx7 := H6.out.2.2.2.2.2.1.chg hc7 H6.out.2.2.2.2.2.2.1
      have hW7 := H6.out.2.2.2.2.2.2.2.2.2.chg hc7 H6.out.2.2.2.2.2.2.2.1
      have hx7 : Ext w1 w7 := hc7.ext H6.out.2.2.2.2.2.2.2.2.1 H6.out.2.2.2.2.2.2.2.1
      obtain ⟨A7, c7, rfl, _, _⟩ := hv7.rdl.sliceN rfl
      have H7 := Lib.hid (And.intro hy7 (And.intro hz7 (And.intro hxx7 (And.intro hp7.rdl (And.intro hv7.rdl (And.intro hW7.rdl hx7))))))
      clear hy7 hp7 hxx7 hW7 hx7 hv7 hz7 hc7 H6 HR
      go_wp2_with fail
      refine (RefSame_any L L _ _ w7 H7.out.2.2.2.1 H7.out.2.2.2.2.2.1).mono ?_
      rintro e w8 ⟨he, n8, rfl⟩
      obtain rfl := he.trans (congrArg (fun n => Ending.returned (.bool n)) (decide_eq_true rfl))
      have hxa : Ext w7 (w7.drewN n8) := Below.drewN' (Ext.refl _) n8
      clear he
      go_wp2_with fail
      refine (RefSame_any L L _ _ (w7.drewN n8) (H7.out.2.2.2.2.1.ext hxa) (H7.out.2.2.2.2.2.1.ext hxa)).mono ?_
      rintro e w9 ⟨he, n9, hw9⟩
      obtain rfl := he.trans (congrArg (fun n => Ending.returned (.bool n)) (decide_eq_true rfl))
      have hxb : Ext w7 w9 := by rw [hw9]; exact Below.drewN' hxa n9
      clear he hw9 hxa
      have lgx : ∀ {G : Fp} {a b c d e : Nat} {wa wb : World}, Lg G wa a b c d e → Ext wa wb → Lg G wb a b c d e := fun hl hx => hl.chg (F := fun _ => False) (Chg.of_ext hx) (fun _ _ h => h)
      go_wp2_with fail
      refine (LgUsed Y h6 g 0 z _ w9 (lgx H7.out.1 hxb) (by omega)).mono ?_
      rintro e w10 ⟨rfl, hx10⟩
      have hxc := hxb.trans hx10
      go_wp2_with fail
      refine (LgUsed F2 h g 0 z _ w10 (lgx H7.out.2.2.1 hxc) (by omega)).mono ?_
      rintro e w11 ⟨rfl, hx11⟩
      have hxd := hxc.trans hx11
      go_wp2_with fail
      refine (LgUsed Z h7 g 0 z _ w11 (lgx H7.out.2.1 hxd) (by omega)).mono ?_
      rintro e w12 ⟨rfl, hx12⟩
      have hxe := hxd.trans hx12
      go_wp2_with fail
      refine (LgUsed F2 h g 0 z _ w12 (lgx H7.out.2.2.1 hxe) (by omega)).mono ?_
      rintro e w13 ⟨rfl, hx13⟩
      have hx := (hx1.trans H7.out.2.2.2.2.2.2).trans (hxe.trans hx13)
      clear lgx hxb hx10 hxc hx11 hxd hx12 hxe hx13
      go_wp2
      go_ret
      exact ⟨rfl, hx⟩

theorem LogSame_calls (n : Nat) (ls : List (List UInt8)) (v : Value) (w : World) (hn : n ≤ 255) (hr : RdL w v ls) :
    Calls Try.prog 7 #[.int .u8 (n : Int), v] w fun e w' => e = .returned (.bool true) ∧ Ext w w' := by
  by_cases h : ls.length ≤ 40
  · exact LogSame_main n ls v w hn hr h
  · obtain ⟨A, c, rfl, hlc, hcm⟩ := hr.sliceN rfl
    unfold maxLen at hcm
    have hd : decide (40 < ls.length) = true := by simp; omega
    clear hr
    go_enter Try.func7, Try.ntmps7
    go_wp2_with fail
    refine (alive_any w).mono ?_
    rintro e w1 ⟨rfl, hx1⟩
    go_wp2
    go_ret
    exact ⟨rfl, hx1⟩

set_option maxRecDepth 100000 in
theorem LogSame_lifted (os : Os) (started : os.Started) (H : Type) (enc : TypeId × Value → H) :
    ReturnsInHanded {} Try.checked os 7 .any (Rows.logSameSpec.pre6 enc Try.prog Try.f7 Rows.logSameRow.domain false) (Rows.logSameSpec.post enc Try.prog Try.f7 false true false false) := by
  refine law_lift (C := Try.checked) (tb := 4) Try.ownKnob started (by kernel_rfl) Try.func7 Try.laidOut (by kernel_rfl) rfl Try.underlying4 rfl rfl ?_
    (ChangeSpec.witness6 (enc := enc) (C := Try.checked) false ⟨#[], #[.int .u8 0, .slice none 0 0], []⟩ 8 (by kernel_rfl) (by kernel_rfl) (by kernel_rfl) (by kernel_rfl)) ?_
  · intro ds hd
    rw [Try.params7] at hd
    match ds, hd with
    | [d0, d1], _ => rfl
  · intro W base args ds p hval hA hsz
    rw [Try.params7] at hA hval hsz
    obtain ⟨v0, vs0, d0, ds0, p0, q0, hargs, rfl, rfl, h0, r0_⟩ := trodAll_cons hA
    obtain ⟨v1, vs1, d1, ds1, p1, q1, rfl, rfl, rfl, h1, r1_⟩ := trodAll_cons r0_
    obtain ⟨rfl, rfl, rfl⟩ := trodAll_nil r1_
    obtain rfl : args = #[v0, v1] := by cases args; simp_all
    obtain ⟨a0, rfl⟩ := dec_u8 Try.underlying5 (hval 0 5 v0 rfl rfl) h0
    obtain ⟨a1, r1⟩ := dec_rows Try.underlying30 Try.underlying38 Try.underlying5 (by kernel_rfl) (by kernel_rfl) (hval 1 30 v1 rfl rfl) h1
    exact LogSame_calls a0.toNat a1 _ W (by have := a0.toNat_lt; omega) r1

theorem LogSame_holds : Rows.LogSameSaid :=
  OpenClaim.holds_of_wide 7 Try.f7 rfl rfl rfl rfl rfl rfl rfl ⟨rfl, rfl, rfl, rfl, rfl⟩ rfl rfl rfl rfl rfl (by kernel_rfl) Try.func7 (by kernel_rfl)
    (of_decide_eq_true (by kernel_rfl)) (by unfold Func.isWrapper; first | (rw [if_pos (by decide +kernel)]; kernel_rfl) | (rw [if_neg (by decide +kernel)]; exact ⟨rfl, rfl⟩))
    (fun os started H enc _ => LogSame_lifted os started H enc)

end Go.Proofs.Ytnihgpdkolmkgaa
