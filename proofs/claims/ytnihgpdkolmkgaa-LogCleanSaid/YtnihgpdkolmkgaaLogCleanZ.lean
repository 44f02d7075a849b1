/- For every input LogClean returns true: behind Clear there are no records, and what was torn or lost ahead never comes back. No condition. -/
import Derived.Test.YtnihgpdkolmkgaaLogCleanQ7
namespace Go.Proofs.Ytnihgpdkolmkgaa
open Go.ChangeShapes Go.WideShapes Go.ChangeAt Go.RowKit

/-- How far it has come. -/
def CleanSt (w1 : World) (g : Nat) (k : Nat) (lv ev : Value) (wr : World) (h : Nat) (s : DkS) (u : Nat) (F : Fp) : Prop :=
  lv = .pointer (some ⟨h, 0, none⟩) ∧ ev = .int .i64 0 ∧ LgW w1 wr h g s 8 3900 u F ∧ u ≤ 3900 ∧ s.2.1 = [] ∧ s.1.length = 4000 ∧ 0 ≤ s.2.2 ∧ s.2.2 ≤ 3 * k + 1

/-- Nothing waits: a crash loses nothing. -/
theorem crD_none {s : DkS} (h : s.2.1 = []) (k : Int) : rdD (crD s k) = rdD s := by
  unfold crD rdD
  simp only
  rw [h, List.take_nil]
  rfl

set_option maxRecDepth 100000 in
set_option maxHeartbeats 2000000 in
theorem LogClean_main (l : List (Int × Int × List UInt8)) (v : Value) (w : World) (hr : RdActs w v l) (hf : fewL l = true) :
    Calls Try.prog 6 #[v] w fun e w' => e = .returned (.bool true) ∧ Ext w w' := by
  obtain ⟨A, c, rfl, hlc, hcm⟩ := hr.slice_
  obtain ⟨hl40, hl200⟩ := fewL_yes hf
  go_enter Try.func6, Try.ntmps6
  go_wp2_with fail
  refine (alive_any w).mono ?_
  rintro e w1 ⟨rfl, hx1⟩
  have hr1 := hr.ext hx1
  go_wp2_with fail
  refine (fewL_any l _ _ hr1).mono ?_
  rintro e w1' ⟨rfl, rfl⟩
  rw [hf]
  go_wp2_with fail
  refine (DkW.new (Ext.refl w1) 4000 (by decide) (by decide)).mono ?_
  rintro e w2 ⟨g, rfl, hd2, -⟩
  obtain ⟨s0, hs0, sl0, sw0, sn0, hnew⟩ := newD 4000
  rw [← hs0] at hd2
  clear hs0 hnew
  go_wp2_with fail
  refine (hd2.open_ (f := 8) (z := 3900) (by omega) (by decide) (by rw [sw0]; decide) (by omega) (by omega)).mono ?_
  rintro e w3 ⟨h, v3, rfl, hl3, -, -⟩
  have hle := endD_le (s := s0) (f := 8) (z := 3900) (by omega)
  have hlen1 : (opD s0 8 3900).1.length = 4000 := by rw [opD_len, sl0]
  have hn1 : (opD s0 8 3900).2.2 = 1 := by rw [opD_n, sn0]; rfl
  have hw1 := opD_waits s0 8 3900
  have HL3 := Lib.hid hl3
  have HH := Lib.hid (And.intro hlen1 (And.intro hn1 (And.intro hw1 hle)))
  clear hd2 hl3 hlen1 hn1 hw1 sl0 sw0 sn0 hle
  generalize opD s0 8 3900 = s3 at *
  generalize endD s0 8 3900 = u3 at *
  generalize (Fp.since _ w2 w3) = F3 at *
  go_wp2
  go_loopw [4, 6, 7] (fun lv ev i wr => ∃ k : Nat, i = .int .i64 k ∧ k ≤ l.length ∧ ∃ h s u F, CleanSt w1 g k lv ev wr h s u F) (fun _ _ i _ => l.length - (intOf i).toNat)
  case atStart => exact ⟨0, rfl, Nat.zero_le _, h, s3, u3, F3, rfl, rfl, HL3.out, HH.out.2.2.2, HH.out.2.2.1, HH.out.1, by rw [HH.out.2.1]; decide, by rw [HH.out.2.1]; decide⟩
  case round =>
    obtain ⟨k, rfl, hk, h, s, u, F, rfl, rfl, hlg, hu, hws, hsl, hn0, hn1⟩ := hrel
    by_cases hlt : k < l.length
    · obtain ⟨b, o, rfl, hb, hcl⟩ := hr1.get (by omega)
      obtain ⟨e0, e1, b0, b1, q, e2, hq⟩ := hcl k _ (List.getElem?_eq_getElem hlt)
      generalize l[k] = x at *
      obtain ⟨kind, keep, p⟩ := x
      dsimp only at hq e0 e1 e2 b0 b1
      have cells : ∀ w', Ext w1 w' → w'.cell? ⟨b, o + k * 3, none⟩ = some (.int .i64 kind) ∧ w'.cell? ⟨b, o + k * 3 + 1, none⟩ = some (.int .i64 keep) ∧ w'.cell? ⟨b, o + k * 3 + 2, none⟩ = some q := fun w' hx => by
        rw [Nat.add_assoc, Nat.add_assoc]
        exact ⟨hx.cellOf e0 hb, hx.cellOf e1 hb, hx.cellOf e2 hb⟩
      obtain ⟨Au, cu, rfl, hcu, hcmu⟩ := hq.sliceN (List.length_map _)
      unfold maxLen at hcmu
      have HCE := Lib.hid cells
      have HB1 := Lib.hid b1
      have HQ := Lib.hid hq
      have d2 := (cells wr hlg.2.2).2.2
      clear hcl e0 e1 e2 b0 b1 cells hq
      by_cases hp : 80 < p.length
      · have hx := hx1.trans hlg.2.2
        have hpd : decide (80 < p.length) = true := by simp; omega
        clear hlg hws hsl hn0 hn1
        go_wp2
        go_ret
        exact ⟨rfl, hx⟩
      · have hpd : decide (80 < p.length) = false := by simp; omega
        have hwt := putS_waits s 8 3900 u p
        rw [hws] at hwt
        have hwt2 : (putS s 8 3900 u p).2.1.length ≤ 1000 := by simp only [List.length_nil] at hwt; omega
        have hsp := putS_len s 8 3900 u p
        have hnp := putS_n s 8 3900 u p
        have HP := Lib.hid (hlg.put (p := p) HQ.out (by omega) hu (by rw [hws]; exact Nat.zero_le _))
        have HS := Lib.hid (And.intro (hsp.trans hsl) (And.intro hwt2 (And.intro hnp (And.intro hn0 hn1))))
        clear hlg hws hsl hn0 hn1 hwt hwt2 hsp hnp
        generalize putS s 8 3900 u p = s4 at *
        generalize putU 3900 u p = u4 at *
        go_wp2_with fail
        refine HP.out.mono ?_
        rintro e w4 ⟨rfl, hl4, -⟩
        have hd4 := hl4.dkW
        generalize putE 3900 u p = e4 at *
        generalize (Fp.since F wr w4) = F4 at *
        have d0 := (HCE.out w4 hd4.2.2).1
        clear hl4 HP d2
        by_cases hk0 : kind = 0
        · subst hk0
          have HD4 := Lib.hid hd4
          clear hd4
          go_wp2_with fail
          refine (HD4.out.sync (by have := HS.out.2.1; omega) (by have := HS.out.2.2; omega) (by have := HS.out.2.2; omega)).mono ?_
          rintro e w5 ⟨rfl, hd5, -⟩
          have d1 := (HCE.out w5 hd5.2.2).2.1
          have HD5 := Lib.hid hd5
          clear hd5 HD4 d0
          generalize (Fp.since F4 w4 w5) = F5 at *
          go_wp2_with fail
          refine (HD5.out.crash keep HB1.out.1 HB1.out.2 (by simp [syD])).mono ?_
          rintro e w6 ⟨rfl, hd6, -⟩
          have HD6 := Lib.hid hd6
          clear hd6 HD5 d1
          generalize (Fp.since F5 w5 w6) = F6 at *
          have z1 : (crD (syD s4) keep).1.length = 4000 := by rw [crD_len, syD_len]; exact HS.out.1
          have z2 : (crD (syD s4) keep).2.1 = [] := rfl
          have z3 : (crD (syD s4) keep).2.2 = s4.2.2 + 1 := rfl
          have HZ := Lib.hid (And.intro z1 (And.intro z2 z3))
          clear z1 z2 z3
          generalize crD (syD s4) keep = s6 at *
          go_wp2_with fail
          refine (HD6.out.open_ (f := 8) (z := 3900) (by rw [HZ.out.1]; decide) (by decide) (by rw [HZ.out.2.1]; exact Nat.zero_le _) (by rw [HZ.out.2.2]; have := HS.out.2.2; omega) (by rw [HZ.out.2.2]; have := HS.out.2.2; omega)).mono ?_
          rintro e w7 ⟨h7, v7, rfl, hl7, -, -⟩
          have HL7 := Lib.hid hl7
          clear hl7 HD6
          go_wp2
          go_roundw
          case rel =>
            exact ⟨k + 1, by go_num, by omega, h7, _, _, _, rfl, rfl, HL7.out, endD_le (by rw [HZ.out.1]; decide), rfl, by rw [opD_len]; exact HZ.out.1, by rw [opD_n, HZ.out.2.2]; have := HS.out.2.2; omega, by rw [opD_n, HZ.out.2.2]; have := HS.out.2.2; omega⟩
          case measure => simp [intOf]; omega
        · have hkb : (kind == 0) = false := by rw [beq_eq_false_iff_ne]; exact hk0
          have HD5 := Lib.hid hd4
          have d1 := (HCE.out w4 hd4.2.2).2.1
          clear hd4
          go_wp2_with fail
          refine (HD5.out.crash keep HB1.out.1 HB1.out.2 (by have := HS.out.2.1; omega)).mono ?_
          rintro e w6 ⟨rfl, hd6, -⟩
          have HD6 := Lib.hid hd6
          clear hd6 HD5 d1 d0
          generalize (Fp.since F4 w4 w6) = F6 at *
          have z1 : (crD s4 keep).1.length = 4000 := by rw [crD_len]; exact HS.out.1
          have z2 : (crD s4 keep).2.1 = [] := rfl
          have z3 : (crD s4 keep).2.2 = s4.2.2 := rfl
          have HZ := Lib.hid (And.intro z1 (And.intro z2 z3))
          clear z1 z2 z3
          generalize crD s4 keep = s6 at *
          go_wp2_with fail
          refine (HD6.out.open_ (f := 8) (z := 3900) (by rw [HZ.out.1]; decide) (by decide) (by rw [HZ.out.2.1]; exact Nat.zero_le _) (by rw [HZ.out.2.2]; have := HS.out.2.2; omega) (by rw [HZ.out.2.2]; have := HS.out.2.2; omega)).mono ?_
          rintro e w7 ⟨h7, v7, rfl, hl7, -, -⟩
          have HL7 := Lib.hid hl7
          clear hl7 HD6
          go_wp2
          go_roundw
          case rel =>
            exact ⟨k + 1, by go_num, by omega, h7, _, _, _, rfl, rfl, HL7.out, endD_le (by rw [HZ.out.1]; decide), rfl, by rw [opD_len]; exact HZ.out.1, by rw [opD_n, HZ.out.2.2]; have := HS.out.2.2; omega, by rw [opD_n, HZ.out.2.2]; have := HS.out.2.2; omega⟩
          case measure => simp [intOf]; omega
    · obtain rfl : k = l.length := by omega
      have HC := Lib.hid (hlg.clear (by omega) (by rw [hws]; exact Nat.zero_le _) hn0 (by omega))
      have hzl := zrD_len s 8 3900 0
      have hzn := zrD_n s 8 3900 0
      have hzw := zrD_waits s 8 3900 0
      have hzi := clD_is (s := s) (f := 8) (z := 3900) (by omega)
      have HZ := Lib.hid (And.intro (hzl.trans hsl) (And.intro hzw (And.intro hzi (And.intro hzn (And.intro hn0 hn1)))))
      clear hlg hws hsl hn0 hn1 hzl hzn hzw hzi
      generalize zrD s 8 3900 0 = s5 at *
      go_wp2_with fail
      refine HC.out.mono ?_
      rintro e w5 ⟨rfl, ⟨hld5, hlow5, hx5⟩, -⟩
      obtain ⟨F1, F2, hk5, hg5, ha5, hs1, hs2, hi5⟩ := hld5.parts HZ.out.2.1
      clear hld5
      have hcn := crD_none HZ.out.2.1 0
      have hrec := LogIs.rec (s := crD s5 0) (f := 8) (z := 3900) (l := []) (by rw [hcn]; exact HZ.out.2.2.1)
      have HREC := Lib.hid hrec
      have H5 := Lib.hid (And.intro hk5 (And.intro hg5 (And.intro ha5 (And.intro hs1 (And.intro hlow5 hx5)))))
      clear hk5 hg5 ha5 hs1 hs2 hi5 hlow5 hx5 hcn hrec HC
      go_wp2_with fail
      refine (DkCrash F1 g _ 0 w5 H5.out.1 (by decide) (by decide) (by rw [HZ.out.2.1]; exact Nat.zero_le _)).mono ?_
      rintro e w6 ⟨rfl, hk6, hc6⟩
      have hg6 := H5.out.2.1.chg hc6 H5.out.2.2.1
      have hx6 : Ext w1 w6 := hc6.ext H5.out.2.2.2.2.2 (fun k hk => H5.out.2.2.2.2.1 k (H5.out.2.2.2.1 k hk))
      have ha6 : Fp.apart (F1.since w5 w6) F2 := Fp.apart.since H5.out.2.2.1.symm H5.out.2.1.isIn
      have hlow6 : ∀ k, F1.since w5 w6 k → w1.heap.size ≤ k := since_low (fun k hk => H5.out.2.2.2.2.1 k (H5.out.2.2.2.1 k hk)) H5.out.2.2.2.2.2.size
      have H6 := Lib.hid (And.intro hk6 (And.intro hg6 (And.intro ha6 (And.intro hlow6 hx6))))
      clear hk6 hg6 ha6 hlow6 hx6 hc6 H5
      generalize (Fp.since F1 w5 w6) = G6 at *
      go_wp2_with fail
      refine (LgOpen_yes G6 g _ 8 3900 w6 H6.out.1 (by rw [crD_len, HZ.out.1]; decide) (by decide) (by simp [crD]) (by show 0 ≤ s5.2.2; have := HZ.out.2.2.2; omega) (by show s5.2.2 ≤ _; have := HZ.out.2.2.2; omega)).mono ?_
      rintro e w7 ⟨h7, v7, G1, G2, V, rfl, -, hg7', hv7, -, -, -, -, -, -, hc7⟩
      rw [HREC.out.2] at hg7'
      have hv : RdL w7 v7 [] := by rw [← HREC.out.1]; exact hv7.rdl
      obtain ⟨A7, c7, rfl, _, _⟩ := hv.sliceN (n := 0) rfl
      have hg7 := H6.out.2.1.chg hc7 H6.out.2.2.1.symm
      have hx7 : Ext w1 w7 := hc7.ext H6.out.2.2.2.2 H6.out.2.2.2.1
      have hcat : (catF ([] : List (List UInt8))).length = 0 := rfl
      rw [hcat] at hg7'
      have H7 := Lib.hid (And.intro hg7' (And.intro hg7 (hx1.trans hx7)))
      clear hg7' hv7 hv hg7 hx7 hc7 H6 HREC hcat
      go_wp2_with fail
      refine (LgUsed G2 h7 g 8 3900 0 w7 H7.out.1 (by decide)).mono ?_
      rintro e w8 ⟨rfl, hx8⟩
      go_wp2_with fail
      refine (LgUsed F2 h g 8 3900 0 w8 (H7.out.2.1.chg (F := fun _ => False) (Chg.of_ext hx8) (fun _ _ h => h)) (by decide)).mono ?_
      rintro e w9 ⟨rfl, hx9⟩
      have hx := (H7.out.2.2.trans hx8).trans hx9
      clear hx8 hx9
      go_wp2
      go_ret
      exact ⟨rfl, hx⟩

theorem LogClean_calls (l : List (Int × Int × List UInt8)) (v : Value) (w : World) (hr : RdActs w v l) :
    Calls Try.prog 6 #[v] w fun e w' => e = .returned (.bool true) ∧ Ext w w' := by
  cases hf : fewL l with
  | true => exact LogClean_main l v w hr hf
  | false =>
    have HF := Lib.hid hf
    clear hf
    go_enter Try.func6, Try.ntmps6
    go_wp2_with fail
    refine (alive_any w).mono ?_
    rintro e w1 ⟨rfl, hx1⟩
    go_wp2_with fail
    refine (fewL_any l _ _ (hr.ext hx1)).mono ?_
    rintro e w1' ⟨rfl, rfl⟩
    rw [HF.out]
    go_wp2
    go_ret
    exact ⟨rfl, hx1⟩

set_option maxRecDepth 100000 in
theorem LogClean_lifted (os : Os) (started : os.Started) (H : Type) (enc : TypeId × Value → H) :
    ReturnsInHanded {} Try.checked os 6 .any (Rows.logCleanSpec.pre6 enc Try.prog Try.f6 Rows.logCleanRow.domain false) (Rows.logCleanSpec.post enc Try.prog Try.f6 false true false false) := by
  refine law_lift (C := Try.checked) (tb := 4) Try.ownKnob started (by kernel_rfl) Try.func6 Try.laidOut (by kernel_rfl) rfl Try.underlying4 rfl rfl ?_
    (ChangeSpec.witness6 (enc := enc) (C := Try.checked) false ⟨#[], #[.slice none 0 0], []⟩ 8 (by kernel_rfl) (by kernel_rfl) (by kernel_rfl) (by kernel_rfl)) ?_
  · intro ds hd
    rw [Try.params6] at hd
    match ds, hd with
    | [d0], _ => rfl
  · intro W base args ds p hval hA hsz
    rw [Try.params6] at hA hval hsz
    obtain ⟨v0, vs0, d0, ds0, p0, q0, hargs, rfl, rfl, h0, r0_⟩ := trodAll_cons hA
    obtain ⟨rfl, rfl, rfl⟩ := trodAll_nil r0_
    obtain rfl : args = #[v0] := by cases args; simp_all
    obtain ⟨a0, r0⟩ := dec_acts Try.underlying22 Try.underlying42 (by kernel_rfl) (by kernel_rfl) rfl rfl rfl rfl Try.underlying3 Try.underlying3 Try.underlying38 Try.underlying5 (by kernel_rfl) (hval 0 22 v0 rfl rfl) h0
    exact LogClean_calls a0 _ W r0

theorem LogClean_holds : Rows.LogCleanSaid :=
  OpenClaim.holds_of_wide 6 Try.f6 rfl rfl rfl rfl rfl rfl rfl ⟨rfl, rfl, rfl, rfl, rfl⟩ rfl rfl rfl rfl rfl (by kernel_rfl) Try.func6 (by kernel_rfl)
    (of_decide_eq_true (by kernel_rfl)) (by unfold Func.isWrapper; first | (rw [if_pos (by decide +kernel)]; kernel_rfl) | (rw [if_neg (by decide +kernel)]; exact ⟨rfl, rfl⟩))
    (fun os started H enc _ => LogClean_lifted os started H enc)

end Go.Proofs.Ytnihgpdkolmkgaa
