/- For every input JournalPast returns true: what was torn ahead of a picture never comes back behind it. No condition. -/
import Derived.Test.YtdcmjmanalijfaaJournalPastQ10
import Derived.Deep.LoopGhost
namespace Go.Proofs.Ytdcmjmanalijfaa
open Go.ChangeShapes Go.WideShapes Go.ChangeAt Go.RowKit

theorem geo2000 : Geo 2000 500 1000 1000 := ⟨by decide, by decide, by decide, by decide, by decide⟩
theorem jE_small7 {z u c : Nat} {p : List UInt8} (hp : 1 ≤ p.length ∧ p.length ≤ 3900) : jE z u c p = if z - u < (frameB (payB c p)).length then 3 else 0 := by
  rw [jE, if_neg (fun h => h hp)]
theorem jframe_short {c : Nat} {p : List UInt8} (hc : c < 128) (hp : 1 ≤ p.length ∧ p.length ≤ 100) : (frameB (payB c p)).length = p.length + 7 := by
  have h := jframe_len (c := c) (p := p) (by omega) (by omega)
  have h1 : (numB c).length = 1 := by rw [numB_lo hc]; rfl
  have h2 : (numB ((numB c).length + p.length)).length = 1 := by rw [numB_lo (by omega)]; rfl
  omega

/-- The picture has room. -/
theorem past_cp {k n : Nat} {t : DkS} {L W : List (List UInt8)} {pic : List UInt8} (h : JS 2000 500 1000 1000 k t L W n (-1) pic) : cpE t 500 [112] n (-1) = 0 := by
  have hc := h.clt
  have h1 := numB_len8 hc
  have h2 := numB_pos n
  have hl : (payB n [112]).length = (numB n).length + 1 := by rw [payB_len]; rfl
  have hok : okP (payB n [112]) := by rw [okP]; omega
  have hfl := frameB_len hok
  have h3 := numB_len8 (n := (payB n [112]).length) (by omega)
  rw [cpE_of h.ji hc hok (by omega), if_neg (by omega)]

/-- Behind k ops. -/
def PastSt (w1 : World) (j g k : Nat) (w : World) : Prop := ∃ t L W F, JW w1 w j g 2000 500 1000 1000 (2 + k) t L W k (-1) [] F ∧ (catF L).length ≤ 47 * k

set_option maxRecDepth 100000 in
set_option maxHeartbeats 2000000 in
theorem JournalPast_main (ls : List (List UInt8)) (tn : List UInt8) (keep : Int) (v v2 : Value) (w : World) (hr : RdL w v ls) (hr2 : Rd w v2 (tn.map B)) (lo : -9223372036854775808 ≤ keep) (hi : keep ≤ 9223372036854775807)
    (h : ls.length ≤ 20) (h2 : 1 ≤ tn.length ∧ tn.length ≤ 60) :
    Calls Try.prog 6 #[v, v2, .int .i64 keep] w fun e w' => e = .returned (.bool true) ∧ Ext w w' := by
  obtain ⟨A, c, rfl, hlc, hcm⟩ := hr.sliceN rfl
  obtain ⟨A2, c2, rfl, hlc2, hcm2⟩ := hr2.sliceN (List.length_map _)
  unfold maxLen at hcm hcm2
  have hd : decide (20 < (ls.length : Int)) = false := decide_eq_false (by omega)
  have hd1 : decide ((tn.length : Int) < 1) = false := decide_eq_false (by omega)
  have hd2 : decide (60 < (tn.length : Int)) = false := decide_eq_false (by omega)
  have HR2 := Lib.hid hr2
  have HT := Lib.hid h2
  have HKP := Lib.hid (And.intro lo hi)
  clear hr2 h2 lo hi
  go_enter Try.func6, Try.ntmps6
  go_wp2_with fail
  refine (alive7_any w).mono ?_
  rintro e w1 ⟨rfl, hx1⟩
  have hr1 := hr.ext hx1
  go_wp2_with fail
  refine (DsW.new (Ext.refl w1) 2000 (by decide) (by decide)).mono ?_
  rintro e w2 ⟨g, rfl, hd2', -⟩
  go_wp2_with fail
  refine (hd2'.jopen (JOpens.new geo2000 (by decide)) (Nat.zero_le _) (by decide)).mono ?_
  rintro e w3 ⟨j, pv, ov, rfl, hj3, -, hov, -⟩
  obtain ⟨Ao, co, rfl, _, _⟩ := hov.sliceN rfl
  have HJ3 : PastSt w1 j g 0 w3 := ⟨_, _, _, _, hj3, Nat.le_refl _⟩
  clear hd2' hj3 hov
  go_wp2
  go_loopg [12] ls.length (fun gg i wr => ∃ k : Nat, i = .int .i64 k ∧ k ≤ ls.length ∧ gg = ls.length - k ∧ PastSt w1 j g k wr)
  case atStart => exact ⟨0, rfl, Nat.zero_le _, rfl, HJ3⟩
  case round =>
    obtain ⟨k, rfl, hk, rfl, t, L, W, F, hj, hu⟩ := hrel
    by_cases hlt : k < ls.length
    · obtain ⟨b, o, rfl, hb, hcl⟩ := hr1.at (by omega)
      obtain ⟨q, eq, hq⟩ := hcl k _ (List.getElem?_eq_getElem hlt)
      generalize ls[k] = p at *
      obtain ⟨m, hm⟩ : ∃ m, p.length = m := ⟨_, rfl⟩
      obtain ⟨Au, cu, rfl, hcu, hcmu⟩ := hq.sliceN (n := m) (by rw [List.length_map, hm])
      unfold maxLen at hcmu
      have cells : ∀ w', Ext w1 w' → w'.cell? ⟨b, o + k, none⟩ = some (.slice Au m cu) := fun w' hx => hx.cellOf eq hb
      have d0 := cells wr hj.2.2.2
      have HCE := Lib.hid cells
      have HQ := Lib.hid hq
      have HJ := Lib.hid hj
      have HM := Lib.hid hm
      have HU := Lib.hid hu
      by_cases hp1 : m < 1
      · have hx := hx1.trans HJ.out.2.2.2
        have hpd : decide ((m : Int) < 1) = true := decide_eq_true (by omega)
        clear hcl eq cells hq hj HJ3 hm hp1 hu
        go_wp2
        go_ret
        exact ⟨rfl, hx⟩
      · have hpd : decide ((m : Int) < 1) = false := decide_eq_false (by omega)
        by_cases hp2 : 40 < m
        · have hx := hx1.trans HJ.out.2.2.2
          have hpe : decide (40 < (m : Int)) = true := decide_eq_true (by omega)
          clear hcl eq cells hq hj HJ3 hm hp1 hu
          go_wp2
          go_ret
          exact ⟨rfl, hx⟩
        · have hpe : decide (40 < (m : Int)) = false := decide_eq_false (by omega)
          have hfl := jframe_short (c := k) (p := p) (by omega) (by omega)
          have he : jE 1000 (catF L).length k p = 0 := by rw [jE_small7 (by omega), if_neg (by omega)]
          have KA := HJ.out.append_yes (HQ.out.ext HJ.out.2.2.2) (by omega) (by omega) he
          have hu2 : (catF (L ++ [payB k p])).length ≤ 47 * (k + 1) := by rw [catF_snoc_len]; omega
          have HA := Lib.hid KA
          have HU2 := Lib.hid hu2
          clear hcl eq cells hq hj HJ3 hm hp1 hp2 hu hfl he KA hu2
          go_wp2_with fail
          refine HA.out.mono ?_
          rintro e w4 ⟨rfl, hj4, -⟩
          have HJ4 := Lib.hid hj4
          clear hj4 d0
          go_wp2
          go_roundg (ls.length - (k + 1))
          case measure => omega
          case rel => exact ⟨k + 1, by go_num, by omega, rfl, _, _, _, _, HJ4.out, HU2.out⟩
    · obtain rfl : k = ls.length := by omega
      have HJ := Lib.hid hj
      have HU := Lib.hid hu
      clear hj hu HJ3 hr hr1
      go_wp2_with fail
      refine (HJ.out.start_any (HR2.out.ext (hx1.trans HJ.out.2.2.2)) (by have := HT.out; omega) (by omega)).mono ?_
      rintro e w4 ⟨rfl, s, F4, hd4, hw4, -, ho4, -, -⟩
      have hop : ∃ L' W' c', JOpens 2000 500 1000 1000 (2 + ls.length + 1) (crD s keep) L' W' c' (-1) [] ∧ (c' = ls.length ∨ c' = ls.length + 1) := by
        by_cases hh : jE 1000 (catF L).length ls.length tn = 0 ∧ ((frameB (payB ls.length tn)).length : Int) ≤ keep
        · exact ⟨_, _, _, (ho4 keep).1 hh, .inr rfl⟩
        · exact ⟨_, _, _, (ho4 keep).2 hh, .inl rfl⟩
      obtain ⟨L', W', n, hop, hn⟩ := hop
      generalize jE 1000 (catF L).length ls.length tn = E at *
      have HOP := Lib.hid hop
      have HN := Lib.hid hn
      have HD4 := Lib.hid hd4
      have HW4 := Lib.hid hw4
      clear hop hn hd4 hw4 ho4 HJ HU
      go_wp2_with fail
      refine (HD4.out.crash keep HKP.out.1 HKP.out.2 (Nat.le_trans HW4.out (by decide))).mono ?_
      rintro e w5 ⟨rfl, hd5, -⟩
      have HD5 := Lib.hid hd5
      clear hd5 HD4
      generalize hcr : crD s keep = s5 at *
      have hw5 : s5.2.1.length ≤ 10000000 := by rw [← hcr]; exact Nat.zero_le _
      have HW5 := Lib.hid hw5
      clear hcr hw5
      go_wp2_with fail
      refine (HD5.out.jopen HOP.out HW5.out (by omega)).mono ?_
      rintro e w6 ⟨j6, pv6, ov6, rfl, hj6, -, -, -⟩
      have HJ6 := Lib.hid hj6
      clear hj6 HD5 HOP HW5
      go_wp2_with fail
      refine HJ6.out.count.mono ?_
      rintro e w7 ⟨rfl, hj7, -⟩
      have HJ7 := Lib.hid hj7
      clear hj7 HJ6
      have kc := fun (w : World) (C : Array Value) (n c : Nat) => Lib.run_convert_bytes_const (P := Try.prog) w 30 5 C n c Try.underlying30 Try.underlying5
      go_wp2_with fail
      have xl := RdF.litJ w7 [112] #[.int .u8 112] 5 1 w7.heap.size (1, 2) (by decide) (lit1 112) rfl rfl
      have hE : Ext w7 (w7.alloc (.cells #[.int .u8 112] 5 (1, 2))) := (Below.refl _ _).alloc (Nat.le_refl _) _
      have hcp := past_cp HJ7.out.1
      have KC := ((HJ7.out.ext hE).compact_yes (p := [112]) xl (fun b hb hF => by have := HJ7.out.isIn b hF; omega) (fun b hb => hb.2) (by decide) (by omega) hcp)
      have HKC := Lib.hid KC
      clear xl hE hcp KC
      refine HKC.out.mono ?_
      rintro e w8 ⟨rfl, hj8, -⟩
      have HJ8 := Lib.hid hj8
      clear hj8 HKC HJ7 kc
      generalize (Fp.since _ _ w8) = F8 at *
      generalize cpD _ _ _ _ _ _ = t8 at *
      go_wp2_with fail
      refine (HJ8.out.dsW.jopen HJ8.out.js.opens (by rw [HJ8.out.js.ji.still]; exact Nat.zero_le _) (by omega)).mono ?_
      rintro e w9 ⟨j9, pv9, ov9, rfl, hj9, hp9, ho9, -⟩
      obtain ⟨A9, c9, rfl, _, _⟩ := hp9.sliceN (n := 1) rfl
      obtain ⟨B9, k9, rfl, _, _⟩ := ho9.sliceN (n := 0) rfl
      have kc9 := run_conv_rd (P := Try.prog) w9 30 9 5 Try.underlying30 Try.underlying5 Try.underlying9 _ [112] hp9
      have HJ9 := Lib.hid hj9
      clear hp9 ho9 hj9 HJ8
      go_wp2_with fail
      refine HJ9.out.count.mono ?_
      rintro e w10 ⟨rfl, hj10, -⟩
      have hx10 := hx1.trans hj10.2.2.2
      have hbn : ((n : Int) == (n : Int)) = true := by simp
      have hn1 : decide (ls.length ≤ n) = true := decide_eq_true (by have := HN.out; omega)
      have hn2 : decide ((n : Int) ≤ (ls.length : Int) + 1) = true := decide_eq_true (by have := HN.out; omega)
      clear hj10 HJ9 kc9
      go_wp2
      go_ret
      exact ⟨rfl, hx10⟩

set_option maxRecDepth 100000 in
theorem JournalPast_calls (ls : List (List UInt8)) (tn : List UInt8) (keep : Int) (v v2 : Value) (w : World) (hr : RdL w v ls) (hr2 : Rd w v2 (tn.map B)) (lo : -9223372036854775808 ≤ keep) (hi : keep ≤ 9223372036854775807) :
    Calls Try.prog 6 #[v, v2, .int .i64 keep] w fun e w' => e = .returned (.bool true) ∧ Ext w w' := by
  by_cases h : ls.length ≤ 20 ∧ 1 ≤ tn.length ∧ tn.length ≤ 60
  · exact JournalPast_main ls tn keep v v2 w hr hr2 lo hi h.1 h.2
  · obtain ⟨A, c, rfl, hlc, hcm⟩ := hr.sliceN rfl
    obtain ⟨m, hm⟩ : ∃ m, tn.length = m := ⟨_, rfl⟩
    obtain ⟨A2, c2, rfl, hlc2, hcm2⟩ := hr2.sliceN (n := m) (by rw [List.length_map, hm])
    unfold maxLen at hcm hcm2
    rw [hm] at h
    clear hr hr2 lo hi hm
    by_cases h1 : 20 < ls.length
    · have hd : decide (20 < (ls.length : Int)) = true := decide_eq_true (by omega)
      clear h h1
      go_enter Try.func6, Try.ntmps6
      go_wp2_with fail
      refine (alive7_any w).mono ?_
      rintro e w1 ⟨rfl, hx1⟩
      go_wp2
      go_ret
      exact ⟨rfl, hx1⟩
    · have hd : decide (20 < (ls.length : Int)) = false := decide_eq_false (by omega)
      by_cases h2 : m < 1
      · have hd1 : decide ((m : Int) < 1) = true := decide_eq_true (by omega)
        clear h h1 h2
        go_enter Try.func6, Try.ntmps6
        go_wp2_with fail
        refine (alive7_any w).mono ?_
        rintro e w1 ⟨rfl, hx1⟩
        go_wp2
        go_ret
        exact ⟨rfl, hx1⟩
      · have hd1 : decide ((m : Int) < 1) = false := decide_eq_false (by omega)
        have hd2 : decide (60 < (m : Int)) = true := decide_eq_true (by omega)
        clear h h1 h2
        go_enter Try.func6, Try.ntmps6
        go_wp2_with fail
        refine (alive7_any w).mono ?_
        rintro e w1 ⟨rfl, hx1⟩
        go_wp2
        go_ret
        exact ⟨rfl, hx1⟩

set_option maxRecDepth 100000 in
theorem JournalPast_lifted (os : Os) (started : os.Started) (H : Type) (enc : TypeId × Value → H) :
    ReturnsInHanded {} Try.checked os 6 .any (Rows.journalPastSpec.pre6 enc Try.prog Try.f6 Rows.journalPastRow.domain false) (Rows.journalPastSpec.post enc Try.prog Try.f6 false true false false) := by
  refine law_lift (C := Try.checked) (tb := 4) Try.ownKnob started (by kernel_rfl) Try.func6 Try.laidOut (by kernel_rfl) rfl Try.underlying4 rfl rfl ?_
    (ChangeSpec.witness6 (enc := enc) (C := Try.checked) false ⟨#[], #[.slice none 0 0, .slice none 0 0, .int .i64 0], []⟩ 8 (by kernel_rfl) (by kernel_rfl) (by kernel_rfl) (by kernel_rfl)) ?_
  · intro ds hd
    rw [Try.params6] at hd
    match ds, hd with
    | [d0, d1, d2], _ => rfl
  · intro W base args ds p hval hA hsz
    rw [Try.params6] at hA hval hsz
    obtain ⟨v0, vs0, d0, ds0, p0, q0, hargs, rfl, rfl, h0, r0_⟩ := trodAll_cons hA
    obtain ⟨v1, vs1, d1, ds1, p1, q1, rfl, rfl, rfl, h1, r1_⟩ := trodAll_cons r0_
    obtain ⟨v2, vs2, d2, ds2, p2, q2, rfl, rfl, rfl, h2, r2_⟩ := trodAll_cons r1_
    obtain ⟨rfl, rfl, rfl⟩ := trodAll_nil r2_
    obtain rfl : args = #[v0, v1, v2] := by cases args; simp_all
    obtain ⟨a0, r0⟩ := dec_rows Try.underlying31 Try.underlying30 Try.underlying5 (by kernel_rfl) (by kernel_rfl) (hval 0 31 v0 rfl rfl) h0
    obtain ⟨a1, r1, s1⟩ := dec_bytes Try.underlying30 Try.underlying5 (by kernel_rfl) (by kernel_rfl) (hval 1 30 v1 rfl rfl) h1 hsz (j := 1) rfl rfl
    obtain ⟨a2, rfl, lo2, hi2⟩ := dec_int Try.underlying3 (hval 2 3 v2 rfl rfl) h2
    exact JournalPast_calls a0 a1 a2 _ _ W r0 r1 lo2 hi2

theorem JournalPast_holds : Rows.JournalPastSaid :=
  OpenClaim.holds_of_wide 6 Try.f6 rfl rfl rfl rfl rfl rfl rfl ⟨rfl, rfl, rfl, rfl, rfl⟩ rfl rfl rfl rfl rfl (by kernel_rfl) Try.func6 (by kernel_rfl)
    (of_decide_eq_true (by kernel_rfl)) (by unfold Func.isWrapper; first | (rw [if_pos (by decide +kernel)]; kernel_rfl) | (rw [if_neg (by decide +kernel)]; exact ⟨rfl, rfl⟩))
    (fun os started H enc _ => JournalPast_lifted os started H enc)


end Go.Proofs.Ytdcmjmanalijfaa
