/- For every input SlotsLast returns true: pictures that are saved one behind the other are the last one, always, and none of the same age. No condition. -/
import Derived.Test.YtidkdnidafdmpaaSlotsLastQ8
import Derived.Deep.LoopGhost
namespace Go.Proofs.Ytidkdnidafdmpaa
open Go.ChangeShapes Go.WideShapes Go.ChangeAt Go.RowKit

/-- What a round's calls come to: the picture is saved; of its age, or an elder one, none is taken. -/
theorem last_step (f z N : Nat) {s : DkS} {p : List UInt8} {k : Nat} (hN : f + 2 * z ≤ N) (hz : 230 ≤ z) (hk : k ≤ 100) (hp : p.length ≤ 200) (hsl : s.1.length = N) (hsw : s.2.1.length ≤ 0) (hn0 : 0 ≤ s.2.2) (hn1 : s.2.2 ≤ 2 * k) (h : ageI (loadD s f z) ≤ k) :
    ∃ s1, svS s f z p ((k : Int) + 1) = s1 ∧ stE s f z p ((k : Int) + 1) = 0 ∧ s1.1.length = N ∧ s1.2.1.length ≤ 0 ∧ 0 ≤ s1.2.2 ∧ s1.2.2 ≤ 2 * ((k + 1 : Nat) : Int) ∧ loadD s1 f z = some (p, k + 1) ∧ ageI (loadD s1 f z) ≤ ((k + 1 : Nat) : Int) ∧
      svS s1 f z p ((k : Int) + 1) = s1 ∧ stE s1 f z p ((k : Int) + 1) = 6 ∧ stS s1 f z [] (k : Int) = s1 ∧ stE s1 f z [] (k : Int) = 6 := by
  have h1 := frP_max ((k : Int) + 1) p (by omega)
  have h2 := frP_yes (k + 1) p (by omega) (by omega)
  rw [Int.natCast_add] at h2
  have he1 : stE s f z p ((k : Int) + 1) = 0 := by
    rw [stE_load, if_neg (by omega), if_neg (by omega), if_neg (fun hh => by
      rcases hh with hh | hh
      · exact h2 hh
      · omega)]
  have hld := svS_load (s := s) (f := f) (z := z) (b := p) (age := (k : Int) + 1) (by rw [hsl]; exact hN) he1
  have htn : ((k : Int) + 1).toNat = k + 1 := by omega
  rw [htn] at hld
  have hlen := svS_len s f z p ((k : Int) + 1)
  have hwt := svS_waits (s := s) (f := f) (z := z) (b := p) (age := (k : Int) + 1)
  have hnn := svS_n s f z p ((k : Int) + 1)
  generalize svS s f z p ((k : Int) + 1) = s1 at *
  have hag : ageI (loadD s1 f z) = ((k + 1 : Nat) : Int) := by rw [hld]; rfl
  have e2 : stE s1 f z p ((k : Int) + 1) = 6 := by rw [stE_load, if_neg (by omega), if_pos (by omega)]
  have e3 : stE s1 f z [] (k : Int) = 6 := by rw [stE_load, if_neg (by omega), if_pos (by omega)]
  exact ⟨s1, rfl, he1, hlen.trans hsl, Nat.le_trans hwt hsw, by omega, by omega, hld, by omega, by rw [svS, e2, if_neg (by decide)], e2, by rw [stS, e3, if_neg (by decide)], e3⟩

/-- How far it has come. -/
def LastSt (w1 : World) (g h : Nat) (k : Nat) (wr : World) (s : DkS) (F : Fp) : Prop :=
  SlW w1 wr h g s 3 300 F ∧ s.1.length = 700 ∧ s.2.1.length ≤ 0 ∧ 0 ≤ s.2.2 ∧ s.2.2 ≤ 2 * k ∧ ageI (loadD s 3 300) ≤ k

set_option maxRecDepth 100000 in
set_option maxHeartbeats 2000000 in
theorem SlotsLast_main (ls : List (List UInt8)) (v : Value) (w : World) (hr : RdL w v ls) (h30 : ls.length ≤ 30) :
    Calls Try.prog 5 #[v] w fun e w' => e = .returned (.bool true) ∧ Ext w w' := by
  obtain ⟨A, c, rfl, hlc, hcm⟩ := hr.sliceN rfl
  unfold maxLen at hcm
  have hd : decide (30 < ls.length) = false := by simp; omega
  go_enter Try.func5, Try.ntmps5
  go_wp2_with fail
  refine (alive6_any w).mono ?_
  rintro e w1 ⟨rfl, hx1⟩
  have hr1 := hr.ext hx1
  go_wp2_with fail
  refine (DsW.new (Ext.refl w1) 700 (by decide) (by decide)).mono ?_
  rintro e w2 ⟨g, rfl, hd2, -⟩
  obtain ⟨s0, hs0⟩ : ∃ s0 : DkS, s0 = (List.replicate 700 0, [], 0) := ⟨_, rfl⟩
  have hl0 := new_load (f := 3) (z := 300) hs0 (by omega)
  have hsl : s0.1.length = 700 := by rw [hs0, List.length_replicate]
  have hsw : s0.2.1.length ≤ 0 := by rw [hs0]; exact Nat.le_refl _
  have hsn : s0.2.2 = 0 := by rw [hs0]
  rw [← hs0] at hd2
  have HS := Lib.hid (And.intro hsl (And.intro hsw (And.intro hsn hl0)))
  have HD2 := Lib.hid hd2
  clear hd2 hs0 hl0 hsl hsw hsn
  go_wp2_with fail
  refine (HD2.out.open_ (f := 3) (z := 300) (by rw [HS.out.1]; omega) (by omega)).mono ?_
  rintro e w3 ⟨h, rfl, hl3, -⟩
  have HL3 := Lib.hid hl3
  clear hl3 HD2
  generalize (Fp.since _ w2 w3) = F3 at *
  go_wp2
  go_loopg [6] ls.length (fun gg i wr => ∃ k : Nat, i = .int .i64 k ∧ k ≤ ls.length ∧ gg = ls.length - k ∧ ∃ s F, LastSt w1 g h k wr s F)
  case atStart => exact ⟨0, rfl, Nat.zero_le _, rfl, s0, F3, HL3.out, HS.out.1, HS.out.2.1, by rw [HS.out.2.2.1]; omega, by rw [HS.out.2.2.1]; omega, by rw [HS.out.2.2.2]; decide⟩
  case round =>
    obtain ⟨k, rfl, hk, rfl, s, F, hlg, hsl, hsw, hn0, hn1, hage⟩ := hrel
    by_cases hlt : k < ls.length
    · obtain ⟨b, o, rfl, hb, hcl⟩ := hr1.at (by omega)
      obtain ⟨q, eq, hq⟩ := hcl k _ (List.getElem?_eq_getElem hlt)
      generalize ls[k] = p at *
      obtain ⟨Au, cu, rfl, hcu, hcmu⟩ := hq.sliceN (List.length_map _)
      unfold maxLen at hcmu
      have cells : ∀ w', Ext w1 w' → w'.cell? ⟨b, o + k, none⟩ = some (.slice Au p.length cu) := fun w' hx => hx.cellOf eq hb
      have d0 := cells wr hlg.2.2
      have HCE := Lib.hid cells
      have HQ := Lib.hid hq
      clear hcl eq cells hq
      by_cases hp : 200 < p.length
      · have hx := hx1.trans hlg.2.2
        have hpd : decide (200 < p.length) = true := by simp; omega
        clear hlg hsl hsw hn0 hn1 hage
        go_wp2
        go_ret
        exact ⟨rfl, hx⟩
      · have hpd : decide (200 < p.length) = false := by simp; omega
        obtain ⟨s1, t1, t2, t3, t4, t5, t6, t7, t8, t9, t10, t11, t12⟩ := last_step 3 300 700 (p := p) (k := k) (by omega) (by omega) (by omega) (by omega) hsl hsw hn0 hn1 hage
        have hA := hlg.save (p := p) (age := (k : Int) + 1) HQ.out (by rw [hsl]; omega) (by omega) (by omega) hn0 (by omega) (by omega) (by omega) (by omega)
        rw [t2, t1] at hA
        have H1 := Lib.hid (And.intro t3 (And.intro t4 (And.intro t5 t6)))
        have HLD := Lib.hid t7
        have HAGE := Lib.hid t8
        have H9 := Lib.hid (And.intro t9 (And.intro t10 (And.intro t11 t12)))
        have HA := Lib.hid hA
        clear hlg hsl hsw hn0 hn1 hage hA t1 t2 t3 t4 t5 t6 t7 t8 t9 t10 t11 t12
        have w5 : IntKind.i64.wrap ((k : Int) + 1) = (k : Int) + 1 := by rw [IntKind.wrap_i64]; omega
        go_wp2_with fail
        refine HA.out.mono ?_
        rintro e w4 ⟨rfl, hl4, -⟩
        have d4 := HCE.out w4 hl4.2.2
        have hA4 := hl4.save (p := p) (age := (k : Int) + 1) HQ.out (by rw [H1.out.1]; omega) (by omega) (Nat.le_trans H1.out.2.1 (by decide)) H1.out.2.2.1 (by have := H1.out.2.2; omega) (by omega) (by omega) (by omega)
        rw [H9.out.2.1, H9.out.1] at hA4
        have HA4 := Lib.hid hA4
        clear hl4 d0 hA4 HA
        go_wp2_with fail
        refine HA4.out.mono ?_
        rintro e w6 ⟨rfl, hl6, -⟩
        have d6 := HCE.out w6 hl6.2.2
        have hA6 := hl6.start (p := []) (v := .slice none 0 0) (age := (k : Int)) (Rd.nil _) (by rw [H1.out.1]; omega) (by omega) (Nat.le_trans H1.out.2.1 (by decide)) H1.out.2.2.1 (by have := H1.out.2.2; omega) (by simp) (by omega) (by omega)
        rw [H9.out.2.2.2, H9.out.2.2.1] at hA6
        have HA6 := Lib.hid hA6
        clear hl6 d4 hA6 HA4
        go_wp2_with fail
        refine HA6.out.mono ?_
        rintro e w7 ⟨rfl, hl7, -⟩
        have HL7 := Lib.hid hl7
        clear hl7 d6 HA6
        go_wp2_with fail
        refine (HL7.out.load (by rw [H1.out.1]; omega) (by omega) (Nat.le_trans H1.out.2.1 (by decide))).mono ?_
        rintro e w8 ⟨⟨v8, he, hr8, -⟩, hl8⟩
        rw [HLD.out] at he hr8
        obtain rfl := he
        have hr8 : Rd w8 v8 (p.map B) := hr8
        obtain ⟨A8, c8, rfl, _, _⟩ := hr8.sliceN (List.length_map _)
        have d8 := HCE.out w8 hl8.2.2
        have hq8 := HQ.out.ext hl8.2.2
        have hcast : ((k + 1 : Nat) : Int) = (k : Int) + 1 := by omega
        have hbq : (((k + 1 : Nat) : Int) != (k : Int) + 1) = false := by simp
        have HR8 := Lib.hid hr8
        have HL8 := Lib.hid hl8
        have HQ8 := Lib.hid hq8
        clear hr8 hl8 hq8 HL7
        go_wp2_with fail
        refine (Bytes_same p _ _ w8 HR8.out HQ8.out).mono ?_
        rintro e w9 ⟨rfl, n9, rfl⟩
        have HL9 := Lib.hid (HL8.out.ext (Below.drewN' (Ext.refl w8) n9))
        clear HL8 HR8 HQ8 d8
        go_wp2
        go_roundg (ls.length - (k + 1))
        case measure => omega
        case rel => exact ⟨k + 1, by go_num, by omega, rfl, s1, _, HL9.out, H1.out.1, H1.out.2.1, H1.out.2.2.1, H1.out.2.2.2, HAGE.out⟩
    · obtain rfl : k = ls.length := by omega
      have hx := hx1.trans hlg.2.2
      clear hlg hsl hsw hn0 hn1 hage
      go_wp2
      go_ret
      exact ⟨rfl, hx⟩

theorem SlotsLast_calls (ls : List (List UInt8)) (v : Value) (w : World) (hr : RdL w v ls) :
    Calls Try.prog 5 #[v] w fun e w' => e = .returned (.bool true) ∧ Ext w w' := by
  by_cases h : ls.length ≤ 30
  · exact SlotsLast_main ls v w hr h
  · obtain ⟨A, c, rfl, hlc, hcm⟩ := hr.sliceN rfl
    unfold maxLen at hcm
    have hd : decide (30 < ls.length) = true := by simp; omega
    clear hr
    go_enter Try.func5, Try.ntmps5
    go_wp2_with fail
    refine (alive6_any w).mono ?_
    rintro e w1 ⟨rfl, hx1⟩
    go_wp2
    go_ret
    exact ⟨rfl, hx1⟩

set_option maxRecDepth 100000 in
theorem SlotsLast_lifted (os : Os) (started : os.Started) (H : Type) (enc : TypeId × Value → H) :
    ReturnsInHanded {} Try.checked os 5 .any (Rows.slotsLastSpec.pre6 enc Try.prog Try.f5 Rows.slotsLastRow.domain false) (Rows.slotsLastSpec.post enc Try.prog Try.f5 false true false false) := by
  refine law_lift (C := Try.checked) (tb := 4) Try.ownKnob started (by kernel_rfl) Try.func5 Try.laidOut (by kernel_rfl) rfl Try.underlying4 rfl rfl ?_
    (ChangeSpec.witness6 (enc := enc) (C := Try.checked) false ⟨#[], #[.slice none 0 0], []⟩ 8 (by kernel_rfl) (by kernel_rfl) (by kernel_rfl) (by kernel_rfl)) ?_
  · intro ds hd
    rw [Try.params5] at hd
    match ds, hd with
    | [d0], _ => rfl
  · intro W base args ds p hval hA hsz
    rw [Try.params5] at hA hval hsz
    obtain ⟨v0, vs0, d0, ds0, p0, q0, hargs, rfl, rfl, h0, r0_⟩ := trodAll_cons hA
    obtain ⟨rfl, rfl, rfl⟩ := trodAll_nil r0_
    obtain rfl : args = #[v0] := by cases args; simp_all
    obtain ⟨a0, r0⟩ := dec_rows Try.underlying50 Try.underlying36 Try.underlying5 (by kernel_rfl) (by kernel_rfl) (hval 0 50 v0 rfl rfl) h0
    exact SlotsLast_calls a0 _ W r0

theorem SlotsLast_holds : Rows.SlotsLastSaid :=
  OpenClaim.holds_of_wide 5 Try.f5 rfl rfl rfl rfl rfl rfl rfl ⟨rfl, rfl, rfl, rfl, rfl⟩ rfl rfl rfl rfl rfl (by kernel_rfl) Try.func5 (by kernel_rfl)
    (of_decide_eq_true (by kernel_rfl)) (by unfold Func.isWrapper; first | (rw [if_pos (by decide +kernel)]; kernel_rfl) | (rw [if_neg (by decide +kernel)]; exact ⟨rfl, rfl⟩))
    (fun os started H enc _ => SlotsLast_lifted os started H enc)

end Go.Proofs.Ytidkdnidafdmpaa
