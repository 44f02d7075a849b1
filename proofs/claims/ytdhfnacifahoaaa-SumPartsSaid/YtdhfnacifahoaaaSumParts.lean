/- For every input SumParts returns true: a sum of parts is that of the whole, bytes with their sum behind are so, and with one byte turned they are not. No condition. -/
import Derived.Test.YtdhfnacifahoaaaAlive02
import Derived.Test.YtdhfnacifahoaaaAll02
import Derived.Test.YtdhfnacifahoaaaP02d
import Derived.Test.YtdhfnacifahoaaaLift
namespace Go.Proofs.Ytdhfnacifahoaaa
open Go.ChangeShapes Go.WideShapes Go.ChangeAt Go.RowKit

theorem More_of (la lb : List UInt8) (v : Value) (w : World) (hr : Rd w v (lb.map B)) :
    Calls Try.prog 11 #[.int .i64 ((crcOf la).toNat : Int), v] w fun e w' => e = .returned (.int .i64 ((crcOf (la ++ lb)).toNat : Int)) ∧ w = w' := by
  rw [← crcMore_of]
  exact More_yes lb v (crcOf la) w hr

set_option maxHeartbeats 2000000 in
theorem SumParts_main (la lb : List UInt8) (i : Int) (d : UInt8) (u v : Value) (w : World) (hu : Rd w u (la.map B)) (hv : Rd w v (lb.map B)) (hla : la.length ≤ 300) (hlb : lb.length ≤ 300) :
    Calls Try.prog 5 #[u, v, .int .i64 i, B d] w fun e w' => e = .returned (.bool true) ∧ Ext w w' := by
  obtain ⟨A, c, rfl, hlc, hcm⟩ := hu.sliceN (List.length_map _)
  obtain ⟨A', c', rfl, hlc', hcm'⟩ := hv.sliceN (List.length_map _)
  unfold maxLen at hcm hcm'
  have hda : decide (300 < la.length) = false := by simp; omega
  have hdb : decide (300 < lb.length) = false := by simp; omega
  have hs1 : ((crcOf (la ++ lb)).toNat : Int) ≤ 9223372036854775807 := by have := (crcOf (la ++ lb)).isLt; omega
  have hs0 : -9223372036854775808 ≤ ((crcOf (la ++ lb)).toNat : Int) := by omega
  have hs2 : decide (4294967295 < ((crcOf (la ++ lb)).toNat : Int)) = false := by simp; have := (crcOf (la ++ lb)).isLt; omega
  go_enter Try.func5, Try.ntmps5
  go_wp2_with fail
  refine (alive_any _).mono ?_
  rintro e w1 ⟨rfl, hx1⟩
  have ha1 := hu.ext hx1
  have hb1 := hv.ext hx1
  go_wp2_with (first | (at_builtin; refine app_u8 rfl _ _ rfl w1.heap.size _ [] rfl (World.ownsRow_nil _ _ _ _) _ la rfl ha1 (by simp; omega) (Nat.le_refl _) ?_; intro v2 w2 hg2; rw [List.nil_append] at hg2; obtain ⟨A2, c2, rfl⟩ := hg2.slice_ (n := la.length) (List.length_map _); have hb2 := hb1.ext hg2.ext) | (at_builtin; refine app_u8 rfl _ _ rfl w1.heap.size _ _ rfl hg2.1 _ lb rfl hb2 (by rw [List.length_map]; omega) hg2.size ?_; intro v3 w3 hg3; have hg4 := hg2.trans hg3; rw [← List.map_append] at hg4; obtain ⟨A3, c3, rfl⟩ := hg4.slice_ (n := la.length + lb.length) (by rw [List.length_map, List.length_append])))
  have hx4 := Ext.trans hx1 hg4.ext
  have hr4 := Rd.own hg4.own
  have ha4 := ha1.ext hg4.ext
  have hb4 := hb1.ext hg4.ext
  clear hg2 hg3 hb2
  refine (Of_any (la ++ lb) _ _ hr4).mono ?_
  rintro e w5 ⟨rfl, rfl⟩
  go_wp2_with fail
  refine (Of_any la _ _ ha4).mono ?_
  rintro e w5 ⟨rfl, rfl⟩
  go_wp2_with fail
  refine (More_of la lb _ _ hb4).mono ?_
  rintro e w5 ⟨rfl, rfl⟩
  go_wp2_with fail
  refine (Put_any _ _ hs0 hs1).mono ?_
  rintro e w6 ⟨v6, rfl, hr6, hx6⟩
  have hg6 := hg4.step hx6
  clear hg4 hr4 ha4 hb4
  obtain ⟨A6, c6, rfl, _, _⟩ := hr6.sliceN (n := 4) rfl
  go_wp2_with (at_builtin; refine app_u8 rfl _ _ rfl w1.heap.size _ _ rfl hg6.1 _ (putB ((crcOf (la ++ lb)).toNat : Int)) rfl hr6 (by rw [List.length_map, List.length_append, putB_len]; omega) hg6.size ?_; intro v7 w7 hg7; obtain ⟨A7, c7, rfl⟩ := hg7.slice_ (n := la.length + lb.length + 4) (by rw [List.length_append, List.length_map, List.length_map, List.length_append, putB_len]))
  have hg8 := hg6.trans hg7
  rw [← List.map_append] at hg8
  have hr8 := Rd.own hg8.own
  have hx8 := Ext.trans hx1 hg8.ext
  clear hg6 hg7 hr6 hx6 hx4
  refine (Is_any _ _ _ hr8).mono ?_
  rintro e w9 ⟨rfl, hx9⟩
  rw [isB_put]
  have hg9 := hg8.step hx9
  have hx9 := Ext.trans hx8 hx9
  clear hg8 hr8 hx8
  by_cases hi0 : i < 0
  · go_wp2
    go_ret
    exact ⟨rfl, hx9⟩
  · obtain ⟨k, rfl⟩ : ∃ k : Nat, i = k := ⟨i.toNat, by omega⟩
    by_cases hk : k < la.length + lb.length + 4
    · by_cases hd0 : d = 0
      · have hde : ((d.toNat : Int) == 0) = true := by rw [hd0]; rfl
        clear hd0
        go_wp2
        go_ret
        exact ⟨rfl, hx9⟩
      · have hde : ((d.toNat : Int) == 0) = false := by
          rw [beq_eq_false_iff_ne]
          intro e
          exact hd0 (UInt8.toNat_inj.1 (by show d.toNat = 0; omega))
        have hlen : (la ++ lb ++ putB ((crcOf (la ++ lb)).toNat : Int)).length = la.length + lb.length + 4 := by rw [List.length_append, List.length_append, putB_len]
        obtain ⟨g, cap, hv9, hcap, hg1, hg2⟩ := hg9.form (by rw [List.length_map, hlen]; omega)
        rw [List.length_map, hlen] at hv9 hcap
        injection hv9 with hv9 _ hv9'
        subst hv9 hv9'
        have hcell := hg9.cellAt k (by rw [List.length_map, hlen]; omega)
        have hfr := hg9.frozenAt k
        have hxk : k < (la ++ lb ++ putB ((crcOf (la ++ lb)).toNat : Int)).length := by omega
        rw [List.getElem?_map, List.getElem?_eq_getElem hxk, Option.map_some] at hcell
        have hturn := isB_turn (la ++ lb) k ((la ++ lb ++ putB ((crcOf (la ++ lb)).toNat : Int))[k] ^^^ d) (by rw [List.length_append]; omega) (by rw [List.getElem?_eq_getElem hxk]; intro e; exact xor_ne _ _ hd0 (Option.some.inj e).symm)
        have hg10 := hg9.set k (B ((la ++ lb ++ putB ((crcOf (la ++ lb)).toNat : Int))[k] ^^^ d))
        rw [← List.map_set] at hg10
        generalize (la ++ lb ++ putB ((crcOf (la ++ lb)).toNat : Int))[k] = x at *
        have hxo := xorU8 x d
        have hr10 := Rd.own hg10.own
        have hx10 := Ext.trans hx1 hg10.ext
        have HT := Lib.hid hturn
        clear hturn hd0 hlen hg9 hg10 hxk
        simp only [B] at hcell
        generalize x ^^^ d = y at *
        go_wp2_with fail
        refine (Is_any _ _ _ hr10).mono ?_
        rintro e w11 ⟨rfl, hx11⟩
        rw [HT.out]
        go_wp2
        go_ret
        exact ⟨rfl, Ext.trans hx10 hx11⟩
    · go_wp2
      go_ret
      exact ⟨rfl, hx9⟩

theorem SumParts_calls (la lb : List UInt8) (i : Int) (d : UInt8) (u v : Value) (w : World) (hu : Rd w u (la.map B)) (hv : Rd w v (lb.map B)) :
    Calls Try.prog 5 #[u, v, .int .i64 i, B d] w fun e w' => e = .returned (.bool true) ∧ Ext w w' := by
  by_cases hla : la.length ≤ 300
  · by_cases hlb : lb.length ≤ 300
    · exact SumParts_main la lb i d u v w hu hv hla hlb
    · obtain ⟨A, c, rfl, hlc, hcm⟩ := hu.sliceN (List.length_map _)
      obtain ⟨A', c', rfl, hlc', hcm'⟩ := hv.sliceN (List.length_map _)
      unfold maxLen at hcm hcm'
      have hda : decide (300 < la.length) = false := by simp; omega
      have hdb : decide (300 < lb.length) = true := by simp; omega
      go_enter Try.func5, Try.ntmps5
      go_wp2_with fail
      refine (alive_any _).mono ?_
      rintro e w1 ⟨rfl, hx1⟩
      go_wp2
      go_ret
      exact ⟨rfl, hx1⟩
  · obtain ⟨A, c, rfl, hlc, hcm⟩ := hu.sliceN (List.length_map _)
    obtain ⟨A', c', rfl, hlc', hcm'⟩ := hv.sliceN (List.length_map _)
    unfold maxLen at hcm hcm'
    have hda : decide (300 < la.length) = true := by simp; omega
    go_enter Try.func5, Try.ntmps5
    go_wp2_with fail
    refine (alive_any _).mono ?_
    rintro e w1 ⟨rfl, hx1⟩
    go_wp2
    go_ret
    exact ⟨rfl, hx1⟩

set_option maxRecDepth 100000 in
theorem SumParts_lifted (os : Os) (started : os.Started) (H : Type) (enc : TypeId × Value → H) :
    ReturnsInHanded {} Try.checked os 5 .any (Rows.sumPartsSpec.pre6 enc Try.prog Try.f5 Rows.sumPartsRow.domain false) (Rows.sumPartsSpec.post enc Try.prog Try.f5 false true false false) := by
  refine law_lift (C := Try.checked) (tb := 4) Try.ownKnob started (by kernel_rfl) Try.func5 Try.laidOut (by kernel_rfl) rfl Try.underlying4 rfl rfl ?_
    (ChangeSpec.witness6 (enc := enc) (C := Try.checked) false ⟨#[], #[.slice none 0 0, .slice none 0 0, .int .i64 0, .int .u8 0], []⟩ 8 (by kernel_rfl) (by kernel_rfl) (by kernel_rfl) (by kernel_rfl)) ?_
  · intro ds hd
    rw [Try.params5] at hd
    match ds, hd with
    | [d0, d1, d2, d3], _ => rfl
  · intro W base args ds p hval hA hsz
    rw [Try.params5] at hA hval hsz
    obtain ⟨v0, vs0, d0, ds0, p0, q0, hargs, rfl, rfl, h0, r0_⟩ := trodAll_cons hA
    obtain ⟨v1, vs1, d1, ds1, p1, q1, rfl, rfl, rfl, h1, r1_⟩ := trodAll_cons r0_
    obtain ⟨v2, vs2, d2, ds2, p2, q2, rfl, rfl, rfl, h2, r2_⟩ := trodAll_cons r1_
    obtain ⟨v3, vs3, d3, ds3, p3, q3, rfl, rfl, rfl, h3, r3_⟩ := trodAll_cons r2_
    obtain ⟨rfl, rfl, rfl⟩ := trodAll_nil r3_
    obtain rfl : args = #[v0, v1, v2, v3] := by cases args; simp_all
    obtain ⟨a0, r0, s0⟩ := dec_bytes Try.underlying22 Try.underlying5 (by kernel_rfl) (by kernel_rfl) (hval 0 22 v0 rfl rfl) h0 hsz (j := 0) rfl rfl
    obtain ⟨a1, r1, s1⟩ := dec_bytes Try.underlying22 Try.underlying5 (by kernel_rfl) (by kernel_rfl) (hval 1 22 v1 rfl rfl) h1 hsz (j := 1) rfl rfl
    obtain ⟨a2, rfl, lo2, hi2⟩ := dec_int Try.underlying3 (hval 2 3 v2 rfl rfl) h2
    obtain ⟨a3, rfl⟩ := dec_u8 Try.underlying5 (hval 3 5 v3 rfl rfl) h3
    exact SumParts_calls a0 a1 a2 a3 _ _ W r0 r1

theorem SumParts_holds : Rows.SumPartsSaid :=
  OpenClaim.holds_of_wide 5 Try.f5 rfl rfl rfl rfl rfl rfl rfl ⟨rfl, rfl, rfl, rfl, rfl⟩ rfl rfl rfl rfl rfl (by kernel_rfl) Try.func5 (by kernel_rfl)
    (of_decide_eq_true (by kernel_rfl)) (by unfold Func.isWrapper; first | (rw [if_pos (by decide +kernel)]; kernel_rfl) | (rw [if_neg (by decide +kernel)]; exact ⟨rfl, rfl⟩))
    (fun os started H enc _ => SumParts_lifted os started H enc)

end Go.Proofs.Ytdhfnacifahoaaa
