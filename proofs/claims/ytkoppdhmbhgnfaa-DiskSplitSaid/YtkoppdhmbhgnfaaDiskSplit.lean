/- For every input DiskSplit returns true: bytes written by two writes are those of one, read at once, and behind any crash. No condition. -/
import Derived.Test.YtkoppdhmbhgnfaaDiskCol
import Derived.Test.YtkoppdhmbhgnfaaAlive04
import Derived.Test.YtkoppdhmbhgnfaaDiskBytes
import Derived.Test.YtkoppdhmbhgnfaaLift
namespace Go.Proofs.Ytkoppdhmbhgnfaa
open Go.ChangeShapes Go.WideShapes Go.ChangeAt Go.RowKit

set_option maxHeartbeats 2000000 in
theorem DiskSplit_main (n : Nat) (at_ : Int) (la lb : List UInt8) (keep : Int) (u v : Value) (w : World) (hu : Rd w u (la.map B)) (hv : Rd w v (lb.map B)) (hn1 : 1 ≤ n) (hn2 : n ≤ 300) (hla : la.length ≤ 200) (hlb : lb.length ≤ 200) (ha0 : 0 ≤ at_) (ha1 : at_ ≤ 300)
    (hk0 : -9223372036854775808 ≤ keep) (hk1 : keep ≤ 9223372036854775807) :
    Calls Try.prog 5 #[.int .i64 (n : Int), .int .i64 at_, u, v, .int .i64 keep] w fun e w' => e = .returned (.bool true) ∧ Ext w w' := by
  obtain ⟨A, c, rfl, hlc, hcm⟩ := hu.sliceN (List.length_map _)
  obtain ⟨A', c', rfl, hlc', hcm'⟩ := hv.sliceN (List.length_map _)
  unfold maxLen at hcm hcm'
  obtain ⟨p, rfl⟩ : ∃ p : Nat, at_ = p := ⟨at_.toNat, by omega⟩
  have hda : decide (200 < la.length) = false := by simp; omega
  have hdb : decide (200 < lb.length) = false := by simp; omega
  go_enter Try.func5, Try.ntmps5
  go_wp2_with fail
  refine (alive_any _).mono ?_
  rintro e w1 ⟨rfl, hx1⟩
  have C1 := Cols.first w1
  have hu1 := hu.ext hx1
  have hv1 := hv.ext hx1
  clear hu hv
  go_wp2_with fail
  refine (DkNewC C1 (i := 1) (by decide) n hn1 (by omega)).mono ?_
  rintro e w2 ⟨g, rfl, ⟨C2, d2, -⟩, -⟩
  clear C1
  generalize Cols.next _ w1 w2 1 = col2 at *
  go_wp2_with fail
  refine (DkNewC C2 (i := 2) (by decide) n hn1 (by omega)).mono ?_
  rintro e w3 ⟨r, rfl, ⟨C3, k3, hc3⟩, -⟩
  have d3 := Cols.keep (X := fun F w => Dk F w g _) (i := 2) (j := 1) Dk.chgC Dk.monoC C2 (by decide) (by decide) (by decide) hc3 d2
  clear C2 d2 hc3
  generalize Cols.next _ w2 w3 2 = col3 at *
  have a3 := (C3.old hu1).rd
  have b3 := (C3.old hv1).rd
  go_wp2_with (first | (at_builtin; refine app_u8 rfl _ _ rfl w3.heap.size _ [] rfl (World.ownsRow_nil _ _ _ _) _ la rfl a3 (by simp; omega) (Nat.le_refl _) ?_; intro v4 w4 hg4; rw [List.nil_append] at hg4; obtain ⟨A4, c4, rfl⟩ := hg4.slice_ (n := la.length) (List.length_map _); have hb4 := b3.ext hg4.ext) | (at_builtin; refine app_u8 rfl _ _ rfl w3.heap.size _ _ rfl hg4.1 _ lb rfl hb4 (by rw [List.length_map]; omega) hg4.size ?_; intro v5 w5 hg5; have hg6 := hg4.trans hg5; rw [← List.map_append] at hg6; obtain ⟨A5, c5, rfl⟩ := hg6.slice_ (n := la.length + lb.length) (by rw [List.length_map, List.length_append])))
  have hx5 := hg6.ext
  have r5 := RdF.made hg6
  have C5 := C3.stepN hx5
  have d5 := d3.ext hx5
  have k5 := k3.ext hx5
  have ap := C3.new_apart (i := 1) (by decide) (w' := w5)
  clear hg4 hg5 hg6 hb4 a3 b3 C3 d3 k3
  refine (DkWriteC C5 (i := 1) (by decide) d5 r5 ap new_in (by omega) (by omega) (by simp)).mono ?_
  rintro e w6 ⟨rfl, C6, d6, hc6⟩
  have k6 := Cols.keep (X := fun F w => Dk F w r _) (i := 1) (j := 2) Dk.chgC Dk.monoC C5 (by decide) (by decide) (by decide) hc6 k5
  clear C5 d5 k5 ap r5 hc6 hx5
  generalize Cols.next _ w5 w6 1 = col6 at *
  have hlen : ((List.replicate n (0 : UInt8)).length) = n := List.length_replicate
  by_cases he : wrE n (p : Int) (la.length + lb.length) = 0
  · have hsp := wrD_split (s := (List.replicate n 0, [], 0)) (i := (p : Int)) (a := la) (b := lb) (by simpa using he)
    obtain ⟨h1, h2, h3⟩ := hsp
    have he1 : wrE (List.replicate n (0 : UInt8)).length (p : Int) (la ++ lb).length = 0 := by rw [hlen, List.length_append]; exact he
    have hlx : (wrD (List.replicate n 0, [], 0) (p : Int) (la ++ lb)).1.length = n := by rw [wrD_len]; exact hlen
    have hly : (wrD (List.replicate n 0, [], 0) (p : Int) la).1.length = n := by rw [wrD_len]; exact hlen
    have hwx := wrD_waits (List.replicate n 0, [], 0) (p : Int) (la ++ lb)
    have hwy := wrD_waits (List.replicate n 0, [], 0) (p : Int) la
    simp only [List.length_nil, List.length_append] at hwx hwy
    have H1 := Lib.hid h1
    have H2 := Lib.hid h2
    have H3 := Lib.hid h3
    have HE := Lib.hid he1
    have HLX := Lib.hid hlx
    clear h1 h2 h3 he1 hlx he
    rw [show wrE (List.replicate n (0 : UInt8), ([] : List (Nat × UInt8)), (0 : Int)).1.length (p : Int) (la ++ lb).length = 0 from HE.out]
    generalize hS : wrD (List.replicate n 0, [], 0) (p : Int) (la ++ lb) = S at *
    have HS := Lib.hid hS
    clear hS
    go_wp2_with fail
    refine (DkWriteC C6 (i := 2) (by decide) k6 (C6.old hu1) (C6.old_apart (by decide)) C6.old_in (by omega) (by omega) (by simp)).mono ?_
    rintro e w7 ⟨he7, C7, k7, hc7⟩
    obtain rfl := he7.trans (congrArg (fun n => Ending.returned (.int .i64 n)) H1.out)
    have d7 := Cols.keep (X := fun F w => Dk F w g _) (i := 2) (j := 1) Dk.chgC Dk.monoC C6 (by decide) (by decide) (by decide) hc7 d6
    clear C6 d6 k6 hc7 he7
    generalize Cols.next _ w6 w7 2 = col7 at *
    go_wp2_with fail
    refine (DkWriteC C7 (i := 2) (by decide) k7 (C7.old hv1) (C7.old_apart (by decide)) C7.old_in (by omega) (by omega) (by omega)).mono ?_
    rintro e w8 ⟨he8, C8, k8, hc8⟩
    obtain rfl := he8.trans (congrArg (fun n => Ending.returned (.int .i64 n)) H2.out)
    have d8 := Cols.keep (X := fun F w => Dk F w g _) (i := 2) (j := 1) Dk.chgC Dk.monoC C7 (by decide) (by decide) (by decide) hc8 d7
    rw [H3.out] at k8
    clear C7 d7 k7 hc8 he8 hly hwy
    generalize Cols.next _ w7 w8 2 = col8 at *
    go_wp2_with fail
    refine (d8.bytesN HLX.out (by omega)).mono ?_
    rintro e w9 ⟨A9, c9, rfl, r9, -, -, g9⟩
    have C9 := C8.stepN g9.ext
    have d9 := d8.ext g9.ext
    have k9 := k8.ext g9.ext
    clear C8 d8 k8 g9
    go_wp2_with fail
    refine (k9.bytesN HLX.out (by omega)).mono ?_
    rintro e w10 ⟨A10, c10, rfl, r10, -, -, g10⟩
    have C10 := C9.stepN g10.ext
    have d10 := d9.ext g10.ext
    have k10 := k9.ext g10.ext
    have r9 := r9.ext g10.ext
    clear C9 d9 k9 g10
    go_wp2_with fail
    refine (Bytes_any (rdD S) (rdD S) _ _ _ r9 r10).mono ?_
    rintro e w11 ⟨rfl, n11, hw11⟩
    have hx11 := Below.drewN' (Ext.refl w10) n11
    rw [← hw11] at hx11
    have C11 := C10.stepN hx11
    have d11 := d10.ext hx11
    have k11 := k10.ext hx11
    rw [decide_eq_true rfl]
    clear C10 d10 k10 hx11 r9 r10 hw11
    go_wp2_with fail
    refine (DkCrashC C11 (i := 1) (by decide) d11 keep hk0 hk1 (by omega)).mono ?_
    rintro e w12 ⟨rfl, C12, d12, hc12⟩
    have k12 := Cols.keep (X := fun F w => Dk F w r _) (i := 1) (j := 2) Dk.chgC Dk.monoC C11 (by decide) (by decide) (by decide) hc12 k11
    clear C11 d11 k11 hc12
    generalize Cols.next _ w11 w12 1 = col12 at *
    go_wp2_with fail
    refine (DkCrashC C12 (i := 2) (by decide) k12 keep hk0 hk1 (by omega)).mono ?_
    rintro e w13 ⟨rfl, C13, k13, hc13⟩
    have d13 := Cols.keep (X := fun F w => Dk F w g _) (i := 2) (j := 1) Dk.chgC Dk.monoC C12 (by decide) (by decide) (by decide) hc13 d12
    have hlc13 : (crD S keep).1.length = n := by rw [crD_len]; exact HLX.out
    have hwc : (crD S keep).2.1.length ≤ 1000000000 := by simp [crD]
    have HLC := Lib.hid hlc13
    clear C12 d12 k12 hc13 hlc13
    generalize Cols.next _ w12 w13 2 = col13 at *
    generalize crD S keep = S2 at *
    go_wp2_with fail
    refine (d13.bytesN HLC.out hwc).mono ?_
    rintro e w14 ⟨A14, c14, rfl, r14, -, -, g14⟩
    have C14 := C13.stepN g14.ext
    have k14 := k13.ext g14.ext
    clear C13 d13 k13 g14
    go_wp2_with fail
    refine (k14.bytesN HLC.out hwc).mono ?_
    rintro e w15 ⟨A15, c15, rfl, r15, -, -, g15⟩
    have C15 := C14.stepN g15.ext
    have r14 := r14.ext g15.ext
    clear C14 k14 g15
    go_wp2_with fail
    refine (Bytes_any (rdD S2) (rdD S2) _ _ _ r14 r15).mono ?_
    rintro e w16 ⟨rfl, n16, hw16⟩
    have hx16 := Below.drewN' (Ext.refl w15) n16
    rw [← hw16] at hx16
    rw [decide_eq_true rfl]
    have hx := Ext.trans hx1 (C15.stepN hx16).ext
    clear C15 hx16 r14 r15 hw16
    go_wp2
    go_ret
    exact ⟨rfl, hx⟩
  · have he1 : ¬ wrE (List.replicate n (0 : UInt8), ([] : List (Nat × UInt8)), (0 : Int)).1.length (p : Int) (la ++ lb).length = 0 := by rw [show (List.replicate n (0 : UInt8), ([] : List (Nat × UInt8)), (0 : Int)).1.length = n from hlen, List.length_append]; exact he
    have hx := Ext.trans hx1 C6.ext
    generalize wrE (List.replicate n (0 : UInt8), ([] : List (Nat × UInt8)), (0 : Int)).1.length (p : Int) (la ++ lb).length = E at *
    have hne : (E == 0) = false := by rw [beq_eq_false_iff_ne]; exact he1
    have hne2 : (E != 0) = true := by rw [bne, hne]; rfl
    clear d6 k6 C6 he he1
    go_wp2
    go_ret
    exact ⟨rfl, hx⟩

theorem DiskSplit_out (n at_ : Int) (la lb : List UInt8) (keep : Int) (u v : Value) (w : World) (hu : Rd w u (la.map B)) (hv : Rd w v (lb.map B))
    (h : n < 1 ∨ (1 ≤ n ∧ 300 < n) ∨ (1 ≤ n ∧ n ≤ 300 ∧ 200 < la.length) ∨ (1 ≤ n ∧ n ≤ 300 ∧ la.length ≤ 200 ∧ 200 < lb.length) ∨ (1 ≤ n ∧ n ≤ 300 ∧ la.length ≤ 200 ∧ lb.length ≤ 200 ∧ at_ < 0) ∨ (1 ≤ n ∧ n ≤ 300 ∧ la.length ≤ 200 ∧ lb.length ≤ 200 ∧ 0 ≤ at_ ∧ 300 < at_)) :
    Calls Try.prog 5 #[.int .i64 n, .int .i64 at_, u, v, .int .i64 keep] w fun e w' => e = .returned (.bool true) ∧ Ext w w' := by
  obtain ⟨A, c, rfl, hlc, hcm⟩ := hu.sliceN (List.length_map _)
  obtain ⟨A', c', rfl, hlc', hcm'⟩ := hv.sliceN (List.length_map _)
  unfold maxLen at hcm hcm'
  clear hu hv
  generalize la.length = x at *
  generalize lb.length = y at *
  have alive := alive_any w
  rcases h with h | ⟨h1, h⟩ | ⟨h1, h2, h⟩ | ⟨h1, h2, h3, h⟩ | ⟨h1, h2, h3, h4, h⟩ | ⟨h1, h2, h3, h4, h5, h⟩
  · go_enter Try.func5, Try.ntmps5
    go_wp2_with fail
    refine alive.mono ?_
    rintro e w1 ⟨rfl, hx1⟩
    go_wp2
    go_ret
    exact ⟨rfl, hx1⟩
  · go_enter Try.func5, Try.ntmps5
    go_wp2_with fail
    refine alive.mono ?_
    rintro e w1 ⟨rfl, hx1⟩
    go_wp2
    go_ret
    exact ⟨rfl, hx1⟩
  · have hd : decide (200 < x) = true := by simp; omega
    go_enter Try.func5, Try.ntmps5
    go_wp2_with fail
    refine alive.mono ?_
    rintro e w1 ⟨rfl, hx1⟩
    go_wp2
    go_ret
    exact ⟨rfl, hx1⟩
  · have hd : decide (200 < x) = false := by simp; omega
    have hd2 : decide (200 < y) = true := by simp; omega
    go_enter Try.func5, Try.ntmps5
    go_wp2_with fail
    refine alive.mono ?_
    rintro e w1 ⟨rfl, hx1⟩
    go_wp2
    go_ret
    exact ⟨rfl, hx1⟩
  · have hd : decide (200 < x) = false := by simp; omega
    have hd2 : decide (200 < y) = false := by simp; omega
    go_enter Try.func5, Try.ntmps5
    go_wp2_with fail
    refine alive.mono ?_
    rintro e w1 ⟨rfl, hx1⟩
    go_wp2
    go_ret
    exact ⟨rfl, hx1⟩
  · have hd : decide (200 < x) = false := by simp; omega
    have hd2 : decide (200 < y) = false := by simp; omega
    go_enter Try.func5, Try.ntmps5
    go_wp2_with fail
    refine alive.mono ?_
    rintro e w1 ⟨rfl, hx1⟩
    go_wp2
    go_ret
    exact ⟨rfl, hx1⟩

theorem DiskSplit_calls (n at_ : Int) (la lb : List UInt8) (keep : Int) (u v : Value) (w : World) (_ : -9223372036854775808 ≤ n) (_ : n ≤ 9223372036854775807) (_ : -9223372036854775808 ≤ at_) (_ : at_ ≤ 9223372036854775807) (hu : Rd w u (la.map B)) (hv : Rd w v (lb.map B))
    (hk0 : -9223372036854775808 ≤ keep) (hk1 : keep ≤ 9223372036854775807) :
    Calls Try.prog 5 #[.int .i64 n, .int .i64 at_, u, v, .int .i64 keep] w fun e w' => e = .returned (.bool true) ∧ Ext w w' := by
  by_cases h : 1 ≤ n ∧ n ≤ 300 ∧ la.length ≤ 200 ∧ lb.length ≤ 200 ∧ 0 ≤ at_ ∧ at_ ≤ 300
  · obtain ⟨h1, h2, h3, h4, h5, h6⟩ := h
    obtain ⟨k, rfl⟩ : ∃ k : Nat, n = k := ⟨n.toNat, by omega⟩
    exact DiskSplit_main k at_ la lb keep u v w hu hv (by omega) (by omega) h3 h4 h5 h6 hk0 hk1
  · exact DiskSplit_out n at_ la lb keep u v w hu hv (by omega)

set_option maxRecDepth 100000 in
theorem DiskSplit_lifted (os : Os) (started : os.Started) (H : Type) (enc : TypeId × Value → H) :
    ReturnsInHanded {} Try.checked os 5 .any (Rows.diskSplitSpec.pre6 enc Try.prog Try.f5 Rows.diskSplitRow.domain false) (Rows.diskSplitSpec.post enc Try.prog Try.f5 false true false false) := by
  refine law_lift (C := Try.checked) (tb := 4) Try.ownKnob started (by kernel_rfl) Try.func5 Try.laidOut (by kernel_rfl) rfl Try.underlying4 rfl rfl ?_
    (ChangeSpec.witness6 (enc := enc) (C := Try.checked) false ⟨#[], #[.int .i64 0, .int .i64 0, .slice none 0 0, .slice none 0 0, .int .i64 0], []⟩ 8 (by kernel_rfl) (by kernel_rfl) (by kernel_rfl) (by kernel_rfl)) ?_
  · intro ds hd
    rw [Try.params5] at hd
    match ds, hd with
    | [d0, d1, d2, d3, d4], _ => rfl
  · intro W base args ds p hval hA hsz
    rw [Try.params5] at hA hval hsz
    obtain ⟨v0, vs0, d0, ds0, p0, q0, hargs, rfl, rfl, h0, r0_⟩ := trodAll_cons hA
    obtain ⟨v1, vs1, d1, ds1, p1, q1, rfl, rfl, rfl, h1, r1_⟩ := trodAll_cons r0_
    obtain ⟨v2, vs2, d2, ds2, p2, q2, rfl, rfl, rfl, h2, r2_⟩ := trodAll_cons r1_
    obtain ⟨v3, vs3, d3, ds3, p3, q3, rfl, rfl, rfl, h3, r3_⟩ := trodAll_cons r2_
    obtain ⟨v4, vs4, d4, ds4, p4, q4, rfl, rfl, rfl, h4, r4_⟩ := trodAll_cons r3_
    obtain ⟨rfl, rfl, rfl⟩ := trodAll_nil r4_
    obtain rfl : args = #[v0, v1, v2, v3, v4] := by cases args; simp_all
    obtain ⟨a0, rfl, lo0, hi0⟩ := dec_int Try.underlying3 (hval 0 3 v0 rfl rfl) h0
    obtain ⟨a1, rfl, lo1, hi1⟩ := dec_int Try.underlying3 (hval 1 3 v1 rfl rfl) h1
    obtain ⟨a2, r2, s2⟩ := dec_bytes Try.underlying30 Try.underlying5 (by kernel_rfl) (by kernel_rfl) (hval 2 30 v2 rfl rfl) h2 hsz (j := 2) rfl rfl
    obtain ⟨a3, r3, s3⟩ := dec_bytes Try.underlying30 Try.underlying5 (by kernel_rfl) (by kernel_rfl) (hval 3 30 v3 rfl rfl) h3 hsz (j := 3) rfl rfl
    obtain ⟨a4, rfl, lo4, hi4⟩ := dec_int Try.underlying3 (hval 4 3 v4 rfl rfl) h4
    exact DiskSplit_calls a0 a1 a2 a3 a4 _ _ W lo0 hi0 lo1 hi1 r2 r3 lo4 hi4

theorem DiskSplit_holds : Rows.DiskSplitSaid :=
  OpenClaim.holds_of_wide 5 Try.f5 rfl rfl rfl rfl rfl rfl rfl ⟨rfl, rfl, rfl, rfl, rfl⟩ rfl rfl rfl rfl rfl (by kernel_rfl) Try.func5 (by kernel_rfl)
    (of_decide_eq_true (by kernel_rfl)) (by unfold Func.isWrapper; first | (rw [if_pos (by decide +kernel)]; kernel_rfl) | (rw [if_neg (by decide +kernel)]; exact ⟨rfl, rfl⟩))
    (fun os started H enc _ => DiskSplit_lifted os started H enc)


end Go.Proofs.Ytkoppdhmbhgnfaa
