/- For every input DiskLate returns true: what is written later is what is read, where two writes meet, synced or not. No condition. -/
import Derived.Test.YtkoppdhmbhgnfaaDiskCol
import Derived.Test.YtkoppdhmbhgnfaaAlive04
import Derived.Test.YtkoppdhmbhgnfaaDiskBytes
import Derived.Test.YtkoppdhmbhgnfaaLift
namespace Go.Proofs.Ytkoppdhmbhgnfaa
open Go.ChangeShapes Go.WideShapes Go.ChangeAt Go.RowKit

set_option maxHeartbeats 2000000 in
theorem DiskLate_main (n : Nat) (p q : Int) (la lb : List UInt8) (u v : Value) (w : World) (hu : Rd w u (la.map B)) (hv : Rd w v (lb.map B)) (hn1 : 1 ≤ n) (hn2 : n ≤ 300) (hla : la.length ≤ 200) (hlb : lb.length ≤ 200)
    (hp0 : -9223372036854775808 ≤ p) (hp1 : p ≤ 9223372036854775807) (hq0 : -9223372036854775808 ≤ q) (hq1 : q ≤ 9223372036854775807) :
    Calls Try.prog 6 #[.int .i64 (n : Int), .int .i64 p, .int .i64 q, u, v] w fun e w' => e = .returned (.bool true) ∧ Ext w w' := by
  obtain ⟨A, c, rfl, hlc, hcm⟩ := hu.sliceN (List.length_map _)
  obtain ⟨A', c', rfl, hlc', hcm'⟩ := hv.sliceN (List.length_map _)
  unfold maxLen at hcm hcm'
  have hda : decide (200 < la.length) = false := by simp; omega
  have hdb : decide (200 < lb.length) = false := by simp; omega
  go_enter Try.func6, Try.ntmps6
  go_wp2_with fail
  refine (alive_any _).mono ?_
  rintro e w1 ⟨rfl, hx1⟩
  have C1 := Cols.first w1
  have hu1 := hu.ext hx1
  have hv1 := hv.ext hx1
  clear hu hv
  go_wp2_with fail
  refine (DkNewC C1 (i := 1) (by decide) n hn1 (by omega)).mono ?_
  rintro e w2 ⟨g, rfl, ⟨C2, d2, -⟩, -⟩
  clear C1
  generalize Cols.next _ w1 w2 1 = col2 at *
  go_wp2_with fail
  refine (DkNewC C2 (i := 2) (by decide) n hn1 (by omega)).mono ?_
  rintro e w3 ⟨r, rfl, ⟨C3, k3, hc3⟩, -⟩
  have d3 := Cols.keep (X := fun F w => Dk F w g _) (i := 2) (j := 1) Dk.chgC Dk.monoC C2 (by decide) (by decide) (by decide) hc3 d2
  clear C2 d2 hc3
  generalize Cols.next _ w2 w3 2 = col3 at *
  have hl0 : (List.replicate n (0 : UInt8), ([] : List (Nat × UInt8)), (0 : Int)).1.length = n := List.length_replicate
  have hw0 : (List.replicate n (0 : UInt8), ([] : List (Nat × UInt8)), (0 : Int)).2.1.length = 0 := rfl
  have hn0 : (List.replicate n (0 : UInt8), ([] : List (Nat × UInt8)), (0 : Int)).2.2 = 0 := rfl
  generalize (List.replicate n (0 : UInt8), ([] : List (Nat × UInt8)), (0 : Int)) = s0 at *
  have hl1 : (wrD s0 p la).1.length = n := by rw [wrD_len, hl0]
  have hw1 := wrD_waits s0 p la
  have hl2 : (wrD (wrD s0 p la) q lb).1.length = n := by rw [wrD_len, hl1]
  have hw2 := wrD_waits (wrD s0 p la) q lb
  have hls : (syD (wrD s0 p la)).1.length = n := by rw [syD_len, hl1]
  have hl3 : (wrD (syD (wrD s0 p la)) q lb).1.length = n := by rw [wrD_len, hls]
  have hw3 := wrD_waits (syD (wrD s0 p la)) q lb
  have hws : (syD (wrD s0 p la)).2.1.length = 0 := rfl
  have hnn : (wrD s0 p la).2.2 = 0 := by rw [wrD_n, hn0]
  have hrd := rdD_sync (wrD s0 p la) q lb
  have hlate := fun h => rdD_late (s := wrD s0 p la) (i := q) (l := lb) h
  rw [hl1] at hlate
  have HL0 := Lib.hid hl0
  have HL1 := Lib.hid hl1
  have HL2 := Lib.hid hl2
  have HLS := Lib.hid hls
  have HL3 := Lib.hid hl3
  have HRD := Lib.hid hrd
  have HLT := Lib.hid hlate
  have hwb0 : s0.2.1.length ≤ 1000000000 := by omega
  have hwb1 : (wrD s0 p la).2.1.length ≤ 1000000000 := by omega
  have hwb2 : (wrD (wrD s0 p la) q lb).2.1.length ≤ 1000000000 := by omega
  have hwbs : (syD (wrD s0 p la)).2.1.length ≤ 1000000000 := by omega
  have hwb3 : (wrD (syD (wrD s0 p la)) q lb).2.1.length ≤ 1000000000 := by omega
  have hna : 0 ≤ (wrD s0 p la).2.2 := by omega
  have hnb : (wrD s0 p la).2.2 ≤ 1000000000 := by omega
  clear hl0 hl1 hl2 hls hl3 hrd hlate hw0 hw1 hw2 hw3 hws hn0 hnn
  go_wp2_with fail
  refine (DkWriteC C3 (i := 1) (by decide) d3 (C3.old hu1) (C3.old_apart (by decide)) C3.old_in hp0 hp1 hwb0).mono ?_
  rintro e w4 ⟨rfl, C4, d4, hc4⟩
  have k4 := Cols.keep (X := fun F w => Dk F w r _) (i := 1) (j := 2) Dk.chgC Dk.monoC C3 (by decide) (by decide) (by decide) hc4 k3
  rw [HL0.out]
  clear C3 d3 k3 hc4
  generalize Cols.next _ w3 w4 1 = col4 at *
  go_wp2_with fail
  refine (DkWriteC C4 (i := 1) (by decide) d4 (C4.old hv1) (C4.old_apart (by decide)) C4.old_in hq0 hq1 hwb1).mono ?_
  rintro e w5 ⟨rfl, C5, d5, hc5⟩
  have k5 := Cols.keep (X := fun F w => Dk F w r _) (i := 1) (j := 2) Dk.chgC Dk.monoC C4 (by decide) (by decide) (by decide) hc5 k4
  rw [HL1.out]
  clear C4 d4 k4 hc5
  generalize Cols.next _ w4 w5 1 = col5 at *
  go_wp2_with fail
  refine (DkWriteC C5 (i := 2) (by decide) k5 (C5.old hu1) (C5.old_apart (by decide)) C5.old_in hp0 hp1 hwb0).mono ?_
  rintro e w6 ⟨rfl, C6, k6, hc6⟩
  have d6 := Cols.keep (X := fun F w => Dk F w g _) (i := 2) (j := 1) Dk.chgC Dk.monoC C5 (by decide) (by decide) (by decide) hc6 d5
  rw [HL0.out]
  clear C5 d5 k5 hc6
  generalize Cols.next _ w5 w6 2 = col6 at *
  go_wp2_with fail
  refine (DkSyncC C6 (i := 2) (by decide) k6 hwb1 hna hnb).mono ?_
  rintro e w7 ⟨rfl, C7, k7, hc7⟩
  have d7 := Cols.keep (X := fun F w => Dk F w g _) (i := 2) (j := 1) Dk.chgC Dk.monoC C6 (by decide) (by decide) (by decide) hc7 d6
  clear C6 d6 k6 hc7
  generalize Cols.next _ w6 w7 2 = col7 at *
  go_wp2_with fail
  refine (DkWriteC C7 (i := 2) (by decide) k7 (C7.old hv1) (C7.old_apart (by decide)) C7.old_in hq0 hq1 hwbs).mono ?_
  rintro e w8 ⟨rfl, C8, k8, hc8⟩
  have d8 := Cols.keep (X := fun F w => Dk F w g _) (i := 2) (j := 1) Dk.chgC Dk.monoC C7 (by decide) (by decide) (by decide) hc8 d7
  rw [HLS.out]
  clear C7 d7 k7 hc8
  generalize Cols.next _ w7 w8 2 = col8 at *
  go_wp2_with fail
  refine (d8.bytesN HL2.out hwb2).mono ?_
  rintro e w9 ⟨A9, c9, rfl, r9, -, -, g9⟩
  have C9 := C8.stepN g9.ext
  have d9 := d8.ext g9.ext
  have k9 := k8.ext g9.ext
  clear C8 d8 k8 g9
  go_wp2_with fail
  refine (k9.bytesN HL3.out hwb3).mono ?_
  rintro e w10 ⟨A10, c10, rfl, r10, -, -, g10⟩
  have C10 := C9.stepN g10.ext
  have d10 := d9.ext g10.ext
  have r9 := r9.ext g10.ext
  rw [HRD.out] at r10
  clear C9 d9 k9 g10
  go_wp2_with fail
  refine (Bytes_any (rdD (wrD (wrD s0 p la) q lb)) (rdD (wrD (wrD s0 p la) q lb)) _ _ _ r9 r10).mono ?_
  rintro e w11 ⟨rfl, n11, hw11⟩
  have hx11 := Below.drewN' (Ext.refl w10) n11
  rw [← hw11] at hx11
  have C11 := C10.stepN hx11
  have d11 := d10.ext hx11
  have b11 := (C11.old hv1).rd
  rw [decide_eq_true rfl]
  clear C10 d10 hx11 r9 r10 hw11
  by_cases he : wrE n q lb.length = 0
  · have hlt := HLT.out he
    have hok := wrE_ok he
    have HLA := Lib.hid hlt
    rw [he]
    clear hlt he
    obtain ⟨j, rfl⟩ : ∃ j : Nat, q = j := ⟨q.toNat, by omega⟩
    have hj := hok.2
    rw [Int.toNat_natCast] at hj
    go_wp2_with fail
    refine (d11.bytesN HL2.out hwb2).mono ?_
    rintro e w12 ⟨A12, c12, rfl, r12, hc1, hc2, g12⟩
    have hx := Ext.trans hx1 (C11.stepN g12.ext).ext
    have b12 := b11.ext g12.ext
    have rp := r12.cut j lb.length (by rw [List.length_map, rdD_len, HL2.out]; omega)
    rw [← List.map_drop, ← List.map_take] at rp
    have hla2 := HLA.out
    rw [Int.toNat_natCast] at hla2
    rw [hla2] at rp
    unfold maxLen at hc2
    have HP := Lib.hid rp
    clear d11 C11 g12 r12 rp hla2 b11
    by_cases hcj : c12 = j
    · have hp2 := HP.out
      rw [if_pos hcj, show c12 - j = 0 by omega] at hp2
      have HP2 := Lib.hid hp2
      clear hp2 HP
      go_wp2_with fail
      refine (Bytes_same lb _ _ _ HP2.out b12).mono ?_
      rintro e w13 ⟨rfl, n13, hw13⟩
      have hx13 := Below.drewN' (Ext.refl w12) n13
      rw [← hw13] at hx13
      have hx := Ext.trans hx hx13
      clear hx13 hw13 b12
      go_wp2
      go_ret
      exact ⟨rfl, hx⟩
    · have hp2 := HP.out
      rw [if_neg hcj] at hp2
      have HP2 := Lib.hid hp2
      clear hp2 HP
      go_wp2_with fail
      refine (Bytes_same lb _ _ _ HP2.out b12).mono ?_
      rintro e w13 ⟨rfl, n13, hw13⟩
      have hx13 := Below.drewN' (Ext.refl w12) n13
      rw [← hw13] at hx13
      have hx := Ext.trans hx hx13
      clear hx13 hw13 b12
      go_wp2
      go_ret
      exact ⟨rfl, hx⟩
  · have hne : (wrE n q lb.length == 0) = false := by rw [beq_eq_false_iff_ne]; exact he
    have hne2 : (wrE n q lb.length != 0) = true := by rw [bne, hne]; rfl
    have hx := Ext.trans hx1 C11.ext
    clear d11 C11 b11 he
    generalize wrE n q lb.length = E at *
    go_wp2
    go_ret
    exact ⟨rfl, hx⟩

theorem DiskLate_out (n p q : Int) (la lb : List UInt8) (u v : Value) (w : World) (hu : Rd w u (la.map B)) (hv : Rd w v (lb.map B))
    (h : n < 1 ∨ (1 ≤ n ∧ 300 < n) ∨ (1 ≤ n ∧ n ≤ 300 ∧ 200 < la.length) ∨ (1 ≤ n ∧ n ≤ 300 ∧ la.length ≤ 200 ∧ 200 < lb.length)) :
    Calls Try.prog 6 #[.int .i64 n, .int .i64 p, .int .i64 q, u, v] w fun e w' => e = .returned (.bool true) ∧ Ext w w' := by
  obtain ⟨A, c, rfl, hlc, hcm⟩ := hu.sliceN (List.length_map _)
  obtain ⟨A', c', rfl, hlc', hcm'⟩ := hv.sliceN (List.length_map _)
  unfold maxLen at hcm hcm'
  clear hu hv
  generalize la.length = x at *
  generalize lb.length = y at *
  have alive := alive_any w
  rcases h with h | ⟨h1, h⟩ | ⟨h1, h2, h⟩ | ⟨h1, h2, h3, h⟩
  · go_enter Try.func6, Try.ntmps6
    go_wp2_with fail
    refine alive.mono ?_
    rintro e w1 ⟨rfl, hx1⟩
    go_wp2
    go_ret
    exact ⟨rfl, hx1⟩
  · go_enter Try.func6, Try.ntmps6
    go_wp2_with fail
    refine alive.mono ?_
    rintro e w1 ⟨rfl, hx1⟩
    go_wp2
    go_ret
    exact ⟨rfl, hx1⟩
  · have hd : decide (200 < x) = true := by simp; omega
    go_enter Try.func6, Try.ntmps6
    go_wp2_with fail
    refine alive.mono ?_
    rintro e w1 ⟨rfl, hx1⟩
    go_wp2
    go_ret
    exact ⟨rfl, hx1⟩
  · have hd : decide (200 < x) = false := by simp; omega
    have hd2 : decide (200 < y) = true := by simp; omega
    go_enter Try.func6, Try.ntmps6
    go_wp2_with fail
    refine alive.mono ?_
    rintro e w1 ⟨rfl, hx1⟩
    go_wp2
    go_ret
    exact ⟨rfl, hx1⟩

theorem DiskLate_calls (n p q : Int) (la lb : List UInt8) (u v : Value) (w : World) (hp0 : -9223372036854775808 ≤ p) (hp1 : p ≤ 9223372036854775807) (hq0 : -9223372036854775808 ≤ q) (hq1 : q ≤ 9223372036854775807) (hu : Rd w u (la.map B)) (hv : Rd w v (lb.map B)) :
    Calls Try.prog 6 #[.int .i64 n, .int .i64 p, .int .i64 q, u, v] w fun e w' => e = .returned (.bool true) ∧ Ext w w' := by
  by_cases h : 1 ≤ n ∧ n ≤ 300 ∧ la.length ≤ 200 ∧ lb.length ≤ 200
  · obtain ⟨h1, h2, h3, h4⟩ := h
    obtain ⟨k, rfl⟩ : ∃ k : Nat, n = k := ⟨n.toNat, by omega⟩
    exact DiskLate_main k p q la lb u v w hu hv (by omega) (by omega) h3 h4 hp0 hp1 hq0 hq1
  · exact DiskLate_out n p q la lb u v w hu hv (by omega)

set_option maxRecDepth 100000 in
theorem DiskLate_lifted (os : Os) (started : os.Started) (H : Type) (enc : TypeId × Value → H) :
    ReturnsInHanded {} Try.checked os 6 .any (Rows.diskLateSpec.pre6 enc Try.prog Try.f6 Rows.diskLateRow.domain false) (Rows.diskLateSpec.post enc Try.prog Try.f6 false true false false) := by
  refine law_lift (C := Try.checked) (tb := 4) Try.ownKnob started (by kernel_rfl) Try.func6 Try.laidOut (by kernel_rfl) rfl Try.underlying4 rfl rfl ?_
    (ChangeSpec.witness6 (enc := enc) (C := Try.checked) false ⟨#[], #[.int .i64 0, .int .i64 0, .int .i64 0, .slice none 0 0, .slice none 0 0], []⟩ 8 (by kernel_rfl) (by kernel_rfl) (by kernel_rfl) (by kernel_rfl)) ?_
  · intro ds hd
    rw [Try.params6] at hd
    match ds, hd with
    | [d0, d1, d2, d3, d4], _ => rfl
  · intro W base args ds p hval hA hsz
    rw [Try.params6] at hA hval hsz
    obtain ⟨v0, vs0, d0, ds0, p0, q0, hargs, rfl, rfl, h0, r0_⟩ := trodAll_cons hA
    obtain ⟨v1, vs1, d1, ds1, p1, q1, rfl, rfl, rfl, h1, r1_⟩ := trodAll_cons r0_
    obtain ⟨v2, vs2, d2, ds2, p2, q2, rfl, rfl, rfl, h2, r2_⟩ := trodAll_cons r1_
    obtain ⟨v3, vs3, d3, ds3, p3, q3, rfl, rfl, rfl, h3, r3_⟩ := trodAll_cons r2_
    obtain ⟨v4, vs4, d4, ds4, p4, q4, rfl, rfl, rfl, h4, r4_⟩ := trodAll_cons r3_
    obtain ⟨rfl, rfl, rfl⟩ := trodAll_nil r4_
    obtain rfl : args = #[v0, v1, v2, v3, v4] := by cases args; simp_all
    obtain ⟨a0, rfl, lo0, hi0⟩ := dec_int Try.underlying3 (hval 0 3 v0 rfl rfl) h0
    obtain ⟨a1, rfl, lo1, hi1⟩ := dec_int Try.underlying3 (hval 1 3 v1 rfl rfl) h1
    obtain ⟨a2, rfl, lo2, hi2⟩ := dec_int Try.underlying3 (hval 2 3 v2 rfl rfl) h2
    obtain ⟨a3, r3, s3⟩ := dec_bytes Try.underlying30 Try.underlying5 (by kernel_rfl) (by kernel_rfl) (hval 3 30 v3 rfl rfl) h3 hsz (j := 3) rfl rfl
    obtain ⟨a4, r4, s4⟩ := dec_bytes Try.underlying30 Try.underlying5 (by kernel_rfl) (by kernel_rfl) (hval 4 30 v4 rfl rfl) h4 hsz (j := 4) rfl rfl
    exact DiskLate_calls a0 a1 a2 a3 a4 _ _ W lo1 hi1 lo2 hi2 r3 r4

theorem DiskLate_holds : Rows.DiskLateSaid :=
  OpenClaim.holds_of_wide 6 Try.f6 rfl rfl rfl rfl rfl rfl rfl ⟨rfl, rfl, rfl, rfl, rfl⟩ rfl rfl rfl rfl rfl (by kernel_rfl) Try.func6 (by kernel_rfl)
    (of_decide_eq_true (by kernel_rfl)) (by unfold Func.isWrapper; first | (rw [if_pos (by decide +kernel)]; kernel_rfl) | (rw [if_neg (by decide +kernel)]; exact ⟨rfl, rfl⟩))
    (fun os started H enc _ => DiskLate_lifted os started H enc)


end Go.Proofs.Ytkoppdhmbhgnfaa
