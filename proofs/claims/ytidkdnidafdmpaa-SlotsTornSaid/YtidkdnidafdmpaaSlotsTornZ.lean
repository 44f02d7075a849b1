/- For every input SlotsTorn returns true: behind any torn Starts there is the picture that there was, or, if all bytes of the frame last, the new one. No condition. -/
import Derived.Test.YtidkdnidafdmpaaSlotsTornQ8
import Derived.Deep.LoopGhost
namespace Go.Proofs.Ytidkdnidafdmpaa
open Go.ChangeShapes Go.WideShapes Go.ChangeAt Go.RowKit

theorem Blk.chg6 {F : Fp} {w w' : World} {g : Nat} {t : TypeId} {cs : Array Value} (h : Blk w g t cs) (hc : Chg F w w') (hg : ¬ F g) : Blk w' g t cs := (hc.block g h.lt hg).trans h
def ageL : Pic → Int
  | none => 0
  | some x => (x.2 : Int)
theorem torn_no (f z : Nat) {s : DkS} {p : List UInt8} {age : Int} (h : stE s f z p age ≠ 0) : ∃ E, stE s f z p age = E ∧ (E != 0) = true ∧ stS s f z p age = s :=
  ⟨_, rfl, by rw [bne_iff_ne]; exact h, by rw [stS, if_neg h]⟩
theorem torn_yes (f z N k : Nat) {s : DkS} {p : List UInt8} {age : Int} (hN : f + 2 * z ≤ N) (hz : z ≤ 60000) (hsl : s.1.length = N) (hn0 : 0 ≤ s.2.2) (hn1 : s.2.2 ≤ k) (he : stE s f z p age = 0) :
    ∃ (s1 : DkS) (n a : Nat), stS s f z p age = s1 ∧ age = (a : Int) ∧ s1.1.length = N ∧ s1.2.1.length = n ∧ n ≤ 60000 ∧
      ∀ K : Int, ∃ s2, crD s1 K = s2 ∧ s2.1.length = N ∧ s2.2.1.length ≤ 0 ∧ 0 ≤ s2.2.2 ∧ s2.2.2 ≤ ((k + 1 : Nat) : Int) ∧ loadD s2 f z = if (n : Int) ≤ K then some (p, a) else loadD s f z := by
  obtain ⟨a0, a1, a2, a3, a4, a5⟩ := stE_yes he
  have hc := fun K => stS_crash (by rw [hsl]; exact hN) he K
  have hlen := stS_len s f z p age
  have hnn := stS_n s f z p age
  have hw : (stS s f z p age).2.1.length = (frP age p).length := by rw [stS, if_pos he]; exact stD_waitsN (by rw [hsl]; exact hN) he
  generalize stS s f z p age = s1 at *
  refine ⟨s1, (frP age p).length, age.toNat, rfl, by omega, by omega, hw, by omega, fun K => ⟨_, rfl, by rw [crD_len, hlen, hsl], Nat.le_refl _, ?_, ?_, hc K⟩⟩
  · show 0 ≤ s1.2.2
    omega
  · show s1.2.2 ≤ _
    omega

/-- How far it has come. -/
def TornS (w1 : World) (g k : Nat) (sv ev lv av tv : Value) (wr : World) (h : Nat) (s : DkS) (F : Fp) (P : Pic) (a : Int) (t : Bool) : Prop :=
  sv = .pointer (some ⟨h, 0, none⟩) ∧ ev = .int .i64 0 ∧ av = .int .i64 a ∧ tv = .bool t ∧ a = ageL P ∧ t = P.isSome ∧ Rd w1 lv ((bytP P).map B) ∧
    SlW w1 wr h g s 8 300 F ∧ s.1.length = 800 ∧ s.2.1.length ≤ 0 ∧ 0 ≤ s.2.2 ∧ s.2.2 ≤ k ∧ loadD s 8 300 = P

set_option maxRecDepth 100000 in
set_option maxHeartbeats 4000000 in
theorem SlotsTorn_main (l : List Act3) (v : Value) (w : World) (hr : RdActs3 w v l) (hf : fewS l = true) :
    Calls Try.prog 4 #[v] w fun e w' => e = .returned (.bool true) ∧ Ext w w' := by
  obtain ⟨A, c, rfl, hlc, hcm⟩ := hr.slice_
  obtain ⟨hl40, hl200⟩ := fewS_yes hf
  go_enter Try.func4, Try.ntmps4
  go_wp2_with fail
  refine (alive6_any w).mono ?_
  rintro e w1 ⟨rfl, hx1⟩
  have hr1 := hr.ext hx1
  go_wp2_with fail
  refine (fewS_any l _ _ hr1).mono ?_
  rintro e w1' ⟨rfl, rfl⟩
  rw [hf]
  go_wp2_with fail
  refine (DsW.new (Ext.refl w1) 800 (by decide) (by decide)).mono ?_
  rintro e w2 ⟨g, rfl, hd2, -⟩
  obtain ⟨s0, hs0⟩ : ∃ s0 : DkS, s0 = (List.replicate 800 0, [], 0) := ⟨_, rfl⟩
  have hl0 := new_load (f := 8) (z := 300) hs0 (by omega)
  have hsl : s0.1.length = 800 := by rw [hs0, List.length_replicate]
  have hsw : s0.2.1.length ≤ 0 := by rw [hs0]; exact Nat.le_refl _
  have hsn : s0.2.2 = 0 := by rw [hs0]
  rw [← hs0] at hd2
  have HS := Lib.hid (And.intro hsl (And.intro hsw (And.intro hsn hl0)))
  have HD2 := Lib.hid hd2
  clear hd2 hs0 hl0 hsl hsw hsn
  go_wp2_with fail
  refine (HD2.out.open_ (f := 8) (z := 300) (by rw [HS.out.1]; omega) (by omega)).mono ?_
  rintro e w3 ⟨h, rfl, hl3, -⟩
  have HL3 := Lib.hid hl3
  clear hl3 HD2
  generalize (Fp.since _ w2 w3) = F3 at *
  go_wp2
  go_loopg [4, 5, 6, 7, 8, 9] l.length (fun gg sv ev lv av tv i wr => ∃ k : Nat, i = .int .i64 k ∧ k ≤ l.length ∧ gg = l.length - k ∧ ∃ h s F P a t, TornS w1 g k sv ev lv av tv wr h s F P a t)
  case atStart => exact ⟨0, rfl, Nat.zero_le _, rfl, h, s0, F3, none, 0, false, rfl, rfl, rfl, rfl, rfl, rfl, Rd.nil _, HL3.out, HS.out.1, HS.out.2.1, by rw [HS.out.2.2.1]; omega, by rw [HS.out.2.2.1]; omega, HS.out.2.2.2⟩
  case round =>
    obtain ⟨k, rfl, hk, rfl, h, s, F, P, av, tv, rfl, rfl, rfl, rfl, hav, htv, hlast, hlg, hsl, hsw, hn0, hn1, hld⟩ := hrel
    obtain ⟨Al, cl, rfl, _, _⟩ := hlast.sliceN (List.length_map _)
    by_cases hlt : k < l.length
    · obtain ⟨b, o, rfl, hb, hcl⟩ := hr1.get (by omega)
      obtain ⟨e0, e1, e2, b0, b1, b2, u, e3, hu⟩ := hcl k _ (List.getElem?_eq_getElem hlt)
      have hp200 := hl200 l[k] (List.getElem_mem hlt)
      generalize l[k] = x at *
      obtain ⟨kind, keep, age, p⟩ := x
      dsimp only at hu e0 e1 e2 b0 b1 b2 hp200
      have d0 : wr.cell? ⟨b, o + k * 4, none⟩ = some (.int .i64 kind) := hlg.2.2.cellOf e0 hb
      have d1 : wr.cell? ⟨b, o + k * 4 + 1, none⟩ = some (.int .i64 keep) := hlg.2.2.cellOf e1 hb
      have d2 : wr.cell? ⟨b, o + k * 4 + 2, none⟩ = some (.int .i64 age) := hlg.2.2.cellOf e2 hb
      have d3 : wr.cell? ⟨b, o + k * 4 + 3, none⟩ = some u := hlg.2.2.cellOf e3 hb
      obtain ⟨Au, cu, rfl, hcu, hcmu⟩ := hu.sliceN (List.length_map _)
      unfold maxLen at hcmu
      have hE : Ext wr (wr.alloc (.cells #[.int .i64 kind, .int .i64 keep, .int .i64 age, .slice Au p.length cu] 41)) := (Below.refl _ _).alloc (Nat.le_refl _) _
      have hB : Blk (wr.alloc (.cells #[.int .i64 kind, .int .i64 keep, .int .i64 age, .slice Au p.length cu] 41)) wr.heap.size 41 #[.int .i64 kind, .int .i64 keep, .int .i64 age, .slice Au p.length cu] := Blk.new _ _ _
      have hnF : ¬ F wr.heap.size := fun hF => by have := hlg.1.isIn _ hF; omega
      have HBB := Lib.hid (And.intro b0 (And.intro b1 b2))
      have HU := Lib.hid hu
      have HPV := Lib.hid (And.intro hav (And.intro htv (And.intro hlast hld)))
      have hst := (hlg.ext hE).start (p := p) (age := age) hu (by rw [hsl]; omega) (by omega) (by omega) hn0 (by omega) (by omega) b2.1 b2.2
      clear hcl e0 e1 e2 e3 b0 b1 b2 hu hav htv hlast
      by_cases he : stE s 8 300 p age = 0
      · obtain ⟨s1, n, a, t1, rfl, t3, t4, t5, t6⟩ := torn_yes 8 300 800 k (p := p) (by omega) (by omega) hsl hn0 hn1 he
        rw [he, t1] at hst
        have HST := Lib.hid hst
        have HT := Lib.hid (And.intro t3 (And.intro t4 (And.intro t5 t6)))
        have HW : Hid (∀ k, F k → w1.heap.size ≤ k) := Lib.hid hlg.2.1
        have HNF := Lib.hid hnF
        have HB := Lib.hid hB
        have hn5 : n ≤ 60000 := t5
        clear hlg hsl hsw hn0 hn1 hst t1 t3 t4 t5 t6 he hE hB hnF hld
        go_wp2_with fail
        have f2 := HB.out.cell 2
        have f3 := HB.out.cell 3
        generalize wr.alloc _ = wa at *
        generalize wr.heap.size = ix at *
        simp only [List.getElem?_toArray, List.getElem?_cons_succ, List.getElem?_cons_zero] at f2 f3
        refine HST.out.mono ?_
        rintro e w4 ⟨rfl, hl4, hc4⟩
        have hB4 := HB.out.chg6 hc4 HNF.out
        have hnF4 : ¬ (F.since wa w4) ix := nsinceS HNF.out HB.out.lt
        have hdw := DkWaits _ g s1 w4 hl4.1.dk (by rw [HT.out.2.1]; omega)
        rw [HT.out.2.1] at hdw
        have HL4 := Lib.hid hl4
        have HB4 := Lib.hid hB4
        have HNF4 := Lib.hid hnF4
        have HDW := Lib.hid hdw
        clear hl4 hc4 hB4 hnF4 hdw f2 f3 HB HNF HST d0 d1 d2 d3
        generalize (F.since wa w4) = F4 at *
        go_wp2_with fail
        refine HDW.out.mono ?_
        rintro e w5 ⟨rfl, hx5⟩
        have hB5 := HB4.out.ext hx5
        have f0 : w5.cell? ⟨ix, 0, none⟩ = some (.int .i64 kind) := hB5.cell 0
        have f1 : w5.cell? ⟨ix, 1, none⟩ = some (.int .i64 keep) := hB5.cell 1
        have HL5 := Lib.hid (HL4.out.ext hx5)
        have HB5 := Lib.hid hB5
        clear hB5 hx5 HL4 HB4 HDW
        by_cases hk0 : kind = 0
        · subst hk0
          have hnn : decide ((n : Int) ≤ (n : Int)) = true := by simp
          obtain ⟨s2, q1, q2, q3, q4, q5, q6⟩ := HT.out.2.2.2 (n : Int)
          rw [if_pos (Int.le_refl _)] at q6
          have HQ := Lib.hid (And.intro q2 (And.intro q3 (And.intro q4 (And.intro q5 q6))))
          have hcr := HL5.out.crash (n : Int) (by omega) (by omega) (by rw [HT.out.2.1]; omega)
          rw [q1] at hcr
          have HCR := Lib.hid hcr
          clear hcr q1 q2 q3 q4 q5 q6
          go_wp2_with fail
          refine HCR.out.mono ?_
          rintro e w6 ⟨rfl, hl6, hc6⟩
          have hB6 := HB5.out.chg6 hc6 HNF4.out
          have f2 : w6.cell? ⟨ix, 2, none⟩ = some (.int .i64 (a : Int)) := hB6.cell 2
          have f3 : w6.cell? ⟨ix, 3, none⟩ = some (.slice Au p.length cu) := hB6.cell 3
          have HL6 := Lib.hid hl6
          clear hl6 hc6 hB6 HCR f0 f1 HB5
          generalize (F4.since w5 w6) = F6 at *
          go_wp2_with fail
          refine (HL6.out.dsW.open_ (f := 8) (z := 300) (by rw [HQ.out.1]; omega) (by omega)).mono ?_
          rintro e w7 ⟨h7, rfl, hl7, -⟩
          have HL7 := Lib.hid hl7
          clear hl7 HL6 f2 f3
          generalize (F6.since w6 w7) = F7 at *
          go_wp2_with fail
          refine (HL7.out.load (by rw [HQ.out.1]; omega) (by omega) (Nat.le_trans HQ.out.2.1 (by decide))).mono ?_
          rintro e w8 ⟨⟨v8, he8, hr8, -⟩, hl8⟩
          rw [HQ.out.2.2.2.2] at he8 hr8
          obtain rfl := he8
          have hr8 : Rd w8 v8 (p.map B) := hr8
          have hq8 : Rd w8 (.slice Au p.length cu) (p.map B) := HU.out.ext hl8.2.2
          obtain ⟨A8, c8, rfl, _, _⟩ := hr8.sliceN (List.length_map _)
          have HL8 := Lib.hid hl8
          have HR8 := Lib.hid hr8
          have HQ8 := Lib.hid hq8
          clear hl8 hr8 hq8 HL7
          go_wp2_with fail
          refine (Bytes_same p _ _ w8 HR8.out HQ8.out).mono ?_
          rintro e w9 ⟨rfl, n9, rfl⟩
          have HL9 := Lib.hid (HL8.out.ext (Below.drewN' (Ext.refl w8) n9))
          clear HL8 HR8 HQ8
          go_wp2
          go_roundg (l.length - (k + 1))
          case measure => omega
          case rel =>
            obtain ⟨q2, q3, q4, q5, q6⟩ := HQ.out
            exact ⟨k + 1, by go_num, by omega, rfl, h7, s2, _, some (p, a), (a : Int), true, rfl, rfl, rfl, rfl, rfl, rfl, HU.out, HL9.out, q2, q3, q4, q5, q6⟩
        · have hkb : (kind == 0) = false := by rw [beq_eq_false_iff_ne]; exact hk0
          by_cases hkn : (n : Int) ≤ keep
          · have hnd : decide ((n : Int) ≤ keep) = true := decide_eq_true hkn
            obtain ⟨s2, q1, q2, q3, q4, q5, q6⟩ := HT.out.2.2.2 keep
            rw [if_pos hkn] at q6
            have HQ := Lib.hid (And.intro q2 (And.intro q3 (And.intro q4 (And.intro q5 q6))))
            have hcr := HL5.out.crash keep HBB.out.2.1.1 HBB.out.2.1.2 (by rw [HT.out.2.1]; omega)
            rw [q1] at hcr
            have HCR := Lib.hid hcr
            clear hcr q1 q2 q3 q4 q5 q6
            go_wp2_with fail
            refine HCR.out.mono ?_
            rintro e w6 ⟨rfl, hl6, hc6⟩
            have hB6 := HB5.out.chg6 hc6 HNF4.out
            have f2 : w6.cell? ⟨ix, 2, none⟩ = some (.int .i64 (a : Int)) := hB6.cell 2
            have f3 : w6.cell? ⟨ix, 3, none⟩ = some (.slice Au p.length cu) := hB6.cell 3
            have HL6 := Lib.hid hl6
            clear hl6 hc6 hB6 HCR f0 f1 HB5
            generalize (F4.since w5 w6) = F6 at *
            go_wp2_with fail
            refine (HL6.out.dsW.open_ (f := 8) (z := 300) (by rw [HQ.out.1]; omega) (by omega)).mono ?_
            rintro e w7 ⟨h7, rfl, hl7, -⟩
            have HL7 := Lib.hid hl7
            clear hl7 HL6 f2 f3
            generalize (F6.since w6 w7) = F7 at *
            go_wp2_with fail
            refine (HL7.out.load (by rw [HQ.out.1]; omega) (by omega) (Nat.le_trans HQ.out.2.1 (by decide))).mono ?_
            rintro e w8 ⟨⟨v8, he8, hr8, -⟩, hl8⟩
            rw [HQ.out.2.2.2.2] at he8 hr8
            obtain rfl := he8
            have hr8 : Rd w8 v8 (p.map B) := hr8
            have hq8 : Rd w8 (.slice Au p.length cu) (p.map B) := HU.out.ext hl8.2.2
            obtain ⟨A8, c8, rfl, _, _⟩ := hr8.sliceN (List.length_map _)
            have HL8 := Lib.hid hl8
            have HR8 := Lib.hid hr8
            have HQ8 := Lib.hid hq8
            clear hl8 hr8 hq8 HL7
            go_wp2_with fail
            refine (Bytes_same p _ _ w8 HR8.out HQ8.out).mono ?_
            rintro e w9 ⟨rfl, n9, rfl⟩
            have HL9 := Lib.hid (HL8.out.ext (Below.drewN' (Ext.refl w8) n9))
            clear HL8 HR8 HQ8
            go_wp2
            go_roundg (l.length - (k + 1))
            case measure => omega
            case rel =>
              obtain ⟨q2, q3, q4, q5, q6⟩ := HQ.out
              exact ⟨k + 1, by go_num, by omega, rfl, h7, s2, _, some (p, a), (a : Int), true, rfl, rfl, rfl, rfl, rfl, rfl, HU.out, HL9.out, q2, q3, q4, q5, q6⟩
          · have hnd : decide ((n : Int) ≤ keep) = false := decide_eq_false hkn
            obtain ⟨s2, q1, q2, q3, q4, q5, q6⟩ := HT.out.2.2.2 keep
            rw [if_neg hkn, HPV.out.2.2.2] at q6
            have HQ := Lib.hid (And.intro q2 (And.intro q3 (And.intro q4 (And.intro q5 q6))))
            have hcr := HL5.out.crash keep HBB.out.2.1.1 HBB.out.2.1.2 (by rw [HT.out.2.1]; omega)
            rw [q1] at hcr
            have HCR := Lib.hid hcr
            clear hcr q1 q2 q3 q4 q5 q6
            go_wp2_with fail
            refine HCR.out.mono ?_
            rintro e w6 ⟨rfl, hl6, hc6⟩
            have hB6 := HB5.out.chg6 hc6 HNF4.out
            have f2 : w6.cell? ⟨ix, 2, none⟩ = some (.int .i64 (a : Int)) := hB6.cell 2
            have f3 : w6.cell? ⟨ix, 3, none⟩ = some (.slice Au p.length cu) := hB6.cell 3
            have HL6 := Lib.hid hl6
            clear hl6 hc6 hB6 HCR f0 f1 HB5
            generalize (F4.since w5 w6) = F6 at *
            go_wp2_with fail
            refine (HL6.out.dsW.open_ (f := 8) (z := 300) (by rw [HQ.out.1]; omega) (by omega)).mono ?_
            rintro e w7 ⟨h7, rfl, hl7, -⟩
            have HL7 := Lib.hid hl7
            clear hl7 HL6 f2 f3
            generalize (F6.since w6 w7) = F7 at *
            go_wp2_with fail
            refine (HL7.out.load (by rw [HQ.out.1]; omega) (by omega) (Nat.le_trans HQ.out.2.1 (by decide))).mono ?_
            rintro e w8 ⟨⟨v8, he8, hr8, -⟩, hl8⟩
            rw [HQ.out.2.2.2.2] at he8 hr8
            have he8 : e = .returned (.tuple #[v8, .int .i64 (ageL P), .bool P.isSome]) := by rw [he8]; clear he8 hr8 HPV HQ HBB HU; cases P <;> rfl
            rw [← HPV.out.1, ← HPV.out.2.1] at he8
            obtain rfl := he8
            have hq8 := HPV.out.2.2.1.ext hl8.2.2
            have hbb : (tv != tv) = false := by simp
            obtain ⟨A8, c8, rfl, _, _⟩ := hr8.sliceN (List.length_map _)
            have HL8 := Lib.hid hl8
            have HR8 := Lib.hid hr8
            have HQ8 := Lib.hid hq8
            clear hl8 hr8 hq8 HL7
            go_wp2_with fail
            refine (Bytes_same (bytP P) _ _ w8 HR8.out HQ8.out).mono ?_
            rintro e w9 ⟨rfl, n9, rfl⟩
            have HL9 := Lib.hid (HL8.out.ext (Below.drewN' (Ext.refl w8) n9))
            clear HL8 HR8 HQ8
            go_wp2
            go_roundg (l.length - (k + 1))
            case measure => omega
            case rel =>
              obtain ⟨q2, q3, q4, q5, q6⟩ := HQ.out
              exact ⟨k + 1, by go_num, by omega, rfl, h7, s2, _, P, av, tv, rfl, rfl, rfl, rfl, HPV.out.1, HPV.out.2.1, HPV.out.2.2.1, HL9.out, q2, q3, q4, q5, q6⟩
      · obtain ⟨E, t1, t2, t3⟩ := torn_no 8 300 he
        rw [t1, t3] at hst
        have HST := Lib.hid hst
        have HI := Lib.hid (And.intro hsl (And.intro hsw (And.intro hn0 (And.intro hn1 hld))))
        have HB := Lib.hid hB
        clear hlg hsl hsw hn0 hn1 hst t1 t3 he hE hB hnF hld
        go_wp2_with fail
        have f2 := HB.out.cell 2
        have f3 := HB.out.cell 3
        generalize wr.alloc _ = wa at *
        generalize wr.heap.size = ix at *
        simp only [List.getElem?_toArray, List.getElem?_cons_succ, List.getElem?_cons_zero] at f2 f3
        refine HST.out.mono ?_
        rintro e w4 ⟨rfl, hl4, -⟩
        have HL4 := Lib.hid hl4
        clear hl4 f2 f3 HB HST d0 d1 d2 d3
        go_wp2
        go_roundg (l.length - (k + 1))
        case measure => omega
        case rel =>
          obtain ⟨hsl, hsw, hn0, hn1, hld⟩ := HI.out
          obtain ⟨hav, htv, hlast, _⟩ := HPV.out
          exact ⟨k + 1, by go_num, by omega, rfl, h, s, _, P, av, tv, rfl, rfl, rfl, rfl, hav, htv, hlast, HL4.out, hsl, hsw, hn0, by omega, hld⟩
    · obtain rfl : k = l.length := by omega
      have hx := hx1.trans hlg.2.2
      clear hlg hsl hsw hn0 hn1 hld hav htv hlast
      go_wp2
      go_ret
      exact ⟨rfl, hx⟩

theorem SlotsTorn_calls (l : List Act3) (v : Value) (w : World) (hr : RdActs3 w v l) :
    Calls Try.prog 4 #[v] w fun e w' => e = .returned (.bool true) ∧ Ext w w' := by
  cases hf : fewS l with
  | true => exact SlotsTorn_main l v w hr hf
  | false =>
    have HF := Lib.hid hf
    clear hf
    go_enter Try.func4, Try.ntmps4
    go_wp2_with fail
    refine (alive6_any w).mono ?_
    rintro e w1 ⟨rfl, hx1⟩
    go_wp2_with fail
    refine (fewS_any l _ _ (hr.ext hx1)).mono ?_
    rintro e w1' ⟨rfl, rfl⟩
    rw [HF.out]
    go_wp2
    go_ret
    exact ⟨rfl, hx1⟩

set_option maxRecDepth 100000 in
theorem SlotsTorn_lifted (os : Os) (started : os.Started) (H : Type) (enc : TypeId × Value → H) :
    ReturnsInHanded {} Try.checked os 4 .any (Rows.slotsTornSpec.pre6 enc Try.prog Try.f4 Rows.slotsTornRow.domain false) (Rows.slotsTornSpec.post enc Try.prog Try.f4 false true false false) := by
  refine law_lift (C := Try.checked) (tb := 4) Try.ownKnob started (by kernel_rfl) Try.func4 Try.laidOut (by kernel_rfl) rfl Try.underlying4 rfl rfl ?_
    (ChangeSpec.witness6 (enc := enc) (C := Try.checked) false ⟨#[], #[.slice none 0 0], []⟩ 8 (by kernel_rfl) (by kernel_rfl) (by kernel_rfl) (by kernel_rfl)) ?_
  · intro ds hd
    rw [Try.params4] at hd
    match ds, hd with
    | [d0], _ => rfl
  · intro W base args ds p hval hA hsz
    rw [Try.params4] at hA hval hsz
    obtain ⟨v0, vs0, d0, ds0, p0, q0, hargs, rfl, rfl, h0, r0_⟩ := trodAll_cons hA
    obtain ⟨rfl, rfl, rfl⟩ := trodAll_nil r0_
    obtain rfl : args = #[v0] := by cases args; simp_all
    obtain ⟨a0, r0⟩ := dec_acts3 Try.underlying22 Try.underlying41 (by kernel_rfl) (by kernel_rfl) rfl rfl rfl rfl rfl Try.underlying3 Try.underlying3 Try.underlying3 Try.underlying36 Try.underlying5 (by kernel_rfl) (hval 0 22 v0 rfl rfl) h0
    exact SlotsTorn_calls a0 _ W r0

theorem SlotsTorn_holds : Rows.SlotsTornSaid :=
  OpenClaim.holds_of_wide 4 Try.f4 rfl rfl rfl rfl rfl rfl rfl ⟨rfl, rfl, rfl, rfl, rfl⟩ rfl rfl rfl rfl rfl (by kernel_rfl) Try.func4 (by kernel_rfl)
    (of_decide_eq_true (by kernel_rfl)) (by unfold Func.isWrapper; first | (rw [if_pos (by decide +kernel)]; kernel_rfl) | (rw [if_neg (by decide +kernel)]; exact ⟨rfl, rfl⟩))
    (fun os started H enc _ => SlotsTorn_lifted os started H enc)

end Go.Proofs.Ytidkdnidafdmpaa
