/- Layer 4, the statements: may acts be looked at; an act, of both disks. -/
import Derived.Test.YtkoppdhmbhgnfaaDiskCol
import Derived.Test.YtkoppdhmbhgnfaaActs
import Derived.Deep.RegionHeld3
import Derived.Outline
namespace Go.Proofs.Ytkoppdhmbhgnfaa
open Go.RowKit

def fewB (l : List ActS) : Bool := decide (l.length ≤ 60) && l.all (fun x => decide (x.2.2.length ≤ 300))

theorem RdActs.slice_ {w : World} {v : Value} {l : List ActS} (h : RdActs w v l) : ∃ A c, v = .slice A l.length c ∧ l.length ≤ c ∧ c ≤ 9223372036854775807 := by
  obtain ⟨A, c, e, h1, h2, _⟩ := h
  exact ⟨A, c, e, h1, by unfold maxLen at h2; omega⟩
theorem RdActs.get {w : World} {A : Option Addr} {n c : Nat} {l : List ActS} (h : RdActs w (.slice A n c) l) (hn : 0 < l.length) : ∃ b o, A = some ⟨b, o, none⟩ ∧ b < w.heap.size ∧
    ∀ j x, l[j]? = some x → w.cell? ⟨b, o + j * 3, none⟩ = some (I x.1) ∧ w.cell? ⟨b, o + (j * 3 + 1), none⟩ = some (I x.2.1) ∧ (-9223372036854775808 ≤ x.1 ∧ x.1 ≤ 9223372036854775807) ∧ (-9223372036854775808 ≤ x.2.1 ∧ x.2.1 ≤ 9223372036854775807) ∧
      ∃ u, w.cell? ⟨b, o + (j * 3 + 2), none⟩ = some u ∧ Rd w u (x.2.2.map B) := by
  obtain ⟨A', c', e, _, _, h3⟩ := h
  cases e
  exact h3 hn

theorem few_any (l : List ActS) (v : Value) (w : World) (hr : RdActs w v l) : Calls Try.prog 8 #[v] w fun e w' => e = .returned (.bool (fewB l)) ∧ w = w' := by
  obtain ⟨A, c, rfl, hlc, hcm⟩ := hr.slice_
  by_cases h60 : l.length ≤ 60
  · go_enter Try.func8, Try.ntmps8
    go_wp2
    go_loop [3] (fun i => ∃ k : Nat, i = .int .i64 k ∧ k ≤ l.length ∧ Hid ((l.take k).all (fun x => decide (x.2.2.length ≤ 300)) = true)) (fun i => l.length - (intOf i).toNat)
    case atStart => exact ⟨0, rfl, Nat.zero_le _, Lib.hid rfl⟩
    case round =>
      obtain ⟨k, rfl, hk, HA⟩ := hrel
      by_cases hlt : k < l.length
      · obtain ⟨b, o, rfl, hb, hc⟩ := hr.get (by omega)
        obtain ⟨_, _, _, _, u, hu, hru⟩ := hc k l[k] (List.getElem?_eq_getElem hlt)
        rw [← Nat.add_assoc] at hu
        obtain ⟨A1, c1, rfl, _, _⟩ := hru.sliceN (List.length_map _)
        have hs : l.take (k + 1) = l.take k ++ [l[k]] := List.take_succ_eq_append_getElem hlt
        have hall2 : l[k].2.2.length ≤ 300 → (l.take (k + 1)).all (fun x => decide (x.2.2.length ≤ 300)) = true := fun h => by
          rw [hs, List.all_append, HA.out]
          simpa using h
        have hno : 300 < l[k].2.2.length → fewB l = false := fun h => by
          rw [fewB, Bool.and_eq_false_iff]
          refine .inr ?_
          rw [List.all_eq_false]
          exact ⟨l[k], List.getElem_mem hlt, by simpa using h⟩
        have H2 := Lib.hid hall2
        have HN := Lib.hid hno
        clear hall2 hno hs hc
        generalize l[k].2.2.length = m at *
        by_cases hm : m ≤ 300
        · have hmd : decide (300 < m) = false := by simp; omega
          have H3 := Lib.hid (H2.out hm)
          clear H2 HN
          go_wp2
          go_round
          case rel => exact ⟨k + 1, by go_num, by omega, H3⟩
          case measure => simp [intOf]; omega
        · have H3 := Lib.hid (HN.out (by omega))
          have hmd : decide (300 < m) = true := by simp; omega
          clear H2 HN
          go_wp2
          go_ret
          exact ⟨by rw [H3.out]; rfl, rfl⟩
      · obtain rfl : k = l.length := by omega
        have hf : fewB l = true := by
          have := HA.out
          rw [List.take_length] at this
          rw [fewB, this, decide_eq_true h60]
          rfl
        have HF := Lib.hid hf
        clear hf HA
        go_wp2
        go_ret
        exact ⟨by rw [HF.out]; rfl, rfl⟩
  · have hf : fewB l = false := by rw [fewB, decide_eq_false h60]; rfl
    have HF := Lib.hid hf
    have hd : decide (60 < l.length) = true := by simp; omega
    clear hf
    go_enter Try.func8, Try.ntmps8
    go_wp2
    go_ret
    exact ⟨by rw [HF.out]; rfl, rfl⟩

theorem Ext.drew1 (w : World) : Ext w w.drew := ⟨rfl, rfl, rfl, Nat.le_refl _, fun _ _ => rfl⟩
theorem Blk.chg {F : Fp} {w w' : World} {g : Nat} {t : TypeId} {cs : Array Value} (h : Blk w g t cs) (hc : Chg F w w') (hg : ¬ F g) : Blk w' g t cs := (hc.block g h.lt hg).trans h

/-- What an act leaves: both disks as the document says. -/
def DoPost (w0 : World) (g r : Nat) (s : DkS) (e : Ending) (w' : World) : Prop :=
  e = .returned (.bool true) ∧ ∃ col, Cols w0 w' col ∧ Dk (Fp.of col 1) w' g s ∧ Rk (Fp.of col 2) w' r s

set_option maxHeartbeats 1000000 in
theorem do_write (w0 w : World) (col : Nat → Nat) (g r : Nat) (s : DkS) (a : Int) (l : List UInt8) (A : Option Addr) (c : Nat) (C : Cols w0 w col) (hd : Dk (Fp.of col 1) w g s) (hk : Rk (Fp.of col 2) w r s) (hr : Rd w0 (.slice A l.length c) (l.map B))
    (h0 : -9223372036854775808 ≤ a) (h1 : a ≤ 9223372036854775807) (hb : s.1.length ≤ 65536) (hw : s.2.1.length ≤ 1000000000) :
    Calls Try.prog 18 #[.pointer (some ⟨g, 0, none⟩), .pointer (some ⟨r, 0, none⟩), .agg #[.int .i64 0, .int .i64 a, .slice A l.length c]] w (DoPost w0 g r (acD s (0, a, l))) := by
  go_enter Try.func18, Try.ntmps18
  go_wp2_with fail
  have hE : Ext w (w.alloc (.cells #[.int .i64 0, .int .i64 a, .slice A l.length c] 37)) := (Below.refl _ _).alloc (Nat.le_refl _) _
  have hE1 := Ext.trans hE (Ext.drew1 _)
  have Cd := C.stepN hE1
  have dd := hd.ext hE1
  have kd := hk.ext hE1
  have hold := Cd.old hr
  have hbx := Blk.new w 37 #[.int .i64 0, .int .i64 a, .slice A l.length c]
  have hb1 := hbx.ext (Ext.drew1 _)
  have hcol : ∀ i, i ≠ 0 → ¬ col w.heap.size = i := fun i hi he => absurd (C.isIn w.heap.size (by rw [he]; exact hi)) (Nat.lt_irrefl _)
  have c1 := hbx.cell 1
  have c2 := hbx.cell 2
  simp only [List.getElem?_toArray, List.getElem?_cons_succ, List.getElem?_cons_zero] at c1 c2
  have HCOL := Lib.hid hcol
  have hn2 : ∀ w2 : World, ¬ Fp.of (Cols.next col (w.alloc (.cells #[.int .i64 0, .int .i64 a, .slice A l.length c] 37)).drew w2 1) 2 w.heap.size := fun w2 he => by
    have he : Cols.next col _ w2 1 w.heap.size = 2 := he
    unfold Cols.next at he
    split at he
    · omega
    · exact hcol 2 (by decide) he
  have HN2 := Lib.hid hn2
  clear hE hE1 C hd hk hbx hcol hn2
  generalize w.heap.size = gb at *
  generalize w.alloc _ = wb at *
  go_region_held3 (fun w' => w'.cell? ⟨gb, 1, none⟩ = some (.int .i64 a) ∧ w'.cell? ⟨gb, 2, none⟩ = some (.slice A l.length c)) (first | go_keep | (exact ⟨c13, c23⟩) | (exact ⟨c12, c22⟩)) (first | (go_at_call 12; (with_reducible refine (DkWriteC Cd (i := 1) (by decide) dd hold (Cd.old_apart (by decide)) Cd.old_in h0 h1 hw).mono ?_); rintro e w2 ⟨rfl, C2, d2, hc2⟩; have k2 := Cols.keep (X := fun F w => Rk F w r s) (i := 1) (j := 2) Rk.chgC Rk.monoC Cd (by decide) (by decide) (by decide) hc2 kd; have hold2 := C2.old hr; have hb2 := hb1.chg hc2 (HCOL.out 1 (by decide)); have c12 := hb2.cell 1; have c22 := hb2.cell 2; simp only [List.getElem?_toArray, List.getElem?_cons_succ, List.getElem?_cons_zero] at c12 c22) | (go_at_call 26; (with_reducible refine (RkWriteC C2 (i := 2) (by decide) k2 hold2 (C2.old_apart (by decide)) C2.old_in hb hw).mono ?_); rintro e w3 ⟨rfl, C3, k3, hc3⟩; have d3 := Cols.keep (X := fun F w => Dk F w g _) (i := 2) (j := 1) Dk.chgC Dk.monoC C2 (by decide) (by decide) (by decide) hc3 d2; have hb3 := hb2.chg hc3 (HN2.out w2); have c13 := hb3.cell 1; have c23 := hb3.cell 2; simp only [List.getElem?_toArray, List.getElem?_cons_succ, List.getElem?_cons_zero] at c13 c23))
  all_goals
    clear C2 d2 k2 hold2 hb2 c12 c22 hb3 c13 c23 hc2 hc3 Cd dd kd hold hb1 c1 c2
    go_wp2
    go_ret
    refine ⟨by simp, _, C3, ?_, ?_⟩
    · exact d3
    · exact k3

set_option maxHeartbeats 1000000 in
theorem do_sync (w0 w : World) (col : Nat → Nat) (g r : Nat) (s : DkS) (a : Int) (l : List UInt8) (A : Option Addr) (c : Nat) (C : Cols w0 w col) (hd : Dk (Fp.of col 1) w g s) (hk : Rk (Fp.of col 2) w r s)
    (hw : s.2.1.length ≤ 1000000000) (hn0 : 0 ≤ s.2.2) (hn1 : s.2.2 ≤ 1000000000) :
    Calls Try.prog 18 #[.pointer (some ⟨g, 0, none⟩), .pointer (some ⟨r, 0, none⟩), .agg #[.int .i64 1, .int .i64 a, .slice A l.length c]] w (DoPost w0 g r (acD s (1, a, l))) := by
  go_enter Try.func18, Try.ntmps18
  go_wp2_with fail
  have hE : Ext w (w.alloc (.cells #[.int .i64 1, .int .i64 a, .slice A l.length c] 37)) := (Below.refl _ _).alloc (Nat.le_refl _) _
  have Cd := C.stepN hE
  have dd := hd.ext hE
  have kd := hk.ext hE
  clear hE C hd hk
  generalize w.alloc _ = wb at *
  refine (DkSyncC Cd (i := 1) (by decide) dd hw hn0 hn1).mono ?_
  rintro e w2 ⟨rfl, C2, d2, hc2⟩
  have k2 := Cols.keep (X := fun F w => Rk F w r s) (i := 1) (j := 2) Rk.chgC Rk.monoC Cd (by decide) (by decide) (by decide) hc2 kd
  clear Cd dd kd hc2
  generalize Cols.next col wb w2 1 = col2 at *
  go_wp2_with fail
  refine (RkSyncC C2 (i := 2) (by decide) k2 hw hn0 hn1).mono ?_
  rintro e w3 ⟨rfl, C3, k3, hc3⟩
  have d3 := Cols.keep (X := fun F w => Dk F w g _) (i := 2) (j := 1) Dk.chgC Dk.monoC C2 (by decide) (by decide) (by decide) hc3 d2
  clear C2 d2 k2 hc3
  go_wp2
  go_ret
  exact ⟨rfl, _, C3, d3, k3⟩

set_option maxHeartbeats 1000000 in
theorem do_crash (w0 w : World) (col : Nat → Nat) (g r : Nat) (s : DkS) (a : Int) (l : List UInt8) (A : Option Addr) (c : Nat) (C : Cols w0 w col) (hd : Dk (Fp.of col 1) w g s) (hk : Rk (Fp.of col 2) w r s)
    (h0 : -9223372036854775808 ≤ a) (h1 : a ≤ 9223372036854775807) (hw : s.2.1.length ≤ 1000000000) :
    Calls Try.prog 18 #[.pointer (some ⟨g, 0, none⟩), .pointer (some ⟨r, 0, none⟩), .agg #[.int .i64 2, .int .i64 a, .slice A l.length c]] w (DoPost w0 g r (acD s (2, a, l))) := by
  go_enter Try.func18, Try.ntmps18
  go_wp2_with fail
  have hE : Ext w (w.alloc (.cells #[.int .i64 2, .int .i64 a, .slice A l.length c] 37)) := (Below.refl _ _).alloc (Nat.le_refl _) _
  have Cd := C.stepN hE
  have dd := hd.ext hE
  have kd := hk.ext hE
  have hbx := Blk.new w 37 #[.int .i64 2, .int .i64 a, .slice A l.length c]
  have hcol : ∀ i, i ≠ 0 → ¬ col w.heap.size = i := fun i hi he => absurd (C.isIn w.heap.size (by rw [he]; exact hi)) (Nat.lt_irrefl _)
  have HCOL := Lib.hid hcol
  clear hE C hd hk hcol
  generalize w.heap.size = gb at *
  generalize w.alloc _ = wb at *
  refine (DkCrashC Cd (i := 1) (by decide) dd a h0 h1 hw).mono ?_
  rintro e w2 ⟨rfl, C2, d2, hc2⟩
  have k2 := Cols.keep (X := fun F w => Rk F w r s) (i := 1) (j := 2) Rk.chgC Rk.monoC Cd (by decide) (by decide) (by decide) hc2 kd
  have hb2 := hbx.chg hc2 (HCOL.out 1 (by decide))
  have c12 := hb2.cell 1
  simp only [List.getElem?_toArray, List.getElem?_cons_succ, List.getElem?_cons_zero] at c12
  clear Cd dd kd hc2 hbx hb2
  generalize Cols.next col wb w2 1 = col2 at *
  go_wp2_with fail
  refine (RkCrashC C2 (i := 2) (by decide) k2 a hw).mono ?_
  rintro e w3 ⟨rfl, C3, k3, hc3⟩
  have d3 := Cols.keep (X := fun F w => Dk F w g _) (i := 2) (j := 1) Dk.chgC Dk.monoC C2 (by decide) (by decide) (by decide) hc3 d2
  clear C2 d2 k2 hc3 c12
  go_wp2
  go_ret
  exact ⟨rfl, _, C3, d3, k3⟩

theorem do_other (w0 w : World) (col : Nat → Nat) (g r : Nat) (s : DkS) (kd a : Int) (l : List UInt8) (A : Option Addr) (c : Nat) (C : Cols w0 w col) (hd : Dk (Fp.of col 1) w g s) (hk : Rk (Fp.of col 2) w r s)
    (k0 : kd ≠ 0) (k1 : kd ≠ 1) (k2 : kd ≠ 2) :
    Calls Try.prog 18 #[.pointer (some ⟨g, 0, none⟩), .pointer (some ⟨r, 0, none⟩), .agg #[.int .i64 kd, .int .i64 a, .slice A l.length c]] w (DoPost w0 g r (acD s (kd, a, l))) := by
  have e0 : (kd == 0) = false := by rw [beq_eq_false_iff_ne]; exact k0
  have e1 : (kd == 1) = false := by rw [beq_eq_false_iff_ne]; exact k1
  have e2 : (kd == 2) = false := by rw [beq_eq_false_iff_ne]; exact k2
  have hs : acD s (kd, a, l) = s := by simp [acD, k0, k1, k2]
  rw [hs]
  have hE : Ext w (w.alloc (.cells #[.int .i64 kd, .int .i64 a, .slice A l.length c] 37)) := (Below.refl _ _).alloc (Nat.le_refl _) _
  have hp : DoPost w0 g r s (.returned (.bool true)) (w.alloc (.cells #[.int .i64 kd, .int .i64 a, .slice A l.length c] 37)) := ⟨rfl, col, C.stepN hE, hd.ext hE, hk.ext hE⟩
  have HP := Lib.hid hp
  clear hp hE hs C hd hk k0 k1 k2
  go_enter Try.func18, Try.ntmps18
  go_wp2
  go_ret
  exact HP.out

theorem do_any (w0 w : World) (col : Nat → Nat) (g r : Nat) (s : DkS) (x : ActS) (v : Value) (C : Cols w0 w col) (hd : Dk (Fp.of col 1) w g s) (hk : Rk (Fp.of col 2) w r s) (hr : Rd w0 v (x.2.2.map B))
    (h0 : -9223372036854775808 ≤ x.2.1) (h1 : x.2.1 ≤ 9223372036854775807) (hb : s.1.length ≤ 65536) (hw : s.2.1.length ≤ 1000000000) (hn0 : 0 ≤ s.2.2) (hn1 : s.2.2 ≤ 1000000000) :
    Calls Try.prog 18 #[.pointer (some ⟨g, 0, none⟩), .pointer (some ⟨r, 0, none⟩), .agg #[.int .i64 x.1, .int .i64 x.2.1, v]] w (DoPost w0 g r (acD s x)) := by
  obtain ⟨kd, a, l⟩ := x
  obtain ⟨A, c, rfl, _, _⟩ := hr.sliceN (List.length_map _)
  by_cases k0 : kd = 0
  · subst k0
    exact do_write w0 w col g r s a l A c C hd hk hr h0 h1 hb hw
  · by_cases k1 : kd = 1
    · subst k1
      exact do_sync w0 w col g r s a l A c C hd hk hw hn0 hn1
    · by_cases k2 : kd = 2
      · subst k2
        exact do_crash w0 w col g r s a l A c C hd hk h0 h1 hw
      · exact do_other w0 w col g r s kd a l A c C hd hk k0 k1 k2

theorem few_all {l : List ActS} (h : fewB l = true) : l.length ≤ 60 ∧ ∀ x ∈ l, x.2.2.length ≤ 300 := by
  rw [fewB, Bool.and_eq_true, decide_eq_true_iff] at h
  refine ⟨h.1, fun x hx => ?_⟩
  have := List.all_eq_true.1 h.2 x hx
  simpa using this

end Go.Proofs.Ytkoppdhmbhgnfaa
