/- Texts that the proof of LogActs rests on, one behind the other. -/
import Derived.Test.YtnihgpdkolmkgaaLogActsQ7
import Derived.Deep.RegionWith
import Derived.Deep.QuietTactic
import Derived.BigQuiet
import Derived.Deep.DeepCutAuto
import Derived.Deep.CutBlock
import Derived.Deep.LoopGhost

/- LogActs, where there is no log: sizes and acts that are passed by, and pieces that aren't on the disk. -/
namespace Go.Proofs.Ytnihgpdkolmkgaa
open Go.RowKit

set_option maxRecDepth 100000 in
theorem LogActs_out (N i z : Int) (l : List (Int × Int × List UInt8)) (v : Value) (w : World) (hr : RdActs w v l) (h : N < 1 ∨ (1 ≤ N ∧ 400 < N) ∨ (1 ≤ N ∧ N ≤ 400 ∧ fewL l = false)) :
    Calls Try.prog 3 #[.int .i64 N, .int .i64 i, .int .i64 z, v] w fun e w' => e = .returned (.bool true) ∧ Ext w w' := by
  obtain ⟨A, c, rfl, hlc, hcm⟩ := hr.slice_
  rcases h with h | ⟨h0, h⟩ | ⟨h0, h1, h⟩
  · go_enter Try.func3, Try.ntmps3
    go_wp2_with fail
    refine (alive_any w).mono ?_
    rintro e w1 ⟨rfl, hx1⟩
    go_wp2
    go_ret
    exact ⟨rfl, hx1⟩
  · go_enter Try.func3, Try.ntmps3
    go_wp2_with fail
    refine (alive_any w).mono ?_
    rintro e w1 ⟨rfl, hx1⟩
    go_wp2
    go_ret
    exact ⟨rfl, hx1⟩
  · have HF := Lib.hid h
    clear h
    go_enter Try.func3, Try.ntmps3
    go_wp2_with fail
    refine (alive_any w).mono ?_
    rintro e w1 ⟨rfl, hx1⟩
    go_wp2_with fail
    refine (fewL_any l _ _ (hr.ext hx1)).mono ?_
    rintro e w1' ⟨rfl, rfl⟩
    rw [HF.out]
    go_wp2
    go_ret
    exact ⟨rfl, hx1⟩

set_option maxRecDepth 100000 in
set_option maxHeartbeats 2000000 in
theorem LogActs_no (N : Nat) (i z : Int) (l : List (Int × Int × List UInt8)) (v : Value) (w : World) (hr : RdActs w v l) (hf : fewL l = true) (hN1 : 1 ≤ N) (hN4 : N ≤ 400) (hno : ¬ (0 ≤ i ∧ 1 ≤ z ∧ i + z ≤ N))
    (i0 : -9223372036854775808 ≤ i) (i1 : i ≤ 9223372036854775807) (z0 : -9223372036854775808 ≤ z) (z1 : z ≤ 9223372036854775807) :
    Calls Try.prog 3 #[.int .i64 (N : Int), .int .i64 i, .int .i64 z, v] w fun e w' => e = .returned (.bool true) ∧ Ext w w' := by
  have kc := fun (w : World) (C : Array Value) (n c : Nat) => Lib.run_convert_bytes_const (P := Try.prog) w 38 5 C n c Try.underlying38 Try.underlying5
  obtain ⟨A, c, rfl, hlc, hcm⟩ := hr.slice_
  have hNd : decide (400 < N) = false := by simp; omega
  have HB := Lib.hid (And.intro i0 (And.intro i1 (And.intro z0 z1)))
  have HN := Lib.hid hno
  clear i0 i1 z0 z1 hno
  go_enter Try.func3, Try.ntmps3
  go_wp2_with fail
  refine (alive_any w).mono ?_
  rintro e w1 ⟨rfl, hx1⟩
  go_wp2_with fail
  refine (fewL_any l _ _ (hr.ext hx1)).mono ?_
  rintro e w1' ⟨rfl, rfl⟩
  rw [hf]
  go_wp2_with fail
  refine (DkNew_yes N w1 hN1 (by omega)).mono ?_
  rintro e w2 ⟨g, rfl, hd2, hx2⟩
  obtain ⟨s0, hs0, sl0, -, -, -⟩ := newD N
  rw [← hs0] at hd2
  go_wp2_with fail
  refine (RkNew N w2 (by omega)).mono ?_
  rintro e w3 ⟨r, rfl, hk3, hx3⟩
  rw [← hs0] at hk3
  have hd3 := Dk.chg (G := fun _ => False) hd2 (Chg.of_ext hx3) (fun _ _ h => h)
  clear hs0 hd2
  go_wp2_with fail
  refine (LgOpen_no _ g s0 i z w3 hd3 (by rw [sl0]; exact HN.out) HB.out.1 HB.out.2.1 HB.out.2.2.1 HB.out.2.2.2).mono ?_
  rintro e w4 ⟨v4, rfl, hv4, hx4⟩
  have hk4 := hk3.ext0 hx4
  obtain ⟨A4, c4, rfl, _, _⟩ := hv4.sliceN (n := 0) rfl
  clear hd3 hk3 hv4
  go_wp2_with fail
  refine (RefOpen_no _ r s0 i z w4 hk4 (by rw [sl0]; omega) (by rw [sl0]; exact HN.out)).mono ?_
  rintro e w5 ⟨rfl, rfl⟩
  have hx := hx1.trans ((hx2.trans hx3).trans hx4)
  clear hk4 sl0 hx2 hx3 hx4
  go_wp2_with fail
  refine (LgClear_nil w4).mono ?_
  rintro e w6 ⟨rfl, hx6⟩
  have hx := hx.trans hx6
  clear hx6
  go_wp2_with fail
  have xl := (RdF.litM w6 [97] #[.int .u8 97] 5 1 w6.heap.size (1, 2) (by decide) (av_lit 97) rfl rfl).rd
  have hE : Ext w6 (w6.alloc (.cells #[.int .u8 97] 5 (1, 2))) := (Below.refl _ _).alloc (Nat.le_refl _) _
  refine (LgPut_nil [97] _ _ xl).mono ?_
  rintro e w7 ⟨rfl, hx7⟩
  have hx := hx.trans (hE.trans hx7)
  clear xl hE hx7 kc
  go_wp2_with fail
  refine (LgAppend_nil [] _ _ (Rd.nil _)).mono ?_
  rintro e w8 ⟨rfl, hx8⟩
  have hx := hx.trans hx8
  clear hx8
  go_wp2_with fail
  refine (LgUsed_nil w8).mono ?_
  rintro e w9 ⟨rfl, hx9⟩
  have hx := hx.trans hx9
  clear hx9
  go_wp2_with fail
  refine (LgRoom_nil 1 w9).mono ?_
  rintro e w10 ⟨rfl, hx10⟩
  have hx := hx.trans hx10
  clear hx10
  go_wp2
  go_ret
  exact ⟨rfl, hx⟩

end Go.Proofs.Ytnihgpdkolmkgaa

/- Layer 4: the calls of both disks, in colours. -/
namespace Go.Proofs.Ytnihgpdkolmkgaa
open Go.RowKit

theorem Dk.chgC {g : Nat} {s : DkS} : ∀ {F G : Fp} {w w' : World}, Dk F w g s → Chg G w w' → F.apart G → Dk F w' g s := fun h hc ha => Dk.chg h hc ha
theorem Dk.monoC {g : Nat} {s : DkS} : ∀ {F G : Fp} {w : World}, Dk F w g s → (∀ k, F k → G k) → G.isIn w → Dk G w g s := fun h hf hi => Dk.mono h hf hi
theorem Rk.chgC {g : Nat} {s : DkS} : ∀ {F G : Fp} {w w' : World}, Rk F w g s → Chg G w w' → F.apart G → Rk F w' g s := fun h hc ha => Rk.chg h hc ha
theorem Rk.monoC {g : Nat} {s : DkS} : ∀ {F G : Fp} {w : World}, Rk F w g s → (∀ k, F k → G k) → G.isIn w → Rk G w g s := fun h hf hi => Rk.mono h hf hi
theorem RdF.chgC {v : Value} {xs : List Value} : ∀ {F G : Fp} {w w' : World}, RdF F w v xs → Chg G w w' → F.apart G → RdF F w' v xs := fun h hc ha => h.chg hc ha
theorem RdF.monoC {v : Value} {xs : List Value} : ∀ {F G : Fp} {w : World}, RdF F w v xs → (∀ k, F k → G k) → G.isIn w → RdF G w v xs := fun h hf _ => h.mono hf

/-- What a turning call leaves of the colours, and of what it turned. -/
def Turned (X : Fp → World → Prop) (w0 w : World) (col : Nat → Nat) (i : Nat) (w' : World) : Prop :=
  Cols w0 w' (Cols.next col w w' i) ∧ X (Fp.of (Cols.next col w w' i) i) w' ∧ Chg (Fp.of col i) w w'

section
variable {w0 w : World} {col : Nat → Nat} {i : Nat} {g : Nat} {s : DkS}
theorem DkNewC (C : Cols w0 w col) (hi : i ≠ 0) (n : Nat) (h1 : 1 ≤ n) (h2 : n ≤ 65536) : Calls Try.prog 10 #[.int .i64 (n : Int)] w fun e w' =>
    ∃ g, e = .returned (.pointer (some ⟨g, 0, none⟩)) ∧ Turned (fun F w => Dk F w g (List.replicate n 0, [], 0)) w0 w col i w' ∧ Ext w w' :=
  (DkNew_yes n w h1 h2).mono fun _ _ ⟨g, he, hd, hx⟩ => ⟨g, he, ⟨C.stepE hi hx, Cols.made (X := fun F w => Dk F w g _) Dk.monoC C hi hx hd, Chg.of_ext hx⟩, hx⟩
theorem DkWriteC (C : Cols w0 w col) (hi : i ≠ 0) (hd : Dk (Fp.of col i) w g s) {H : Fp} {a : Int} {v : Value} {l : List UInt8} (hr : RdF H w v (l.map B)) (ha : H.apart (Fp.of col i)) (hH : H.isIn w)
    (h0 : -9223372036854775808 ≤ a) (h1 : a ≤ 9223372036854775807) (hw : s.2.1.length ≤ 1000000000) :
    Calls Try.prog 40 #[.pointer (some ⟨g, 0, none⟩), .int .i64 a, v] w fun e w' => e = .returned (.int .i64 (wrE s.1.length a l.length)) ∧ Turned (fun F w => Dk F w g (wrD s a l)) w0 w col i w' :=
  (DkWrite _ H g s a v l w hd hr ha hH h0 h1 hw).mono fun _ _ ⟨he, hd, hc⟩ => ⟨he, C.step hi hc, Cols.own (X := fun F w => Dk F w g _) Dk.monoC C hi hc hd, hc⟩
theorem DkSyncC (C : Cols w0 w col) (hi : i ≠ 0) (hd : Dk (Fp.of col i) w g s) (hw : s.2.1.length ≤ 1000000000) (hn0 : 0 ≤ s.2.2) (hn1 : s.2.2 ≤ 1000000000) :
    Calls Try.prog 30 #[.pointer (some ⟨g, 0, none⟩)] w fun e w' => e = .returned (.tuple #[]) ∧ Turned (fun F w => Dk F w g (syD s)) w0 w col i w' :=
  (DkSync _ g s w hd hw hn0 hn1).mono fun _ _ ⟨he, hd, hc⟩ => ⟨he, C.step hi hc, Cols.own (X := fun F w => Dk F w g _) Dk.monoC C hi hc hd, hc⟩
theorem DkCrashC (C : Cols w0 w col) (hi : i ≠ 0) (hd : Dk (Fp.of col i) w g s) (k : Int) (h0 : -9223372036854775808 ≤ k) (h1 : k ≤ 9223372036854775807) (hw : s.2.1.length ≤ 1000000000) :
    Calls Try.prog 22 #[.pointer (some ⟨g, 0, none⟩), .int .i64 k] w fun e w' => e = .returned (.tuple #[]) ∧ Turned (fun F w => Dk F w g (crD s k)) w0 w col i w' :=
  (DkCrash _ g s k w hd h0 h1 hw).mono fun _ _ ⟨he, hd, hc⟩ => ⟨he, C.step hi hc, Cols.own (X := fun F w => Dk F w g _) Dk.monoC C hi hc hd, hc⟩

theorem RkNewC (C : Cols w0 w col) (hi : i ≠ 0) (n : Nat) (h2 : n ≤ 65536) : Calls Try.prog 11 #[.int .i64 (n : Int)] w fun e w' =>
    ∃ g, e = .returned (.pointer (some ⟨g, 0, none⟩)) ∧ Turned (fun F w => Rk F w g (List.replicate n 0, [], 0)) w0 w col i w' ∧ Ext w w' :=
  (RkNew n w h2).mono fun _ _ ⟨g, he, hd, hx⟩ => ⟨g, he, ⟨C.stepE hi hx, Cols.made (X := fun F w => Rk F w g _) Rk.monoC C hi hx hd, Chg.of_ext hx⟩, hx⟩
theorem RkWriteC (C : Cols w0 w col) (hi : i ≠ 0) (hd : Rk (Fp.of col i) w g s) {H : Fp} {a : Int} {v : Value} {l : List UInt8} (hr : RdF H w v (l.map B)) (ha : H.apart (Fp.of col i)) (hH : H.isIn w)
    (hb : s.1.length ≤ 65536) (hw : s.2.1.length ≤ 1000000000) :
    Calls Try.prog 43 #[.pointer (some ⟨g, 0, none⟩), .int .i64 a, v] w fun e w' => e = .returned (.int .i64 (wrE s.1.length a l.length)) ∧ Turned (fun F w => Rk F w g (wrD s a l)) w0 w col i w' :=
  (RkWrite _ H g s a v l w hd hr ha hH hb hw).mono fun _ _ ⟨he, hd, hc⟩ => ⟨he, C.step hi hc, Cols.own (X := fun F w => Rk F w g _) Rk.monoC C hi hc hd, hc⟩
theorem RkSyncC (C : Cols w0 w col) (hi : i ≠ 0) (hd : Rk (Fp.of col i) w g s) (hw : s.2.1.length ≤ 1000000000) (hn0 : 0 ≤ s.2.2) (hn1 : s.2.2 ≤ 1000000000) :
    Calls Try.prog 42 #[.pointer (some ⟨g, 0, none⟩)] w fun e w' => e = .returned (.tuple #[]) ∧ Turned (fun F w => Rk F w g (syD s)) w0 w col i w' :=
  (RkSync _ g s w hd hw hn0 hn1).mono fun _ _ ⟨he, hd, hc⟩ => ⟨he, C.step hi hc, Cols.own' (X := fun F w => Rk F w g _) Rk.monoC C hi hc hd, hc⟩
theorem RkCrashC (C : Cols w0 w col) (hi : i ≠ 0) (hd : Rk (Fp.of col i) w g s) (k : Int) (hw : s.2.1.length ≤ 1000000000) :
    Calls Try.prog 23 #[.pointer (some ⟨g, 0, none⟩), .int .i64 k] w fun e w' => e = .returned (.tuple #[]) ∧ Turned (fun F w => Rk F w g (crD s k)) w0 w col i w' :=
  (RkCrash _ g s k w hd hw).mono fun _ _ ⟨he, hd, hc⟩ => ⟨he, C.step hi hc, Cols.own' (X := fun F w => Rk F w g _) Rk.monoC C hi hc hd, hc⟩

/-- What only made memory leaves a disk as it was. -/
theorem Rk.ext {F : Fp} {w w' : World} (h : Rk F w g s) (hx : Ext w w') : Rk F w' g s := Rk.chg (G := fun _ => False) h (Chg.of_ext hx) (fun _ _ h => h)
/-- What is newer than the colours is nobody's. -/
theorem Cols.new_apart (C : Cols w0 w col) (hi : i ≠ 0) {w' : World} : Fp.apart (fun k => w.heap.size ≤ k ∧ k < w'.heap.size) (Fp.of col i) := fun k hk hc => by
  have := C.isIn k (by rw [show col k = i from hc]; exact hi)
  omega
theorem new_in {w w' : World} : Fp.isIn (fun k => w.heap.size ≤ k ∧ k < w'.heap.size) w' := fun _ hk => hk.2
end

end Go.Proofs.Ytnihgpdkolmkgaa

/- Layer 4: what is read of a disk, with how long it is. -/
namespace Go.Proofs.Ytnihgpdkolmkgaa
open Go.RowKit

theorem Dk.bytesN {F : Fp} {w : World} {g : Nat} {s : DkS} (hd : Dk F w g s) {N : Nat} (hN : s.1.length = N) (hw : s.2.1.length ≤ 1000000000) :
    Calls Try.prog 27 #[.pointer (some ⟨g, 0, none⟩)] w fun e w' => ∃ A c, e = .returned (.slice A N c) ∧ Rd w' (.slice A N c) ((rdD s).map B) ∧ N ≤ c ∧ c ≤ maxLen ∧ Grew w.heap.size 5 (.slice none 0 0) w ((rdD s).map B) (.slice A N c) w' := by
  refine (DkBytes _ g s w hd hw).mono ?_
  rintro e w' ⟨v', rfl, hg⟩
  have hr := Rd.own hg.own
  obtain ⟨A, c, rfl, h1, h2⟩ := hr.sliceN (n := N) (by rw [List.length_map, rdD_len, hN])
  exact ⟨A, c, rfl, hr, h1, h2, hg⟩

theorem Bytes_same (l : List UInt8) (u v : Value) (w : World) (hu : Rd w u (l.map B)) (hv : Rd w v (l.map B)) : Calls Try.prog 26 #[u, v] w fun e w' => e = .returned (.bool true) ∧ ∃ m, w' = w.drewN m := by
  have := Bytes_any l l u v w hu hv
  rw [decide_eq_true rfl] at this
  exact this

end Go.Proofs.Ytnihgpdkolmkgaa

/- Layer 3, the reference: the same lists of bytes? -/
namespace Go.Proofs.Ytnihgpdkolmkgaa
open Go.RowKit

set_option maxHeartbeats 1000000 in
theorem RefSame_any (xs ys : List (List UInt8)) (u v : Value) (w : World) (hu : RdL w u xs) (hv : RdL w v ys) :
    Calls Try.prog 24 #[u, v] w fun e w' => e = .returned (.bool (decide (xs = ys))) ∧ ∃ n, w' = w.drewN n := by
  obtain ⟨A, c, rfl, hlc, hcm⟩ := hu.sliceN rfl
  obtain ⟨A', c', rfl, hlc', hcm'⟩ := hv.sliceN rfl
  unfold maxLen at hcm hcm'
  by_cases hl : xs.length = ys.length
  · have HL := Lib.hid hl
    rw [hl] at hlc hu ⊢
    clear hl
    go_enter Try.func24, Try.ntmps24
    go_wp2
    go_loopw [5] (fun i' wr => ∃ i k : Nat, i' = .int .i64 i ∧ i ≤ ys.length ∧ xs.take i = ys.take i ∧ wr = w.drewN k) (fun i' _ => ys.length - (intOf i').toNat)
    case atStart => exact ⟨0, 0, rfl, by omega, rfl, rfl⟩
    case round =>
      obtain ⟨i, k, rfl, hi, htk, hwk⟩ := hrel
      have hu1 := hu.ext (Below.drewN' (Ext.refl w) k)
      have hv1 := hv.ext (Below.drewN' (Ext.refl w) k)
      rw [← hwk] at hu1 hv1
      have HW := Lib.hid hwk
      have HT := Lib.hid htk
      clear htk hwk
      by_cases hlt : i < ys.length
      · have hlx : i < xs.length := by have := HL.out; omega
        obtain ⟨b, o, rfl, hb, hc1⟩ := hu1.at (by have := HL.out; omega)
        obtain ⟨b', o', rfl, hb', hc2⟩ := hv1.at (by omega)
        obtain ⟨p, e1, hp⟩ := hc1 i xs[i] (List.getElem?_eq_getElem hlx)
        obtain ⟨q, e2, hq⟩ := hc2 i ys[i] (List.getElem?_eq_getElem hlt)
        obtain ⟨P, cp, rfl, _, _⟩ := hp.sliceN (List.length_map _)
        obtain ⟨Q, cq, rfl, _, _⟩ := hq.sliceN (List.length_map _)
        clear hc1 hc2
        generalize hx : xs[i] = x at *
        generalize hy : ys[i] = y at *
        have HX := Lib.hid hx
        have HY := Lib.hid hy
        clear hx hy
        have hcall : ∀ n, Calls Try.prog 26 #[.slice P x.length cp, .slice Q y.length cq] (wr.drewN n) fun e w' => e = .returned (.bool (decide (x = y))) ∧ ∃ m, w' = (wr.drewN n).drewN m :=
          fun n => Bytes_any x y _ _ _ (hp.ext (Below.drewN' (Ext.refl wr) n)) (hq.ext (Below.drewN' (Ext.refl wr) n))
        have HC := Lib.hid hcall
        clear hcall
        by_cases hxy : x = y
        · have hd : decide (x = y) = true := decide_eq_true hxy
          rw [hd] at HC
          have HXY := Lib.hid hxy
          clear hxy hd
          go_wp2_with fail
          go_quiet ((go_at_call 26; exact Calls.quiet_of (HC.out _)))
          go_wp2
          go_roundw
          case rel => exact ⟨i + 1, _, by go_num, by omega, by rw [take_snoc _ _ hlx, take_snoc _ _ hlt, HT.out, HX.out, HY.out, HXY.out], by rw [HW.out]; exact World.drewN_drewN _ _ _⟩
          case measure => simp [intOf]; omega
        · have hd : decide (x = y) = false := decide_eq_false hxy
          rw [hd] at HC
          have HXY := Lib.hid hxy
          clear hxy hd
          go_wp2_with fail
          go_quiet ((go_at_call 26; exact Calls.quiet_of (HC.out _)))
          go_wp2
          go_ret
          refine ⟨?_, _, by rw [HW.out]; exact World.drewN_drewN _ _ _⟩
          rw [decide_eq_false (fun e => HXY.out (by rw [← HX.out, ← HY.out]; simp only [e]))]
          rfl
      · obtain rfl : i = ys.length := by omega
        go_wp2
        go_ret
        refine ⟨?_, _, HW.out⟩
        have := HT.out
        rw [List.take_length, ← HL.out, List.take_length] at this
        rw [decide_eq_true this]
        rfl
  · have hlb : ((xs.length : Int) == (ys.length : Int)) = false := by rw [beq_eq_false_iff_ne]; omega
    have H := Lib.hid hl
    clear hl
    go_enter Try.func24, Try.ntmps24
    go_wp2
    go_ret
    exact ⟨by rw [decide_eq_false (fun e => H.out (by rw [e]))]; rfl, 0, rfl⟩

end Go.Proofs.Ytnihgpdkolmkgaa

/- LogActs, where there is a log: act by act. -/
namespace Go.Proofs.Ytnihgpdkolmkgaa
open Go.ChangeShapes Go.WideShapes Go.ChangeAt Go.RowKit

theorem catF_manyA : ∀ (l : List (List UInt8)), (∀ p ∈ l, okP p) → l.length ≤ (catF l).length
  | [], _ => by simp [catF]
  | p :: l, h => by
    have h1 := frameB_len (h p (List.mem_cons_self ..))
    have h2 := catF_manyA l (fun q hq => h q (List.mem_cons_of_mem _ hq))
    have e : catF (p :: l) = frameB p ++ catF l := by simp [catF]
    rw [e, List.length_append, List.length_cons]
    omega

/-- What holds of a disk and its log's records behind k acts. -/
def OkA (N f z k : Nat) (s : DkS) (L : List (List UInt8)) : Prop :=
  s.1.length = N ∧ s.2.1.length ≤ 220 * k ∧ 0 ≤ s.2.2 ∧ s.2.2 ≤ 3 * k + 2 ∧ (catF L).length ≤ z ∧ ∀ p ∈ L, okP p

theorem putU_cat (z : Nat) (L : List (List UInt8)) (p : List UInt8) : putU z (catF L).length p = (catF (if putE z (catF L).length p = 0 then L ++ [p] else L)).length := by
  unfold putU
  split
  · rw [catF_snoc_len]
  · rfl
section
variable {N f z k : Nat} {s s' : DkS} {L : List (List UInt8)} {p : List UInt8}
theorem OkA.ls (h : OkA N f z k s L) : (catF (if putE z (catF L).length p = 0 then L ++ [p] else L)).length ≤ z ∧ ∀ q ∈ (if putE z (catF L).length p = 0 then L ++ [p] else L), okP q := by
  refine ⟨by rw [← putU_cat]; exact putU_le h.2.2.2.2.1, fun q hq => ?_⟩
  split at hq
  · rename_i he
    rcases List.mem_append.1 hq with hq | hq
    · exact h.2.2.2.2.2 q hq
    · rw [List.mem_singleton.1 hq]
      exact (putE_yes he).1
  · exact h.2.2.2.2.2 q hq
theorem OkA.app (h : OkA N f z k s L) (hp : p.length ≤ 200) : OkA N f z (k + 1) (appS s f z (catF L).length p) (if putE z (catF L).length p = 0 then L ++ [p] else L) := by
  have h1 := appS_len s f z (catF L).length p
  have h2 := appS_waits s f z (catF L).length p
  have h3 := appS_n s f z (catF L).length p
  have hl := OkA.ls (p := p) h
  obtain ⟨a1, a2, a3, a4, a5, a6⟩ := h
  exact ⟨by omega, by omega, by omega, by omega, hl.1, hl.2⟩
theorem OkA.put (h : OkA N f z k s L) (hp : p.length ≤ 200) : OkA N f z (k + 1) (putS s f z (catF L).length p) (if putE z (catF L).length p = 0 then L ++ [p] else L) := by
  have h1 := putS_len s f z (catF L).length p
  have h2 := putS_waits s f z (catF L).length p
  have h3 := putS_n s f z (catF L).length p
  have hl := OkA.ls (p := p) h
  obtain ⟨a1, a2, a3, a4, a5, a6⟩ := h
  exact ⟨by omega, by omega, by omega, by omega, hl.1, hl.2⟩
theorem OkA.clear_ (h : OkA N f z k s L) : OkA N f z (k + 1) (zrD s f z 0) [] := by
  have h1 := zrD_len s f z 0
  have h3 := zrD_n s f z 0
  have h2 : (zrD s f z 0).2.1.length = 0 := by rw [zrD_waits]; rfl
  obtain ⟨a1, a2, a3, a4, a5, a6⟩ := h
  exact ⟨by omega, by omega, by omega, by omega, Nat.zero_le _, fun q hq => absurd hq List.not_mem_nil⟩
theorem OkA.same (h : OkA N f z k s L) : OkA N f z (k + 1) s L := by
  obtain ⟨a1, a2, a3, a4, a5, a6⟩ := h
  exact ⟨a1, by omega, a3, by omega, a5, a6⟩
theorem OkA.crash (h : OkA N f z k s L) (h1 : s'.1.length = s.1.length) (h2 : s'.2.1.length ≤ s.2.1.length + (p.length + 13)) (h3 : s'.2.2 = s.2.2) (hp : p.length ≤ 200) (hz : f + z ≤ N) (keep : Int) (hk : k ≤ 1000 := by omega) :
    ((crD s' keep).1.length = N ∧ (crD s' keep).2.1.length ≤ 0 ∧ 0 ≤ (crD s' keep).2.2 ∧ (crD s' keep).2.2 ≤ 100000000) ∧ OkA N f z (k + 1) (opD (crD s' keep) f z) (recD (crD s' keep) f z) := by
  have e1 : (crD s' keep).1.length = N := by rw [crD_len, h1, h.1]
  have e3 : (crD s' keep).2.2 = s.2.2 := h3
  obtain ⟨a1, a2, a3, a4, a5, a6⟩ := h
  refine ⟨⟨e1, Nat.le_refl _, by omega, by omega⟩, by rw [opD_len]; exact e1, by rw [opD_waits]; exact Nat.zero_le _, by rw [opD_n]; omega, by rw [opD_n]; omega, endD_le (by rw [e1]; exact hz), recD_ok _ _ _⟩
end

/-- What each act leaves, ahead of what is looked at. -/
def ActsCut (w1 : World) (ix g r f z N k : Nat) (cs : Array Value) (s11 s14 : Value) (wx : World) : Prop :=
  ∃ (h m : Nat) (s : DkS) (L : List (List UInt8)), s11 = .pointer (some ⟨h, 0, none⟩) ∧ s14 = .pointer (some ⟨m, 0, none⟩) ∧ Free wx ix w1 h g m r f z s (catF L).length s L ∧ Blk wx ix 42 cs ∧ OkA N f z (k + 1) s L

set_option maxRecDepth 100000 in
set_option maxHeartbeats 8000000 in
theorem LogActs_main (N f z : Nat) (l : List (Int × Int × List UInt8)) (v : Value) (w : World) (hr : RdActs w v l) (hf : fewL l = true) (hN1 : 1 ≤ N) (hN4 : N ≤ 400) (hz : f + z ≤ N) (h1 : 1 ≤ z) :
    Calls Try.prog 3 #[.int .i64 (N : Int), .int .i64 (f : Int), .int .i64 (z : Int), v] w fun e w' => e = .returned (.bool true) ∧ Ext w w' := by
  obtain ⟨A, c, rfl, hlc, hcm⟩ := hr.slice_
  obtain ⟨hl40, hl200⟩ := fewL_yes hf
  have hNd : decide (400 < N) = false := by simp; omega
  go_enter Try.func3, Try.ntmps3
  go_wp2_with fail
  refine (alive_any w).mono ?_
  rintro e w1 ⟨rfl, hx1⟩
  have hr1 := hr.ext hx1
  go_wp2_with fail
  refine (fewL_any l _ _ hr1).mono ?_
  rintro e w1' ⟨rfl, rfl⟩
  rw [hf]
  go_wp2_with fail
  refine (DkW.new (Ext.refl w1) N hN1 (by omega)).mono ?_
  rintro e w2 ⟨g, rfl, hd2, hx2⟩
  obtain ⟨s0, hs0, sl0, sw0, sn0, hnew⟩ := newD N
  rw [← hs0] at hd2
  go_wp2_with fail
  refine (RkNew N w2 (by omega)).mono ?_
  rintro e w3 ⟨r, rfl, hk3, hx3⟩
  rw [← hs0] at hk3
  have hp3 : PrD w1 w3 g r s0 s0 := ⟨_, _, hd2.ext hx3, hk3, fun k hk => Nat.le_trans hd2.2.2.size hk.1, fun k hk hk2 => by have := hd2.1.isIn k hk; omega⟩
  clear hs0 hd2 hk3 hx2 hx3
  go_wp2_with fail
  refine (hp3.codeOpen (f := f) (z := z) (by rw [sl0]; exact hz) h1 (by rw [sw0]; decide) (by omega) (by omega)).mono ?_
  rintro e w4 ⟨h, v4, rfl, hp4⟩
  have hrec := LogIs.rec (hnew f z hz)
  rw [hrec.1, hrec.2] at hp4
  obtain ⟨A4, c4, rfl, _, _⟩ := hp4.rdl.sliceN (n := 0) rfl
  clear hp3
  go_wp2_with fail
  refine (hp4.refOpen (by rw [sl0]; omega) (by rw [sl0]; exact hz) h1 (by rw [sw0]; decide) (by omega) (by omega)).mono ?_
  rintro e w5 ⟨m, rfl, hp5, -⟩
  rw [hrec.1] at hp5
  have hok5 : OkA N f z 0 (opD s0 f z) [] := ⟨by rw [opD_len, sl0], by rw [opD_waits]; exact Nat.zero_le _, by rw [opD_n, sn0]; decide, by rw [opD_n, sn0]; decide, Nat.zero_le _, fun q hq => absurd hq List.not_mem_nil⟩
  have HP5 := Lib.hid hp5
  have HO5 := Lib.hid hok5
  clear hp4 hp5 hok5 hrec hnew sl0 sw0 sn0
  generalize opD s0 f z = s5 at *
  go_wp2
  go_loopg [11, 14, 16] l.length (fun gg lv mv i wr => ∃ k : Nat, i = .int .i64 k ∧ k ≤ l.length ∧ gg = l.length - k ∧ ∃ (h m : Nat) (s : DkS) (L : List (List UInt8)), lv = .pointer (some ⟨h, 0, none⟩) ∧ mv = .pointer (some ⟨m, 0, none⟩) ∧ Pr w1 wr h g m r f z s (catF L).length s L ∧ OkA N f z k s L)
  case atStart => exact ⟨0, rfl, Nat.zero_le _, rfl, h, m, s5, [], rfl, rfl, HP5.out, HO5.out⟩
  case round =>
    obtain ⟨k, rfl, hk, rfl, h, m, s, L, rfl, rfl, hpr, hok⟩ := hrel
    by_cases hlt : k < l.length
    · clear HP5 HO5
      obtain ⟨b, o, rfl, hb, hcl⟩ := hr1.get (by omega)
      obtain ⟨e0, e1, b0, b1, q0, e2, hq⟩ := hcl k _ (List.getElem?_eq_getElem hlt)
      have hp200 := hl200 l[k] (List.getElem_mem hlt)
      generalize l[k] = x at *
      obtain ⟨kind, keep, p⟩ := x
      dsimp only at hq e0 e1 e2 b0 b1 hp200
      have hxw := hpr.ext0
      have d0 : wr.cell? ⟨b, o + k * 3, none⟩ = some (.int .i64 kind) := hxw.cellOf e0 hb
      have d1 : wr.cell? ⟨b, o + k * 3 + 1, none⟩ = some (.int .i64 keep) := by rw [Nat.add_assoc]; exact hxw.cellOf e1 hb
      have d2 : wr.cell? ⟨b, o + k * 3 + 2, none⟩ = some q0 := by rw [Nat.add_assoc]; exact hxw.cellOf e2 hb
      obtain ⟨Au, cu, rfl, hcu, hcmu⟩ := hq.sliceN (List.length_map _)
      unfold maxLen at hcmu
      have hE : Ext wr (wr.alloc (.cells #[.int .i64 kind, .int .i64 keep, .slice Au p.length cu] 42)) := (Below.refl _ _).alloc (Nat.le_refl _) _
      have hB : Blk (wr.alloc (.cells #[.int .i64 kind, .int .i64 keep, .slice Au p.length cu] 42)) wr.heap.size 42 #[.int .i64 kind, .int .i64 keep, .slice Au p.length cu] := Blk.new _ _ _
      have FR := hpr.free (Nat.le_refl wr.heap.size) hE
      have HB1 := Lib.hid b1
      have HQ := Lib.hid hq
      have hNl : s.1.length ≤ 65536 := by rw [hok.1]; omega
      have hNf : f + z ≤ s.1.length := by rw [hok.1]; exact hz
      have hul := hok.2.2.2.2.1
      have hwm : s.2.1.length ≤ 10000000 := by have := hok.2.1; omega
      have hn0 := hok.2.2.1
      have hn1 : s.2.2 ≤ 100000000 := by have := hok.2.2.2.1; omega
      have hn1b : s.2.2 ≤ 1000000000 := by omega
      have hLn : L.length ≤ 1000000 := by have := catF_manyA L hok.2.2.2.2.2; omega
      have HOK0 := Lib.hid hok
      have HBD := Lib.hid (And.intro hNl (And.intro hNf (And.intro hul (And.intro hwm (And.intro hn0 (And.intro hn1 (And.intro hn1b hLn)))))))
      have HBB0 := Lib.hid hB
      have HFR := Lib.hid FR
      clear hcl e0 e1 e2 b0 b1 hq hpr hok hB FR hE hxw hNl hNf hul hwm hn0 hn1 hn1b hLn
      go_upto_block 2 with (fail)
      generalize wr.alloc _ = wa at *
      generalize wr.heap.size = ix at *
      clear d0 d1 d2
      go_cut [11, 14] (fun s11 s14 wx => ActsCut w1 ix g r f z N k #[.int .i64 kind, .int .i64 keep, .slice Au p.length cu] s11 s14 wx)
      case first =>
        by_cases k0 : kind = 0
        · subst k0
          go_wp2_with fail
          obtain ⟨hNl, hNf, hul, hwm, hn0, hn1, hn1b, hLn⟩ := HBD.out
          have FA := HFR.out.ext (Ext.dr (Ext.refl wa))
          have bb0 := HBB0.out.ext (Ext.dr (Ext.refl wa))
          have ixlt := bb0.lt
          refine held_begin (by kernel_rfl) ?_
          have hHeld0 : True := True.intro
          refine held_more (S' := fun w' : World => w'.cell? ⟨ix, 2, none⟩ = some (.slice Au p.length cu)) (fun _ _ => trivial) ?_
          have hHeld1 : (fun w' : World => w'.cell? ⟨ix, 2, none⟩ = some (.slice Au p.length cu)) _ := (bb0.cell 2)
          clear hHeld0
          refine held_take (i := 0) (v := ?_) rfl (by kernel_rfl) (by kernel_rfl) (by kernel_rfl) (by rfl) (by first | assumption | exact True.intro) ?_ ?_
          rotate_left
          · (intro w hSw; (try dsimp only at hSw); go_simp; (try with_reducible rfl))
          try simp only [Act.put, List.setIfInBounds_toArray, List.set_cons_zero, List.set_cons_succ]
          refine held_take (i := 1) (v := ?_) rfl (by kernel_rfl) (by kernel_rfl) (by kernel_rfl) (by rfl) (by first | assumption | exact True.intro) ?_ ?_
          rotate_left
          · (intro w hSw; (try dsimp only at hSw); go_simp; (try with_reducible rfl))
          try simp only [Act.put, List.setIfInBounds_toArray, List.set_cons_zero, List.set_cons_succ]
          refine held_take (i := 2) (v := ?_) rfl (by kernel_rfl) (by kernel_rfl) (by kernel_rfl) (by rfl) (by first | assumption | exact True.intro) ?_ ?_
          rotate_left
          · (intro w hSw; (try dsimp only at hSw); go_simp; (try with_reducible rfl))
          try simp only [Act.put, List.setIfInBounds_toArray, List.set_cons_zero, List.set_cons_succ]
          refine held_take (i := 4) (v := ?_) rfl (by kernel_rfl) (by kernel_rfl) (by kernel_rfl) (by rfl) (by first | assumption | exact True.intro) ?_ ?_
          rotate_left
          · (intro w hSw; (try dsimp only at hSw); go_simp; (try with_reducible rfl))
          try simp only [Act.put, List.setIfInBounds_toArray, List.set_cons_zero, List.set_cons_succ]
          refine held_take (i := 5) (v := ?_) rfl (by kernel_rfl) (by kernel_rfl) (by kernel_rfl) (by rfl) (by first | assumption | exact True.intro) ?_ ?_
          rotate_left
          · (intro w hSw; (try dsimp only at hSw); go_simp; (try with_reducible rfl))
          try simp only [Act.put, List.setIfInBounds_toArray, List.set_cons_zero, List.set_cons_succ]
          refine held_take (i := 6) (v := ?_) rfl (by kernel_rfl) (by kernel_rfl) (by kernel_rfl) (by rfl) (by first | assumption | exact True.intro) ?_ ?_
          rotate_left
          · (intro w hSw; (try dsimp only at hSw); go_simp; (try with_reducible rfl))
          try simp only [Act.put, List.setIfInBounds_toArray, List.set_cons_zero, List.set_cons_succ]
          refine held_op (i := 3) (by kernel_rfl) rfl (fun K hK => ?_)
          go_simp
          go_at_call 16
          (with_reducible refine (FA.codeAppend ixlt HQ.out hNf hul hwm hn0 hn1).mono ?_)
          rintro e wB ⟨rfl, FB, kB⟩
          have bB := kB _ _ bb0
          have ixltB := bB.lt
          refine hK _ _ ?_ (fun hHeld2 => ?_)
          · exact (bB.cell 2)
          clear hK K hHeld1
          try simp only [Act.put, List.setIfInBounds_toArray, List.set_cons_zero, List.set_cons_succ]
          refine held_op (i := 7) (by kernel_rfl) rfl (fun K hK => ?_)
          go_simp
          go_at_call 19
          (with_reducible refine (FB.refAppend ixltB HQ.out hNl hNf hul hwm hLn hn0 hn1b).mono ?_)
          rintro e wc ⟨rfl, FC, kC⟩
          have bC := kC _ _ bB
          refine hK _ _ ?_ (fun hHeld3 => ?_)
          · exact (bC.cell 2)
          clear hK K hHeld2
          try simp only [Act.put, List.setIfInBounds_toArray, List.set_cons_zero, List.set_cons_succ]
          refine held_take (i := 8) (v := ?_) rfl (by kernel_rfl) (by kernel_rfl) (by kernel_rfl) (by rfl) (by first | assumption | exact True.intro) ?_ ?_
          rotate_left
          · (intro w hSw; (try dsimp only at hSw); go_simp; (try with_reducible rfl))
          try simp only [Act.put, List.setIfInBounds_toArray, List.set_cons_zero, List.set_cons_succ]
          refine wpAnyH_done (by kernel_rfl) ?_ _
          refine NoPanic.normal ?_
          clear hHeld3
          rw [putU_cat] at FC
          have HOK := Lib.hid (HOK0.out.app (p := p) hp200)
          have HF := Lib.hid FC
          have HB := Lib.hid bC
          clear FC bC HFR HBB0 HBD HOK0 hNl hNf hul hwm hn0 hn1 hn1b hLn ixlt FA FB kB kC bB bb0 ixltB
          generalize appS s f z (catF L).length p = s' at *
          generalize (if putE z (catF L).length p = 0 then L ++ [p] else L) = L' at *
          go_wp2_with fail
          go_meet
          exact ⟨h, m, s', L', rfl, rfl, HF.out, HB.out, HOK.out⟩
        · have kb0 : (kind == 0) = false := by rw [beq_eq_false_iff_ne]; exact k0
          by_cases k1 : kind = 1
          · subst k1
            go_wp2_with fail
            obtain ⟨hNl, hNf, hul, hwm, hn0, hn1, hn1b, hLn⟩ := HBD.out
            have FA := HFR.out
            have bb0 := HBB0.out
            have ixlt := bb0.lt
            refine (FA.codeClear ixlt hNf hwm hn0 hn1).mono ?_
            rintro e wB ⟨rfl, FB, kB⟩
            have bB := kB _ _ bb0
            have ixltB := bB.lt
            go_wp2_with fail
            refine (FB.refClear ixltB hNl hNf hwm hn0 hn1b).mono ?_
            rintro e wc ⟨rfl, FC, kC⟩
            have bC := kC _ _ bB
            have FC : Free wc ix w1 h g m r f z (zrD s f z 0) (catF ([] : List (List UInt8))).length (zrD s f z 0) [] := FC
            have HOK := Lib.hid (HOK0.out.clear_)
            have HF := Lib.hid FC
            have HB := Lib.hid bC
            clear FC bC HFR HBB0 HBD HOK0 hNl hNf hul hwm hn0 hn1 hn1b hLn ixlt FA FB kB kC bB bb0 ixltB
            generalize zrD s f z 0 = s' at *
            generalize ([] : List (List UInt8)) = L' at *
            go_wp2_with fail
            go_meet
            exact ⟨h, m, s', L', rfl, rfl, HF.out, HB.out, HOK.out⟩
          · have kb1 : (kind == 1) = false := by rw [beq_eq_false_iff_ne]; exact k1
            by_cases k2 : kind = 2
            · subst k2
              go_wp2_with fail
              obtain ⟨hNl, hNf, hul, hwm, hn0, hn1, hn1b, hLn⟩ := HBD.out
              have FA := HFR.out.ext (Ext.dr (Ext.refl wa))
              have bb0 := HBB0.out.ext (Ext.dr (Ext.refl wa))
              have ixlt := bb0.lt
              refine held_begin (by kernel_rfl) ?_
              have hHeld0 : True := True.intro
              refine held_more (S' := fun w' : World => w'.cell? ⟨ix, 0, none⟩ = some (.int .i64 2) ∧ w'.cell? ⟨ix, 2, none⟩ = some (.slice Au p.length cu)) (fun _ _ => trivial) ?_
              have hHeld1 : (fun w' : World => w'.cell? ⟨ix, 0, none⟩ = some (.int .i64 2) ∧ w'.cell? ⟨ix, 2, none⟩ = some (.slice Au p.length cu)) _ := ⟨bb0.cell 0, bb0.cell 2⟩
              clear hHeld0
              refine held_take (i := 0) (v := ?_) rfl (by kernel_rfl) (by kernel_rfl) (by kernel_rfl) (by rfl) (by first | assumption | exact True.intro) ?_ ?_
              rotate_left
              · (intro w hSw; (try dsimp only at hSw); go_simp; (try with_reducible rfl))
              try simp only [Act.put, List.setIfInBounds_toArray, List.set_cons_zero, List.set_cons_succ]
              refine held_take (i := 1) (v := ?_) rfl (by kernel_rfl) (by kernel_rfl) (by kernel_rfl) (by rfl) (by first | assumption | exact True.intro) ?_ ?_
              rotate_left
              · (intro w hSw; (try dsimp only at hSw); go_simp; (try with_reducible rfl))
              try simp only [Act.put, List.setIfInBounds_toArray, List.set_cons_zero, List.set_cons_succ]
              refine held_take (i := 2) (v := ?_) rfl (by kernel_rfl) (by kernel_rfl) (by kernel_rfl) (by rfl) (by first | assumption | exact True.intro) ?_ ?_
              rotate_left
              · (intro w hSw; (try dsimp only at hSw); go_simp; (try with_reducible rfl))
              try simp only [Act.put, List.setIfInBounds_toArray, List.set_cons_zero, List.set_cons_succ]
              refine held_take (i := 3) (v := ?_) rfl (by kernel_rfl) (by kernel_rfl) (by kernel_rfl) (by rfl) (by first | assumption | exact True.intro) ?_ ?_
              rotate_left
              · (intro w hSw; (try dsimp only at hSw); go_simp; (try with_reducible rfl))
              try simp only [Act.put, List.setIfInBounds_toArray, List.set_cons_zero, List.set_cons_succ]
              refine held_take (i := 4) (v := ?_) rfl (by kernel_rfl) (by kernel_rfl) (by kernel_rfl) (by rfl) (by first | assumption | exact True.intro) ?_ ?_
              rotate_left
              · (intro w hSw; (try dsimp only at hSw); go_simp; (try with_reducible rfl))
              try simp only [Act.put, List.setIfInBounds_toArray, List.set_cons_zero, List.set_cons_succ]
              refine held_take (i := 5) (v := ?_) rfl (by kernel_rfl) (by kernel_rfl) (by kernel_rfl) (by rfl) (by first | assumption | exact True.intro) ?_ ?_
              rotate_left
              · (intro w hSw; (try dsimp only at hSw); go_simp; (try with_reducible rfl))
              try simp only [Act.put, List.setIfInBounds_toArray, List.set_cons_zero, List.set_cons_succ]
              refine held_take (i := 6) (v := ?_) rfl (by kernel_rfl) (by kernel_rfl) (by kernel_rfl) (by rfl) (by first | assumption | exact True.intro) ?_ ?_
              rotate_left
              · (intro w hSw; (try dsimp only at hSw); go_simp; (try with_reducible rfl))
              try simp only [Act.put, List.setIfInBounds_toArray, List.set_cons_zero, List.set_cons_succ]
              refine held_take (i := 8) (v := ?_) rfl (by kernel_rfl) (by kernel_rfl) (by kernel_rfl) (by rfl) (by first | assumption | exact True.intro) ?_ ?_
              rotate_left
              · (intro w hSw; (try dsimp only at hSw); go_simp; (try with_reducible rfl))
              try simp only [Act.put, List.setIfInBounds_toArray, List.set_cons_zero, List.set_cons_succ]
              refine held_take (i := 9) (v := ?_) rfl (by kernel_rfl) (by kernel_rfl) (by kernel_rfl) (by rfl) (by first | assumption | exact True.intro) ?_ ?_
              rotate_left
              · (intro w hSw; (try dsimp only at hSw); go_simp; (try with_reducible rfl))
              try simp only [Act.put, List.setIfInBounds_toArray, List.set_cons_zero, List.set_cons_succ]
              refine held_take (i := 10) (v := ?_) rfl (by kernel_rfl) (by kernel_rfl) (by kernel_rfl) (by rfl) (by first | assumption | exact True.intro) ?_ ?_
              rotate_left
              · (intro w hSw; (try dsimp only at hSw); go_simp; (try with_reducible rfl))
              try simp only [Act.put, List.setIfInBounds_toArray, List.set_cons_zero, List.set_cons_succ]
              refine held_op (i := 7) (by kernel_rfl) rfl (fun K hK => ?_)
              go_simp
              go_at_call 15
              (with_reducible refine (FA.codePut ixlt HQ.out hNf hul hwm).mono ?_)
              rintro e wB ⟨rfl, FB, kB⟩
              have bB := kB _ _ bb0
              have ixltB := bB.lt
              refine hK _ _ ?_ (fun hHeld2 => ?_)
              · exact ⟨bB.cell 0, bB.cell 2⟩
              clear hK K hHeld1
              try simp only [Act.put, List.setIfInBounds_toArray, List.set_cons_zero, List.set_cons_succ]
              refine held_op (i := 11) (by kernel_rfl) rfl (fun K hK => ?_)
              go_simp
              go_at_call 21
              (with_reducible refine (FB.refPut ixltB HQ.out hNl hNf hul hwm hLn).mono ?_)
              rintro e wP ⟨rfl, FP0, kP⟩
              have bP := kP _ _ bB
              refine hK _ _ ?_ (fun hHeld3 => ?_)
              · exact ⟨bP.cell 0, bP.cell 2⟩
              clear hK K hHeld2
              try simp only [Act.put, List.setIfInBounds_toArray, List.set_cons_zero, List.set_cons_succ]
              refine held_take (i := 12) (v := ?_) rfl (by kernel_rfl) (by kernel_rfl) (by kernel_rfl) (by rfl) (by first | assumption | exact True.intro) ?_ ?_
              rotate_left
              · (intro w hSw; (try dsimp only at hSw); go_simp; (try with_reducible rfl))
              try simp only [Act.put, List.setIfInBounds_toArray, List.set_cons_zero, List.set_cons_succ]
              refine held_take (i := 13) (v := ?_) rfl (by kernel_rfl) (by kernel_rfl) (by kernel_rfl) (by rfl) (by first | assumption | exact True.intro) ?_ ?_
              rotate_left
              · (intro w hSw; (try dsimp only at hSw); go_simp; (try with_reducible rfl))
              try simp only [Act.put, List.setIfInBounds_toArray, List.set_cons_zero, List.set_cons_succ]
              refine wpAnyH_done (by kernel_rfl) ?_ _
              refine NoPanic.normal ?_
              clear hHeld3
              have FD := FP0.disks
              have ixP := bP.lt
              have hsw := putS_waits s f z (catF L).length p
              have hsl := putS_len s f z (catF L).length p
              have hsn := putS_n s f z (catF L).length p
              clear FA FB FP0 kB kP bB bb0 ixltB
              have hok3 := HOK0.out.crash (s' := putS s f z (catF L).length p) hsl hsw hsn hp200 hz keep
              have hcw : (putS s f z (catF L).length p).2.1.length ≤ 1000000000 := by omega
              generalize putS s f z (catF L).length p = sp at *
              have f1 := bP.cell 1
              go_wp2_with fail
              refine (FD.codeCrash ixP keep HB1.out.1 HB1.out.2 hcw).mono ?_
              rintro e wQ ⟨rfl, FQ, kQ⟩
              have bQ := kQ _ _ bP
              have f1' := bQ.cell 1
              clear f1 FD
              go_wp2_with fail
              refine (FQ.refCrash keep hcw).mono ?_
              rintro e wR ⟨rfl, FR, kR⟩
              have bR := kR _ _ bQ
              have ixR := bR.lt
              clear f1' FQ kQ bQ bP kR
              have hcr : (crD sp keep).1.length = N ∧ (crD sp keep).2.1.length ≤ 0 ∧ 0 ≤ (crD sp keep).2.2 ∧ (crD sp keep).2.2 ≤ 100000000 := hok3.1
              have hrec := hok3.2
              have hend : endD (crD sp keep) f z = (catF (recD (crD sp keep) f z)).length := rfl
              clear hok3 hcw hsw hsl hsn
              generalize (crD sp keep) = sc at *
              go_wp2_with fail
              refine (FR.codeOpen ixR (by rw [hcr.1]; exact hz) h1 (by have := hcr.2.1; omega) hcr.2.2.1 hcr.2.2.2).mono ?_
              rintro e wS ⟨h', v', rfl, FS, kS⟩
              have bS := kS _ _ bR
              have ixS := bS.lt
              rw [hend] at FS
              obtain ⟨nr, hnr⟩ : ∃ nr, nr = (recD sc f z).length := ⟨_, rfl⟩
              obtain ⟨A', c', rfl, _, _⟩ := FS.rdl.sliceN hnr.symm
              have HNR := Lib.hid hnr
              clear FR kS bR ixR hnr
              go_wp2_with fail
              refine (FS.refOpen ixS (by rw [hcr.1]; omega) (by rw [hcr.1]; exact hz) h1 (by have := hcr.2.1; omega) hcr.2.2.1 hcr.2.2.2).mono ?_
              rintro e wT ⟨m', rfl, FT, hq', kT⟩
              have bT := kT _ _ bS
              obtain ⟨A3, c3, f3, hr3⟩ := FT.pr.refL
              have FT3 := Lib.hid FT
              clear FT FS kT bS ixS
              rw [← HNR.out] at f3 hr3
              go_wp2_with fail
              refine (RefSame_any (recD sc f z) (recD sc f z) _ _ wT hq' hr3).mono ?_
              rintro e wc ⟨he, n9, hw9⟩
              obtain rfl := he.trans (congrArg (fun n => Ending.returned (.bool n)) (decide_eq_true rfl))
              have hx9 : Ext wT wc := by rw [hw9]; exact Below.drewN' (Ext.refl _) n9
              have FC := FT3.out.ext hx9
              have bC := bT.ext hx9
              clear he hw9 hx9 FT3 bT f3 hr3 hq' HNR hcr hend ixP
              have HOK := Lib.hid (hrec)
              have HF := Lib.hid FC
              have HB := Lib.hid bC
              clear FC bC HFR HBB0 HBD HOK0 hNl hNf hul hwm hn0 hn1 hn1b hLn ixlt hrec
              generalize opD sc f z = s' at *
              generalize recD sc f z = L' at *
              go_wp2_with fail
              go_meet
              exact ⟨h', m', s', L', rfl, rfl, HF.out, HB.out, HOK.out⟩
            · have kb2 : (kind == 2) = false := by rw [beq_eq_false_iff_ne]; exact k2
              by_cases k4 : kind = 4
              · subst k4
                go_wp2_with fail
                obtain ⟨hNl, hNf, hul, hwm, hn0, hn1, hn1b, hLn⟩ := HBD.out
                have FA := HFR.out.ext (Ext.dr (Ext.refl wa))
                have bb0 := HBB0.out.ext (Ext.dr (Ext.refl wa))
                have ixlt := bb0.lt
                refine held_begin (by kernel_rfl) ?_
                have hHeld0 : True := True.intro
                refine held_more (S' := fun w' : World => w'.cell? ⟨ix, 0, none⟩ = some (.int .i64 4) ∧ w'.cell? ⟨ix, 2, none⟩ = some (.slice Au p.length cu)) (fun _ _ => trivial) ?_
                have hHeld1 : (fun w' : World => w'.cell? ⟨ix, 0, none⟩ = some (.int .i64 4) ∧ w'.cell? ⟨ix, 2, none⟩ = some (.slice Au p.length cu)) _ := ⟨bb0.cell 0, bb0.cell 2⟩
                clear hHeld0
                refine held_take (i := 0) (v := ?_) rfl (by kernel_rfl) (by kernel_rfl) (by kernel_rfl) (by rfl) (by first | assumption | exact True.intro) ?_ ?_
                rotate_left
                · (intro w hSw; (try dsimp only at hSw); go_simp; (try with_reducible rfl))
                try simp only [Act.put, List.setIfInBounds_toArray, List.set_cons_zero, List.set_cons_succ]
                refine held_take (i := 1) (v := ?_) rfl (by kernel_rfl) (by kernel_rfl) (by kernel_rfl) (by rfl) (by first | assumption | exact True.intro) ?_ ?_
                rotate_left
                · (intro w hSw; (try dsimp only at hSw); go_simp; (try with_reducible rfl))
                try simp only [Act.put, List.setIfInBounds_toArray, List.set_cons_zero, List.set_cons_succ]
                refine held_take (i := 2) (v := ?_) rfl (by kernel_rfl) (by kernel_rfl) (by kernel_rfl) (by rfl) (by first | assumption | exact True.intro) ?_ ?_
                rotate_left
                · (intro w hSw; (try dsimp only at hSw); go_simp; (try with_reducible rfl))
                try simp only [Act.put, List.setIfInBounds_toArray, List.set_cons_zero, List.set_cons_succ]
                refine held_take (i := 3) (v := ?_) rfl (by kernel_rfl) (by kernel_rfl) (by kernel_rfl) (by rfl) (by first | assumption | exact True.intro) ?_ ?_
                rotate_left
                · (intro w hSw; (try dsimp only at hSw); go_simp; (try with_reducible rfl))
                try simp only [Act.put, List.setIfInBounds_toArray, List.set_cons_zero, List.set_cons_succ]
                refine held_skip (i := 4) rfl (by kernel_rfl) (by kernel_rfl) (by kernel_rfl) (by rfl) (by first | assumption | exact True.intro) ?_
                try simp only [Act.put, List.setIfInBounds_toArray, List.set_cons_zero, List.set_cons_succ]
                refine held_skip (i := 5) rfl (by kernel_rfl) (by kernel_rfl) (by kernel_rfl) (by rfl) (by first | assumption | exact True.intro) ?_
                try simp only [Act.put, List.setIfInBounds_toArray, List.set_cons_zero, List.set_cons_succ]
                refine held_skip (i := 6) rfl (by kernel_rfl) (by kernel_rfl) (by kernel_rfl) (by rfl) (by first | assumption | exact True.intro) ?_
                try simp only [Act.put, List.setIfInBounds_toArray, List.set_cons_zero, List.set_cons_succ]
                refine held_skip (i := 7) rfl (by kernel_rfl) (by kernel_rfl) (by kernel_rfl) (by rfl) (by first | assumption | exact True.intro) ?_
                try simp only [Act.put, List.setIfInBounds_toArray, List.set_cons_zero, List.set_cons_succ]
                refine held_skip (i := 8) rfl (by kernel_rfl) (by kernel_rfl) (by kernel_rfl) (by rfl) (by first | assumption | exact True.intro) ?_
                try simp only [Act.put, List.setIfInBounds_toArray, List.set_cons_zero, List.set_cons_succ]
                refine held_skip (i := 9) rfl (by kernel_rfl) (by kernel_rfl) (by kernel_rfl) (by rfl) (by first | assumption | exact True.intro) ?_
                try simp only [Act.put, List.setIfInBounds_toArray, List.set_cons_zero, List.set_cons_succ]
                refine held_skip (i := 10) rfl (by kernel_rfl) (by kernel_rfl) (by kernel_rfl) (by rfl) (by first | assumption | exact True.intro) ?_
                try simp only [Act.put, List.setIfInBounds_toArray, List.set_cons_zero, List.set_cons_succ]
                refine held_skip (i := 11) rfl (by kernel_rfl) (by kernel_rfl) (by kernel_rfl) (by rfl) (by first | assumption | exact True.intro) ?_
                try simp only [Act.put, List.setIfInBounds_toArray, List.set_cons_zero, List.set_cons_succ]
                refine held_skip (i := 12) rfl (by kernel_rfl) (by kernel_rfl) (by kernel_rfl) (by rfl) (by first | assumption | exact True.intro) ?_
                try simp only [Act.put, List.setIfInBounds_toArray, List.set_cons_zero, List.set_cons_succ]
                refine held_take (i := 13) (v := ?_) rfl (by kernel_rfl) (by kernel_rfl) (by kernel_rfl) (by rfl) (by first | assumption | exact True.intro) ?_ ?_
                rotate_left
                · (intro w hSw; (try dsimp only at hSw); go_simp; (try with_reducible rfl))
                try simp only [Act.put, List.setIfInBounds_toArray, List.set_cons_zero, List.set_cons_succ]
                refine wpAnyH_done (by kernel_rfl) ?_ _
                refine NoPanic.normal ?_
                clear hHeld1
                have FD := FA.disks
                have bP := bb0
                have ixP := bP.lt
                clear FA bb0
                have hok3 := HOK0.out.crash (s' := s) (p := p) rfl (by omega) rfl hp200 hz keep
                have hcw : s.2.1.length ≤ 1000000000 := by omega
                generalize wa.drew = wP at *
                have f1 := bP.cell 1
                go_wp2_with fail
                refine (FD.codeCrash ixP keep HB1.out.1 HB1.out.2 hcw).mono ?_
                rintro e wQ ⟨rfl, FQ, kQ⟩
                have bQ := kQ _ _ bP
                have f1' := bQ.cell 1
                clear f1 FD
                go_wp2_with fail
                refine (FQ.refCrash keep hcw).mono ?_
                rintro e wR ⟨rfl, FR, kR⟩
                have bR := kR _ _ bQ
                have ixR := bR.lt
                clear f1' FQ kQ bQ bP kR
                have hcr : (crD s keep).1.length = N ∧ (crD s keep).2.1.length ≤ 0 ∧ 0 ≤ (crD s keep).2.2 ∧ (crD s keep).2.2 ≤ 100000000 := hok3.1
                have hrec := hok3.2
                have hend : endD (crD s keep) f z = (catF (recD (crD s keep) f z)).length := rfl
                clear hok3 hcw
                generalize (crD s keep) = sc at *
                go_wp2_with fail
                refine (FR.codeOpen ixR (by rw [hcr.1]; exact hz) h1 (by have := hcr.2.1; omega) hcr.2.2.1 hcr.2.2.2).mono ?_
                rintro e wS ⟨h', v', rfl, FS, kS⟩
                have bS := kS _ _ bR
                have ixS := bS.lt
                rw [hend] at FS
                obtain ⟨nr, hnr⟩ : ∃ nr, nr = (recD sc f z).length := ⟨_, rfl⟩
                obtain ⟨A', c', rfl, _, _⟩ := FS.rdl.sliceN hnr.symm
                have HNR := Lib.hid hnr
                clear FR kS bR ixR hnr
                go_wp2_with fail
                refine (FS.refOpen ixS (by rw [hcr.1]; omega) (by rw [hcr.1]; exact hz) h1 (by have := hcr.2.1; omega) hcr.2.2.1 hcr.2.2.2).mono ?_
                rintro e wT ⟨m', rfl, FT, hq', kT⟩
                have bT := kT _ _ bS
                obtain ⟨A3, c3, f3, hr3⟩ := FT.pr.refL
                have FT3 := Lib.hid FT
                clear FT FS kT bS ixS
                rw [← HNR.out] at f3 hr3
                go_wp2_with fail
                refine (RefSame_any (recD sc f z) (recD sc f z) _ _ wT hq' hr3).mono ?_
                rintro e wc ⟨he, n9, hw9⟩
                obtain rfl := he.trans (congrArg (fun n => Ending.returned (.bool n)) (decide_eq_true rfl))
                have hx9 : Ext wT wc := by rw [hw9]; exact Below.drewN' (Ext.refl _) n9
                have FC := FT3.out.ext hx9
                have bC := bT.ext hx9
                clear he hw9 hx9 FT3 bT f3 hr3 hq' HNR hcr hend ixP
                have HOK := Lib.hid (hrec)
                have HF := Lib.hid FC
                have HB := Lib.hid bC
                clear FC bC HFR HBB0 HBD HOK0 hNl hNf hul hwm hn0 hn1 hn1b hLn ixlt hrec
                generalize opD sc f z = s' at *
                generalize recD sc f z = L' at *
                go_wp2_with fail
                go_meet
                exact ⟨h', m', s', L', rfl, rfl, HF.out, HB.out, HOK.out⟩
              · have kb4 : (kind == 4) = false := by rw [beq_eq_false_iff_ne]; exact k4
                by_cases k3 : kind = 3
                · subst k3
                  go_wp2_with fail
                  obtain ⟨hNl, hNf, hul, hwm, hn0, hn1, hn1b, hLn⟩ := HBD.out
                  have FA := HFR.out.ext (Ext.dr (Ext.refl wa))
                  have bb0 := HBB0.out.ext (Ext.dr (Ext.refl wa))
                  have ixlt := bb0.lt
                  refine held_begin (by kernel_rfl) ?_
                  have hHeld0 : True := True.intro
                  refine held_more (S' := fun w' : World => w'.cell? ⟨ix, 2, none⟩ = some (.slice Au p.length cu)) (fun _ _ => trivial) ?_
                  have hHeld1 : (fun w' : World => w'.cell? ⟨ix, 2, none⟩ = some (.slice Au p.length cu)) _ := (bb0.cell 2)
                  clear hHeld0
                  refine held_take (i := 0) (v := ?_) rfl (by kernel_rfl) (by kernel_rfl) (by kernel_rfl) (by rfl) (by first | assumption | exact True.intro) ?_ ?_
                  rotate_left
                  · (intro w hSw; (try dsimp only at hSw); go_simp; (try with_reducible rfl))
                  try simp only [Act.put, List.setIfInBounds_toArray, List.set_cons_zero, List.set_cons_succ]
                  refine held_take (i := 1) (v := ?_) rfl (by kernel_rfl) (by kernel_rfl) (by kernel_rfl) (by rfl) (by first | assumption | exact True.intro) ?_ ?_
                  rotate_left
                  · (intro w hSw; (try dsimp only at hSw); go_simp; (try with_reducible rfl))
                  try simp only [Act.put, List.setIfInBounds_toArray, List.set_cons_zero, List.set_cons_succ]
                  refine held_take (i := 2) (v := ?_) rfl (by kernel_rfl) (by kernel_rfl) (by kernel_rfl) (by rfl) (by first | assumption | exact True.intro) ?_ ?_
                  rotate_left
                  · (intro w hSw; (try dsimp only at hSw); go_simp; (try with_reducible rfl))
                  try simp only [Act.put, List.setIfInBounds_toArray, List.set_cons_zero, List.set_cons_succ]
                  refine held_take (i := 4) (v := ?_) rfl (by kernel_rfl) (by kernel_rfl) (by kernel_rfl) (by rfl) (by first | assumption | exact True.intro) ?_ ?_
                  rotate_left
                  · (intro w hSw; (try dsimp only at hSw); go_simp; (try with_reducible rfl))
                  try simp only [Act.put, List.setIfInBounds_toArray, List.set_cons_zero, List.set_cons_succ]
                  refine held_take (i := 5) (v := ?_) rfl (by kernel_rfl) (by kernel_rfl) (by kernel_rfl) (by rfl) (by first | assumption | exact True.intro) ?_ ?_
                  rotate_left
                  · (intro w hSw; (try dsimp only at hSw); go_simp; (try with_reducible rfl))
                  try simp only [Act.put, List.setIfInBounds_toArray, List.set_cons_zero, List.set_cons_succ]
                  refine held_take (i := 6) (v := ?_) rfl (by kernel_rfl) (by kernel_rfl) (by kernel_rfl) (by rfl) (by first | assumption | exact True.intro) ?_ ?_
                  rotate_left
                  · (intro w hSw; (try dsimp only at hSw); go_simp; (try with_reducible rfl))
                  try simp only [Act.put, List.setIfInBounds_toArray, List.set_cons_zero, List.set_cons_succ]
                  refine held_op (i := 3) (by kernel_rfl) rfl (fun K hK => ?_)
                  go_simp
                  go_at_call 15
                  (with_reducible refine (FA.codePut ixlt HQ.out hNf hul hwm).mono ?_)
                  rintro e wB ⟨rfl, FB, kB⟩
                  have bB := kB _ _ bb0
                  have ixltB := bB.lt
                  refine hK _ _ ?_ (fun hHeld2 => ?_)
                  · exact (bB.cell 2)
                  clear hK K hHeld1
                  try simp only [Act.put, List.setIfInBounds_toArray, List.set_cons_zero, List.set_cons_succ]
                  refine held_op (i := 7) (by kernel_rfl) rfl (fun K hK => ?_)
                  go_simp
                  go_at_call 21
                  (with_reducible refine (FB.refPut ixltB HQ.out hNl hNf hul hwm hLn).mono ?_)
                  rintro e wc ⟨rfl, FC, kC⟩
                  have bC := kC _ _ bB
                  refine hK _ _ ?_ (fun hHeld3 => ?_)
                  · exact (bC.cell 2)
                  clear hK K hHeld2
                  try simp only [Act.put, List.setIfInBounds_toArray, List.set_cons_zero, List.set_cons_succ]
                  refine held_take (i := 8) (v := ?_) rfl (by kernel_rfl) (by kernel_rfl) (by kernel_rfl) (by rfl) (by first | assumption | exact True.intro) ?_ ?_
                  rotate_left
                  · (intro w hSw; (try dsimp only at hSw); go_simp; (try with_reducible rfl))
                  try simp only [Act.put, List.setIfInBounds_toArray, List.set_cons_zero, List.set_cons_succ]
                  refine wpAnyH_done (by kernel_rfl) ?_ _
                  refine NoPanic.normal ?_
                  clear hHeld3
                  rw [putU_cat] at FC
                  have HOK := Lib.hid (HOK0.out.put (p := p) hp200)
                  have HF := Lib.hid FC
                  have HB := Lib.hid bC
                  clear FC bC HFR HBB0 HBD HOK0 hNl hNf hul hwm hn0 hn1 hn1b hLn ixlt FA FB kB kC bB bb0 ixltB
                  generalize putS s f z (catF L).length p = s' at *
                  generalize (if putE z (catF L).length p = 0 then L ++ [p] else L) = L' at *
                  go_wp2_with fail
                  go_meet
                  exact ⟨h, m, s', L', rfl, rfl, HF.out, HB.out, HOK.out⟩
                · have kb3 : (kind == 3) = false := by rw [beq_eq_false_iff_ne]; exact k3
                  have HOK := Lib.hid HOK0.out.same
                  go_wp2_with fail
                  go_meet
                  exact ⟨h, m, s, L, rfl, rfl, HFR.out, HBB0.out, HOK.out⟩
      case rest =>
        clear HFR HBB0 HBD HOK0
        obtain ⟨h, m, s, L, rfl, rfl, hfree, hblk, hokk⟩ := hcut
        have HF := Lib.hid hfree
        have HB := Lib.hid hblk
        have HOK := Lib.hid hokk
        clear hfree hblk hokk
        have P0 := HF.out.pr.ext (Ext.dr (Ext.refl wc))
        have bb0 := HB.out.ext (Ext.dr (Ext.refl wc))
        have hu := HOK.out.2.2.2.2.1
        have hu256 : (catF L).length ≤ 65536 := by omega
        have hz256 : z ≤ 65536 := by omega
        have hcl : (catF L).length ≤ 1000000000 := by omega
        have hLn : L.length ≤ 1000000000 := by have := catF_manyA L HOK.out.2.2.2.2.2; omega
        have hwb : s.2.1.length ≤ 1000000000 := by have := HOK.out.2.1; omega
        have hNb : s.1.length ≤ 65536 := by rw [HOK.out.1]; omega
        have l0 : -9223372036854775808 ≤ (p.length : Int) := by omega
        have l1 : (p.length : Int) ≤ 9223372036854775807 := by omega
        clear HF HB
        by_cases hp0 : p.length = 0
        · have hbb : roomB z (catF L).length 0 = false := by rw [show (0 : Int) = (p.length : Int) by omega, roomB_put, decide_eq_false]; intro h0; have := (putE_yes h0).1; omega
          have HBB := Lib.hid hbb
          have hpd : ¬ (0 : Int) < (p.length : Int) := by omega
          clear hbb
          go_wp2_with fail
          refine held_begin (by kernel_rfl) ?_
          have hHeld0 : True := True.intro
          refine held_more (S' := fun w' : World => w'.cell? ⟨ix, 2, none⟩ = some (.slice Au p.length cu)) (fun _ _ => trivial) ?_
          have hHeld1 : (fun w' : World => w'.cell? ⟨ix, 2, none⟩ = some (.slice Au p.length cu)) _ := (bb0.cell 2)
          clear hHeld0
          refine held_take (i := 0) (v := ?_) rfl (by kernel_rfl) (by kernel_rfl) (by kernel_rfl) (by rfl) (by first | assumption | exact True.intro) ?_ ?_
          rotate_left
          · (intro w hSw; (try dsimp only at hSw); go_simp; (try with_reducible rfl))
          try simp only [Act.put, List.setIfInBounds_toArray, List.set_cons_zero, List.set_cons_succ]
          refine held_take (i := 2) (v := ?_) rfl (by kernel_rfl) (by kernel_rfl) (by kernel_rfl) (by rfl) (by first | assumption | exact True.intro) ?_ ?_
          rotate_left
          · (intro w hSw; (try dsimp only at hSw); go_simp; (try with_reducible rfl))
          try simp only [Act.put, List.setIfInBounds_toArray, List.set_cons_zero, List.set_cons_succ]
          refine held_op (i := 1) (by kernel_rfl) rfl (fun K hK => ?_)
          go_simp
          go_at_call 17
          (with_reducible refine (P0.codeUsed hu256).mono ?_)
          rintro e wA ⟨rfl, PA, xA⟩
          have bA := bb0.ext xA
          refine hK _ _ ?_ (fun hHeld2 => ?_)
          · exact (bA.cell 2)
          clear hK K hHeld1
          try simp only [Act.put, List.setIfInBounds_toArray, List.set_cons_zero, List.set_cons_succ]
          refine held_op (i := 3) (by kernel_rfl) rfl (fun K hK => ?_)
          go_simp
          go_at_call 25
          (with_reducible refine (PA.refUsed hcl hLn).mono ?_)
          rintro e wB ⟨rfl, PB, xB⟩
          have bB := bA.ext xB
          refine hK _ _ ?_ (fun hHeld3 => ?_)
          · exact (bB.cell 2)
          clear hK K hHeld2
          try simp only [Act.put, List.setIfInBounds_toArray, List.set_cons_zero, List.set_cons_succ]
          refine held_take (i := 4) (v := ?_) rfl (by kernel_rfl) (by kernel_rfl) (by kernel_rfl) (by rfl) (by first | assumption | exact True.intro) ?_ ?_
          rotate_left
          · (intro w hSw; (try dsimp only at hSw); go_simp; (try with_reducible rfl))
          try simp only [Act.put, List.setIfInBounds_toArray, List.set_cons_zero, List.set_cons_succ]
          refine held_take (i := 5) (v := ?_) rfl (by kernel_rfl) (by kernel_rfl) (by kernel_rfl) (by rfl) (by first | assumption | exact True.intro) ?_ ?_
          rotate_left
          · (intro w hSw; (try dsimp only at hSw); go_simp; (try with_reducible rfl))
          try simp only [Act.put, List.setIfInBounds_toArray, List.set_cons_zero, List.set_cons_succ]
          refine held_take (i := 6) (v := ?_) rfl (by kernel_rfl) (by kernel_rfl) (by kernel_rfl) (by rfl) (by first | assumption | exact True.intro) ?_ ?_
          rotate_left
          · (intro w hSw; (try dsimp only at hSw); go_simp; (try with_reducible rfl))
          try simp only [Act.put, List.setIfInBounds_toArray, List.set_cons_zero, List.set_cons_succ]
          refine held_take (i := 8) (v := ?_) rfl (by kernel_rfl) (by kernel_rfl) (by kernel_rfl) (by rfl) (by first | assumption | exact True.intro) ?_ ?_
          rotate_left
          · (intro w hSw; (try dsimp only at hSw); go_simp; (try with_reducible rfl))
          try simp only [Act.put, List.setIfInBounds_toArray, List.set_cons_zero, List.set_cons_succ]
          refine held_op (i := 7) (by kernel_rfl) rfl (fun K hK => ?_)
          go_simp
          go_at_call 27
          (with_reducible refine (PB.codeBytes hwb).mono ?_)
          rintro e wC ⟨A7, c7, rfl, R7, PC, xC⟩
          have bC := bB.ext xC
          refine hK _ _ ?_ (fun hHeld4 => ?_)
          · exact (bC.cell 2)
          clear hK K hHeld3
          try simp only [Act.put, List.setIfInBounds_toArray, List.set_cons_zero, List.set_cons_succ]
          refine held_op (i := 9) (by kernel_rfl) rfl (fun K hK => ?_)
          go_simp
          go_at_call 28
          (with_reducible refine (PC.refBytes hNb hwb).mono ?_)
          rintro e wD ⟨A9, c9, rfl, R9, PD, xD⟩
          have bD := bC.ext xD
          refine hK _ _ ?_ (fun hHeld5 => ?_)
          · exact (bD.cell 2)
          clear hK K hHeld4
          try simp only [Act.put, List.setIfInBounds_toArray, List.set_cons_zero, List.set_cons_succ]
          refine held_op (i := 10) (by kernel_rfl) rfl (fun K hK => ?_)
          go_simp
          go_at_call 26
          (with_reducible refine (Bytes_same (rdD s) _ _ wD (R7.ext xD) R9).mono ?_)
          rintro e wE ⟨rfl, nE, hwE⟩
          have xE : Ext wD wE := by rw [hwE]; exact Below.drewN' (Ext.refl _) nE
          have bE := bD.ext xE
          have PE := PD.ext xE
          clear hwE
          refine hK _ _ ?_ (fun hHeld6 => ?_)
          · exact (bE.cell 2)
          clear hK K hHeld5
          try simp only [Act.put, List.setIfInBounds_toArray, List.set_cons_zero, List.set_cons_succ]
          refine held_take (i := 11) (v := ?_) rfl (by kernel_rfl) (by kernel_rfl) (by kernel_rfl) (by rfl) (by first | assumption | exact True.intro) ?_ ?_
          rotate_left
          · (intro w hSw; (try dsimp only at hSw); go_simp; (try with_reducible rfl))
          try simp only [Act.put, List.setIfInBounds_toArray, List.set_cons_zero, List.set_cons_succ]
          refine held_take (i := 12) (v := ?_) rfl (by kernel_rfl) (by kernel_rfl) (by kernel_rfl) (by rfl) (by first | assumption | exact True.intro) ?_ ?_
          rotate_left
          · (intro w hSw; (try dsimp only at hSw); go_simp; (try with_reducible rfl))
          try simp only [Act.put, List.setIfInBounds_toArray, List.set_cons_zero, List.set_cons_succ]
          refine held_take (i := 13) (v := ?_) rfl (by kernel_rfl) (by kernel_rfl) (by kernel_rfl) (by rfl) (by first | assumption | exact True.intro) ?_ ?_
          rotate_left
          · (intro w hSw; (try dsimp only at hSw); go_simp; (try with_reducible rfl))
          try simp only [Act.put, List.setIfInBounds_toArray, List.set_cons_zero, List.set_cons_succ]
          refine held_take (i := 14) (v := ?_) rfl (by kernel_rfl) (by kernel_rfl) (by kernel_rfl) (by rfl) (by first | assumption | exact True.intro) ?_ ?_
          rotate_left
          · (intro w hSw; (try dsimp only at hSw); go_simp; (try with_reducible rfl))
          try simp only [Act.put, List.setIfInBounds_toArray, List.set_cons_zero, List.set_cons_succ]
          refine held_take (i := 15) (v := ?_) rfl (by kernel_rfl) (by kernel_rfl) (by kernel_rfl) (by rfl) (by first | assumption | exact True.intro) ?_ ?_
          rotate_left
          · (intro w hSw; (try dsimp only at hSw); go_simp; (try with_reducible rfl))
          try simp only [Act.put, List.setIfInBounds_toArray, List.set_cons_zero, List.set_cons_succ]
          refine held_take (i := 16) (v := ?_) rfl (by kernel_rfl) (by kernel_rfl) (by kernel_rfl) (by rfl) (by first | assumption | exact True.intro) ?_ ?_
          rotate_left
          · (intro w hSw; (try dsimp only at hSw); go_simp; (try with_reducible rfl))
          try simp only [Act.put, List.setIfInBounds_toArray, List.set_cons_zero, List.set_cons_succ]
          refine held_take (i := 17) (v := ?_) rfl (by kernel_rfl) (by kernel_rfl) (by kernel_rfl) (by rfl) (by first | assumption | exact True.intro) ?_ ?_
          rotate_left
          · (intro w hSw; (try dsimp only at hSw); go_simp; (try with_reducible rfl))
          try simp only [Act.put, List.setIfInBounds_toArray, List.set_cons_zero, List.set_cons_succ]
          refine held_take (i := 19) (v := ?_) rfl (by kernel_rfl) (by kernel_rfl) (by kernel_rfl) (by rfl) (by first | assumption | exact True.intro) ?_ ?_
          rotate_left
          · (intro w hSw; (try dsimp only at hSw); go_simp; (try with_reducible rfl))
          try simp only [Act.put, List.setIfInBounds_toArray, List.set_cons_zero, List.set_cons_succ]
          refine held_take (i := 20) (v := ?_) rfl (by kernel_rfl) (by kernel_rfl) (by kernel_rfl) (by rfl) (by first | assumption | exact True.intro) ?_ ?_
          rotate_left
          · (intro w hSw; (try dsimp only at hSw); go_simp; (try with_reducible rfl))
          try simp only [Act.put, List.setIfInBounds_toArray, List.set_cons_zero, List.set_cons_succ]
          refine held_take (i := 21) (v := ?_) rfl (by kernel_rfl) (by kernel_rfl) (by kernel_rfl) (by rfl) (by first | assumption | exact True.intro) ?_ ?_
          rotate_left
          · (intro w hSw; (try dsimp only at hSw); go_simp; (try with_reducible rfl))
          try simp only [Act.put, List.setIfInBounds_toArray, List.set_cons_zero, List.set_cons_succ]
          refine held_take (i := 22) (v := ?_) rfl (by kernel_rfl) (by kernel_rfl) (by kernel_rfl) (by rfl) (by first | assumption | exact True.intro) ?_ ?_
          rotate_left
          · (intro w hSw; (try dsimp only at hSw); go_simp; (try with_reducible rfl))
          try simp only [Act.put, List.setIfInBounds_toArray, List.set_cons_zero, List.set_cons_succ]
          refine held_op (i := 18) (by kernel_rfl) rfl (fun K hK => ?_)
          go_simp
          go_at_call 18
          (with_reducible refine (PE.codeRoom 0 hz256 hu (by decide) (by decide)).mono ?_)
          rintro e wF ⟨he1, PF, xF⟩
          obtain rfl := he1.trans (congrArg (fun n => Ending.returned (.bool n)) HBB.out)
          have bF := bE.ext xF
          clear he1
          refine hK _ _ ?_ (fun hHeld7 => ?_)
          · exact (bF.cell 2)
          clear hK K hHeld6
          try simp only [Act.put, List.setIfInBounds_toArray, List.set_cons_zero, List.set_cons_succ]
          refine held_take (i := 23) (v := ?_) rfl (by kernel_rfl) (by kernel_rfl) (by kernel_rfl) (by rfl) (by first | assumption | exact True.intro) ?_ ?_
          rotate_left
          · (intro w hSw; (try dsimp only at hSw); go_simp; (try with_reducible rfl))
          try simp only [Act.put, List.setIfInBounds_toArray, List.set_cons_zero, List.set_cons_succ]
          refine held_skip (i := 24) rfl (by kernel_rfl) (by kernel_rfl) (by kernel_rfl) (by rfl) (by first | assumption | exact True.intro) ?_
          try simp only [Act.put, List.setIfInBounds_toArray, List.set_cons_zero, List.set_cons_succ]
          refine held_skip (i := 25) rfl (by kernel_rfl) (by kernel_rfl) (by kernel_rfl) (by rfl) (by first | assumption | exact True.intro) ?_
          try simp only [Act.put, List.setIfInBounds_toArray, List.set_cons_zero, List.set_cons_succ]
          refine held_skip (i := 26) rfl (by kernel_rfl) (by kernel_rfl) (by kernel_rfl) (by rfl) (by first | assumption | exact True.intro) ?_
          try simp only [Act.put, List.setIfInBounds_toArray, List.set_cons_zero, List.set_cons_succ]
          refine held_skip (i := 27) rfl (by kernel_rfl) (by kernel_rfl) (by kernel_rfl) (by rfl) (by first | assumption | exact True.intro) ?_
          try simp only [Act.put, List.setIfInBounds_toArray, List.set_cons_zero, List.set_cons_succ]
          refine held_skip (i := 28) rfl (by kernel_rfl) (by kernel_rfl) (by kernel_rfl) (by rfl) (by first | assumption | exact True.intro) ?_
          try simp only [Act.put, List.setIfInBounds_toArray, List.set_cons_zero, List.set_cons_succ]
          refine held_skip (i := 29) rfl (by kernel_rfl) (by kernel_rfl) (by kernel_rfl) (by rfl) (by first | assumption | exact True.intro) ?_
          try simp only [Act.put, List.setIfInBounds_toArray, List.set_cons_zero, List.set_cons_succ]
          refine held_skip (i := 30) rfl (by kernel_rfl) (by kernel_rfl) (by kernel_rfl) (by rfl) (by first | assumption | exact True.intro) ?_
          try simp only [Act.put, List.setIfInBounds_toArray, List.set_cons_zero, List.set_cons_succ]
          refine held_skip (i := 31) rfl (by kernel_rfl) (by kernel_rfl) (by kernel_rfl) (by rfl) (by first | assumption | exact True.intro) ?_
          try simp only [Act.put, List.setIfInBounds_toArray, List.set_cons_zero, List.set_cons_succ]
          refine held_skip (i := 32) rfl (by kernel_rfl) (by kernel_rfl) (by kernel_rfl) (by rfl) (by first | assumption | exact True.intro) ?_
          try simp only [Act.put, List.setIfInBounds_toArray, List.set_cons_zero, List.set_cons_succ]
          refine held_take (i := 33) (v := ?_) rfl (by kernel_rfl) (by kernel_rfl) (by kernel_rfl) (by rfl) (by first | assumption | exact True.intro) ?_ ?_
          rotate_left
          · (intro w hSw; (try dsimp only at hSw); go_simp; (try with_reducible rfl))
          try simp only [Act.put, List.setIfInBounds_toArray, List.set_cons_zero, List.set_cons_succ]
          refine held_take (i := 34) (v := ?_) rfl (by kernel_rfl) (by kernel_rfl) (by kernel_rfl) (by rfl) (by first | assumption | exact True.intro) ?_ ?_
          rotate_left
          · (intro w hSw; (try dsimp only at hSw); go_simp; (try with_reducible rfl))
          try simp only [Act.put, List.setIfInBounds_toArray, List.set_cons_zero, List.set_cons_succ]
          refine held_take (i := 35) (v := ?_) rfl (by kernel_rfl) (by kernel_rfl) (by kernel_rfl) (by rfl) (by first | assumption | exact True.intro) ?_ ?_
          rotate_left
          · (intro w hSw; (try dsimp only at hSw); go_simp; (try with_reducible rfl))
          try simp only [Act.put, List.setIfInBounds_toArray, List.set_cons_zero, List.set_cons_succ]
          refine wpAnyH_done (by kernel_rfl) ?_ _
          refine NoPanic.normal ?_
          clear hHeld7
          have HL := Lib.hid PF
          clear P0 PA PB PC PD PE PF R7 R9 xA xB xC xD xE xF bA bB bC bD bE bF bb0
          go_wp2
          go_roundg (l.length - (k + 1))
          case measure => omega
          case rel => exact ⟨k + 1, by go_num, by omega, rfl, h, m, s, L, rfl, rfl, HL.out, HOK.out⟩
        · obtain ⟨q, hq⟩ : ∃ q, q = (frameB p).length := ⟨_, rfl⟩
          obtain ⟨bv, hbv⟩ : ∃ bv, bv = roomB z (catF L).length (p.length : Int) := ⟨_, rfl⟩
          obtain ⟨X, hX⟩ : ∃ X : Int, X = ((z - (catF L).length : Nat) : Int) := ⟨_, rfl⟩
          have hww : IntKind.i64.wrap ((z : Int) - ((catF L).length : Int)) = X := by rw [IntKind.wrap_i64]; omega
          have hqb : decide ((q : Int) ≤ X) = bv := by
            rw [hbv, roomB_put]
            have hok : okP p := by omega
            unfold putE
            rw [if_neg (by rw [frameB_nil]; omega)]
            by_cases hc : z - (catF L).length < (frameB p).length
            · rw [if_pos hc, decide_eq_false (by omega), decide_eq_false (by omega)]
            · rw [if_neg hc, decide_eq_true (by omega), decide_eq_true rfl]
          have HBB := Lib.hid hbv.symm
          have HQL := Lib.hid hq.symm
          have hpd : (0 : Int) < (p.length : Int) := by omega
          have hpd2 : 0 < p.length := by omega
          have hpd3 : ¬ p = [] := fun h => by rw [h] at hpd2; exact absurd hpd2 (by decide)
          clear hbv hq hX
          go_wp2_with fail
          refine held_begin (by kernel_rfl) ?_
          have hHeld0 : True := True.intro
          refine held_more (S' := fun w' : World => w'.cell? ⟨ix, 2, none⟩ = some (.slice Au p.length cu)) (fun _ _ => trivial) ?_
          have hHeld1 : (fun w' : World => w'.cell? ⟨ix, 2, none⟩ = some (.slice Au p.length cu)) _ := (bb0.cell 2)
          clear hHeld0
          refine held_take (i := 0) (v := ?_) rfl (by kernel_rfl) (by kernel_rfl) (by kernel_rfl) (by rfl) (by first | assumption | exact True.intro) ?_ ?_
          rotate_left
          · (intro w hSw; (try dsimp only at hSw); go_simp; (try with_reducible rfl))
          try simp only [Act.put, List.setIfInBounds_toArray, List.set_cons_zero, List.set_cons_succ]
          refine held_take (i := 2) (v := ?_) rfl (by kernel_rfl) (by kernel_rfl) (by kernel_rfl) (by rfl) (by first | assumption | exact True.intro) ?_ ?_
          rotate_left
          · (intro w hSw; (try dsimp only at hSw); go_simp; (try with_reducible rfl))
          try simp only [Act.put, List.setIfInBounds_toArray, List.set_cons_zero, List.set_cons_succ]
          refine held_op (i := 1) (by kernel_rfl) rfl (fun K hK => ?_)
          go_simp
          go_at_call 17
          (with_reducible refine (P0.codeUsed hu256).mono ?_)
          rintro e wA ⟨rfl, PA, xA⟩
          have bA := bb0.ext xA
          refine hK _ _ ?_ (fun hHeld2 => ?_)
          · exact (bA.cell 2)
          clear hK K hHeld1
          try simp only [Act.put, List.setIfInBounds_toArray, List.set_cons_zero, List.set_cons_succ]
          refine held_op (i := 3) (by kernel_rfl) rfl (fun K hK => ?_)
          go_simp
          go_at_call 25
          (with_reducible refine (PA.refUsed hcl hLn).mono ?_)
          rintro e wB ⟨rfl, PB, xB⟩
          have bB := bA.ext xB
          refine hK _ _ ?_ (fun hHeld3 => ?_)
          · exact (bB.cell 2)
          clear hK K hHeld2
          try simp only [Act.put, List.setIfInBounds_toArray, List.set_cons_zero, List.set_cons_succ]
          refine held_take (i := 4) (v := ?_) rfl (by kernel_rfl) (by kernel_rfl) (by kernel_rfl) (by rfl) (by first | assumption | exact True.intro) ?_ ?_
          rotate_left
          · (intro w hSw; (try dsimp only at hSw); go_simp; (try with_reducible rfl))
          try simp only [Act.put, List.setIfInBounds_toArray, List.set_cons_zero, List.set_cons_succ]
          refine held_take (i := 5) (v := ?_) rfl (by kernel_rfl) (by kernel_rfl) (by kernel_rfl) (by rfl) (by first | assumption | exact True.intro) ?_ ?_
          rotate_left
          · (intro w hSw; (try dsimp only at hSw); go_simp; (try with_reducible rfl))
          try simp only [Act.put, List.setIfInBounds_toArray, List.set_cons_zero, List.set_cons_succ]
          refine held_take (i := 6) (v := ?_) rfl (by kernel_rfl) (by kernel_rfl) (by kernel_rfl) (by rfl) (by first | assumption | exact True.intro) ?_ ?_
          rotate_left
          · (intro w hSw; (try dsimp only at hSw); go_simp; (try with_reducible rfl))
          try simp only [Act.put, List.setIfInBounds_toArray, List.set_cons_zero, List.set_cons_succ]
          refine held_take (i := 8) (v := ?_) rfl (by kernel_rfl) (by kernel_rfl) (by kernel_rfl) (by rfl) (by first | assumption | exact True.intro) ?_ ?_
          rotate_left
          · (intro w hSw; (try dsimp only at hSw); go_simp; (try with_reducible rfl))
          try simp only [Act.put, List.setIfInBounds_toArray, List.set_cons_zero, List.set_cons_succ]
          refine held_op (i := 7) (by kernel_rfl) rfl (fun K hK => ?_)
          go_simp
          go_at_call 27
          (with_reducible refine (PB.codeBytes hwb).mono ?_)
          rintro e wC ⟨A7, c7, rfl, R7, PC, xC⟩
          have bC := bB.ext xC
          refine hK _ _ ?_ (fun hHeld4 => ?_)
          · exact (bC.cell 2)
          clear hK K hHeld3
          try simp only [Act.put, List.setIfInBounds_toArray, List.set_cons_zero, List.set_cons_succ]
          refine held_op (i := 9) (by kernel_rfl) rfl (fun K hK => ?_)
          go_simp
          go_at_call 28
          (with_reducible refine (PC.refBytes hNb hwb).mono ?_)
          rintro e wD ⟨A9, c9, rfl, R9, PD, xD⟩
          have bD := bC.ext xD
          refine hK _ _ ?_ (fun hHeld5 => ?_)
          · exact (bD.cell 2)
          clear hK K hHeld4
          try simp only [Act.put, List.setIfInBounds_toArray, List.set_cons_zero, List.set_cons_succ]
          refine held_op (i := 10) (by kernel_rfl) rfl (fun K hK => ?_)
          go_simp
          go_at_call 26
          (with_reducible refine (Bytes_same (rdD s) _ _ wD (R7.ext xD) R9).mono ?_)
          rintro e wE ⟨rfl, nE, hwE⟩
          have xE : Ext wD wE := by rw [hwE]; exact Below.drewN' (Ext.refl _) nE
          have bE := bD.ext xE
          have PE := PD.ext xE
          clear hwE
          refine hK _ _ ?_ (fun hHeld6 => ?_)
          · exact (bE.cell 2)
          clear hK K hHeld5
          try simp only [Act.put, List.setIfInBounds_toArray, List.set_cons_zero, List.set_cons_succ]
          refine held_take (i := 11) (v := ?_) rfl (by kernel_rfl) (by kernel_rfl) (by kernel_rfl) (by rfl) (by first | assumption | exact True.intro) ?_ ?_
          rotate_left
          · (intro w hSw; (try dsimp only at hSw); go_simp; (try with_reducible rfl))
          try simp only [Act.put, List.setIfInBounds_toArray, List.set_cons_zero, List.set_cons_succ]
          refine held_take (i := 12) (v := ?_) rfl (by kernel_rfl) (by kernel_rfl) (by kernel_rfl) (by rfl) (by first | assumption | exact True.intro) ?_ ?_
          rotate_left
          · (intro w hSw; (try dsimp only at hSw); go_simp; (try with_reducible rfl))
          try simp only [Act.put, List.setIfInBounds_toArray, List.set_cons_zero, List.set_cons_succ]
          refine held_take (i := 13) (v := ?_) rfl (by kernel_rfl) (by kernel_rfl) (by kernel_rfl) (by rfl) (by first | assumption | exact True.intro) ?_ ?_
          rotate_left
          · (intro w hSw; (try dsimp only at hSw); go_simp; (try with_reducible rfl))
          try simp only [Act.put, List.setIfInBounds_toArray, List.set_cons_zero, List.set_cons_succ]
          refine held_take (i := 14) (v := ?_) rfl (by kernel_rfl) (by kernel_rfl) (by kernel_rfl) (by rfl) (by first | assumption | exact True.intro) ?_ ?_
          rotate_left
          · (intro w hSw; (try dsimp only at hSw); go_simp; (try with_reducible rfl))
          try simp only [Act.put, List.setIfInBounds_toArray, List.set_cons_zero, List.set_cons_succ]
          refine held_take (i := 15) (v := ?_) rfl (by kernel_rfl) (by kernel_rfl) (by kernel_rfl) (by rfl) (by first | assumption | exact True.intro) ?_ ?_
          rotate_left
          · (intro w hSw; (try dsimp only at hSw); go_simp; (try with_reducible rfl))
          try simp only [Act.put, List.setIfInBounds_toArray, List.set_cons_zero, List.set_cons_succ]
          refine held_take (i := 16) (v := ?_) rfl (by kernel_rfl) (by kernel_rfl) (by kernel_rfl) (by rfl) (by first | assumption | exact True.intro) ?_ ?_
          rotate_left
          · (intro w hSw; (try dsimp only at hSw); go_simp; (try with_reducible rfl))
          try simp only [Act.put, List.setIfInBounds_toArray, List.set_cons_zero, List.set_cons_succ]
          refine held_take (i := 17) (v := ?_) rfl (by kernel_rfl) (by kernel_rfl) (by kernel_rfl) (by rfl) (by first | assumption | exact True.intro) ?_ ?_
          rotate_left
          · (intro w hSw; (try dsimp only at hSw); go_simp; (try with_reducible rfl))
          try simp only [Act.put, List.setIfInBounds_toArray, List.set_cons_zero, List.set_cons_succ]
          refine held_take (i := 19) (v := ?_) rfl (by kernel_rfl) (by kernel_rfl) (by kernel_rfl) (by rfl) (by first | assumption | exact True.intro) ?_ ?_
          rotate_left
          · (intro w hSw; (try dsimp only at hSw); go_simp; (try with_reducible rfl))
          try simp only [Act.put, List.setIfInBounds_toArray, List.set_cons_zero, List.set_cons_succ]
          refine held_take (i := 20) (v := ?_) rfl (by kernel_rfl) (by kernel_rfl) (by kernel_rfl) (by rfl) (by first | assumption | exact True.intro) ?_ ?_
          rotate_left
          · (intro w hSw; (try dsimp only at hSw); go_simp; (try with_reducible rfl))
          try simp only [Act.put, List.setIfInBounds_toArray, List.set_cons_zero, List.set_cons_succ]
          refine held_take (i := 21) (v := ?_) rfl (by kernel_rfl) (by kernel_rfl) (by kernel_rfl) (by rfl) (by first | assumption | exact True.intro) ?_ ?_
          rotate_left
          · (intro w hSw; (try dsimp only at hSw); go_simp; (try with_reducible rfl))
          try simp only [Act.put, List.setIfInBounds_toArray, List.set_cons_zero, List.set_cons_succ]
          refine held_take (i := 22) (v := ?_) rfl (by kernel_rfl) (by kernel_rfl) (by kernel_rfl) (by rfl) (by first | assumption | exact True.intro) ?_ ?_
          rotate_left
          · (intro w hSw; (try dsimp only at hSw); go_simp; (try with_reducible rfl))
          try simp only [Act.put, List.setIfInBounds_toArray, List.set_cons_zero, List.set_cons_succ]
          refine held_op (i := 18) (by kernel_rfl) rfl (fun K hK => ?_)
          go_simp
          go_at_call 18
          (with_reducible refine (PE.codeRoom (p.length : Int) hz256 hu l0 l1).mono ?_)
          rintro e wF ⟨he1, PF, xF⟩
          obtain rfl := he1.trans (congrArg (fun n => Ending.returned (.bool n)) HBB.out)
          have bF := bE.ext xF
          clear he1
          refine hK _ _ ?_ (fun hHeld7 => ?_)
          · exact (bF.cell 2)
          clear hK K hHeld6
          try simp only [Act.put, List.setIfInBounds_toArray, List.set_cons_zero, List.set_cons_succ]
          refine held_take (i := 23) (v := ?_) rfl (by kernel_rfl) (by kernel_rfl) (by kernel_rfl) (by rfl) (by first | assumption | exact True.intro) ?_ ?_
          rotate_left
          · (intro w hSw; (try dsimp only at hSw); go_simp; (try with_reducible rfl))
          try simp only [Act.put, List.setIfInBounds_toArray, List.set_cons_zero, List.set_cons_succ]
          refine held_take (i := 24) (v := ?_) rfl (by kernel_rfl) (by kernel_rfl) (by kernel_rfl) (by rfl) (by first | assumption | exact True.intro) ?_ ?_
          rotate_left
          · (intro w hSw; (try dsimp only at hSw); go_simp; (try with_reducible rfl))
          try simp only [Act.put, List.setIfInBounds_toArray, List.set_cons_zero, List.set_cons_succ]
          refine held_take (i := 25) (v := ?_) rfl (by kernel_rfl) (by kernel_rfl) (by kernel_rfl) (by rfl) (by first | assumption | exact True.intro) ?_ ?_
          rotate_left
          · (intro w hSw; (try dsimp only at hSw); go_simp; (try with_reducible rfl))
          try simp only [Act.put, List.setIfInBounds_toArray, List.set_cons_zero, List.set_cons_succ]
          refine held_take (i := 28) (v := ?_) rfl (by kernel_rfl) (by kernel_rfl) (by kernel_rfl) (by rfl) (by first | assumption | exact True.intro) ?_ ?_
          rotate_left
          · (intro w hSw; (try dsimp only at hSw); go_simp; (try with_reducible rfl))
          try simp only [Act.put, List.setIfInBounds_toArray, List.set_cons_zero, List.set_cons_succ]
          refine held_take (i := 29) (v := ?_) rfl (by kernel_rfl) (by kernel_rfl) (by kernel_rfl) (by rfl) (by first | assumption | exact True.intro) ?_ ?_
          rotate_left
          · (intro w hSw; (try dsimp only at hSw); go_simp; (try with_reducible rfl))
          try simp only [Act.put, List.setIfInBounds_toArray, List.set_cons_zero, List.set_cons_succ]
          refine held_op (i := 26) (by kernel_rfl) rfl (fun K hK => ?_)
          go_simp
          go_at_call 29
          (with_reducible refine (RefFrame_any p _ wF (HQ.out.ext PF.ext0)).mono ?_)
          rintro e wG ⟨v26, rfl, hgG⟩
          obtain ⟨A26, c26, rfl⟩ := hgG.slice_ (n := q) (by rw [List.length_map, HQL.out])
          have bG := bF.ext hgG.ext
          have PG := PF.ext hgG.ext
          refine hK _ _ ?_ (fun hHeld8 => ?_)
          · exact (bG.cell 2)
          clear hK K hHeld7
          try simp only [Act.put, List.setIfInBounds_toArray, List.set_cons_zero, List.set_cons_succ]
          refine held_take (i := 27) (v := ?_) rfl (by kernel_rfl) (by kernel_rfl) (by kernel_rfl) (by rfl) (by first | assumption | exact True.intro) ?_ ?_
          rotate_left
          · (intro w hSw; (try dsimp only at hSw); go_simp; (try with_reducible rfl))
          try simp only [Act.put, List.setIfInBounds_toArray, List.set_cons_zero, List.set_cons_succ]
          refine held_op (i := 30) (by kernel_rfl) rfl (fun K hK => ?_)
          go_simp
          go_at_call 25
          (with_reducible refine (PG.refUsed hcl hLn).mono ?_)
          rintro e wH ⟨rfl, PH, xH⟩
          have bH := bG.ext xH
          refine hK _ _ ?_ (fun hHeld9 => ?_)
          · exact (bH.cell 2)
          clear hK K hHeld8
          try simp only [Act.put, List.setIfInBounds_toArray, List.set_cons_zero, List.set_cons_succ]
          refine held_take (i := 31) (v := ?_) rfl (by kernel_rfl) (by kernel_rfl) (by kernel_rfl) (by rfl) (by first | assumption | exact True.intro) ?_ ?_
          rotate_left
          · (intro w hSw; (try dsimp only at hSw); go_simp; (try with_reducible rfl))
          try simp only [Act.put, List.setIfInBounds_toArray, List.set_cons_zero, List.set_cons_succ]
          refine held_take (i := 32) (v := ?_) rfl (by kernel_rfl) (by kernel_rfl) (by kernel_rfl) (by rfl) (by first | assumption | exact True.intro) ?_ ?_
          rotate_left
          · (intro w hSw; (try dsimp only at hSw); go_simp; (try with_reducible rfl))
          try simp only [Act.put, List.setIfInBounds_toArray, List.set_cons_zero, List.set_cons_succ]
          refine held_take (i := 33) (v := ?_) rfl (by kernel_rfl) (by kernel_rfl) (by kernel_rfl) (by rfl) (by first | assumption | exact True.intro) ?_ ?_
          rotate_left
          · (intro w hSw; (try dsimp only at hSw); go_simp; (try with_reducible rfl))
          try simp only [Act.put, List.setIfInBounds_toArray, List.set_cons_zero, List.set_cons_succ]
          refine held_take (i := 34) (v := ?_) rfl (by kernel_rfl) (by kernel_rfl) (by kernel_rfl) (by rfl) (by first | assumption | exact True.intro) ?_ ?_
          rotate_left
          · (intro w hSw; (try dsimp only at hSw); go_simp; (try with_reducible rfl))
          try simp only [Act.put, List.setIfInBounds_toArray, List.set_cons_zero, List.set_cons_succ]
          refine held_take (i := 35) (v := ?_) rfl (by kernel_rfl) (by kernel_rfl) (by kernel_rfl) (by rfl) (by first | assumption | exact True.intro) ?_ ?_
          rotate_left
          · (intro w hSw; (try dsimp only at hSw); go_simp; (try with_reducible rfl))
          try simp only [Act.put, List.setIfInBounds_toArray, List.set_cons_zero, List.set_cons_succ]
          refine wpAnyH_done (by kernel_rfl) ?_ _
          refine NoPanic.normal ?_
          clear hHeld9
          have HL := Lib.hid PH
          clear P0 PA PB PC PD PE PF PG PH R7 R9 xA xB xC xD xE xF xH bA bB bC bD bE bF bG bH bb0 hgG
          go_wp2
          go_roundg (l.length - (k + 1))
          case measure => omega
          case rel => exact ⟨k + 1, by go_num, by omega, rfl, h, m, s, L, rfl, rfl, HL.out, HOK.out⟩
    · obtain rfl : k = l.length := by omega
      have hx := hx1.trans hpr.ext0
      clear hpr hok
      go_wp2
      go_ret
      exact ⟨rfl, hx⟩

end Go.Proofs.Ytnihgpdkolmkgaa
