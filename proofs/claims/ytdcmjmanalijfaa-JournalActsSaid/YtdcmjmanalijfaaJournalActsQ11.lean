/- Texts that the proof of JournalActs rests on, one behind the other. -/
import Derived.Test.YtdcmjmanalijfaaJournalActsQ10
import Derived.BigQuiet
import Derived.StillTailTactics
import Derived.Deep.RegionLaw
import Derived.Deep.RegionHeld3
import Derived.Deep.LoopGhost
import Derived.Deep.RegionWith
import Derived.Deep.QuietTactic

/- Layer 7, the reference: a journal's disk, its slots, its log, its struct. -/
namespace Go.Proofs.Ytdcmjmanalijfaa
open Go.RowKit

/-- The reference's journal at j, on the disk at r: slots at ms, a log at ml with the records L, c ops in all, the picture's age a. -/
def RJD (F : Fp) (w : World) (j ms ml r : Nat) (t : DkS) (q f z : Nat) (L : List (List UInt8)) (c : Nat) (a : Int) : Prop :=
  ∃ F1 F2 F3 F4 : Fp, Rk F1 w r t ∧ RSl F2 w ms r 0 q ∧ RLg F3 w ml r f z L ∧ ObjF F4 w j 50 #[.pointer (some ⟨ms, 0, none⟩), .pointer (some ⟨ml, 0, none⟩), .int .i64 (c : Int), .int .i64 a] [] ∧
    (F2.apart F1 ∧ F3.apart F1 ∧ F3.apart F2 ∧ F4.apart F1 ∧ F4.apart F2 ∧ F4.apart F3) ∧ ((∀ k, F1 k → F k) ∧ (∀ k, F2 k → F k) ∧ (∀ k, F3 k → F k) ∧ (∀ k, F4 k → F k)) ∧ F.isIn w

section
variable {F G : Fp} {w w' : World} {j ms ml r q f z c c' : Nat} {t t' : DkS} {L L' : List (List UInt8)} {a a' : Int}
theorem RJD.isIn (h : RJD F w j ms ml r t q f z L c a) : F.isIn w := by
  obtain ⟨F1, F2, F3, F4, h1, h2, h3, h4, h5, h6, h7⟩ := h
  exact h7
theorem RJD.chg (h : RJD F w j ms ml r t q f z L c a) (hc : Chg G w w') (ha : F.apart G) : RJD F w' j ms ml r t q f z L c a := by
  obtain ⟨F1, F2, F3, F4, h1, h2, h3, h4, h5, ⟨s1, s2, s3, s4⟩, h7⟩ := h
  exact ⟨F1, F2, F3, F4, h1.chg hc (fun k hk => ha k (s1 k hk)), h2.chg hc (fun k hk => ha k (s2 k hk)), h3.chg hc (fun k hk => ha k (s3 k hk)), h4.chg hc (fun k hk => ha k (s4 k hk)), h5, ⟨s1, s2, s3, s4⟩, h7.chg hc⟩
theorem RJD.ext (h : RJD F w j ms ml r t q f z L c a) (hx : Ext w w') : RJD F w' j ms ml r t q f z L c a := h.chg (G := fun _ => False) (Chg.of_ext hx) (fun _ _ h => h)
theorem RJD.mono (h : RJD F w j ms ml r t q f z L c a) (hf : ∀ k, F k → G k) (hi : G.isIn w) : RJD G w j ms ml r t q f z L c a := by
  obtain ⟨F1, F2, F3, F4, h1, h2, h3, h4, h5, ⟨s1, s2, s3, s4⟩, h7⟩ := h
  exact ⟨F1, F2, F3, F4, h1, h2, h3, h4, h5, ⟨fun k hk => hf k (s1 k hk), fun k hk => hf k (s2 k hk), fun k hk => hf k (s3 k hk), fun k hk => hf k (s4 k hk)⟩, hi⟩
theorem RJD.later (h : RJD F w j ms ml r t q f z L c a) (hx : Ext w w') : RJD (F.since w w') w' j ms ml r t q f z L c a := (h.ext hx).mono (fun _ hk => .inl hk) (h.isIn.since hx.size)
/-- Two steps are one. -/
theorem RJD.step {w0 : World} (h : RJD ((F.since w0 w).since w w') w' j ms ml r t q f z L c a) (hi : F.isIn w0) (h1 : w0.heap.size ≤ w.heap.size) (h2 : w.heap.size ≤ w'.heap.size) : RJD (F.since w0 w') w' j ms ml r t q f z L c a :=
  h.mono (Fp.since_since h1 h2) (hi.since (Nat.le_trans h1 h2))
theorem RJD.rk (h : RJD F w j ms ml r t q f z L c a) : Rk F w r t := by
  obtain ⟨F1, F2, F3, F4, h1, h2, h3, h4, h5, ⟨s1, s2, s3, s4⟩, h7⟩ := h
  exact h1.mono s1 h7
theorem RJD.sl (h : RJD F w j ms ml r t q f z L c a) : RSl F w ms r 0 q := by
  obtain ⟨F1, F2, F3, F4, h1, h2, h3, h4, h5, ⟨s1, s2, s3, s4⟩, h7⟩ := h
  exact h2.mono s2 h7
theorem RJD.lg (h : RJD F w j ms ml r t q f z L c a) : RLg F w ml r f z L := by
  obtain ⟨F1, F2, F3, F4, h1, h2, h3, h4, h5, ⟨s1, s2, s3, s4⟩, h7⟩ := h
  exact h3.mono s3 h7
theorem RJD.jo (h : RJD F w j ms ml r t q f z L c a) : ObjF F w j 50 #[.pointer (some ⟨ms, 0, none⟩), .pointer (some ⟨ml, 0, none⟩), .int .i64 (c : Int), .int .i64 a] [] := by
  obtain ⟨F1, F2, F3, F4, h1, h2, h3, h4, h5, ⟨s1, s2, s3, s4⟩, h7⟩ := h
  exact h4.mono s4 h7
theorem RJD.c0 (h : RJD F w j ms ml r t q f z L c a) : w.cell? ⟨j, 0, none⟩ = some (.pointer (some ⟨ms, 0, none⟩)) := (ObjF.blk h.jo).cell 0
theorem RJD.c1 (h : RJD F w j ms ml r t q f z L c a) : w.cell? ⟨j, 1, none⟩ = some (.pointer (some ⟨ml, 0, none⟩)) := (ObjF.blk h.jo).cell 1
theorem RJD.c2 (h : RJD F w j ms ml r t q f z L c a) : w.cell? ⟨j, 2, none⟩ = some (.int .i64 (c : Int)) := (ObjF.blk h.jo).cell 2
theorem RJD.c3 (h : RJD F w j ms ml r t q f z L c a) : w.cell? ⟨j, 3, none⟩ = some (.int .i64 a) := (ObjF.blk h.jo).cell 3
theorem RJD.fr (h : RJD F w j ms ml r t q f z L c a) (i : Nat) : w.frozen? ⟨j, i, none⟩ = false := (ObjF.blk h.jo).frozen i
/-- The log's cells. -/
theorem RJD.lc (h : RJD F w j ms ml r t q f z L c a) : w.cell? ⟨ml, 0, none⟩ = some (.pointer (some ⟨r, 0, none⟩)) ∧ w.cell? ⟨ml, 2, none⟩ = some (.int .i64 (z : Int)) ∧ ∃ A k, w.cell? ⟨ml, 3, none⟩ = some (.slice A L.length k) ∧ RdL w (.slice A L.length k) L := by
  obtain ⟨vL, vs, hl⟩ := h.lg
  have hr := hl.rdlF.rdl
  obtain ⟨A, k, rfl, _, _⟩ := hr.sliceN rfl
  exact ⟨hl.blk.cell 0, hl.blk.cell 2, A, k, hl.blk.cell 3, hr⟩

/-- A call turns the log. -/
theorem RJD.log (h : RJD F w j ms ml r t q f z L c a) : ∃ G : Fp, (∀ k, G k → F k) ∧ RLD G w ml r t f z L ∧ ∀ (w' : World) (t' : DkS) (L' : List (List UInt8)), RLD (G.since w w') w' ml r t' f z L' → Chg G w w' → RJD (F.since w w') w' j ms ml r t' q f z L' c a ∧ Chg F w w' := by
  obtain ⟨F1, F2, F3, F4, h1, h2, h3, h4, ⟨a21, a31, a32, a41, a42, a43⟩, ⟨s1, s2, s3, s4⟩, h7⟩ := h
  have hG : ∀ k, (F1 k ∨ F3 k) → F k := fun k hk => hk.elim (s1 k) (s3 k)
  refine ⟨fun k => F1 k ∨ F3 k, hG, ⟨F1, F3, h1, h3, a31, fun _ => .inl, fun _ => .inr, fun k hk => h7 k (hG k hk)⟩, ?_⟩
  rintro w' t' L' ⟨G1, G3, g1, g3, g31, e1, e3, gi⟩ hc
  have b2 : F2.apart (fun k => F1 k ∨ F3 k) := fun k hk hh => hh.elim (a21 k hk) (fun h3' => a32 k h3' hk)
  have b4 : F4.apart (fun k => F1 k ∨ F3 k) := fun k hk hh => hh.elim (a41 k hk) (a43 k hk)
  have n2 : ∀ k, F2 k → ¬ Fp.since (fun k => F1 k ∨ F3 k) w w' k := fun k hk hh => hh.elim (b2 k hk) (fun h' => by have := h7 k (s2 k hk); omega)
  have n4 : ∀ k, F4 k → ¬ Fp.since (fun k => F1 k ∨ F3 k) w w' k := fun k hk hh => hh.elim (b4 k hk) (fun h' => by have := h7 k (s4 k hk); omega)
  refine ⟨⟨G1, F2, G3, F4, g1, h2.chg hc b2, g3, h4.chg hc b4, ⟨fun k hk hg => n2 k hk (e1 k hg), g31, fun k hk hg => n2 k hg (e3 k hk), fun k hk hg => n4 k hk (e1 k hg), a42, fun k hk hg => n4 k hk (e3 k hg)⟩, ⟨fun k hk => ?_, fun k hk => .inl (s2 k hk), fun k hk => ?_, fun k hk => .inl (s4 k hk)⟩, h7.since hc.size⟩, hc.mono fun k _ hk => hG k hk⟩
  · exact (e1 k hk).elim (fun hh => .inl (hG k hh)) .inr
  · exact (e3 k hk).elim (fun hh => .inl (hG k hh)) .inr
/-- A call turns the slots. -/
theorem RJD.slots (h : RJD F w j ms ml r t q f z L c a) : ∃ G : Fp, (∀ k, G k → F k) ∧ RSD G w ms r t 0 q ∧ ∀ (w' : World) (t' : DkS), RSD (G.since w w') w' ms r t' 0 q → Chg G w w' → RJD (F.since w w') w' j ms ml r t' q f z L c a ∧ Chg F w w' := by
  obtain ⟨F1, F2, F3, F4, h1, h2, h3, h4, ⟨a21, a31, a32, a41, a42, a43⟩, ⟨s1, s2, s3, s4⟩, h7⟩ := h
  have hG : ∀ k, (F1 k ∨ F2 k) → F k := fun k hk => hk.elim (s1 k) (s2 k)
  refine ⟨fun k => F1 k ∨ F2 k, hG, ⟨F1, F2, h1, h2, a21, fun _ => .inl, fun _ => .inr, fun k hk => h7 k (hG k hk)⟩, ?_⟩
  rintro w' t' ⟨G1, G2, g1, g2, g21, e1, e2, gi⟩ hc
  have b3 : F3.apart (fun k => F1 k ∨ F2 k) := fun k hk hh => hh.elim (a31 k hk) (a32 k hk)
  have b4 : F4.apart (fun k => F1 k ∨ F2 k) := fun k hk hh => hh.elim (a41 k hk) (a42 k hk)
  have n3 : ∀ k, F3 k → ¬ Fp.since (fun k => F1 k ∨ F2 k) w w' k := fun k hk hh => hh.elim (b3 k hk) (fun h' => by have := h7 k (s3 k hk); omega)
  have n4 : ∀ k, F4 k → ¬ Fp.since (fun k => F1 k ∨ F2 k) w w' k := fun k hk hh => hh.elim (b4 k hk) (fun h' => by have := h7 k (s4 k hk); omega)
  refine ⟨⟨G1, G2, F3, F4, g1, g2, h3.chg hc b3, h4.chg hc b4, ⟨g21, fun k hk hg => n3 k hk (e1 k hg), fun k hk hg => n3 k hk (e2 k hg), fun k hk hg => n4 k hk (e1 k hg), fun k hk hg => n4 k hk (e2 k hg), a43⟩, ⟨fun k hk => ?_, fun k hk => ?_, fun k hk => .inl (s3 k hk), fun k hk => .inl (s4 k hk)⟩, h7.since hc.size⟩, hc.mono fun k _ hk => hG k hk⟩
  · exact (e1 k hk).elim (fun hh => .inl (hG k hh)) .inr
  · exact (e2 k hk).elim (fun hh => .inl (hG k hh)) .inr
/-- A call turns the disk alone. -/
theorem RJD.disk (h : RJD F w j ms ml r t q f z L c a) : ∃ G : Fp, (∀ k, G k → F k) ∧ Rk G w r t ∧ ∀ (w' : World) (t' : DkS), Rk G w' r t' → Chg G w w' → RJD F w' j ms ml r t' q f z L c a ∧ Chg F w w' := by
  obtain ⟨F1, F2, F3, F4, h1, h2, h3, h4, ⟨a21, a31, a32, a41, a42, a43⟩, ⟨s1, s2, s3, s4⟩, h7⟩ := h
  refine ⟨F1, s1, h1, fun w' t' g1 hc => ⟨⟨F1, F2, F3, F4, g1, h2.chg hc a21, h3.chg hc a31, h4.chg hc a41, ⟨a21, a31, a32, a41, a42, a43⟩, ⟨s1, s2, s3, s4⟩, h7.chg hc⟩, hc.mono fun k _ hk => s1 k hk⟩⟩
/-- How many ops, or the age, is written. -/
theorem RJD.setCount (h : RJD F w j ms ml r t q f z L c a) (c' : Nat) : RJD F (w.setCell ⟨j, 2, none⟩ (.int .i64 (c' : Int))) j ms ml r t q f z L c' a ∧ Chg F w (w.setCell ⟨j, 2, none⟩ (.int .i64 (c' : Int))) := by
  obtain ⟨F1, F2, F3, F4, h1, h2, h3, h4, ⟨a21, a31, a32, a41, a42, a43⟩, ⟨s1, s2, s3, s4⟩, h7⟩ := h
  obtain ⟨g4, hc⟩ := ObjF.setCell h4 2 (.int .i64 (c' : Int))
  exact ⟨⟨F1, F2, F3, F4, h1.chg hc a41.symm, h2.chg hc a42.symm, h3.chg hc a43.symm, g4, ⟨a21, a31, a32, a41, a42, a43⟩, ⟨s1, s2, s3, s4⟩, h7.chg hc⟩, hc.mono fun k _ hk => s4 k hk⟩
theorem RJD.setAge (h : RJD F w j ms ml r t q f z L c a) (a' : Int) : RJD F (w.setCell ⟨j, 3, none⟩ (.int .i64 a')) j ms ml r t q f z L c a' ∧ Chg F w (w.setCell ⟨j, 3, none⟩ (.int .i64 a')) := by
  obtain ⟨F1, F2, F3, F4, h1, h2, h3, h4, ⟨a21, a31, a32, a41, a42, a43⟩, ⟨s1, s2, s3, s4⟩, h7⟩ := h
  obtain ⟨g4, hc⟩ := ObjF.setCell h4 3 (.int .i64 a')
  exact ⟨⟨F1, F2, F3, F4, h1.chg hc a41.symm, h2.chg hc a42.symm, h3.chg hc a43.symm, g4, ⟨a21, a31, a32, a41, a42, a43⟩, ⟨s1, s2, s3, s4⟩, h7.chg hc⟩, hc.mono fun k _ hk => s4 k hk⟩
end

set_option maxRecDepth 100000 in
theorem RefJStart_arg (j : Nat) (p : List UInt8) (v : Value) (w : World) (hr : Rd w v (p.map B)) (hp : ¬ (1 ≤ p.length ∧ p.length ≤ 3900)) :
    Calls Try.prog 20 #[.pointer (some ⟨j, 0, none⟩), v] w fun e w' => e = .returned (.int .i64 1) ∧ Ext w w' := by
  obtain ⟨A, k, rfl, _, hkm⟩ := hr.sliceN (List.length_map _)
  unfold maxLen at hkm
  by_cases h0 : p.length < 1
  · clear hr hp
    go_enter Try.func20, Try.ntmps20
    go_wp2
    go_ret
    exact ⟨rfl, Ext.refl _⟩
  · have h1 : decide ((p.length : Int) > 3900) = true := by simp; omega
    clear hr hp
    go_enter Try.func20, Try.ntmps20
    go_wp2
    go_ret
    exact ⟨rfl, Ext.refl _⟩

/-- What a Start leaves. -/
def jL (z u : Nat) (L : List (List UInt8)) (c : Nat) (p : List UInt8) : List (List UInt8) := if jE z u c p = 0 then L ++ [payB c p] else L
def jC (z u c : Nat) (p : List UInt8) : Nat := if jE z u c p = 0 then c + 1 else c
def jsS (s : DkS) (f z u c : Nat) (p : List UInt8) : DkS := if jE z u c p = 0 then jsD s f u c p else s

set_option maxRecDepth 100000 in
set_option maxHeartbeats 1000000 in
theorem RefJStart_op (F : Fp) (j ms ml r : Nat) (t : DkS) (q f z : Nat) (L : List (List UInt8)) (c : Nat) (a : Int) (p : List UInt8) (v : Value) (w : World) (hd : RJD F w j ms ml r t q f z L c a) (hr : Rd w v (p.map B)) (hp : 1 ≤ p.length ∧ p.length ≤ 3900)
    (hb : t.1.length ≤ 65536) (hz : f + z ≤ t.1.length) (hu : (catF L).length ≤ z) (hw : t.2.1.length ≤ 100000000) (hn : L.length ≤ 1000000) (hc : c ≤ 1000000000) :
    Calls Try.prog 20 #[.pointer (some ⟨j, 0, none⟩), v] w fun e w' => e = .returned (.int .i64 (jE z (catF L).length c p)) ∧
      RJD (F.since w w') w' j ms ml r (jsS t f z (catF L).length c p) q f z (jL z (catF L).length L c p) (jC z (catF L).length c p) a ∧ Chg F w w' := by
  obtain ⟨A, k, rfl, _, hkm⟩ := hr.sliceN (List.length_map _)
  unfold maxLen at hkm
  have hje := jE_put (z := z) (u := (catF L).length) (show c < 9007199254740992 by omega) hp
  have h1 : decide ((p.length : Int) < 1) = false := by simp; omega
  have h2 : decide ((p.length : Int) > 3900) = false := by simp; omega
  have c1 := hd.c1
  have c2 := hd.c2
  have h8 := numB_len8 (show c < 9007199254740992 by omega)
  have HD := Lib.hid hd
  have HR := Lib.hid hr
  have HB : Hid (p.length ≤ 3900) := Lib.hid hp.2
  have HJ := Lib.hid hje
  clear hd hr hje hp
  have hcn : c < 9007199254740992 := by omega
  have hcn : c < 9007199254740992 := by omega
  have hcn : c < 9007199254740992 := by omega
  go_enter Try.func20, Try.ntmps20
  go_wp2_with fail
  have hx0 := Ext.dr (Ext.refl w)
  clear c1 c2
  refine held_begin (by kernel_rfl) ?_
  have hHeld0 : True := True.intro
  refine held_more (S' := fun w' : World => w'.cell? ⟨j, 1, none⟩ = some (.pointer (some ⟨ml, 0, none⟩)) ∧ w'.cell? ⟨j, 2, none⟩ = some (.int .i64 (c : Int))) (fun _ _ => trivial) ?_
  have hHeld1 : (fun w' : World => w'.cell? ⟨j, 1, none⟩ = some (.pointer (some ⟨ml, 0, none⟩)) ∧ w'.cell? ⟨j, 2, none⟩ = some (.int .i64 (c : Int))) _ := ⟨(HD.out.ext hx0).c1, (HD.out.ext hx0).c2⟩
  clear hHeld0
  refine held_take (i := 0) (v := ?_) rfl (by kernel_rfl) (by kernel_rfl) (by kernel_rfl) (by rfl) (by first | assumption | exact True.intro) ?_ ?_
  rotate_left
  · (intro w hSw; (try dsimp only at hSw); go_simp; (try with_reducible rfl))
  try simp only [Act.put, List.setIfInBounds_toArray, List.set_cons_zero, List.set_cons_succ]
  refine held_take (i := 1) (v := ?_) rfl (by kernel_rfl) (by kernel_rfl) (by kernel_rfl) (by rfl) (by first | assumption | exact True.intro) ?_ ?_
  rotate_left
  · (intro w hSw; (try dsimp only at hSw); go_simp; (try with_reducible rfl))
  try simp only [Act.put, List.setIfInBounds_toArray, List.set_cons_zero, List.set_cons_succ]
  refine held_take (i := 2) (v := ?_) rfl (by kernel_rfl) (by kernel_rfl) (by kernel_rfl) (by rfl) (by first | assumption | exact True.intro) ?_ ?_
  rotate_left
  · (intro w hSw; (try dsimp only at hSw); go_simp; (try with_reducible rfl))
  try simp only [Act.put, List.setIfInBounds_toArray, List.set_cons_zero, List.set_cons_succ]
  refine held_take (i := 3) (v := ?_) rfl (by kernel_rfl) (by kernel_rfl) (by kernel_rfl) (by rfl) (by first | assumption | exact True.intro) ?_ ?_
  rotate_left
  · (intro w hSw; (try dsimp only at hSw); go_simp; (try with_reducible rfl))
  try simp only [Act.put, List.setIfInBounds_toArray, List.set_cons_zero, List.set_cons_succ]
  refine held_take (i := 4) (v := ?_) rfl (by kernel_rfl) (by kernel_rfl) (by kernel_rfl) (by rfl) (by first | assumption | exact True.intro) ?_ ?_
  rotate_left
  · (intro w hSw; (try dsimp only at hSw); go_simp; (try with_reducible rfl))
  try simp only [Act.put, List.setIfInBounds_toArray, List.set_cons_zero, List.set_cons_succ]
  refine held_take (i := 5) (v := ?_) rfl (by kernel_rfl) (by kernel_rfl) (by kernel_rfl) (by rfl) (by first | assumption | exact True.intro) ?_ ?_
  rotate_left
  · (intro w hSw; (try dsimp only at hSw); go_simp; (try with_reducible rfl))
  try simp only [Act.put, List.setIfInBounds_toArray, List.set_cons_zero, List.set_cons_succ]
  refine held_take (i := 6) (v := ?_) rfl (by kernel_rfl) (by kernel_rfl) (by kernel_rfl) (by rfl) (by first | assumption | exact True.intro) ?_ ?_
  rotate_left
  · (intro w hSw; (try dsimp only at hSw); go_simp; (try with_reducible rfl))
  try simp only [Act.put, List.setIfInBounds_toArray, List.set_cons_zero, List.set_cons_succ]
  refine held_take (i := 7) (v := ?_) rfl (by kernel_rfl) (by kernel_rfl) (by kernel_rfl) (by rfl) (by first | assumption | exact True.intro) ?_ ?_
  rotate_left
  · (intro w hSw; (try dsimp only at hSw); go_simp; (try with_reducible rfl))
  try simp only [Act.put, List.setIfInBounds_toArray, List.set_cons_zero, List.set_cons_succ]
  refine held_take (i := 9) (v := ?_) rfl (by kernel_rfl) (by kernel_rfl) (by kernel_rfl) (by rfl) (by first | assumption | exact True.intro) ?_ ?_
  rotate_left
  · (intro w hSw; (try dsimp only at hSw); go_simp; (try with_reducible rfl))
  try simp only [Act.put, List.setIfInBounds_toArray, List.set_cons_zero, List.set_cons_succ]
  refine held_op (i := 8) (by kernel_rfl) rfl (fun K hK => ?_)
  go_simp
  go_at_call 50
  (with_reducible refine (RefNum_yes c _ hcn).mono ?_)
  rintro e w1 ⟨v1, rfl, hg1⟩
  have hx1 := hx0.trans hg1.ext
  have hlt1 := hg1.size
  refine hK _ _ ?_ (fun hHeld2 => ?_)
  · exact ⟨(HD.out.ext hx1).c1, (HD.out.ext hx1).c2⟩
  clear hK K hHeld1
  try simp only [Act.put, List.setIfInBounds_toArray, List.set_cons_zero, List.set_cons_succ]
  refine held_op (i := 10) (by kernel_rfl) rfl (fun K hK => ?_)
  refine stepApp_u8 (.tmp 22) (.tmp 23) ?_ ?_ w.drew.heap.size v1 _ hg1.own ?_ (.slice A p.length k) p ?_ (HR.out.ext hx1) (by rw [List.length_map]; have := HB.out; omega) hlt1 ?_
  rfl
  rfl
  rfl
  rfl
  intro v4 w4 hg4
  have hg5 := hg1.trans hg4
  rw [← List.map_append] at hg5
  have hx4 := hx0.trans hg5.ext
  obtain ⟨G, hGF, hlg, hback⟩ := (HD.out.ext hx4).log
  have hin4 : Fp.isIn (fun k => w.drew.heap.size ≤ k ∧ k < w4.heap.size) w4 := fun k hk => hk.2
  have hap4 : Fp.apart (fun k => w.drew.heap.size ≤ k ∧ k < w4.heap.size) G := fun k hk hG => by have := HD.out.isIn k (hGF k hG); have e0 : w.drew.heap.size = w.heap.size := rfl; omega
  have hr5 : RdF (fun k => w.drew.heap.size ≤ k ∧ k < w4.heap.size) w4 v4 ((payB c p).map B) := RdF.made0 hg5
  refine hK _ _ ?_ (fun hHeld3 => ?_)
  · exact ⟨(HD.out.ext hx4).c1, (HD.out.ext hx4).c2⟩
  clear hK K hHeld2
  try simp only [Act.put, List.setIfInBounds_toArray, List.set_cons_zero, List.set_cons_succ]
  refine held_op (i := 11) (by kernel_rfl) rfl (fun K hK => ?_)
  go_simp
  go_at_call 49
  (with_reducible refine (RefLogPut G ml r f z L t _ (payB c p) _ w4 hlg hr5 hap4 hin4 hb hz hu hw hn).mono ?_)
  rintro e w5 ⟨rfl, hl5, hc5⟩
  obtain ⟨hd5, hc5'⟩ := hback w5 _ _ hl5 hc5
  refine hK _ _ ?_ (fun hHeld4 => ?_)
  · exact ⟨hd5.c1, hd5.c2⟩
  clear hK K hHeld3
  try simp only [Act.put, List.setIfInBounds_toArray, List.set_cons_zero, List.set_cons_succ]
  refine held_take (i := 12) (v := ?_) rfl (by kernel_rfl) (by kernel_rfl) (by kernel_rfl) (by rfl) (by first | assumption | exact True.intro) ?_ ?_
  rotate_left
  · (intro w hSw; (try dsimp only at hSw); go_simp; (try with_reducible rfl))
  try simp only [Act.put, List.setIfInBounds_toArray, List.set_cons_zero, List.set_cons_succ]
  refine wpAnyH_done (by kernel_rfl) ?_ _
  refine NoPanic.normal ?_
  clear hHeld4
  rw [← HJ.out] at hd5 ⊢
  have hs4 := hx4.size
  have hs5 := hc5'.size
  have HX4 := Lib.hid hx4
  have HC5 := Lib.hid hc5'
  clear hg1 hg4 hg5 hlg hback hr5 hl5 hc5 hx1 hlt1 hGF hc5' hap4 hin4
  by_cases he : jE z (catF L).length c p = 0
  · have hcw : IntKind.i64.wrap ((c : Int) + 1) = ((c + 1 : Nat) : Int) := by rw [IntKind.wrap_i64]; omega
    obtain ⟨hd6, hc6⟩ := hd5.setCount (c + 1)
    have d2 := hd5.c2
    have f2 := hd5.fr 2
    rw [if_pos he, if_pos he, show ((c + 1 : Nat) : Int) = (c : Int) + 1 by omega] at hd6
    rw [show ((c + 1 : Nat) : Int) = (c : Int) + 1 by omega] at hc6 hcw
    have HE := Lib.hid he
    have HD6 := Lib.hid hd6
    have HC6 := Lib.hid hc6
    rw [he]
    clear hd5 hd6 hc6 he
    go_wp2
    go_ret
    rw [jsS, jL, jC, if_pos HE.out, if_pos HE.out, if_pos HE.out, HE.out]
    have hs6 := HC6.out.size
    refine ⟨rfl, HD6.out.mono (fun k hk => ?_) (HD.out.isIn.since (by omega)), ((Chg.of_ext HX4.out).trans HC5.out (fun _ _ h => h)).trans HC6.out (fun x hx hF => ?_)⟩
    · rcases hk with hk | hk
      · exact .inl hk
      · exact .inr ⟨by omega, by omega⟩
    · rcases hF with hF | hF
      · exact hF
      · omega
  · have hne : (jE z (catF L).length c p == 0) = false := by rw [beq_eq_false_iff_ne]; exact he
    rw [if_neg he, if_neg he] at hd5
    have HE := Lib.hid he
    have HD5 := Lib.hid hd5
    clear hd5 he
    go_wp2
    go_ret
    rw [jsS, jL, jC, if_neg HE.out, if_neg HE.out, if_neg HE.out]
    refine ⟨rfl, HD5.out.mono (fun k hk => ?_) (HD.out.isIn.since (by omega)), (Chg.of_ext HX4.out).trans HC5.out (fun _ _ h => h)⟩
    rcases hk with hk | hk
    · exact .inl hk
    · exact .inr ⟨by omega, by omega⟩

theorem RefJStart (F : Fp) (j ms ml r : Nat) (t : DkS) (q f z : Nat) (L : List (List UInt8)) (c : Nat) (a : Int) (p : List UInt8) (v : Value) (w : World) (hd : RJD F w j ms ml r t q f z L c a) (hr : Rd w v (p.map B))
    (hb : t.1.length ≤ 65536) (hz : f + z ≤ t.1.length) (hu : (catF L).length ≤ z) (hw : t.2.1.length ≤ 100000000) (hn : L.length ≤ 1000000) (hc : c ≤ 1000000000) :
    Calls Try.prog 20 #[.pointer (some ⟨j, 0, none⟩), v] w fun e w' => e = .returned (.int .i64 (jE z (catF L).length c p)) ∧
      RJD (F.since w w') w' j ms ml r (jsS t f z (catF L).length c p) q f z (jL z (catF L).length L c p) (jC z (catF L).length c p) a ∧ Chg F w w' := by
  by_cases hp : 1 ≤ p.length ∧ p.length ≤ 3900
  · exact RefJStart_op F j ms ml r t q f z L c a p v w hd hr hp hb hz hu hw hn hc
  · have he : jE z (catF L).length c p = 1 := by rw [jE, if_pos hp]
    have hne : ¬ jE z (catF L).length c p = 0 := by rw [he]; decide
    refine (RefJStart_arg j p v w hr hp).mono ?_
    rintro e w' ⟨rfl, hx⟩
    rw [jsS, jL, jC, if_neg hne, if_neg hne, if_neg hne, he]
    exact ⟨rfl, hd.later hx, Chg.of_ext hx⟩

set_option maxRecDepth 100000 in
theorem RefJAppend (F : Fp) (j ms ml r : Nat) (t : DkS) (q f z : Nat) (L : List (List UInt8)) (c : Nat) (a : Int) (p : List UInt8) (v : Value) (w : World) (hd : RJD F w j ms ml r t q f z L c a) (hr : Rd w v (p.map B))
    (hb : t.1.length ≤ 65536) (hz : f + z ≤ t.1.length) (hu : (catF L).length ≤ z) (hw : t.2.1.length ≤ 100000000) (hn : L.length ≤ 1000000) (hc : c ≤ 1000000000) (hn0 : 0 ≤ t.2.2) (hn1 : t.2.2 ≤ 100000000) :
    Calls Try.prog 18 #[.pointer (some ⟨j, 0, none⟩), v] w fun e w' => e = .returned (.int .i64 (jE z (catF L).length c p)) ∧
      RJD (F.since w w') w' j ms ml r (if jE z (catF L).length c p = 0 then syD (jsD t f (catF L).length c p) else t) q f z (jL z (catF L).length L c p) (jC z (catF L).length c p) a ∧ Chg F w w' := by
  have HK := Lib.hid (RefJStart F j ms ml r t q f z L c a p v w hd hr hb hz hu hw hn hc)
  have HI := Lib.hid hd.isIn
  by_cases he : jE z (catF L).length c p = 0
  · have hy := jE_yes (show c < 9007199254740992 by omega) he
    have hwt := ptD_waits t f (catF L).length (payB c p)
    have hw2 : (jsD t f (catF L).length c p).2.1.length ≤ 1000000000 := by rw [jsD]; omega
    have hnn : (jsD t f (catF L).length c p).2.2 = t.2.2 := ptD_n _ _ _ _
    have HW := Lib.hid (And.intro hw2 hnn)
    rw [jsS, if_pos he, he] at HK
    rw [if_pos he, he]
    generalize jsD t f (catF L).length c p = t1 at *
    generalize jL z (catF L).length L c p = L1 at *
    generalize jC z (catF L).length c p = k1 at *
    clear hd hr hz hu he hy hwt hw2 hnn
    go_enter Try.func18, Try.ntmps18
    go_wp2_with fail
    refine HK.out.mono ?_
    rintro e w1 ⟨rfl, hd1, hc1⟩
    have d1 := hd1.c1
    obtain ⟨l0, _, A, k, _, _⟩ := hd1.lc
    obtain ⟨G, hGF, hrk, hback⟩ := hd1.disk
    have HRK := Lib.hid hrk
    have HBK := Lib.hid hback
    have HC1 := Lib.hid hc1
    clear hGF hrk hback hd1 hc1 HK
    go_wp2_with fail
    refine (RkSync G r _ w1 HRK.out (by have := HW.out; omega) (by rw [HW.out.2]; exact hn0) (by rw [HW.out.2]; omega)).mono ?_
    rintro e w2 ⟨rfl, hk2, hc2⟩
    obtain ⟨hd2, hc2'⟩ := HBK.out w2 _ hk2 hc2
    have HD2 := Lib.hid hd2
    have HC2 := Lib.hid hc2'
    clear hd2 hc2' hk2 hc2 d1 l0
    go_wp2
    go_ret
    have t1' := HC1.out.size
    have t2' := HC2.out.size
    exact ⟨rfl, HD2.out.mono (Fp.since_grow t2') (HI.out.since (by omega)), HC1.out.step HC2.out⟩
  · have hne : (jE z (catF L).length c p == 0) = false := by rw [beq_eq_false_iff_ne]; exact he
    rw [jsS, if_neg he] at HK
    rw [if_neg he]
    generalize jE z (catF L).length c p = E at *
    generalize jL z (catF L).length L c p = L1 at *
    generalize jC z (catF L).length c p = k1 at *
    clear hd hr hz hu he
    go_enter Try.func18, Try.ntmps18
    go_wp2_with fail
    refine HK.out.mono ?_
    rintro e w1 ⟨rfl, hd1, hc1⟩
    have HD1 := Lib.hid hd1
    have HC1 := Lib.hid hc1
    clear hd1 hc1 HK
    go_wp2
    go_ret
    exact ⟨rfl, HD1.out, HC1.out⟩

end Go.Proofs.Ytdcmjmanalijfaa

/- Layer 7, the reference: a picture; has an op room? -/
namespace Go.Proofs.Ytdcmjmanalijfaa
open Go.RowKit

/-- What a Compact leaves. -/
def cpS (s : DkS) (q f z : Nat) (p : List UInt8) (c : Nat) (a : Int) : DkS := if cpE s q p c a = 0 then cpD s q f z p c else s
def cpL (s : DkS) (q : Nat) (L : List (List UInt8)) (p : List UInt8) (c : Nat) (a : Int) : List (List UInt8) := if cpE s q p c a = 0 then [] else L
def cpA (s : DkS) (q : Nat) (p : List UInt8) (c : Nat) (a : Int) : Int := if cpE s q p c a = 0 then (c : Int) else a

theorem cp_st {s : DkS} {q : Nat} {p : List UInt8} {c : Nat} (he : stE s 0 q p (c : Int) = 0) (hw : s.2.1.length ≤ 100000000) (hq : q ≤ 65536) : (stS s 0 q p (c : Int)).2.1.length ≤ 1000000000 ∧ (stS s 0 q p (c : Int)).2.2 = s.2.2 + 1 ∧ syD (stS s 0 q p (c : Int)) = svS s 0 q p (c : Int) := by
  have hy := stE_yes he
  have h1 := stD_waits s 0 q p (c : Int)
  rw [stS, svS, if_pos he, if_pos he]
  exact ⟨by omega, stD_n _ _ _ _ _, rfl⟩

theorem cp_bd {N f z : Nat} {s1 : DkS} {n : Int} (h1 : s1.1.length = N) (h2 : s1.2.2 = n + 2) (h3 : s1.2.1 = []) (hb : N ≤ 65536) (hz : f + z ≤ N) (h0 : 0 ≤ n) (hn : n ≤ 10000000) :
    s1.1.length ≤ 65536 ∧ f + z ≤ s1.1.length ∧ s1.2.1.length ≤ 10000000 ∧ 0 ≤ s1.2.2 ∧ s1.2.2 ≤ 1000000000 := by
  rw [h1, h2, h3]
  exact ⟨hb, hz, Nat.zero_le _, by omega, by omega⟩

set_option maxRecDepth 100000 in
set_option maxHeartbeats 1000000 in
theorem RefJCompact (F : Fp) (j ms ml r : Nat) (t : DkS) (q f z : Nat) (L : List (List UInt8)) (c : Nat) (a : Int) (p : List UInt8) (v : Value) (w : World) (hd : RJD F w j ms ml r t q f z L c a) (hr : Rd w v (p.map B))
    (hb : t.1.length ≤ 65536) (hq : 2 * q ≤ t.1.length) (hq1 : 1 ≤ q) (hz : f + z ≤ t.1.length) (hw : t.2.1.length ≤ 1000000) (hc : c ≤ 1000000000) (hn0 : 0 ≤ t.2.2) (hn1 : t.2.2 ≤ 10000000) (hp : p.length ≤ 1000000) :
    Calls Try.prog 19 #[.pointer (some ⟨j, 0, none⟩), v] w fun e w' => e = .returned (.int .i64 (cpE t q p c a)) ∧
      RJD (F.since w w') w' j ms ml r (cpS t q f z p c a) q f z (cpL t q L p c a) c (cpA t q p c a) ∧ Chg F w w' := by
  have c2 := hd.c2
  have c3 := hd.c3
  obtain ⟨A, k, rfl, _, hkm⟩ := hr.sliceN (List.length_map _)
  by_cases hac : a = (c : Int)
  · have he : cpE t q p c a = 3 := by rw [cpE, if_pos hac]
    have hne : ¬ cpE t q p c a = 0 := by rw [he]; decide
    have hac' : (a == (c : Int)) = true := by rw [beq_iff_eq]; exact hac
    have HD := Lib.hid hd
    rw [cpS, cpL, cpA, if_neg hne, if_neg hne, if_neg hne, he]
    clear hd hr hac he hne hz hq
    go_enter Try.func19, Try.ntmps19
    go_wp2
    go_quiet (fail)
    have hxq : Ext w (w.drewN nq) := Below.drewN' (Ext.refl w) nq
    go_wp2
    go_ret
    exact ⟨rfl, HD.out.later hxq, Chg.of_ext hxq⟩
  · have hac' : (a == (c : Int)) = false := by rw [beq_eq_false_iff_ne]; exact hac
    have HD := Lib.hid hd
    have HR := Lib.hid hr
    by_cases hs : stE t 0 q p (c : Int) = 0
    · have he : cpE t q p c a = 0 := by rw [cpE, if_neg hac, if_pos hs]
      have hst := cp_st hs (by omega) (by omega)
      have hlen1 : (stS t 0 q p (c : Int)).1.length = t.1.length := stS_len _ _ _ _ _
      have hlen2 : (svS t 0 q p (c : Int)).1.length = t.1.length := svS_len _ _ _ _ _
      have hn2 : (svS t 0 q p (c : Int)).2.2 = t.2.2 + 2 := by
        rw [← hst.2.2]
        show (stS t 0 q p (c : Int)).2.2 + 1 = _
        rw [hst.2.1]
        omega
      have hw2 : (svS t 0 q p (c : Int)).2.1 = [] := by rw [← hst.2.2]; rfl
      have HST := Lib.hid hst
      have hbd := cp_bd hlen2 hn2 hw2 hb hz hn0 hn1
      have HLN := Lib.hid (And.intro hlen1 (And.intro hlen2 (And.intro hn2 hw2)))
      have HBD := Lib.hid hbd
      rw [cpS, cpL, cpA, if_pos he, if_pos he, if_pos he, he]
      have HS := Lib.hid hs
      have HCP : Hid (cpD t q f z p c = zrD (svS t 0 q p (c : Int)) f z 0) := Lib.hid rfl
      generalize cpD t q f z p c = T3 at *
      clear hd hr hac hs hst hlen1 hlen2 hn2 hw2 he hbd
      go_enter Try.func19, Try.ntmps19
      go_wp2
      go_quiet (fail)
      have hxq : Ext w (w.drewN nq) := Below.drewN' (Ext.refl w) nq
      clear c2 c3
      generalize w.drewN nq = w0 at *
      have hx0 : Ext w w0.drew := hxq.trans (Ext.dr (Ext.refl w0))
      have c0 := (HD.out.ext hx0).c0
      have c2 := (HD.out.ext hx0).c2
      obtain ⟨G, hGF, hsl, hback⟩ := (HD.out.ext hx0).slots
      have KS := RefStart_any G ms r 0 q t p _ (c : Int) w0.drew hsl (HR.out.ext hx0) hb (by omega) hq1 (by omega) hn0 (by omega) hp
      rw [HS.out] at KS
      have HKS := Lib.hid KS
      have HBK := Lib.hid hback
      have HX0 := Lib.hid hx0
      clear KS hGF hsl hback hxq hx0
      go_wp2
      go_still_tail 9, (by kernel_rfl)
      change wpList _ _ _ _ _ w0.drew
      go_wp2_with fail
      refine HKS.out.mono ?_
      rintro e w1 ⟨rfl, hs1, hc1⟩
      obtain ⟨hd1, hc1'⟩ := HBK.out w1 _ hs1 hc1
      have d1 := hd1.c1
      obtain ⟨l0, _, _⟩ := hd1.lc
      obtain ⟨G1, _, hrk1, hback1⟩ := hd1.disk
      have HRK1 := Lib.hid hrk1
      have HBK1 := Lib.hid hback1
      have HC1 := Lib.hid hc1'
      clear hd1 hc1' hs1 hc1 hrk1 hback1 HKS HBK c0 c2
      go_wp2_with fail
      refine (RkSync G1 r _ w1 HRK1.out (by have := HST.out; omega) (by rw [HST.out.2.1]; omega) (by rw [HST.out.2.1]; omega)).mono ?_
      rintro e w2 ⟨rfl, hk2, hc2⟩
      rw [HST.out.2.2] at hk2
      obtain ⟨hd2, hc2'⟩ := HBK1.out w2 _ hk2 hc2
      have e2 := hd2.c2
      have e3 := hd2.c3
      have g3 := hd2.fr 3
      obtain ⟨hd3, hc3⟩ := hd2.setAge (c : Int)
      have HC2 := Lib.hid hc2'
      have HC3 := Lib.hid hc3
      have d1 := hd3.c1
      obtain ⟨G3, _, hlg3, hback3⟩ := hd3.log
      have HLG3 := Lib.hid hlg3
      have HBK3 := Lib.hid hback3
      clear hd2 hd3 hc2' hc3 hlg3 hback3 hk2 hc2 l0 HRK1 HBK1
      go_wp2_with fail
      refine (RefLogClear G3 ml r f z L _ _ HLG3.out HBD.out.1 HBD.out.2.1 HBD.out.2.2.1 HBD.out.2.2.2.1 HBD.out.2.2.2.2).mono ?_
      rintro e w4 ⟨rfl, hl4, hc4⟩
      rw [← HCP.out] at hl4
      obtain ⟨hd4, hc4'⟩ := HBK3.out w4 _ _ hl4 hc4
      have HD4 := Lib.hid hd4
      have HC4 := Lib.hid hc4'
      clear hd4 hc4' hl4 hc4 HLG3 HBK3 d1 e2 e3 g3
      go_wp2
      go_ret
      have t0 := HX0.out.size
      have t1 := HC1.out.size
      have t2 := HC2.out.size
      have t3 := HC3.out.size
      have t4 := HC4.out.size
      refine ⟨rfl, HD4.out.mono (fun x hx => ?_) (HD.out.isIn.since (by omega)), (((Chg.of_ext HX0.out).trans (HC1.out.step HC2.out) (fun _ _ h => h)).trans HC3.out (fun x hx hF => ?_)).trans HC4.out (fun x hx hF => ?_)⟩
      · rcases hx with (hx | hx) | hx
        · exact .inl hx
        · exact .inr ⟨by omega, by omega⟩
        · exact .inr ⟨by omega, by omega⟩
      · rcases hF with hF | hF
        · exact hF
        · omega
      · rcases hF with hF | hF
        · exact hF
        · omega
    · have he : cpE t q p c a = 3 := by rw [cpE, if_neg hac, if_neg hs]
      have hne : ¬ cpE t q p c a = 0 := by rw [he]; decide
      have hE : (stE t 0 q p (c : Int) != 0) = true := by rw [bne_iff_ne]; exact hs
      have hE2 : (stE t 0 q p (c : Int) == 0) = false := by rw [beq_eq_false_iff_ne]; exact hs
      have hss : stS t 0 q p (c : Int) = t := by rw [stS, if_neg hs]
      have HSS := Lib.hid hss
      rw [cpS, cpL, cpA, if_neg hne, if_neg hne, if_neg hne, he]
      clear hd hr hac hs he hne hss
      go_enter Try.func19, Try.ntmps19
      go_wp2
      go_quiet (fail)
      have hxq : Ext w (w.drewN nq) := Below.drewN' (Ext.refl w) nq
      clear c2 c3
      generalize w.drewN nq = w0 at *
      have hx0 : Ext w w0.drew := hxq.trans (Ext.dr (Ext.refl w0))
      have c0 := (HD.out.ext hx0).c0
      have c2 := (HD.out.ext hx0).c2
      obtain ⟨G, hGF, hsl, hback⟩ := (HD.out.ext hx0).slots
      have KS := RefStart_any G ms r 0 q t p _ (c : Int) w0.drew hsl (HR.out.ext hx0) hb (by omega) hq1 (by omega) hn0 (by omega) hp
      rw [HSS.out] at KS
      have HKS := Lib.hid KS
      have HBK := Lib.hid hback
      have HX0 := Lib.hid hx0
      clear KS hGF hsl hback hxq hx0 HSS
      generalize stE t 0 q p (c : Int) = E at *
      go_wp2
      go_still_tail 9, (by kernel_rfl)
      change wpList _ _ _ _ _ w0.drew
      go_wp2_with fail
      refine HKS.out.mono ?_
      rintro e w1 ⟨rfl, hs1, hc1⟩
      obtain ⟨hd1, hc1'⟩ := HBK.out w1 _ hs1 hc1
      have HD1 := Lib.hid hd1
      have HC1 := Lib.hid hc1'
      clear hd1 hc1' hs1 hc1 HKS HBK c0 c2
      go_wp2
      go_ret
      have t0 := HX0.out.size
      have t1 := HC1.out.size
      refine ⟨rfl, HD1.out.mono (fun x hx => ?_) (HD.out.isIn.since (by omega)), (Chg.of_ext HX0.out).trans HC1.out (fun _ _ h => h)⟩
      rcases hx with hx | hx
      · exact .inl hx
      · exact .inr ⟨by omega, by omega⟩

end Go.Proofs.Ytdcmjmanalijfaa

/- Layer 7, the reference: has an op room? -/
namespace Go.Proofs.Ytdcmjmanalijfaa
open Go.RowKit

theorem jroom_zeros {z u c n : Nat} (h : 1 ≤ n ∧ n ≤ 3900) : jroom z u c n = (decide (0 < (frameB (List.replicate (n + (numB c).length) (0 : UInt8))).length) && decide ((frameB (List.replicate (n + (numB c).length) (0 : UInt8))).length ≤ z - u)) := by
  have h0 := roomB_put z u (List.replicate (n + (numB c).length) (0 : UInt8))
  rw [List.length_replicate] at h0
  rw [jroom, decide_eq_true (by omega), Bool.true_and, Int.toNat_natCast, Nat.add_comm, h0, putE]
  by_cases hf : frameB (List.replicate (n + (numB c).length) (0 : UInt8)) = []
  · rw [if_pos hf, hf]
    simp
  · rw [if_neg hf]
    have : 0 < (frameB (List.replicate (n + (numB c).length) (0 : UInt8))).length := List.length_pos_iff.2 hf
    rw [decide_eq_true this, Bool.true_and]
    by_cases h2 : z - u < (frameB (List.replicate (n + (numB c).length) (0 : UInt8))).length
    · rw [if_pos h2, decide_eq_false (by omega : ¬ (frameB (List.replicate (n + (numB c).length) (0 : UInt8))).length ≤ z - u)]
      rfl
    · rw [if_neg h2, decide_eq_true (by omega : (frameB (List.replicate (n + (numB c).length) (0 : UInt8))).length ≤ z - u)]
      rfl

set_option maxRecDepth 100000 in
set_option maxHeartbeats 1000000 in
theorem RefJRoom (F : Fp) (j ms ml r : Nat) (t : DkS) (q f z : Nat) (L : List (List UInt8)) (c : Nat) (a : Int) (n : Nat) (w : World) (hd : RJD F w j ms ml r t q f z L c a) (hz : z ≤ 65536) (hu : (catF L).length ≤ z) (hL : L.length ≤ 1000000) (hc : c ≤ 1000000000) (hn : n ≤ 1000000) :
    Calls Try.prog 27 #[.pointer (some ⟨j, 0, none⟩), .int .i64 (n : Int)] w fun e w' => e = .returned (.bool (jroom z (catF L).length c n)) ∧ Ext w w' := by
  by_cases h1 : n < 1
  · have hj : jroom z (catF L).length c n = false := by rw [jroom, decide_eq_false (by omega)]; rfl
    have d1 : decide ((n : Int) < 1) = true := decide_eq_true (by omega)
    have d1' : decide (n < 1) = true := decide_eq_true h1
    rw [hj]
    clear hd hu hj
    go_enter Try.func27, Try.ntmps27
    go_wp2
    go_ret
    exact ⟨rfl, Ext.refl _⟩
  · have d1 : decide ((n : Int) < 1) = false := decide_eq_false (by omega)
    by_cases h2 : 3900 < n
    · have hj : jroom z (catF L).length c n = false := by rw [jroom, decide_eq_false (by omega)]; rfl
      have d2 : decide (3900 < (n : Int)) = true := decide_eq_true (by omega)
      rw [hj]
      clear hd hu hj
      go_enter Try.func27, Try.ntmps27
      go_wp2
      go_ret
      exact ⟨rfl, Ext.refl _⟩
    · have d2 : decide (3900 < (n : Int)) = false := decide_eq_false (by omega)
      have hj := jroom_zeros (z := z) (u := (catF L).length) (c := c) (n := n) (by omega)
      have h8 := numB_len8 (n := c) (by omega)
      have KU := fun w' (hx : Ext w w') => RefUsed_any F ml r f z L w' (hd.ext hx).lg (by omega) (by omega)
      have hl := fun w' (hx : Ext w w') => (hd.ext (w' := w') hx).lc
      have hcell := fun w' (hx : Ext w w') => (hd.ext (w' := w') hx).c1
      have c2 := hd.c2
      have KN := fun w' => RefNum_yes c w' (by omega)
      obtain ⟨m, hm⟩ : ∃ m, m = (numB c).length := ⟨_, rfl⟩
      rw [← hm] at hj h8
      obtain ⟨k, hk⟩ : ∃ k, k = n + m := ⟨_, rfl⟩
      rw [← hk] at hj
      have w1 : IntKind.i64.wrap ((n : Int) + (m : Int)) = (k : Int) := by rw [IntKind.wrap_i64]; omega
      have KF := fun v w' hr => RefFrame_any (List.replicate k (0 : UInt8)) v w' hr
      obtain ⟨qq, hqq⟩ : ∃ x, x = (frameB (List.replicate k (0 : UInt8))).length := ⟨_, rfl⟩
      rw [← hqq] at hj
      obtain ⟨u, hu'⟩ : ∃ u, u = (catF L).length := ⟨_, rfl⟩
      rw [← hu'] at hj hu
      simp only [← hu'] at KU
      obtain ⟨X, hX⟩ : ∃ X : Int, X = ((z - u : Nat) : Int) := ⟨_, rfl⟩
      have w3 : IntKind.i64.wrap ((z : Int) - (u : Int)) = X := by rw [IntKind.wrap_i64]; omega
      rw [← hu', hj]
      have hX' : ∀ y : Nat, decide ((y : Int) ≤ X) = decide (y ≤ z - u) := fun y => by rw [hX]; simp
      have k6 : k ≤ 140737488355328 := by omega
      have HN := Lib.hid KN
      have HU := Lib.hid KU
      have HF := Lib.hid KF
      have HL := Lib.hid hl
      have HC := Lib.hid hcell
      have HM := Lib.hid hm
      have HQ := Lib.hid hqq
      have HK := Lib.hid k6
      have HX := Lib.hid hX'
      clear hd KN KU KF hl hcell hm hqq hX hu hz hL hc hn hj h1 h2 h8 hu' hk hX' k6
      by_cases q0 : 0 < qq
      · have q1 : decide ((qq : Int) > 0) = true := decide_eq_true (by omega)
        have q2 : decide (0 < (qq : Int)) = true := decide_eq_true (by omega)
        have q3 : decide (0 < qq) = true := decide_eq_true q0
        have q4 : 0 < qq := q0
        rw [decide_eq_true q0, Bool.true_and]
        have HR : Hid (decide ((qq : Int) ≤ X) = decide (qq ≤ z - u)) := Lib.hid (HX.out qq)
        generalize hR : decide (qq ≤ z - u) = R at *
        have HX1 := Lib.hid HR.out
        clear q0 hR HX HR
        go_enter Try.func27, Try.ntmps27
        go_wp2_with fail
        refine (HN.out _).mono ?_
        rintro e w2 ⟨v2, rfl, hg2⟩
        obtain ⟨A2, k2, rfl⟩ := hg2.slice_ (n := m) (by rw [List.length_map, HM.out])
        have HG2 := Lib.hid hg2.ext
        clear hg2
        go_wp2_with (refine make_u8 rfl (.tmp 19) (.tmp 19) rfl k rfl rfl HK.out ?_; intro gz w3 hgl hg3; have HG3 := Lib.hid hg3; clear hg3)
        refine (HF.out _ w3 (Rd.own HG3.out.own)).mono ?_
        rintro e w4 ⟨v4, rfl, hg4⟩
        obtain ⟨A4, k4, rfl⟩ := hg4.slice_ (n := qq) (by rw [List.length_map, HQ.out])
        have hx4 : Ext w w4.drew := (HG2.out.trans (HG3.out.ext.trans hg4.ext)).trans (Ext.dr (Ext.refl w4))
        have e1 := HC.out _ hx4
        have e2 := (HL.out _ hx4).2.1
        have KU4 := HU.out _ hx4
        clear hg4 c2
        go_wp2_with fail
        have HKU := Lib.hid KU4
        clear KU4
        go_region_held3 (fun w' => w'.cell? ⟨j, 1, none⟩ = some (.pointer (some ⟨ml, 0, none⟩)) ∧ w'.cell? ⟨ml, 2, none⟩ = some (.int .i64 (z : Int))) (first | go_keep | (exact ⟨g1, g2⟩)) (first | (go_at_call 55; (with_reducible refine HKU.out.mono ?_); rintro e w5 ⟨rfl, hx5⟩; have hx6 := hx4.trans hx5; have g1 := HC.out w5 hx6; have g2 := (HL.out w5 hx6).2.1))
        all_goals
          go_wp2
          go_ret
          refine ⟨?_, hx6⟩
          first | rfl | (rw [HX1.out]; rfl)
      · obtain rfl : qq = 0 := by omega
        rw [decide_eq_false q0, Bool.false_and]
        clear q0 HX
        go_enter Try.func27, Try.ntmps27
        go_wp2_with fail
        refine (HN.out _).mono ?_
        rintro e w2 ⟨v2, rfl, hg2⟩
        obtain ⟨A2, k2, rfl⟩ := hg2.slice_ (n := m) (by rw [List.length_map, HM.out])
        have HG2 := Lib.hid hg2.ext
        clear hg2
        go_wp2_with (refine make_u8 rfl (.tmp 19) (.tmp 19) rfl k rfl rfl HK.out ?_; intro gz w3 hgl hg3; have HG3 := Lib.hid hg3; clear hg3)
        refine (HF.out _ w3 (Rd.own HG3.out.own)).mono ?_
        rintro e w4 ⟨v4, rfl, hg4⟩
        obtain ⟨A4, k4, rfl⟩ := hg4.slice_ (n := 0) (by rw [List.length_map, ← HQ.out])
        have hx4 : Ext w w4 := HG2.out.trans (HG3.out.ext.trans hg4.ext)
        clear hg4 c2
        go_wp2
        go_quiet (fail)
        go_wp2
        go_ret
        exact ⟨rfl, Below.drewN' hx4 nq⟩

end Go.Proofs.Ytdcmjmanalijfaa

/- Layer 7, the reference: a journal is opened. -/
namespace Go.Proofs.Ytdcmjmanalijfaa
open Go.RowKit

theorem recsW_get : ∀ (n : Nat) (l : List (List UInt8)) (k : Nat) (h : k < l.length), (recsW n l)[k]? = some (payB (n + k) l[k])
  | n, x :: xs, 0, _ => rfl
  | n, x :: xs, k + 1, h => by
    rw [recsW, List.getElem?_cons_succ, recsW_get (n + 1) xs k (by simpa using h), show n + 1 + k = n + (k + 1) by omega]
    rfl

/-- In the loop over the records: k of them are read. -/
def RoSt (GG : Fp) (w3 w5 wr : World) (j ms ml r : Nat) (t : DkS) (q f z : Nat) (L W : List (List UInt8)) (a : Int) (k : Nat) (v : Value) : Prop :=
  RJD GG wr j ms ml r t q f z L (a.toNat + k) a ∧ OwnG (fun b => w5.heap.size ≤ b ∧ b < wr.heap.size) wr 30 v (W.take k) ∧ Ext w3 wr ∧ w5.heap.size ≤ wr.heap.size ∧ GG.isIn w5 ∧ w3.heap.size ≤ j ∧ GG j ∧ w3.heap.size ≤ w5.heap.size

section
variable {GG : Fp} {w3 w5 wr w6 w7 w8 : World} {j ms ml r q f z k : Nat} {t : DkS} {L W : List (List UInt8)} {a : Int} {v v7 v8 : Value}
theorem RoSt.ext (h : RoSt GG w3 w5 wr j ms ml r t q f z L W a k v) (hx : Ext wr w6) : RoSt GG w3 w5 w6 j ms ml r t q f z L W a k v := by
  obtain ⟨h1, h2, h3, h4, h5⟩ := h
  exact ⟨h1.ext hx, (h2.ext hx).mono (fun b hb => ⟨hb.1, Nat.lt_of_lt_of_le hb.2 hx.size⟩), h3.trans hx, Nat.le_trans h4 hx.size, h5⟩
/-- One op more. -/
theorem RoSt.push (h : RoSt GG w3 w5 w6 j ms ml r t q f z L W a k v) (hk : k < W.length) (h7 : Grew w6.heap.size 5 (.slice none 0 0) w6 (W[k].map B) v7 w7) {vs : List Value} (hvs : RowF (fun b => w5.heap.size ≤ b ∧ b < w7.heap.size) w7 30 v vs) (h2 : vs.length = (W.take k).length)
    (h3 : ∀ (i : Nat) u l, vs[i]? = some u → (W.take k)[i]? = some l → RdF (fun b => (w5.heap.size ≤ b ∧ b < w7.heap.size) ∧ some b ≠ v.ownBlock) w7 u (l.map B)) (hlt : ∀ b, v.ownBlock = some b → b < w6.heap.size)
    (h8 : Grew 0 30 v w7 (vs ++ [v7]) v8 w8) :
    RJD GG w8 j ms ml r t q f z L (a.toNat + k) a ∧ RoSt GG w3 w5 (w8.setCell ⟨j, 2, none⟩ (.int .i64 ((a.toNat + (k + 1) : Nat) : Int))) j ms ml r t q f z L W a (k + 1) v8 := by
  have h0 := h.ext h7.ext
  obtain ⟨a1, a2, a3, a4, a5, a6, a7, a8⟩ := h0
  have hs6 := h.2.2.2.1
  obtain ⟨g1, g2⟩ := OwnG.snoc hvs h2 h3 (RowF.made h7).rdF (fun b hb => ⟨⟨by omega, hb.2⟩, hb.2, fun e => by have := hlt b e.symm; omega⟩) (fun b hb => hb.2) h8
  have hrow : ∀ b, v.ownBlock = some b → w5.heap.size ≤ b := fun b hb => (hvs.2 b hb).1
  have hs8 := h8.size
  have b1 := a1.chg g2 (fun b hb hv => by have := hrow b hv; have := a5 b hb; omega)
  obtain ⟨b2, -⟩ := b1.setCount (a.toNat + (k + 1))
  have hcj : Chg (fun b => b = j) w8 (w8.setCell ⟨j, 2, none⟩ (.int .i64 ((a.toNat + (k + 1) : Nat) : Int))) := (Chg.refl _ w8).setCell (fun _ => rfl)
  have hsz : (w8.setCell ⟨j, 2, none⟩ (.int .i64 ((a.toNat + (k + 1) : Nat) : Int))).heap.size = w8.heap.size := by simp
  have hj5 := a5 j a7
  refine ⟨b1, b2, ?_, ?_, by omega, a5, a6, a7, a8⟩
  · rw [List.take_succ_eq_append_getElem hk]
    refine (g1.chg hcj (fun b hb e => ?_)).mono (fun b hb => ?_)
    · rcases hb with hb | hb
      · omega
      · omega
    · rw [hsz]
      rcases hb with hb | hb
      · exact ⟨hb.1, by omega⟩
      · exact ⟨by omega, hb.2⟩
  · exact hcj.ext (g2.ext a3 (fun b hb => by have := hrow b hb; omega)) (fun b hb => by omega)
end

/-- 'ops = append(ops, op)'. -/
theorem push_ops {GG : Fp} {w3 w5 w6 w7 : World} {j ms ml r q f z k : Nat} {t : DkS} {L W : List (List UInt8)} {ag : Int} {v : Value} {ops : Array Oper} {rest : List Oper} {o : Oper} {a : Act} {Q : Exit → Act → World → Prop} {gx : Nat} (hgd : o.guard = none) (s x : Operand)
    (ho : o.op = .call { callee := .builtin .append, args := #[s, x], argTypes := #[31, 31] })
    (hRO : RoSt GG w3 w5 w6 j ms ml r t q f z L W ag k v) (hk : k < W.length) (A7 : Option Addr) (n7 k7 : Nat) (h7 : Grew w6.heap.size 5 (.slice none 0 0) w6 (W[k].map B) (.slice A7 n7 k7) w7) (hs : a.eval s = v)
    (hx : a.eval x = .slice (some ⟨gx, 0, none⟩) 1 1) (hlen : W.length ≤ 1000000)
    (h : ∀ v' w', RJD GG w' j ms ml r t q f z L (ag.toNat + k) ag → RoSt GG w3 w5 (w'.setCell ⟨j, 2, none⟩ (.int .i64 ((ag.toNat + (k + 1) : Nat) : Int))) j ms ml r t q f z L W ag (k + 1) v' → wpList Try.prog ops Q rest (a.put o.dst v') w') (hgx : gx = w7.heap.size := by simp) :
    wpList Try.prog ops Q (o :: rest) a (w7.alloc (.cells #[.slice A7 n7 k7] 30)) := by
  subst hgx
  have h0 := hRO.ext h7.ext
  obtain ⟨vs, r1, r2, r3, r4⟩ := h0.2.1.row
  have hlt : ∀ b, v.ownBlock = some b → b < w6.heap.size := by
    obtain ⟨vs', q1, q2, q3, q4⟩ := hRO.2.1.row
    exact fun b hb => (q3.2 b hb).2
  have hl : vs.length ≤ 1000000 := by rw [r2, List.length_take]; omega
  exact wpList_push hgd s x 31 ho 0 30 (.slice none 0 0) 24 Try.underlying31 Try.infoRow rfl v vs hs r1 _ rfl hx (by unfold maxLen; omega) (by omega) (Nat.zero_le _)
    (fun v' w' hg' => by
      obtain ⟨g1, g2⟩ := hRO.push hk h7 r3 r2 r4 hlt hg'
      exact h v' w' g1 g2)

/-- What is left at the end. -/
theorem open_done {F1 F2 G : Fp} {w w1 w2 w3 w5 wr : World} {ms ml r q f z c : Nat} {t : DkS} {L W : List (List UInt8)} {a : Int} {pic : List UInt8} {v pv : Value}
    (hRO : RoSt (fun b => F1 b ∨ (w.heap.size ≤ b ∧ b < w1.heap.size) ∨ F2 b ∨ b = w3.heap.size) w3 w5 wr w3.heap.size ms ml r t q f z L W a W.length v) (hc : c = a.toNat + W.length) (hx1 : Ext w w1) (hc2 : Chg G w1 w2) (hx3 : Ext w2 w3)
    (hap : F2.apart F1 ∧ (∀ k, F1 k → G.since w1 w2 k) ∧ (∀ k, F2 k → G.since w1 w2 k) ∧ Fp.apart (fun b => w.heap.size ≤ b ∧ b < w1.heap.size) F1 ∧ Fp.apart F2 (fun b => w.heap.size ≤ b ∧ b < w1.heap.size) ∧ F1.isIn w2 ∧ G.isIn w) (hi2 : F2.isIn w2) (hpv : Rd w3 pv (pic.map B)) :
    ∃ (j ms ml : Nat) (pv' ov : Value), Ending.returned (.tuple #[.pointer (some ⟨w3.heap.size, 0, none⟩), pv, v, .bool true]) = Ending.returned (.tuple #[.pointer (some ⟨j, 0, none⟩), pv', ov, .bool true]) ∧ RJD (G.since w wr) wr j ms ml r t q f z L c a ∧
      Rd wr pv' (pic.map B) ∧ RdL wr ov W ∧ Chg G w wr := by
  obtain ⟨a1, a2, a3, a4, a5, a6, a7, a8⟩ := hRO
  obtain ⟨p3, p4, p5, pS, pL, pI, pG⟩ := hap
  rw [← hc] at a1
  rw [List.take_length] at a2
  have y1 := hx1.size
  have y2 := hc2.size
  have y3 := hx3.size
  have y5 := a3.size
  have yj := a5 w3.heap.size a7
  refine ⟨_, ms, ml, _, _, rfl, a1.mono (fun b hb => ?_) (pG.since (by omega)), hpv.ext a3, a2.rdlF.rdl, ((Chg.of_ext hx1).trans hc2 (fun _ _ h => h)).trans (Chg.of_ext (hx3.trans a3) : Chg (fun _ => False) w2 wr) (fun _ _ h => h.elim)⟩
  rcases hb with hb | hb | hb | hb
  · rcases p4 b hb with h | h
    · exact .inl h
    · exact .inr ⟨by omega, by omega⟩
  · exact .inr ⟨by omega, by omega⟩
  · rcases p5 b hb with h | h
    · exact .inl h
    · exact .inr ⟨by omega, by omega⟩
  · exact .inr ⟨by omega, by omega⟩

set_option maxRecDepth 100000 in
set_option maxHeartbeats 2000000 in
theorem RefJOpen (G : Fp) (r N q f z k : Nat) (s : DkS) (L W : List (List UInt8)) (c : Nat) (a : Int) (pic : List UInt8) (w : World) (hk : Rk G w r s) (ho : JOpens N q f z k s L W c a pic) (hw : s.2.1.length ≤ 10000000) :
    Calls Try.prog 12 #[.pointer (some ⟨r, 0, none⟩)] w fun e w' => ∃ (j ms ml : Nat) (pv ov : Value), e = .returned (.tuple #[.pointer (some ⟨j, 0, none⟩), pv, ov, .bool true]) ∧ RJD (G.since w w') w' j ms ml r (opD s f z) q f z L c a ∧
      Rd w' pv (pic.map B) ∧ RdL w' ov W ∧ Chg G w w' := by
  have hgeo := ho.geo
  have hsl := hgeo.slots
  have hN := ho.len
  obtain ⟨A0, cp, c0⟩ := hk.cell0
  rw [hN] at c0
  have q1 : decide ((N : Int) < 64) = false := decide_eq_false (by have := hgeo.small; omega)
  have q4 : (N : Int) / 4 = (q : Int) := by have := hgeo.hq; omega
  have qf : 2 * (q : Int) = (f : Int) := by have := hgeo.hf; omega
  have qz : (N : Int) - (f : Int) = (z : Int) := by have := hgeo.hz; omega
  have hn65 := hgeo.big
  have hn64 := hgeo.small
  have HK := Lib.hid hk
  have HO := Lib.hid ho
  have HG := Lib.hid hgeo
  have HS := Lib.hid hsl
  have HN := Lib.hid hN
  clear hk ho hgeo hsl hN
  go_enter Try.func12, Try.ntmps12
  go_wp2_with fail
  refine (RefSlOpen_yes G r s 0 q w HK.out (by rw [HN.out]; exact hn65) (by rw [HN.out]; have := HS.out; have := HG.out.hq; omega) HS.out.2.1).mono ?_
  rintro e w1 ⟨ms, rfl, hs1, hx1⟩
  have HS1 := Lib.hid hs1
  have HX1 := Lib.hid hx1
  clear hs1 hx1 c0
  go_wp2_with fail
  refine (RefOpen_yes G r s f z w1 (HK.out.ext0 HX1.out) (by rw [HN.out]; exact hn65) (by rw [HN.out]; have := HG.out.hz; omega) HS.out.2.2.2.1 (Nat.le_trans hw (by decide)) HO.out.n0 (by have := HO.out.n1; have := HO.out.hk; omega)).mono ?_
  rintro e w2 ⟨ml, rfl, hd2, hc2⟩
  rw [HO.out.recs] at hd2
  obtain ⟨F1, F2, k1, k2, k3, k4, k5, k6⟩ := hd2
  have hop1 : (opD s f z).1.length = s.1.length := opD_len _ _ _
  have hiG := HK.out.isIn
  have y1 := HX1.out.size
  have y2 := hc2.size
  have HS2 : Hid (RSl (fun b => w.heap.size ≤ b ∧ b < w1.heap.size) w2 ms r 0 q) := Lib.hid (HS1.out.chg hc2 (fun b hb hG => by have := hiG b hG; omega))
  have apS : Fp.apart (fun b => w.heap.size ≤ b ∧ b < w1.heap.size) F1 := fun b hb hF => by
    rcases k4 b hF with h | h
    · have := hiG b h
      omega
    · omega
  have apL : Fp.apart F2 (fun b => w.heap.size ≤ b ∧ b < w1.heap.size) := fun b hF hb => by
    rcases k5 b hF with h | h
    · have := hiG b h
      omega
    · omega
  have inF1 : F1.isIn w2 := k1.isIn
  have hSD : RSD (fun b => F1 b ∨ (w.heap.size ≤ b ∧ b < w1.heap.size)) w2 ms r (opD s f z) 0 q := ⟨F1, _, k1, HS2.out, apS, fun _ => .inl, fun _ => .inr, fun b hb => hb.elim (inF1 b) (fun h => by have := h.2; omega)⟩
  have KL := RefLoad_any _ ms r 0 q (opD s f z) w2 hSD (by rw [hop1, HN.out]; exact hn65) (by rw [hop1, HN.out]; have := HG.out.hq; omega) HS.out.2.1 (Nat.zero_le _)
  rw [opD_load (by rw [HN.out]; exact HG.out)] at KL
  unfold PicP at KL
  rw [HO.out.age, HO.out.pic] at KL
  have HKL := Lib.hid KL
  have HR1 := Lib.hid k1
  have HR2 := Lib.hid k2
  have HAP := Lib.hid (And.intro k3 (And.intro k4 (And.intro k5 (And.intro apS (And.intro apL (And.intro inF1 hiG))))))
  have HC2 := Lib.hid hc2
  clear k1 k2 k3 k4 k5 k6 hc2 hop1 hiG y1 y2 apS apL inF1 hSD KL
  go_wp2_with fail
  refine HKL.out.mono ?_
  rintro e w3 ⟨pv, rfl, hpv, hx3⟩
  have HPV := Lib.hid hpv
  have HX3 := Lib.hid hx3
  clear hpv hx3 HKL
  have hgj := HO.out.gj
  obtain ⟨G1, G2, G3⟩ := hgj
  have HG1 := Lib.hid G1
  have HG2 := Lib.hid G2
  have hWk : W.length ≤ 1000000 := by have := HO.out.ck; have := HO.out.hk; omega
  have hak : a.toNat ≤ 1000000 := by have := HO.out.ck; have := HO.out.hk; omega
  clear G1 G2 G3
  -- the journal's block
  have hjn : ∀ cc : Nat, RJD (fun b => F1 b ∨ (w.heap.size ≤ b ∧ b < w1.heap.size) ∨ F2 b ∨ b = w3.heap.size) (w3.alloc (.cells #[.pointer (some ⟨ms, 0, none⟩), .pointer (some ⟨ml, 0, none⟩), .int .i64 (cc : Int), .int .i64 a] 50)) w3.heap.size ms ml r (opD s f z) q f z L cc a := by
    intro cc
    have hE : Ext w2 (w3.alloc (.cells #[.pointer (some ⟨ms, 0, none⟩), .pointer (some ⟨ml, 0, none⟩), .int .i64 (cc : Int), .int .i64 a] 50)) := HX3.out.trans ((Below.refl _ _).alloc (Nat.le_refl _) _)
    obtain ⟨a3, a4, a5, aS, aL, aI, aG⟩ := HAP.out
    have z3 := HX3.out.size
    have z2 := HC2.out.size
    have iL := HR2.out.isIn
    refine ⟨F1, _, F2, fun b => b = w3.heap.size, HR1.out.ext0 hE, HS2.out.ext hE, HR2.out.ext hE, ⟨Blk.new _ _ _, rfl, (fun b hb => by simp; omega), (fun r hr => by cases hr), (fun r hr => by cases hr), List.Pairwise.nil⟩, ⟨aS, a3, aL, fun b hb hF => by have := aI b hF; omega, fun b hb hF => by omega, fun b hb hF => by have := iL b hF; omega⟩, ⟨fun b hb => .inl hb, fun b hb => .inr (.inl hb), fun b hb => .inr (.inr (.inl hb)), fun b hb => .inr (.inr (.inr hb))⟩, fun b hb => ?_⟩
    rw [World.size_alloc]
    rcases hb with hb | hb | hb | hb
    · have := aI b hb
      omega
    · omega
    · have := iL b hb
      omega
    · omega
  have HJN := Lib.hid hjn
  clear hjn
  by_cases ha : 0 < a
  · have hat : ((a.toNat : Nat) : Int) = a := Int.toNat_of_nonneg (by omega)
    have hd1 : decide (0 < a) = true := decide_eq_true ha
    have hj5 := HJN.out a.toNat
    rw [hat] at hj5
    have he5 : Ext w3 (w3.alloc (.cells #[.pointer (some ⟨ms, 0, none⟩), .pointer (some ⟨ml, 0, none⟩), .int .i64 a, .int .i64 a] 50)) := (Below.refl _ w3).alloc (Nat.le_refl _) _
    have HJ5 := Lib.hid hj5
    have HE5 := Lib.hid he5
    clear hat ha hj5 he5 HJN
    go_wp2
    generalize (w3.alloc _) = w5 at *
    have HR0 : Hid (RoSt (fun b => F1 b ∨ (w.heap.size ≤ b ∧ b < w1.heap.size) ∨ F2 b ∨ b = w3.heap.size) w3 w5 w5 w3.heap.size ms ml r (opD s f z) q f z L W a 0 (.slice none 0 0)) := Lib.hid ⟨HJ5.out, OwnG.nil _ _ _, HE5.out, Nat.le_refl _, HJ5.out.isIn, Nat.le_refl _, .inr (.inr (.inr rfl)), HE5.out.size⟩
    clear HJ5
    go_loopg [14, 15, 16, 17] W.length (fun gg v o st i wr => ∃ (n : Nat) (v' : Value), i = .int .i64 n ∧ v' = v ∧ o = .int .i64 0 ∧ st = .bool false ∧ n ≤ W.length ∧ gg = W.length - n ∧ Hid (RoSt (fun b => F1 b ∨ (w.heap.size ≤ b ∧ b < w1.heap.size) ∨ F2 b ∨ b = w3.heap.size) w3 w5 wr w3.heap.size ms ml r (opD s f z) q f z L W a n v'))
    case atStart => exact ⟨0, _, rfl, rfl, rfl, rfl, Nat.zero_le _, rfl, HR0⟩
    case round =>
      clear HR0
      obtain ⟨n, v', rfl, rfl, rfl, rfl, hn, rfl, HRO⟩ := hrel
      have hLl : L.length = W.length := by rw [HG1.out, recsW_len]
      obtain ⟨d0, d1, AL, kL, d3, dL⟩ := HRO.out.1.lc
      rw [hLl] at d3 dL
      clear d0 d1
      by_cases hlt : n < W.length
      · obtain ⟨b, o, rfl, hb, hcl⟩ := dL.at (by omega)
        have hLn : L[n]? = some (payB (a.toNat + n) W[n]) := by rw [HG1.out]; exact recsW_get _ _ _ hlt
        obtain ⟨u, hu, hru⟩ := hcl n _ hLn
        obtain ⟨cn, hcn⟩ : ∃ x, x = a.toNat + n := ⟨_, rfl⟩
        rw [← hcn] at hru
        obtain ⟨nb, hnb⟩ : ∃ x, x = (numB cn).length := ⟨_, rfl⟩
        obtain ⟨pl, hpl⟩ : ∃ x, x = W[n].length := ⟨_, rfl⟩
        obtain ⟨ll, hll⟩ : ∃ x, x = nb + pl := ⟨_, rfl⟩
        have hp1 : 1 ≤ pl := by rw [hpl]; exact HO.out.gj.one _ (List.getElem_mem hlt)
        have hcnb : cn < 9007199254740992 := by omega
        have hp39 : pl ≤ 3900 := by
          have h39 := HO.out.what.2.2.2.2.1 (payB cn W[n]) (by rw [HO.out.recs]; exact List.mem_of_getElem? (by rw [hcn]; exact hLn))
          rw [payB_len] at h39
          omega
        have hrl : ((payB cn W[n]).map B).length = ll := by rw [List.length_map, payB_len, ← hnb, ← hpl, hll]
        have hru0 := hru
        obtain ⟨Au, cu, rfl, hcu1, hcu2, hcu3⟩ := hru
        rw [hrl] at hcu1 hcu3 hu hru0
        obtain ⟨bu, ou, rfl, hbu, -⟩ := hcu3 (by omega)
        have hnle : nb ≤ ll := by omega
        have hgn : getN ((payB cn W[n]).drop 0) = some (cn, nb) := by rw [List.drop_zero, hnb]; exact payB_getN hcnb _
        have KG := RefGetNum_some (payB cn W[n]) _ 0 cn nb wr hru0 (by decide) hgn
        rw [Nat.zero_add] at KG
        have hcut : Rd wr (.slice (some ⟨bu, ou + nb, none⟩) (ll - nb) (cu - nb)) (W[n].map B) := by
          have h := hru0.cut nb (ll - nb) (by rw [hrl]; omega)
          rw [if_neg (by omega)] at h
          have e : (((payB cn W[n]).map B).drop nb).take (ll - nb) = W[n].map B := by
            rw [← List.map_drop, ← List.map_take, payB, hnb, List.drop_left, ← hnb, List.take_of_length_le (by omega)]
          rw [e] at h
          simpa [Addr.add_lit] using h
        have hcells : ∀ w', Ext wr w' → w'.cell? ⟨ml, 3, none⟩ = some (.slice (some ⟨b, o, none⟩) W.length kL) ∧ w'.cell? ⟨b, o + n, none⟩ = some (.slice (some ⟨bu, ou, none⟩) ll cu) ∧ w'.cell? ⟨w3.heap.size, 2, none⟩ = some (.int .i64 (cn : Int)) := fun w' hx => by
          obtain ⟨e0, e1, AL', kL', e3, -⟩ := HRO.out.1.lc
          rw [hLl] at e3
          rw [d3] at e3
          cases e3
          refine ⟨hx.cellOf d3 (World.block_lt_of_cell? wr _ d3), hx.cellOf hu hb, ?_⟩
          rw [hcn]
          exact (HRO.out.1.ext hx).c2
        have HKG := Lib.hid KG
        have HCU := Lib.hid hcut
        have HCE := Lib.hid hcells
        have HCN := Lib.hid hcn
        have HPL := Lib.hid hpl
        have HLL := Lib.hid hll
        have hcu' : ll ≤ cu := hcu1
        have hne : ((ll : Int) == (nb : Int)) = false := by rw [beq_eq_false_iff_ne]; omega
        have hnel : (ll == nb) = false := by rw [beq_eq_false_iff_ne]; omega
        have hcne : ¬ cu = nb := by omega
        have hcc : cn ≤ 2000000 := by omega
        have hmx : cu ≤ 9223372036854775807 := by unfold maxLen at hcu2; omega
        clear KG hcut hcells hcn hpl hll hru0 hcu1 hcu2 hcu3 hgn hrl hLn hu hcl dL d3 hLl hnb
        obtain ⟨d3, dr, d2⟩ := HCE.out wr (Ext.refl wr)
        go_wp2_with fail
        refine HKG.out.mono ?_
        rintro e w6 ⟨rfl, hx6⟩
        have hxE : Ext wr (w6.alloc (.cells #[] 5)) := hx6.trans ((Below.refl _ _).alloc (Nat.le_refl _) _)
        have HRE := Lib.hid (HRO.out.ext hxE)
        have HCU6 := Lib.hid (HCU.out.ext hxE)
        have hv0 : Rd (w6.alloc (.cells #[] 5)) (.slice (some ⟨w6.heap.size, 0, none⟩) 0 0) (([] : List UInt8).map B) := ⟨_, _, rfl, Nat.le_refl _, Nat.zero_le _, fun h => absurd h (by simp)⟩
        have hb0 : ([] : List UInt8).length + W[n].length ≤ 140737488355328 := by have := HPL.out; simp; omega
        have hr0 : 0 < 0 + W[n].length := by have := HPL.out; omega
        obtain ⟨g3, gr, g2⟩ := HCE.out w6 hx6
        obtain ⟨i3, ir, i2⟩ := HCE.out _ hxE
        clear hx6
        clear d3 dr d2
        go_wp2_with (first | (at_builtin; refine appG_u8 rfl (.tmp 155) (.tmp 164) rfl w6.heap.size 0 0 0 [] rfl hv0 _ W[n] rfl HCU6.out hr0 hb0 ?_; intro v7 w7 hg7; rw [List.nil_append] at hg7; obtain ⟨A7, k7, rfl⟩ := hg7.slice_ (List.length_map _)) | (at_builtin; refine push_ops rfl (.tmp 154) (.tmp 166) rfl HRE.out hlt A7 _ k7 hg7 rfl rfl hWk ?_; intro v8 w8 hj8 hr8; have e2 := hj8.c2; have e3 := hj8.fr 2; rw [← HCN.out] at e2; have HR8 := Lib.hid hr8; clear hr8 hj8))
        go_roundg (W.length - (n + 1))
        case measure => omega
        case rel =>
          have h8 := HR8.out
          rw [show ((a.toNat + (n + 1) : Nat) : Int) = (cn : Int) + 1 by have := HCN.out; omega] at h8
          exact ⟨n + 1, _, by go_num, rfl, rfl, rfl, by omega, rfl, Lib.hid h8⟩
      · obtain rfl : n = W.length := by omega
        clear dL
        go_wp2
        refine bodyPost_ret (v := .tuple #[.pointer (some ⟨w3.heap.size, 0, none⟩), pv, v', .bool true]) (by simp [results, Try.results12, go_sem]) rfl ?_
        exact open_done HRO.out HG2.out HX1.out HC2.out HX3.out HAP.out HR2.out.isIn HPV.out
  · have hat : a.toNat = 0 := by omega
    have hd1 : decide (0 < a) = false := decide_eq_false ha
    have hj5 := HJN.out 0
    rw [show ((0 : Nat) : Int) = 0 from rfl] at hj5
    have he5 : Ext w3 (w3.alloc (.cells #[.pointer (some ⟨ms, 0, none⟩), .pointer (some ⟨ml, 0, none⟩), .int .i64 0, .int .i64 a] 50)) := (Below.refl _ w3).alloc (Nat.le_refl _) _
    have HJ5 := Lib.hid hj5
    have HE5 := Lib.hid he5
    have HAT := Lib.hid hat
    clear ha hj5 he5 HJN hat
    go_wp2
    generalize (w3.alloc _) = w5 at *
    have HR0 : Hid (RoSt (fun b => F1 b ∨ (w.heap.size ≤ b ∧ b < w1.heap.size) ∨ F2 b ∨ b = w3.heap.size) w3 w5 w5 w3.heap.size ms ml r (opD s f z) q f z L W a 0 (.slice none 0 0)) := Lib.hid ⟨(by rw [HAT.out]; exact HJ5.out), OwnG.nil _ _ _, HE5.out, Nat.le_refl _, HJ5.out.isIn, Nat.le_refl _, .inr (.inr (.inr rfl)), HE5.out.size⟩
    clear HJ5
    go_loopg [14, 15, 16, 17] W.length (fun gg v o st i wr => ∃ (n : Nat) (v' : Value), i = .int .i64 n ∧ v' = v ∧ o = .int .i64 0 ∧ st = .bool false ∧ n ≤ W.length ∧ gg = W.length - n ∧ Hid (RoSt (fun b => F1 b ∨ (w.heap.size ≤ b ∧ b < w1.heap.size) ∨ F2 b ∨ b = w3.heap.size) w3 w5 wr w3.heap.size ms ml r (opD s f z) q f z L W a n v'))
    case atStart => exact ⟨0, _, rfl, rfl, rfl, rfl, Nat.zero_le _, rfl, HR0⟩
    case round =>
      clear HR0
      obtain ⟨n, v', rfl, rfl, rfl, rfl, hn, rfl, HRO⟩ := hrel
      have hLl : L.length = W.length := by rw [HG1.out, recsW_len]
      obtain ⟨d0, d1, AL, kL, d3, dL⟩ := HRO.out.1.lc
      rw [hLl] at d3 dL
      clear d0 d1
      by_cases hlt : n < W.length
      · obtain ⟨b, o, rfl, hb, hcl⟩ := dL.at (by omega)
        have hLn : L[n]? = some (payB (a.toNat + n) W[n]) := by rw [HG1.out]; exact recsW_get _ _ _ hlt
        obtain ⟨u, hu, hru⟩ := hcl n _ hLn
        obtain ⟨cn, hcn⟩ : ∃ x, x = a.toNat + n := ⟨_, rfl⟩
        rw [← hcn] at hru
        obtain ⟨nb, hnb⟩ : ∃ x, x = (numB cn).length := ⟨_, rfl⟩
        obtain ⟨pl, hpl⟩ : ∃ x, x = W[n].length := ⟨_, rfl⟩
        obtain ⟨ll, hll⟩ : ∃ x, x = nb + pl := ⟨_, rfl⟩
        have hp1 : 1 ≤ pl := by rw [hpl]; exact HO.out.gj.one _ (List.getElem_mem hlt)
        have hcnb : cn < 9007199254740992 := by omega
        have hp39 : pl ≤ 3900 := by
          have h39 := HO.out.what.2.2.2.2.1 (payB cn W[n]) (by rw [HO.out.recs]; exact List.mem_of_getElem? (by rw [hcn]; exact hLn))
          rw [payB_len] at h39
          omega
        have hrl : ((payB cn W[n]).map B).length = ll := by rw [List.length_map, payB_len, ← hnb, ← hpl, hll]
        have hru0 := hru
        obtain ⟨Au, cu, rfl, hcu1, hcu2, hcu3⟩ := hru
        rw [hrl] at hcu1 hcu3 hu hru0
        obtain ⟨bu, ou, rfl, hbu, -⟩ := hcu3 (by omega)
        have hnle : nb ≤ ll := by omega
        have hgn : getN ((payB cn W[n]).drop 0) = some (cn, nb) := by rw [List.drop_zero, hnb]; exact payB_getN hcnb _
        have KG := RefGetNum_some (payB cn W[n]) _ 0 cn nb wr hru0 (by decide) hgn
        rw [Nat.zero_add] at KG
        have hcut : Rd wr (.slice (some ⟨bu, ou + nb, none⟩) (ll - nb) (cu - nb)) (W[n].map B) := by
          have h := hru0.cut nb (ll - nb) (by rw [hrl]; omega)
          rw [if_neg (by omega)] at h
          have e : (((payB cn W[n]).map B).drop nb).take (ll - nb) = W[n].map B := by
            rw [← List.map_drop, ← List.map_take, payB, hnb, List.drop_left, ← hnb, List.take_of_length_le (by omega)]
          rw [e] at h
          simpa [Addr.add_lit] using h
        have hcells : ∀ w', Ext wr w' → w'.cell? ⟨ml, 3, none⟩ = some (.slice (some ⟨b, o, none⟩) W.length kL) ∧ w'.cell? ⟨b, o + n, none⟩ = some (.slice (some ⟨bu, ou, none⟩) ll cu) ∧ w'.cell? ⟨w3.heap.size, 2, none⟩ = some (.int .i64 (cn : Int)) := fun w' hx => by
          obtain ⟨e0, e1, AL', kL', e3, -⟩ := HRO.out.1.lc
          rw [hLl] at e3
          rw [d3] at e3
          cases e3
          refine ⟨hx.cellOf d3 (World.block_lt_of_cell? wr _ d3), hx.cellOf hu hb, ?_⟩
          rw [hcn]
          exact (HRO.out.1.ext hx).c2
        have HKG := Lib.hid KG
        have HCU := Lib.hid hcut
        have HCE := Lib.hid hcells
        have HCN := Lib.hid hcn
        have HPL := Lib.hid hpl
        have HLL := Lib.hid hll
        have hcu' : ll ≤ cu := hcu1
        have hne : ((ll : Int) == (nb : Int)) = false := by rw [beq_eq_false_iff_ne]; omega
        have hnel : (ll == nb) = false := by rw [beq_eq_false_iff_ne]; omega
        have hcne : ¬ cu = nb := by omega
        have hcc : cn ≤ 2000000 := by omega
        have hmx : cu ≤ 9223372036854775807 := by unfold maxLen at hcu2; omega
        clear KG hcut hcells hcn hpl hll hru0 hcu1 hcu2 hcu3 hgn hrl hLn hu hcl dL d3 hLl hnb
        obtain ⟨d3, dr, d2⟩ := HCE.out wr (Ext.refl wr)
        go_wp2_with fail
        refine HKG.out.mono ?_
        rintro e w6 ⟨rfl, hx6⟩
        have hxE : Ext wr (w6.alloc (.cells #[] 5)) := hx6.trans ((Below.refl _ _).alloc (Nat.le_refl _) _)
        have HRE := Lib.hid (HRO.out.ext hxE)
        have HCU6 := Lib.hid (HCU.out.ext hxE)
        have hv0 : Rd (w6.alloc (.cells #[] 5)) (.slice (some ⟨w6.heap.size, 0, none⟩) 0 0) (([] : List UInt8).map B) := ⟨_, _, rfl, Nat.le_refl _, Nat.zero_le _, fun h => absurd h (by simp)⟩
        have hb0 : ([] : List UInt8).length + W[n].length ≤ 140737488355328 := by have := HPL.out; simp; omega
        have hr0 : 0 < 0 + W[n].length := by have := HPL.out; omega
        obtain ⟨g3, gr, g2⟩ := HCE.out w6 hx6
        obtain ⟨i3, ir, i2⟩ := HCE.out _ hxE
        clear hx6
        clear d3 dr d2
        go_wp2_with (first | (at_builtin; refine appG_u8 rfl (.tmp 155) (.tmp 164) rfl w6.heap.size 0 0 0 [] rfl hv0 _ W[n] rfl HCU6.out hr0 hb0 ?_; intro v7 w7 hg7; rw [List.nil_append] at hg7; obtain ⟨A7, k7, rfl⟩ := hg7.slice_ (List.length_map _)) | (at_builtin; refine push_ops rfl (.tmp 154) (.tmp 166) rfl HRE.out hlt A7 _ k7 hg7 rfl rfl hWk ?_; intro v8 w8 hj8 hr8; have e2 := hj8.c2; have e3 := hj8.fr 2; rw [← HCN.out] at e2; have HR8 := Lib.hid hr8; clear hr8 hj8))
        go_roundg (W.length - (n + 1))
        case measure => omega
        case rel =>
          have h8 := HR8.out
          rw [show ((a.toNat + (n + 1) : Nat) : Int) = (cn : Int) + 1 by have := HCN.out; omega] at h8
          exact ⟨n + 1, _, by go_num, rfl, rfl, rfl, by omega, rfl, Lib.hid h8⟩
      · obtain rfl : n = W.length := by omega
        clear dL
        go_wp2
        refine bodyPost_ret (v := .tuple #[.pointer (some ⟨w3.heap.size, 0, none⟩), pv, v', .bool true]) (by simp [results, Try.results12, go_sem]) rfl ?_
        exact open_done HRO.out HG2.out HX1.out HC2.out HX3.out HAP.out HR2.out.isIn HPV.out

set_option maxRecDepth 100000 in
/-- A disk that is too small. -/
theorem RefJOpen_no (G : Fp) (r : Nat) (s : DkS) (w : World) (hk : Rk G w r s) (h : s.1.length < 64) :
    Calls Try.prog 12 #[.pointer (some ⟨r, 0, none⟩)] w fun e w' => e = .returned (.tuple #[.pointer none, .slice none 0 0, .slice none 0 0, .bool false]) ∧ Ext w w' := by
  obtain ⟨A0, cp, c0⟩ := hk.cell0
  obtain ⟨N, hN⟩ : ∃ N, s.1.length = N := ⟨_, rfl⟩
  rw [hN] at c0 h
  have q1 : decide ((N : Int) < 64) = true := decide_eq_true (by omega)
  clear hk hN h
  go_enter Try.func12, Try.ntmps12
  go_wp2
  refine bodyPost_ret (v := .tuple #[.pointer none, .slice none 0 0, .slice none 0 0, .bool false]) (by simp [results, Try.results12, go_sem]) rfl ?_
  exact ⟨rfl, Ext.refl _⟩

end Go.Proofs.Ytdcmjmanalijfaa

/- Layer 3, the reference: the same lists of bytes? -/
namespace Go.Proofs.Ytdcmjmanalijfaa
open Go.RowKit

set_option maxHeartbeats 1000000 in
theorem RefSame_any (xs ys : List (List UInt8)) (u v : Value) (w : World) (hu : RdL w u xs) (hv : RdL w v ys) :
    Calls Try.prog 24 #[u, v] w fun e w' => e = .returned (.bool (decide (xs = ys))) ∧ ∃ n, w' = w.drewN n := by
  obtain ⟨A, c, rfl, hlc, hcm⟩ := hu.sliceN rfl
  obtain ⟨A', c', rfl, hlc', hcm'⟩ := hv.sliceN rfl
  unfold maxLen at hcm hcm'
  by_cases hl : xs.length = ys.length
  · have HL := Lib.hid hl
    rw [hl] at hlc hu ⊢
    clear hl
    go_enter Try.func24, Try.ntmps24
    go_wp2
    go_loopw [5] (fun i' wr => ∃ i k : Nat, i' = .int .i64 i ∧ i ≤ ys.length ∧ xs.take i = ys.take i ∧ wr = w.drewN k) (fun i' _ => ys.length - (intOf i').toNat)
    case atStart => exact ⟨0, 0, rfl, by omega, rfl, rfl⟩
    case round =>
      obtain ⟨i, k, rfl, hi, htk, hwk⟩ := hrel
      have hu1 := hu.ext (Below.drewN' (Ext.refl w) k)
      have hv1 := hv.ext (Below.drewN' (Ext.refl w) k)
      rw [← hwk] at hu1 hv1
      have HW := Lib.hid hwk
      have HT := Lib.hid htk
      clear htk hwk
      by_cases hlt : i < ys.length
      · have hlx : i < xs.length := by have := HL.out; omega
        obtain ⟨b, o, rfl, hb, hc1⟩ := hu1.at (by have := HL.out; omega)
        obtain ⟨b', o', rfl, hb', hc2⟩ := hv1.at (by omega)
        obtain ⟨p, e1, hp⟩ := hc1 i xs[i] (List.getElem?_eq_getElem hlx)
        obtain ⟨q, e2, hq⟩ := hc2 i ys[i] (List.getElem?_eq_getElem hlt)
        obtain ⟨P, cp, rfl, _, _⟩ := hp.sliceN (List.length_map _)
        obtain ⟨Q, cq, rfl, _, _⟩ := hq.sliceN (List.length_map _)
        clear hc1 hc2
        generalize hx : xs[i] = x at *
        generalize hy : ys[i] = y at *
        have HX := Lib.hid hx
        have HY := Lib.hid hy
        clear hx hy
        have hcall : ∀ n, Calls Try.prog 23 #[.slice P x.length cp, .slice Q y.length cq] (wr.drewN n) fun e w' => e = .returned (.bool (decide (x = y))) ∧ ∃ m, w' = (wr.drewN n).drewN m :=
          fun n => Bytes_any x y _ _ _ (hp.ext (Below.drewN' (Ext.refl wr) n)) (hq.ext (Below.drewN' (Ext.refl wr) n))
        have HC := Lib.hid hcall
        clear hcall
        by_cases hxy : x = y
        · have hd : decide (x = y) = true := decide_eq_true hxy
          rw [hd] at HC
          have HXY := Lib.hid hxy
          clear hxy hd
          go_wp2_with fail
          go_quiet ((go_at_call 23; exact Calls.quiet_of (HC.out _)))
          go_wp2
          go_roundw
          case rel => exact ⟨i + 1, _, by go_num, by omega, by rw [take_snoc _ _ hlx, take_snoc _ _ hlt, HT.out, HX.out, HY.out, HXY.out], by rw [HW.out]; exact World.drewN_drewN _ _ _⟩
          case measure => simp [intOf]; omega
        · have hd : decide (x = y) = false := decide_eq_false hxy
          rw [hd] at HC
          have HXY := Lib.hid hxy
          clear hxy hd
          go_wp2_with fail
          go_quiet ((go_at_call 23; exact Calls.quiet_of (HC.out _)))
          go_wp2
          go_ret
          refine ⟨?_, _, by rw [HW.out]; exact World.drewN_drewN _ _ _⟩
          rw [decide_eq_false (fun e => HXY.out (by rw [← HX.out, ← HY.out]; simp only [e]))]
          rfl
      · obtain rfl : i = ys.length := by omega
        go_wp2
        go_ret
        refine ⟨?_, _, HW.out⟩
        have := HT.out
        rw [List.take_length, ← HL.out, List.take_length] at this
        rw [decide_eq_true this]
        rfl
  · have hlb : ((xs.length : Int) == (ys.length : Int)) = false := by rw [beq_eq_false_iff_ne]; omega
    have H := Lib.hid hl
    clear hl
    go_enter Try.func24, Try.ntmps24
    go_wp2
    go_ret
    exact ⟨by rw [decide_eq_false (fun e => H.out (by rw [e]))]; rfl, 0, rfl⟩

end Go.Proofs.Ytdcmjmanalijfaa
