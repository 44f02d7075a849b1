/- Texts that the proof of K rests on, one behind the other. -/
import Derived.Test.YtkkmldoohokdfaaKQ7

/- Package agent: a checkpoint; an order to save. -/
namespace Go.Proofs.Ytkkmldoohokdfaa
open Go.RowKit

theorem ext_dr13 (w : World) : Ext w w.drew := Below.drewN' (Ext.refl w) 1
/-- What a checkpoint has, of a number that was worked. -/
def svB (n : Int) : List UInt8 := numB (numB n.toNat).length ++ numB n.toNat
theorem svB_len {n : Int} (h0 : 0 ≤ n) (h1 : n ≤ 1000000000) : 1 ≤ (svB n).length ∧ (svB n).length ≤ 20 := by
  have h2 := numB_len8 (n := n.toNat) (by omega)
  have h3 := numB_len8 (n := (numB n.toNat).length) (by omega)
  have h4 := numB_pos n.toNat
  unfold svB
  rw [List.length_append]
  omega
/-- The store, as an agent uses it: it is told a checkpoint, of a world that has w's blocks. -/
structure StgOk (w : World) (G : Fp) (sv : Value) (t j e : Int) (D : List UInt8) (Q : Int → World → Prop) : Prop where
  old : ∀ k, G k → k < w.heap.size
  tell : ∀ W A c, Ext w W → Rd W (.slice A D.length c) (D.map B) → Calls Try.prog 13 #[sv, .int .i64 t, .int .i64 j, .int .i64 e, .slice A D.length c] W fun x w' =>
    ∃ r, x = .returned (.int .i64 r) ∧ Chg G W w' ∧ ∀ (K : Fp) (W' : World), (∀ k, K k → w.heap.size ≤ k ∧ k < W.heap.size) → Chg K w' W' → Q r W'
theorem StgOk.later {w w1 : World} {G : Fp} {sv : Value} {t j e : Int} {D : List UInt8} {Q : Int → World → Prop} (h : StgOk w G sv t j e D Q) (hx : Ext w w1) : StgOk w1 G sv t j e D Q :=
  ⟨fun k hk => Nat.lt_of_lt_of_le (h.old k hk) hx.size, fun W A c hW hr => (h.tell W A c (hx.trans hW) hr).mono fun x w' ⟨r, e1, e2, e3⟩ => ⟨r, e1, e2, fun K W' hK hc => e3 K W' (fun k hk => ⟨Nat.le_trans hx.size (hK k hk).1, (hK k hk).2⟩) hc⟩⟩


set_option maxRecDepth 100000 in
set_option maxHeartbeats 2000000 in
theorem saved_no (a : Ag) (m : Ms) (sv : Value) (w : World) (h : m.mode ≠ 1) :
    Calls Try.prog 106 #[agV a, msV m, sv] w fun e w' => e = .returned (.bool true) ∧ Ext w w' := by
  obtain ⟨h1, h2, hx⟩ := two_new w #[.bool a.up, .int .i64 a.term, .int .i64 a.gen, .int .i64 a.mode, .int .i64 a.job, .int .i64 a.inc, .int .i64 a.ver, .int .i64 a.lease, .int .i64 a.worked, .int .i64 a.aim] #[.int .i64 m.node, .int .i64 m.kind, .int .i64 m.term, .int .i64 m.gen, .int .i64 m.job, .int .i64 m.inc, .int .i64 m.ver, .int .i64 m.epoch, .int .i64 m.til, .int .i64 m.mode, .int .i64 m.work] 56 49
  obtain ⟨w2, hw2⟩ : ∃ W, W = (w.alloc (.cells #[.bool a.up, .int .i64 a.term, .int .i64 a.gen, .int .i64 a.mode, .int .i64 a.job, .int .i64 a.inc, .int .i64 a.ver, .int .i64 a.lease, .int .i64 a.worked, .int .i64 a.aim] 56)).alloc (.cells #[.int .i64 m.node, .int .i64 m.kind, .int .i64 m.term, .int .i64 m.gen, .int .i64 m.job, .int .i64 m.inc, .int .i64 m.ver, .int .i64 m.epoch, .int .i64 m.til, .int .i64 m.mode, .int .i64 m.work] 49) := ⟨_, rfl⟩
  rw [← hw2] at h1 h2 hx
  have HA : Hid (AgAt w2 w.heap.size a) := Lib.hid ⟨h1⟩
  have HM : Hid (MsAt w2 (w.heap.size + 1) m) := Lib.hid ⟨h2⟩
  have HX := Lib.hid hx
  clear h1 h2 hx
  unfold agV msV
  have d1 : (m.mode != 1) = true := by simpa using h
  clear h
  go_enter Try.func106, Try.ntmps106
  go_upto_region 1 with (fail)
  rw [← hw2]
  clear hw2
  have m9 := HM.out.cells.2.2.2.2.2.2.2.2.2.1
  go_wp2
  go_ret
  exact ⟨rfl, HX.out⟩

set_option maxRecDepth 100000 in
set_option maxHeartbeats 2000000 in
theorem saved_yes (w0 : World) (a : Ag) (m : Ms) (sv : Value) (G : Fp) (Q : Int → World → Prop) (w : World) (hs : StgOk w0 G sv m.term a.job a.inc (svB a.worked) Q) (hy : Ext w0 w) (h : m.mode = 1) (h0 : 0 ≤ a.worked) (hk : a.worked ≤ 1000000000) :
    Calls Try.prog 106 #[agV a, msV m, sv] w fun e w' => ∃ r, e = .returned (.bool (r == 0)) ∧ Chg G w w' ∧ ∀ (K : Fp) (W' : World), (∀ k, K k → w0.heap.size ≤ k ∧ k < w.heap.size) → Chg K w' W' → Q r W' := by
  have HY := Lib.hid hy
  obtain ⟨h1, h2, hx⟩ := two_new w #[.bool a.up, .int .i64 a.term, .int .i64 a.gen, .int .i64 a.mode, .int .i64 a.job, .int .i64 a.inc, .int .i64 a.ver, .int .i64 a.lease, .int .i64 a.worked, .int .i64 a.aim] #[.int .i64 m.node, .int .i64 m.kind, .int .i64 m.term, .int .i64 m.gen, .int .i64 m.job, .int .i64 m.inc, .int .i64 m.ver, .int .i64 m.epoch, .int .i64 m.til, .int .i64 m.mode, .int .i64 m.work] 56 49
  obtain ⟨w2, hw2⟩ : ∃ W, W = (w.alloc (.cells #[.bool a.up, .int .i64 a.term, .int .i64 a.gen, .int .i64 a.mode, .int .i64 a.job, .int .i64 a.inc, .int .i64 a.ver, .int .i64 a.lease, .int .i64 a.worked, .int .i64 a.aim] 56)).alloc (.cells #[.int .i64 m.node, .int .i64 m.kind, .int .i64 m.term, .int .i64 m.gen, .int .i64 m.job, .int .i64 m.inc, .int .i64 m.ver, .int .i64 m.epoch, .int .i64 m.til, .int .i64 m.mode, .int .i64 m.work] 49) := ⟨_, rfl⟩
  rw [← hw2] at h1 h2 hx
  have HA : Hid (AgAt w2 w.heap.size a) := Lib.hid ⟨h1⟩
  have HM : Hid (MsAt w2 (w.heap.size + 1) m) := Lib.hid ⟨h2⟩
  have HX := Lib.hid hx
  clear h1 h2 hx
  unfold agV msV
  have HS := Lib.hid hs
  have d1 : (m.mode != 1) = false := by rw [h]; rfl
  obtain ⟨n, hn⟩ : ∃ n : Nat, a.worked = (n : Int) := ⟨a.worked.toNat, by omega⟩
  have HN : Hid (n < 9007199254740992 ∧ svB a.worked = numB (numB n).length ++ numB n ∧ (numB n).length ≤ 8) := Lib.hid ⟨by omega, by rw [hn]; rfl, numB_len8 (by omega)⟩
  rw [hn] at hw2 ⊢
  have HWK := Lib.hid hn
  clear h h0 hk hs hy hn
  go_enter Try.func106, Try.ntmps106
  go_upto_region 1 with (fail)
  rw [← hw2]
  clear hw2
  obtain ⟨c0, c1, c2, c3, c4, c5, c6, c7, c8, c9⟩ := HA.out.cells
  rw [HWK.out] at c8
  obtain ⟨m0, m1, m2, m3, m4, m5, m6, m7, m8, m9, m10⟩ := HM.out.cells
  go_wp2_with fail
  refine (Num_yes n w2 HN.out.1).mono ?_
  rintro e3 w3 ⟨v3, rfl, hg3⟩
  have hr3 := Rd.own hg3.own
  have hx3 := hg3.ext
  obtain ⟨A3, c3_, rfl, -, -⟩ := hr3.sliceN (List.length_map _)
  have hcv := run_conv_rd (P := Try.prog) w3 27 9 5 Try.underlying27 Try.underlying5 Try.underlying9 _ (numB n) hr3
  have HX3 := Lib.hid hx3
  have HA3 := Lib.hid (HA.out.ext hx3)
  have HM3 := Lib.hid (HM.out.ext hx3)
  clear hg3 hr3 hx3 c0 c1 c2 c3 c4 c5 c6 c7 c8 c9 m0 m1 m2 m3 m4 m5 m6 m7 m8 m9 m10 HA HM
  go_wp2_with fail
  refine (Text_any ⟨(numB n).toArray⟩ w3 (by have := HN.out.2.2; show (numB n).toArray.size ≤ _; rw [List.size_toArray]; omega)).mono ?_
  rintro e4 w4 ⟨v4, rfl, hg4⟩
  have hr4 : Rd w4 v4 ((svB a.worked).map B) := by have h := Rd.own hg4.own; rw [HN.out.2.1]; exact h
  have hx4 := hg4.ext
  obtain ⟨A4, c4_, rfl, -, -⟩ := hr4.sliceN (List.length_map _)
  obtain ⟨-, -, -, -, k4, k5, -, -, -, -⟩ := (HA3.out.ext hx4).cells
  obtain ⟨-, -, m2, -, -, -, -, -, -, -, -⟩ := (HM3.out.ext hx4).cells
  have HC := Lib.hid (HS.out.tell w4 A4 c4_ (HY.out.trans (HX.out.trans (HX3.out.trans hx4))) hr4)
  have HX4 := Lib.hid (HX.out.trans (HX3.out.trans hx4))
  have HSZ : Hid (w2.heap.size ≤ w4.heap.size) := Lib.hid (HX3.out.trans hx4).size
  clear hg4 hr4 hx4 hcv HA3 HM3 HX3
  go_wp2_with fail
  refine HC.out.mono ?_
  rintro e5 w5 ⟨r, rfl, h5, h6⟩
  have H5 := Lib.hid h5
  have H6 := Lib.hid h6
  clear h5 h6 HC
  go_wp2
  go_ret
  exact ⟨r, rfl, (Chg.of_ext (F := G) HX4.out).trans H5.out (fun _ _ h => h), fun K W' hK hc => H6.out K W' (fun k hk => ⟨(hK k hk).1, Nat.lt_of_lt_of_le (hK k hk).2 HX4.out.size⟩) hc⟩

set_option maxRecDepth 100000 in
set_option maxHeartbeats 2000000 in
theorem save_not (w0 : World) (g p4 p5 p6 p7 p9 p10 : Nat) (a : Ag) (m : Ms) (now : Int) (sv : Value) (G : Fp) (Q : Int → World → Prop) (w : World) (ha : AgAt w g a) (hc : CapAt w g p4 p5 p6 m now) (hf : FnAt w g p4 p5 p9 p10) (h7 : Blk w p7 25 #[sv]) (h70 : p7 ≠ g) (hi : isA a m 2 = false) :
    Calls Try.prog 105 #[.pointer (some ⟨p9, 0, none⟩), .pointer (some ⟨p6, 0, none⟩), .pointer (some ⟨p4, 0, none⟩), .pointer (some ⟨p5, 0, none⟩), .pointer (some ⟨p7, 0, none⟩)] w fun e w' => e = .returned (.tuple #[]) ∧ AgAt w' g a ∧ Ext w w' := by
  have HA := Lib.hid ha
  have HC := Lib.hid hc
  have HF := Lib.hid hf
  have H7 := Lib.hid h7
  have HI := Lib.hid (is13_any g p4 p5 p6 a m now 2 w.drew (ha.ext (ext_dr13 w)) (hc.ext (ext_dr13 w)))
  rw [hi] at HI
  have q9 : w.drew.cell? ⟨p9, 0, none⟩ = some (.func (.func 100) #[] #[.pointer (some ⟨p4, 0, none⟩), .pointer (some ⟨p5, 0, none⟩)]) := hf.is_.cell1
  have HS1 : Hid (∀ W, AgAt W g a → CapAt W g p4 p5 p6 m now → Blk W p7 25 #[sv] → FnAt W g p4 p5 p9 p10 → (fun (W : World) => W.cell? ⟨p9, 0, none⟩ = some (.func (.func 100) #[] #[.pointer (some ⟨p4, 0, none⟩), .pointer (some ⟨p5, 0, none⟩)]) ∧ W.cell? ⟨p6, 0, none⟩ = some (.int .i64 now) ∧ W.cell? ⟨p4, 0, none⟩ = some (.pointer (some ⟨g, 0, none⟩)) ∧ W.cell? ⟨p7, 0, none⟩ = some sv ∧ W.cell? ⟨g, 0, none⟩ = some (.bool a.up) ∧ W.cell? ⟨g, 1, none⟩ = some (.int .i64 a.term) ∧ W.cell? ⟨g, 2, none⟩ = some (.int .i64 a.gen) ∧ W.cell? ⟨g, 3, none⟩ = some (.int .i64 a.mode) ∧ W.cell? ⟨g, 4, none⟩ = some (.int .i64 a.job) ∧ W.cell? ⟨g, 5, none⟩ = some (.int .i64 a.inc) ∧ W.cell? ⟨g, 6, none⟩ = some (.int .i64 a.ver) ∧ W.cell? ⟨g, 7, none⟩ = some (.int .i64 a.lease) ∧ W.cell? ⟨g, 8, none⟩ = some (.int .i64 a.worked) ∧ W.cell? ⟨g, 9, none⟩ = some (.int .i64 a.aim) ∧ W.cell? ⟨p5, 0, none⟩ = some (.int .i64 m.node) ∧ W.cell? ⟨p5, 1, none⟩ = some (.int .i64 m.kind) ∧ W.cell? ⟨p5, 2, none⟩ = some (.int .i64 m.term) ∧ W.cell? ⟨p5, 3, none⟩ = some (.int .i64 m.gen) ∧ W.cell? ⟨p5, 4, none⟩ = some (.int .i64 m.job) ∧ W.cell? ⟨p5, 5, none⟩ = some (.int .i64 m.inc) ∧ W.cell? ⟨p5, 6, none⟩ = some (.int .i64 m.ver) ∧ W.cell? ⟨p5, 7, none⟩ = some (.int .i64 m.epoch) ∧ W.cell? ⟨p5, 8, none⟩ = some (.int .i64 m.til) ∧ W.cell? ⟨p5, 9, none⟩ = some (.int .i64 m.mode) ∧ W.cell? ⟨p5, 10, none⟩ = some (.int .i64 m.work)) W) := Lib.hid fun W q1 q2 q3 q4 => ⟨q4.is_.cell1, q2.time.cell1, q2.ptr.cell1, q3.cell1, q1.blk.cell 0, q1.blk.cell 1, q1.blk.cell 2, q1.blk.cell 3, q1.blk.cell 4, q1.blk.cell 5, q1.blk.cell 6, q1.blk.cell 7, q1.blk.cell 8, q1.blk.cell 9, q2.msg.blk.cell 0, q2.msg.blk.cell 1, q2.msg.blk.cell 2, q2.msg.blk.cell 3, q2.msg.blk.cell 4, q2.msg.blk.cell 5, q2.msg.blk.cell 6, q2.msg.blk.cell 7, q2.msg.blk.cell 8, q2.msg.blk.cell 9, q2.msg.blk.cell 10⟩
  clear ha hc hf h7 hi
  go_enter Try.func105, Try.ntmps105
  go_wp2_with fail
  refine held_begin (by kernel_rfl) ?_
  have hHeld0 : True := True.intro
  refine held_more (S' := fun (W : World) => W.cell? ⟨p9, 0, none⟩ = some (.func (.func 100) #[] #[.pointer (some ⟨p4, 0, none⟩), .pointer (some ⟨p5, 0, none⟩)]) ∧ W.cell? ⟨p6, 0, none⟩ = some (.int .i64 now) ∧ W.cell? ⟨p4, 0, none⟩ = some (.pointer (some ⟨g, 0, none⟩)) ∧ W.cell? ⟨p7, 0, none⟩ = some sv ∧ W.cell? ⟨g, 0, none⟩ = some (.bool a.up) ∧ W.cell? ⟨g, 1, none⟩ = some (.int .i64 a.term) ∧ W.cell? ⟨g, 2, none⟩ = some (.int .i64 a.gen) ∧ W.cell? ⟨g, 3, none⟩ = some (.int .i64 a.mode) ∧ W.cell? ⟨g, 4, none⟩ = some (.int .i64 a.job) ∧ W.cell? ⟨g, 5, none⟩ = some (.int .i64 a.inc) ∧ W.cell? ⟨g, 6, none⟩ = some (.int .i64 a.ver) ∧ W.cell? ⟨g, 7, none⟩ = some (.int .i64 a.lease) ∧ W.cell? ⟨g, 8, none⟩ = some (.int .i64 a.worked) ∧ W.cell? ⟨g, 9, none⟩ = some (.int .i64 a.aim) ∧ W.cell? ⟨p5, 0, none⟩ = some (.int .i64 m.node) ∧ W.cell? ⟨p5, 1, none⟩ = some (.int .i64 m.kind) ∧ W.cell? ⟨p5, 2, none⟩ = some (.int .i64 m.term) ∧ W.cell? ⟨p5, 3, none⟩ = some (.int .i64 m.gen) ∧ W.cell? ⟨p5, 4, none⟩ = some (.int .i64 m.job) ∧ W.cell? ⟨p5, 5, none⟩ = some (.int .i64 m.inc) ∧ W.cell? ⟨p5, 6, none⟩ = some (.int .i64 m.ver) ∧ W.cell? ⟨p5, 7, none⟩ = some (.int .i64 m.epoch) ∧ W.cell? ⟨p5, 8, none⟩ = some (.int .i64 m.til) ∧ W.cell? ⟨p5, 9, none⟩ = some (.int .i64 m.mode) ∧ W.cell? ⟨p5, 10, none⟩ = some (.int .i64 m.work)) (fun _ _ => True.intro) ?_
  have hHeld1 : (fun (W : World) => W.cell? ⟨p9, 0, none⟩ = some (.func (.func 100) #[] #[.pointer (some ⟨p4, 0, none⟩), .pointer (some ⟨p5, 0, none⟩)]) ∧ W.cell? ⟨p6, 0, none⟩ = some (.int .i64 now) ∧ W.cell? ⟨p4, 0, none⟩ = some (.pointer (some ⟨g, 0, none⟩)) ∧ W.cell? ⟨p7, 0, none⟩ = some sv ∧ W.cell? ⟨g, 0, none⟩ = some (.bool a.up) ∧ W.cell? ⟨g, 1, none⟩ = some (.int .i64 a.term) ∧ W.cell? ⟨g, 2, none⟩ = some (.int .i64 a.gen) ∧ W.cell? ⟨g, 3, none⟩ = some (.int .i64 a.mode) ∧ W.cell? ⟨g, 4, none⟩ = some (.int .i64 a.job) ∧ W.cell? ⟨g, 5, none⟩ = some (.int .i64 a.inc) ∧ W.cell? ⟨g, 6, none⟩ = some (.int .i64 a.ver) ∧ W.cell? ⟨g, 7, none⟩ = some (.int .i64 a.lease) ∧ W.cell? ⟨g, 8, none⟩ = some (.int .i64 a.worked) ∧ W.cell? ⟨g, 9, none⟩ = some (.int .i64 a.aim) ∧ W.cell? ⟨p5, 0, none⟩ = some (.int .i64 m.node) ∧ W.cell? ⟨p5, 1, none⟩ = some (.int .i64 m.kind) ∧ W.cell? ⟨p5, 2, none⟩ = some (.int .i64 m.term) ∧ W.cell? ⟨p5, 3, none⟩ = some (.int .i64 m.gen) ∧ W.cell? ⟨p5, 4, none⟩ = some (.int .i64 m.job) ∧ W.cell? ⟨p5, 5, none⟩ = some (.int .i64 m.inc) ∧ W.cell? ⟨p5, 6, none⟩ = some (.int .i64 m.ver) ∧ W.cell? ⟨p5, 7, none⟩ = some (.int .i64 m.epoch) ∧ W.cell? ⟨p5, 8, none⟩ = some (.int .i64 m.til) ∧ W.cell? ⟨p5, 9, none⟩ = some (.int .i64 m.mode) ∧ W.cell? ⟨p5, 10, none⟩ = some (.int .i64 m.work)) _ := HS1.out _ (HA.out.ext (ext_dr13 w)) (HC.out.ext (ext_dr13 w)) (H7.out.ext (ext_dr13 w)) (HF.out.ext (ext_dr13 w))
  clear hHeld0
  refine held_take (i := 0) (v := ?_) rfl (by kernel_rfl) (by kernel_rfl) (by kernel_rfl) (by rfl) (by first | assumption | exact True.intro) ?_ ?_
  rotate_left
  · (intro w hSw; (try dsimp only at hSw); (try obtain ⟨k0, k1, k2, k3, k4, k5, k6, k7, k8, k9, k10, k11, k12, k13, k14, k15, k16, k17, k18, k19, k20, k21, k22, k23, k24⟩ := hSw); go_simp; (try with_reducible rfl))
  try simp only [Act.put, List.setIfInBounds_toArray, List.set_cons_zero, List.set_cons_succ]
  refine held_op (i := 1) (by kernel_rfl) rfl (fun K hK => ?_)
  go_simp
  go_at_call 100
  (with_reducible refine (HI.out).mono ?_)
  rintro e1 w1 ⟨rfl, hx1⟩
  refine hK _ _ ?_ (fun hHeld2 => ?_)
  · exact HS1.out _ (HA.out.ext (Ext.trans (ext_dr13 w) hx1)) (HC.out.ext (Ext.trans (ext_dr13 w) hx1)) (H7.out.ext (Ext.trans (ext_dr13 w) hx1)) (HF.out.ext (Ext.trans (ext_dr13 w) hx1))
  clear hK K hHeld1
  try simp only [Act.put, List.setIfInBounds_toArray, List.set_cons_zero, List.set_cons_succ]
  refine held_take (i := 2) (v := ?_) rfl (by kernel_rfl) (by kernel_rfl) (by kernel_rfl) (by rfl) (by first | assumption | exact True.intro) ?_ ?_
  rotate_left
  · (intro w hSw; (try dsimp only at hSw); (try obtain ⟨k0, k1, k2, k3, k4, k5, k6, k7, k8, k9, k10, k11, k12, k13, k14, k15, k16, k17, k18, k19, k20, k21, k22, k23, k24⟩ := hSw); go_simp; (try with_reducible rfl))
  try simp only [Act.put, List.setIfInBounds_toArray, List.set_cons_zero, List.set_cons_succ]
  refine held_skip (i := 3) rfl (by kernel_rfl) (by kernel_rfl) (by kernel_rfl) (by rfl) (by first | assumption | exact True.intro) ?_
  try simp only [Act.put, List.setIfInBounds_toArray, List.set_cons_zero, List.set_cons_succ]
  refine held_skip (i := 4) rfl (by kernel_rfl) (by kernel_rfl) (by kernel_rfl) (by rfl) (by first | assumption | exact True.intro) ?_
  try simp only [Act.put, List.setIfInBounds_toArray, List.set_cons_zero, List.set_cons_succ]
  refine held_skip (i := 5) rfl (by kernel_rfl) (by kernel_rfl) (by kernel_rfl) (by rfl) (by first | assumption | exact True.intro) ?_
  try simp only [Act.put, List.setIfInBounds_toArray, List.set_cons_zero, List.set_cons_succ]
  refine held_skip (i := 6) rfl (by kernel_rfl) (by kernel_rfl) (by kernel_rfl) (by rfl) (by first | assumption | exact True.intro) ?_
  try simp only [Act.put, List.setIfInBounds_toArray, List.set_cons_zero, List.set_cons_succ]
  refine held_skip (i := 7) rfl (by kernel_rfl) (by kernel_rfl) (by kernel_rfl) (by rfl) (by first | assumption | exact True.intro) ?_
  try simp only [Act.put, List.setIfInBounds_toArray, List.set_cons_zero, List.set_cons_succ]
  refine held_skip (i := 8) rfl (by kernel_rfl) (by kernel_rfl) (by kernel_rfl) (by rfl) (by first | assumption | exact True.intro) ?_
  try simp only [Act.put, List.setIfInBounds_toArray, List.set_cons_zero, List.set_cons_succ]
  refine held_take (i := 9) (v := ?_) rfl (by kernel_rfl) (by kernel_rfl) (by kernel_rfl) (by rfl) (by first | assumption | exact True.intro) ?_ ?_
  rotate_left
  · (intro w hSw; (try dsimp only at hSw); (try obtain ⟨k0, k1, k2, k3, k4, k5, k6, k7, k8, k9, k10, k11, k12, k13, k14, k15, k16, k17, k18, k19, k20, k21, k22, k23, k24⟩ := hSw); go_simp; (try with_reducible rfl))
  try simp only [Act.put, List.setIfInBounds_toArray, List.set_cons_zero, List.set_cons_succ]
  refine held_take (i := 10) (v := ?_) rfl (by kernel_rfl) (by kernel_rfl) (by kernel_rfl) (by rfl) (by first | assumption | exact True.intro) ?_ ?_
  rotate_left
  · (intro w hSw; (try dsimp only at hSw); (try obtain ⟨k0, k1, k2, k3, k4, k5, k6, k7, k8, k9, k10, k11, k12, k13, k14, k15, k16, k17, k18, k19, k20, k21, k22, k23, k24⟩ := hSw); go_simp; (try with_reducible rfl))
  try simp only [Act.put, List.setIfInBounds_toArray, List.set_cons_zero, List.set_cons_succ]
  refine held_skip (i := 11) rfl (by kernel_rfl) (by kernel_rfl) (by kernel_rfl) (by rfl) (by first | assumption | exact True.intro) ?_
  try simp only [Act.put, List.setIfInBounds_toArray, List.set_cons_zero, List.set_cons_succ]
  refine held_skip (i := 12) rfl (by kernel_rfl) (by kernel_rfl) (by kernel_rfl) (by rfl) (by first | assumption | exact True.intro) ?_
  try simp only [Act.put, List.setIfInBounds_toArray, List.set_cons_zero, List.set_cons_succ]
  refine held_skip (i := 13) rfl (by kernel_rfl) (by kernel_rfl) (by kernel_rfl) (by rfl) (by first | assumption | exact True.intro) ?_
  try simp only [Act.put, List.setIfInBounds_toArray, List.set_cons_zero, List.set_cons_succ]
  refine held_skip (i := 14) rfl (by kernel_rfl) (by kernel_rfl) (by kernel_rfl) (by rfl) (by first | assumption | exact True.intro) ?_
  try simp only [Act.put, List.setIfInBounds_toArray, List.set_cons_zero, List.set_cons_succ]
  refine held_skip (i := 15) rfl (by kernel_rfl) (by kernel_rfl) (by kernel_rfl) (by rfl) (by first | assumption | exact True.intro) ?_
  try simp only [Act.put, List.setIfInBounds_toArray, List.set_cons_zero, List.set_cons_succ]
  refine held_skip (i := 16) rfl (by kernel_rfl) (by kernel_rfl) (by kernel_rfl) (by rfl) (by first | assumption | exact True.intro) ?_
  try simp only [Act.put, List.setIfInBounds_toArray, List.set_cons_zero, List.set_cons_succ]
  refine held_take (i := 17) (v := ?_) rfl (by kernel_rfl) (by kernel_rfl) (by kernel_rfl) (by rfl) (by first | assumption | exact True.intro) ?_ ?_
  rotate_left
  · (intro w hSw; (try dsimp only at hSw); (try obtain ⟨k0, k1, k2, k3, k4, k5, k6, k7, k8, k9, k10, k11, k12, k13, k14, k15, k16, k17, k18, k19, k20, k21, k22, k23, k24⟩ := hSw); go_simp; (try with_reducible rfl))
  try simp only [Act.put, List.setIfInBounds_toArray, List.set_cons_zero, List.set_cons_succ]
  refine wpAnyH_done (by kernel_rfl) ?_ _
  refine NoPanic.normal ?_
  clear hHeld2
  have HX1 := Lib.hid (Ext.trans (ext_dr13 w) hx1)
  clear hx1
  go_wp2
  go_end0
  exact ⟨rfl, HA.out.ext HX1.out, HX1.out⟩

set_option maxRecDepth 100000 in
set_option maxHeartbeats 2000000 in
theorem save_late (w0 : World) (g p4 p5 p6 p7 p9 p10 : Nat) (a : Ag) (m : Ms) (now : Int) (sv : Value) (G : Fp) (Q : Int → World → Prop) (w : World) (ha : AgAt w g a) (hc : CapAt w g p4 p5 p6 m now) (hf : FnAt w g p4 p5 p9 p10) (h7 : Blk w p7 25 #[sv]) (h70 : p7 ≠ g) (hi : isA a m 2 = true) (hl : ¬ now < a.lease) :
    Calls Try.prog 105 #[.pointer (some ⟨p9, 0, none⟩), .pointer (some ⟨p6, 0, none⟩), .pointer (some ⟨p4, 0, none⟩), .pointer (some ⟨p5, 0, none⟩), .pointer (some ⟨p7, 0, none⟩)] w fun e w' => e = .returned (.tuple #[]) ∧ AgAt w' g a ∧ Ext w w' := by
  have HA := Lib.hid ha
  have HC := Lib.hid hc
  have HF := Lib.hid hf
  have H7 := Lib.hid h7
  have HI := Lib.hid (is13_any g p4 p5 p6 a m now 2 w.drew (ha.ext (ext_dr13 w)) (hc.ext (ext_dr13 w)))
  rw [hi] at HI
  have q9 : w.drew.cell? ⟨p9, 0, none⟩ = some (.func (.func 100) #[] #[.pointer (some ⟨p4, 0, none⟩), .pointer (some ⟨p5, 0, none⟩)]) := hf.is_.cell1
  have HS1 : Hid (∀ W, AgAt W g a → CapAt W g p4 p5 p6 m now → Blk W p7 25 #[sv] → FnAt W g p4 p5 p9 p10 → (fun (W : World) => W.cell? ⟨p9, 0, none⟩ = some (.func (.func 100) #[] #[.pointer (some ⟨p4, 0, none⟩), .pointer (some ⟨p5, 0, none⟩)]) ∧ W.cell? ⟨p6, 0, none⟩ = some (.int .i64 now) ∧ W.cell? ⟨p4, 0, none⟩ = some (.pointer (some ⟨g, 0, none⟩)) ∧ W.cell? ⟨p7, 0, none⟩ = some sv ∧ W.cell? ⟨g, 0, none⟩ = some (.bool a.up) ∧ W.cell? ⟨g, 1, none⟩ = some (.int .i64 a.term) ∧ W.cell? ⟨g, 2, none⟩ = some (.int .i64 a.gen) ∧ W.cell? ⟨g, 3, none⟩ = some (.int .i64 a.mode) ∧ W.cell? ⟨g, 4, none⟩ = some (.int .i64 a.job) ∧ W.cell? ⟨g, 5, none⟩ = some (.int .i64 a.inc) ∧ W.cell? ⟨g, 6, none⟩ = some (.int .i64 a.ver) ∧ W.cell? ⟨g, 7, none⟩ = some (.int .i64 a.lease) ∧ W.cell? ⟨g, 8, none⟩ = some (.int .i64 a.worked) ∧ W.cell? ⟨g, 9, none⟩ = some (.int .i64 a.aim) ∧ W.cell? ⟨p5, 0, none⟩ = some (.int .i64 m.node) ∧ W.cell? ⟨p5, 1, none⟩ = some (.int .i64 m.kind) ∧ W.cell? ⟨p5, 2, none⟩ = some (.int .i64 m.term) ∧ W.cell? ⟨p5, 3, none⟩ = some (.int .i64 m.gen) ∧ W.cell? ⟨p5, 4, none⟩ = some (.int .i64 m.job) ∧ W.cell? ⟨p5, 5, none⟩ = some (.int .i64 m.inc) ∧ W.cell? ⟨p5, 6, none⟩ = some (.int .i64 m.ver) ∧ W.cell? ⟨p5, 7, none⟩ = some (.int .i64 m.epoch) ∧ W.cell? ⟨p5, 8, none⟩ = some (.int .i64 m.til) ∧ W.cell? ⟨p5, 9, none⟩ = some (.int .i64 m.mode) ∧ W.cell? ⟨p5, 10, none⟩ = some (.int .i64 m.work)) W) := Lib.hid fun W q1 q2 q3 q4 => ⟨q4.is_.cell1, q2.time.cell1, q2.ptr.cell1, q3.cell1, q1.blk.cell 0, q1.blk.cell 1, q1.blk.cell 2, q1.blk.cell 3, q1.blk.cell 4, q1.blk.cell 5, q1.blk.cell 6, q1.blk.cell 7, q1.blk.cell 8, q1.blk.cell 9, q2.msg.blk.cell 0, q2.msg.blk.cell 1, q2.msg.blk.cell 2, q2.msg.blk.cell 3, q2.msg.blk.cell 4, q2.msg.blk.cell 5, q2.msg.blk.cell 6, q2.msg.blk.cell 7, q2.msg.blk.cell 8, q2.msg.blk.cell 9, q2.msg.blk.cell 10⟩
  clear ha hc hf h7 hi
  have dl : decide (now < a.lease) = false := decide_eq_false hl
  clear hl
  go_enter Try.func105, Try.ntmps105
  go_wp2_with fail
  refine held_begin (by kernel_rfl) ?_
  have hHeld0 : True := True.intro
  refine held_more (S' := fun (W : World) => W.cell? ⟨p9, 0, none⟩ = some (.func (.func 100) #[] #[.pointer (some ⟨p4, 0, none⟩), .pointer (some ⟨p5, 0, none⟩)]) ∧ W.cell? ⟨p6, 0, none⟩ = some (.int .i64 now) ∧ W.cell? ⟨p4, 0, none⟩ = some (.pointer (some ⟨g, 0, none⟩)) ∧ W.cell? ⟨p7, 0, none⟩ = some sv ∧ W.cell? ⟨g, 0, none⟩ = some (.bool a.up) ∧ W.cell? ⟨g, 1, none⟩ = some (.int .i64 a.term) ∧ W.cell? ⟨g, 2, none⟩ = some (.int .i64 a.gen) ∧ W.cell? ⟨g, 3, none⟩ = some (.int .i64 a.mode) ∧ W.cell? ⟨g, 4, none⟩ = some (.int .i64 a.job) ∧ W.cell? ⟨g, 5, none⟩ = some (.int .i64 a.inc) ∧ W.cell? ⟨g, 6, none⟩ = some (.int .i64 a.ver) ∧ W.cell? ⟨g, 7, none⟩ = some (.int .i64 a.lease) ∧ W.cell? ⟨g, 8, none⟩ = some (.int .i64 a.worked) ∧ W.cell? ⟨g, 9, none⟩ = some (.int .i64 a.aim) ∧ W.cell? ⟨p5, 0, none⟩ = some (.int .i64 m.node) ∧ W.cell? ⟨p5, 1, none⟩ = some (.int .i64 m.kind) ∧ W.cell? ⟨p5, 2, none⟩ = some (.int .i64 m.term) ∧ W.cell? ⟨p5, 3, none⟩ = some (.int .i64 m.gen) ∧ W.cell? ⟨p5, 4, none⟩ = some (.int .i64 m.job) ∧ W.cell? ⟨p5, 5, none⟩ = some (.int .i64 m.inc) ∧ W.cell? ⟨p5, 6, none⟩ = some (.int .i64 m.ver) ∧ W.cell? ⟨p5, 7, none⟩ = some (.int .i64 m.epoch) ∧ W.cell? ⟨p5, 8, none⟩ = some (.int .i64 m.til) ∧ W.cell? ⟨p5, 9, none⟩ = some (.int .i64 m.mode) ∧ W.cell? ⟨p5, 10, none⟩ = some (.int .i64 m.work)) (fun _ _ => True.intro) ?_
  have hHeld1 : (fun (W : World) => W.cell? ⟨p9, 0, none⟩ = some (.func (.func 100) #[] #[.pointer (some ⟨p4, 0, none⟩), .pointer (some ⟨p5, 0, none⟩)]) ∧ W.cell? ⟨p6, 0, none⟩ = some (.int .i64 now) ∧ W.cell? ⟨p4, 0, none⟩ = some (.pointer (some ⟨g, 0, none⟩)) ∧ W.cell? ⟨p7, 0, none⟩ = some sv ∧ W.cell? ⟨g, 0, none⟩ = some (.bool a.up) ∧ W.cell? ⟨g, 1, none⟩ = some (.int .i64 a.term) ∧ W.cell? ⟨g, 2, none⟩ = some (.int .i64 a.gen) ∧ W.cell? ⟨g, 3, none⟩ = some (.int .i64 a.mode) ∧ W.cell? ⟨g, 4, none⟩ = some (.int .i64 a.job) ∧ W.cell? ⟨g, 5, none⟩ = some (.int .i64 a.inc) ∧ W.cell? ⟨g, 6, none⟩ = some (.int .i64 a.ver) ∧ W.cell? ⟨g, 7, none⟩ = some (.int .i64 a.lease) ∧ W.cell? ⟨g, 8, none⟩ = some (.int .i64 a.worked) ∧ W.cell? ⟨g, 9, none⟩ = some (.int .i64 a.aim) ∧ W.cell? ⟨p5, 0, none⟩ = some (.int .i64 m.node) ∧ W.cell? ⟨p5, 1, none⟩ = some (.int .i64 m.kind) ∧ W.cell? ⟨p5, 2, none⟩ = some (.int .i64 m.term) ∧ W.cell? ⟨p5, 3, none⟩ = some (.int .i64 m.gen) ∧ W.cell? ⟨p5, 4, none⟩ = some (.int .i64 m.job) ∧ W.cell? ⟨p5, 5, none⟩ = some (.int .i64 m.inc) ∧ W.cell? ⟨p5, 6, none⟩ = some (.int .i64 m.ver) ∧ W.cell? ⟨p5, 7, none⟩ = some (.int .i64 m.epoch) ∧ W.cell? ⟨p5, 8, none⟩ = some (.int .i64 m.til) ∧ W.cell? ⟨p5, 9, none⟩ = some (.int .i64 m.mode) ∧ W.cell? ⟨p5, 10, none⟩ = some (.int .i64 m.work)) _ := HS1.out _ (HA.out.ext (ext_dr13 w)) (HC.out.ext (ext_dr13 w)) (H7.out.ext (ext_dr13 w)) (HF.out.ext (ext_dr13 w))
  clear hHeld0
  refine held_take (i := 0) (v := ?_) rfl (by kernel_rfl) (by kernel_rfl) (by kernel_rfl) (by rfl) (by first | assumption | exact True.intro) ?_ ?_
  rotate_left
  · (intro w hSw; (try dsimp only at hSw); (try obtain ⟨k0, k1, k2, k3, k4, k5, k6, k7, k8, k9, k10, k11, k12, k13, k14, k15, k16, k17, k18, k19, k20, k21, k22, k23, k24⟩ := hSw); go_simp; (try with_reducible rfl))
  try simp only [Act.put, List.setIfInBounds_toArray, List.set_cons_zero, List.set_cons_succ]
  refine held_op (i := 1) (by kernel_rfl) rfl (fun K hK => ?_)
  go_simp
  go_at_call 100
  (with_reducible refine (HI.out).mono ?_)
  rintro e1 w1 ⟨rfl, hx1⟩
  refine hK _ _ ?_ (fun hHeld2 => ?_)
  · exact HS1.out _ (HA.out.ext (Ext.trans (ext_dr13 w) hx1)) (HC.out.ext (Ext.trans (ext_dr13 w) hx1)) (H7.out.ext (Ext.trans (ext_dr13 w) hx1)) (HF.out.ext (Ext.trans (ext_dr13 w) hx1))
  clear hK K hHeld1
  try simp only [Act.put, List.setIfInBounds_toArray, List.set_cons_zero, List.set_cons_succ]
  refine held_take (i := 2) (v := ?_) rfl (by kernel_rfl) (by kernel_rfl) (by kernel_rfl) (by rfl) (by first | assumption | exact True.intro) ?_ ?_
  rotate_left
  · (intro w hSw; (try dsimp only at hSw); (try obtain ⟨k0, k1, k2, k3, k4, k5, k6, k7, k8, k9, k10, k11, k12, k13, k14, k15, k16, k17, k18, k19, k20, k21, k22, k23, k24⟩ := hSw); go_simp; (try with_reducible rfl))
  try simp only [Act.put, List.setIfInBounds_toArray, List.set_cons_zero, List.set_cons_succ]
  refine held_take (i := 3) (v := ?_) rfl (by kernel_rfl) (by kernel_rfl) (by kernel_rfl) (by rfl) (by first | assumption | exact True.intro) ?_ ?_
  rotate_left
  · (intro w hSw; (try dsimp only at hSw); (try obtain ⟨k0, k1, k2, k3, k4, k5, k6, k7, k8, k9, k10, k11, k12, k13, k14, k15, k16, k17, k18, k19, k20, k21, k22, k23, k24⟩ := hSw); go_simp; (try with_reducible rfl))
  try simp only [Act.put, List.setIfInBounds_toArray, List.set_cons_zero, List.set_cons_succ]
  refine held_take (i := 4) (v := ?_) rfl (by kernel_rfl) (by kernel_rfl) (by kernel_rfl) (by rfl) (by first | assumption | exact True.intro) ?_ ?_
  rotate_left
  · (intro w hSw; (try dsimp only at hSw); (try obtain ⟨k0, k1, k2, k3, k4, k5, k6, k7, k8, k9, k10, k11, k12, k13, k14, k15, k16, k17, k18, k19, k20, k21, k22, k23, k24⟩ := hSw); go_simp; (try with_reducible rfl))
  try simp only [Act.put, List.setIfInBounds_toArray, List.set_cons_zero, List.set_cons_succ]
  refine held_take (i := 5) (v := ?_) rfl (by kernel_rfl) (by kernel_rfl) (by kernel_rfl) (by rfl) (by first | assumption | exact True.intro) ?_ ?_
  rotate_left
  · (intro w hSw; (try dsimp only at hSw); (try obtain ⟨k0, k1, k2, k3, k4, k5, k6, k7, k8, k9, k10, k11, k12, k13, k14, k15, k16, k17, k18, k19, k20, k21, k22, k23, k24⟩ := hSw); go_simp; (try with_reducible rfl))
  try simp only [Act.put, List.setIfInBounds_toArray, List.set_cons_zero, List.set_cons_succ]
  refine held_take (i := 6) (v := ?_) rfl (by kernel_rfl) (by kernel_rfl) (by kernel_rfl) (by rfl) (by first | assumption | exact True.intro) ?_ ?_
  rotate_left
  · (intro w hSw; (try dsimp only at hSw); (try obtain ⟨k0, k1, k2, k3, k4, k5, k6, k7, k8, k9, k10, k11, k12, k13, k14, k15, k16, k17, k18, k19, k20, k21, k22, k23, k24⟩ := hSw); go_simp; (try with_reducible rfl))
  try simp only [Act.put, List.setIfInBounds_toArray, List.set_cons_zero, List.set_cons_succ]
  refine held_take (i := 7) (v := ?_) rfl (by kernel_rfl) (by kernel_rfl) (by kernel_rfl) (by rfl) (by first | assumption | exact True.intro) ?_ ?_
  rotate_left
  · (intro w hSw; (try dsimp only at hSw); (try obtain ⟨k0, k1, k2, k3, k4, k5, k6, k7, k8, k9, k10, k11, k12, k13, k14, k15, k16, k17, k18, k19, k20, k21, k22, k23, k24⟩ := hSw); go_simp; (try with_reducible rfl))
  try simp only [Act.put, List.setIfInBounds_toArray, List.set_cons_zero, List.set_cons_succ]
  refine held_take (i := 8) (v := ?_) rfl (by kernel_rfl) (by kernel_rfl) (by kernel_rfl) (by rfl) (by first | assumption | exact True.intro) ?_ ?_
  rotate_left
  · (intro w hSw; (try dsimp only at hSw); (try obtain ⟨k0, k1, k2, k3, k4, k5, k6, k7, k8, k9, k10, k11, k12, k13, k14, k15, k16, k17, k18, k19, k20, k21, k22, k23, k24⟩ := hSw); go_simp; (try with_reducible rfl))
  try simp only [Act.put, List.setIfInBounds_toArray, List.set_cons_zero, List.set_cons_succ]
  refine held_take (i := 9) (v := ?_) rfl (by kernel_rfl) (by kernel_rfl) (by kernel_rfl) (by rfl) (by first | assumption | exact True.intro) ?_ ?_
  rotate_left
  · (intro w hSw; (try dsimp only at hSw); (try obtain ⟨k0, k1, k2, k3, k4, k5, k6, k7, k8, k9, k10, k11, k12, k13, k14, k15, k16, k17, k18, k19, k20, k21, k22, k23, k24⟩ := hSw); go_simp; (try with_reducible rfl))
  try simp only [Act.put, List.setIfInBounds_toArray, List.set_cons_zero, List.set_cons_succ]
  refine held_take (i := 10) (v := ?_) rfl (by kernel_rfl) (by kernel_rfl) (by kernel_rfl) (by rfl) (by first | assumption | exact True.intro) ?_ ?_
  rotate_left
  · (intro w hSw; (try dsimp only at hSw); (try obtain ⟨k0, k1, k2, k3, k4, k5, k6, k7, k8, k9, k10, k11, k12, k13, k14, k15, k16, k17, k18, k19, k20, k21, k22, k23, k24⟩ := hSw); go_simp; (try with_reducible rfl))
  try simp only [Act.put, List.setIfInBounds_toArray, List.set_cons_zero, List.set_cons_succ]
  refine held_skip (i := 11) rfl (by kernel_rfl) (by kernel_rfl) (by kernel_rfl) (by rfl) (by first | assumption | exact True.intro) ?_
  try simp only [Act.put, List.setIfInBounds_toArray, List.set_cons_zero, List.set_cons_succ]
  refine held_skip (i := 12) rfl (by kernel_rfl) (by kernel_rfl) (by kernel_rfl) (by rfl) (by first | assumption | exact True.intro) ?_
  try simp only [Act.put, List.setIfInBounds_toArray, List.set_cons_zero, List.set_cons_succ]
  refine held_skip (i := 13) rfl (by kernel_rfl) (by kernel_rfl) (by kernel_rfl) (by rfl) (by first | assumption | exact True.intro) ?_
  try simp only [Act.put, List.setIfInBounds_toArray, List.set_cons_zero, List.set_cons_succ]
  refine held_skip (i := 14) rfl (by kernel_rfl) (by kernel_rfl) (by kernel_rfl) (by rfl) (by first | assumption | exact True.intro) ?_
  try simp only [Act.put, List.setIfInBounds_toArray, List.set_cons_zero, List.set_cons_succ]
  refine held_skip (i := 15) rfl (by kernel_rfl) (by kernel_rfl) (by kernel_rfl) (by rfl) (by first | assumption | exact True.intro) ?_
  try simp only [Act.put, List.setIfInBounds_toArray, List.set_cons_zero, List.set_cons_succ]
  refine held_skip (i := 16) rfl (by kernel_rfl) (by kernel_rfl) (by kernel_rfl) (by rfl) (by first | assumption | exact True.intro) ?_
  try simp only [Act.put, List.setIfInBounds_toArray, List.set_cons_zero, List.set_cons_succ]
  refine held_take (i := 17) (v := ?_) rfl (by kernel_rfl) (by kernel_rfl) (by kernel_rfl) (by rfl) (by first | assumption | exact True.intro) ?_ ?_
  rotate_left
  · (intro w hSw; (try dsimp only at hSw); (try obtain ⟨k0, k1, k2, k3, k4, k5, k6, k7, k8, k9, k10, k11, k12, k13, k14, k15, k16, k17, k18, k19, k20, k21, k22, k23, k24⟩ := hSw); go_simp; (try with_reducible rfl))
  try simp only [Act.put, List.setIfInBounds_toArray, List.set_cons_zero, List.set_cons_succ]
  refine wpAnyH_done (by kernel_rfl) ?_ _
  refine NoPanic.normal ?_
  clear hHeld2
  have HX1 := Lib.hid (Ext.trans (ext_dr13 w) hx1)
  clear hx1
  go_wp2
  go_end0
  exact ⟨rfl, HA.out.ext HX1.out, HX1.out⟩

set_option maxRecDepth 100000 in
set_option maxHeartbeats 2000000 in
theorem save_kept (w0 : World) (g p4 p5 p6 p7 p9 p10 : Nat) (a : Ag) (m : Ms) (now : Int) (sv : Value) (G : Fp) (Q : Int → World → Prop) (w : World) (ha : AgAt w g a) (hc : CapAt w g p4 p5 p6 m now) (hf : FnAt w g p4 p5 p9 p10) (h7 : Blk w p7 25 #[sv]) (h70 : p7 ≠ g) (hi : isA a m 2 = true) (hl : now < a.lease) (hm : m.mode ≠ 1) :
    Calls Try.prog 105 #[.pointer (some ⟨p9, 0, none⟩), .pointer (some ⟨p6, 0, none⟩), .pointer (some ⟨p4, 0, none⟩), .pointer (some ⟨p5, 0, none⟩), .pointer (some ⟨p7, 0, none⟩)] w fun e w' => e = .returned (.tuple #[]) ∧ AgAt w' g { a with mode := 3 } ∧ Chg (fun k => k = g) w w' := by
  have HA := Lib.hid ha
  have HC := Lib.hid hc
  have HF := Lib.hid hf
  have H7 := Lib.hid h7
  have HI := Lib.hid (is13_any g p4 p5 p6 a m now 2 w.drew (ha.ext (ext_dr13 w)) (hc.ext (ext_dr13 w)))
  rw [hi] at HI
  have q9 : w.drew.cell? ⟨p9, 0, none⟩ = some (.func (.func 100) #[] #[.pointer (some ⟨p4, 0, none⟩), .pointer (some ⟨p5, 0, none⟩)]) := hf.is_.cell1
  have HS1 : Hid (∀ W, AgAt W g a → CapAt W g p4 p5 p6 m now → Blk W p7 25 #[sv] → FnAt W g p4 p5 p9 p10 → (fun (W : World) => W.cell? ⟨p9, 0, none⟩ = some (.func (.func 100) #[] #[.pointer (some ⟨p4, 0, none⟩), .pointer (some ⟨p5, 0, none⟩)]) ∧ W.cell? ⟨p6, 0, none⟩ = some (.int .i64 now) ∧ W.cell? ⟨p4, 0, none⟩ = some (.pointer (some ⟨g, 0, none⟩)) ∧ W.cell? ⟨p7, 0, none⟩ = some sv ∧ W.cell? ⟨g, 0, none⟩ = some (.bool a.up) ∧ W.cell? ⟨g, 1, none⟩ = some (.int .i64 a.term) ∧ W.cell? ⟨g, 2, none⟩ = some (.int .i64 a.gen) ∧ W.cell? ⟨g, 3, none⟩ = some (.int .i64 a.mode) ∧ W.cell? ⟨g, 4, none⟩ = some (.int .i64 a.job) ∧ W.cell? ⟨g, 5, none⟩ = some (.int .i64 a.inc) ∧ W.cell? ⟨g, 6, none⟩ = some (.int .i64 a.ver) ∧ W.cell? ⟨g, 7, none⟩ = some (.int .i64 a.lease) ∧ W.cell? ⟨g, 8, none⟩ = some (.int .i64 a.worked) ∧ W.cell? ⟨g, 9, none⟩ = some (.int .i64 a.aim) ∧ W.cell? ⟨p5, 0, none⟩ = some (.int .i64 m.node) ∧ W.cell? ⟨p5, 1, none⟩ = some (.int .i64 m.kind) ∧ W.cell? ⟨p5, 2, none⟩ = some (.int .i64 m.term) ∧ W.cell? ⟨p5, 3, none⟩ = some (.int .i64 m.gen) ∧ W.cell? ⟨p5, 4, none⟩ = some (.int .i64 m.job) ∧ W.cell? ⟨p5, 5, none⟩ = some (.int .i64 m.inc) ∧ W.cell? ⟨p5, 6, none⟩ = some (.int .i64 m.ver) ∧ W.cell? ⟨p5, 7, none⟩ = some (.int .i64 m.epoch) ∧ W.cell? ⟨p5, 8, none⟩ = some (.int .i64 m.til) ∧ W.cell? ⟨p5, 9, none⟩ = some (.int .i64 m.mode) ∧ W.cell? ⟨p5, 10, none⟩ = some (.int .i64 m.work)) W) := Lib.hid fun W q1 q2 q3 q4 => ⟨q4.is_.cell1, q2.time.cell1, q2.ptr.cell1, q3.cell1, q1.blk.cell 0, q1.blk.cell 1, q1.blk.cell 2, q1.blk.cell 3, q1.blk.cell 4, q1.blk.cell 5, q1.blk.cell 6, q1.blk.cell 7, q1.blk.cell 8, q1.blk.cell 9, q2.msg.blk.cell 0, q2.msg.blk.cell 1, q2.msg.blk.cell 2, q2.msg.blk.cell 3, q2.msg.blk.cell 4, q2.msg.blk.cell 5, q2.msg.blk.cell 6, q2.msg.blk.cell 7, q2.msg.blk.cell 8, q2.msg.blk.cell 9, q2.msg.blk.cell 10⟩
  clear ha hc hf h7 hi
  have dl : decide (now < a.lease) = true := decide_eq_true hl
  have HSN := Lib.hid (fun W => saved_no a m sv W hm)
  unfold agV msV at HSN
  clear hl hm
  go_enter Try.func105, Try.ntmps105
  go_wp2_with fail
  refine held_begin (by kernel_rfl) ?_
  have hHeld0 : True := True.intro
  refine held_more (S' := fun (W : World) => W.cell? ⟨p9, 0, none⟩ = some (.func (.func 100) #[] #[.pointer (some ⟨p4, 0, none⟩), .pointer (some ⟨p5, 0, none⟩)]) ∧ W.cell? ⟨p6, 0, none⟩ = some (.int .i64 now) ∧ W.cell? ⟨p4, 0, none⟩ = some (.pointer (some ⟨g, 0, none⟩)) ∧ W.cell? ⟨p7, 0, none⟩ = some sv ∧ W.cell? ⟨g, 0, none⟩ = some (.bool a.up) ∧ W.cell? ⟨g, 1, none⟩ = some (.int .i64 a.term) ∧ W.cell? ⟨g, 2, none⟩ = some (.int .i64 a.gen) ∧ W.cell? ⟨g, 3, none⟩ = some (.int .i64 a.mode) ∧ W.cell? ⟨g, 4, none⟩ = some (.int .i64 a.job) ∧ W.cell? ⟨g, 5, none⟩ = some (.int .i64 a.inc) ∧ W.cell? ⟨g, 6, none⟩ = some (.int .i64 a.ver) ∧ W.cell? ⟨g, 7, none⟩ = some (.int .i64 a.lease) ∧ W.cell? ⟨g, 8, none⟩ = some (.int .i64 a.worked) ∧ W.cell? ⟨g, 9, none⟩ = some (.int .i64 a.aim) ∧ W.cell? ⟨p5, 0, none⟩ = some (.int .i64 m.node) ∧ W.cell? ⟨p5, 1, none⟩ = some (.int .i64 m.kind) ∧ W.cell? ⟨p5, 2, none⟩ = some (.int .i64 m.term) ∧ W.cell? ⟨p5, 3, none⟩ = some (.int .i64 m.gen) ∧ W.cell? ⟨p5, 4, none⟩ = some (.int .i64 m.job) ∧ W.cell? ⟨p5, 5, none⟩ = some (.int .i64 m.inc) ∧ W.cell? ⟨p5, 6, none⟩ = some (.int .i64 m.ver) ∧ W.cell? ⟨p5, 7, none⟩ = some (.int .i64 m.epoch) ∧ W.cell? ⟨p5, 8, none⟩ = some (.int .i64 m.til) ∧ W.cell? ⟨p5, 9, none⟩ = some (.int .i64 m.mode) ∧ W.cell? ⟨p5, 10, none⟩ = some (.int .i64 m.work)) (fun _ _ => True.intro) ?_
  have hHeld1 : (fun (W : World) => W.cell? ⟨p9, 0, none⟩ = some (.func (.func 100) #[] #[.pointer (some ⟨p4, 0, none⟩), .pointer (some ⟨p5, 0, none⟩)]) ∧ W.cell? ⟨p6, 0, none⟩ = some (.int .i64 now) ∧ W.cell? ⟨p4, 0, none⟩ = some (.pointer (some ⟨g, 0, none⟩)) ∧ W.cell? ⟨p7, 0, none⟩ = some sv ∧ W.cell? ⟨g, 0, none⟩ = some (.bool a.up) ∧ W.cell? ⟨g, 1, none⟩ = some (.int .i64 a.term) ∧ W.cell? ⟨g, 2, none⟩ = some (.int .i64 a.gen) ∧ W.cell? ⟨g, 3, none⟩ = some (.int .i64 a.mode) ∧ W.cell? ⟨g, 4, none⟩ = some (.int .i64 a.job) ∧ W.cell? ⟨g, 5, none⟩ = some (.int .i64 a.inc) ∧ W.cell? ⟨g, 6, none⟩ = some (.int .i64 a.ver) ∧ W.cell? ⟨g, 7, none⟩ = some (.int .i64 a.lease) ∧ W.cell? ⟨g, 8, none⟩ = some (.int .i64 a.worked) ∧ W.cell? ⟨g, 9, none⟩ = some (.int .i64 a.aim) ∧ W.cell? ⟨p5, 0, none⟩ = some (.int .i64 m.node) ∧ W.cell? ⟨p5, 1, none⟩ = some (.int .i64 m.kind) ∧ W.cell? ⟨p5, 2, none⟩ = some (.int .i64 m.term) ∧ W.cell? ⟨p5, 3, none⟩ = some (.int .i64 m.gen) ∧ W.cell? ⟨p5, 4, none⟩ = some (.int .i64 m.job) ∧ W.cell? ⟨p5, 5, none⟩ = some (.int .i64 m.inc) ∧ W.cell? ⟨p5, 6, none⟩ = some (.int .i64 m.ver) ∧ W.cell? ⟨p5, 7, none⟩ = some (.int .i64 m.epoch) ∧ W.cell? ⟨p5, 8, none⟩ = some (.int .i64 m.til) ∧ W.cell? ⟨p5, 9, none⟩ = some (.int .i64 m.mode) ∧ W.cell? ⟨p5, 10, none⟩ = some (.int .i64 m.work)) _ := HS1.out _ (HA.out.ext (ext_dr13 w)) (HC.out.ext (ext_dr13 w)) (H7.out.ext (ext_dr13 w)) (HF.out.ext (ext_dr13 w))
  clear hHeld0
  refine held_take (i := 0) (v := ?_) rfl (by kernel_rfl) (by kernel_rfl) (by kernel_rfl) (by rfl) (by first | assumption | exact True.intro) ?_ ?_
  rotate_left
  · (intro w hSw; (try dsimp only at hSw); (try obtain ⟨k0, k1, k2, k3, k4, k5, k6, k7, k8, k9, k10, k11, k12, k13, k14, k15, k16, k17, k18, k19, k20, k21, k22, k23, k24⟩ := hSw); go_simp; (try with_reducible rfl))
  try simp only [Act.put, List.setIfInBounds_toArray, List.set_cons_zero, List.set_cons_succ]
  refine held_op (i := 1) (by kernel_rfl) rfl (fun K hK => ?_)
  go_simp
  go_at_call 100
  (with_reducible refine (HI.out).mono ?_)
  rintro e1 w1 ⟨rfl, hx1⟩
  refine hK _ _ ?_ (fun hHeld2 => ?_)
  · exact HS1.out _ (HA.out.ext (Ext.trans (ext_dr13 w) hx1)) (HC.out.ext (Ext.trans (ext_dr13 w) hx1)) (H7.out.ext (Ext.trans (ext_dr13 w) hx1)) (HF.out.ext (Ext.trans (ext_dr13 w) hx1))
  clear hK K hHeld1
  try simp only [Act.put, List.setIfInBounds_toArray, List.set_cons_zero, List.set_cons_succ]
  refine held_take (i := 2) (v := ?_) rfl (by kernel_rfl) (by kernel_rfl) (by kernel_rfl) (by rfl) (by first | assumption | exact True.intro) ?_ ?_
  rotate_left
  · (intro w hSw; (try dsimp only at hSw); (try obtain ⟨k0, k1, k2, k3, k4, k5, k6, k7, k8, k9, k10, k11, k12, k13, k14, k15, k16, k17, k18, k19, k20, k21, k22, k23, k24⟩ := hSw); go_simp; (try with_reducible rfl))
  try simp only [Act.put, List.setIfInBounds_toArray, List.set_cons_zero, List.set_cons_succ]
  refine held_take (i := 3) (v := ?_) rfl (by kernel_rfl) (by kernel_rfl) (by kernel_rfl) (by rfl) (by first | assumption | exact True.intro) ?_ ?_
  rotate_left
  · (intro w hSw; (try dsimp only at hSw); (try obtain ⟨k0, k1, k2, k3, k4, k5, k6, k7, k8, k9, k10, k11, k12, k13, k14, k15, k16, k17, k18, k19, k20, k21, k22, k23, k24⟩ := hSw); go_simp; (try with_reducible rfl))
  try simp only [Act.put, List.setIfInBounds_toArray, List.set_cons_zero, List.set_cons_succ]
  refine held_take (i := 4) (v := ?_) rfl (by kernel_rfl) (by kernel_rfl) (by kernel_rfl) (by rfl) (by first | assumption | exact True.intro) ?_ ?_
  rotate_left
  · (intro w hSw; (try dsimp only at hSw); (try obtain ⟨k0, k1, k2, k3, k4, k5, k6, k7, k8, k9, k10, k11, k12, k13, k14, k15, k16, k17, k18, k19, k20, k21, k22, k23, k24⟩ := hSw); go_simp; (try with_reducible rfl))
  try simp only [Act.put, List.setIfInBounds_toArray, List.set_cons_zero, List.set_cons_succ]
  refine held_take (i := 5) (v := ?_) rfl (by kernel_rfl) (by kernel_rfl) (by kernel_rfl) (by rfl) (by first | assumption | exact True.intro) ?_ ?_
  rotate_left
  · (intro w hSw; (try dsimp only at hSw); (try obtain ⟨k0, k1, k2, k3, k4, k5, k6, k7, k8, k9, k10, k11, k12, k13, k14, k15, k16, k17, k18, k19, k20, k21, k22, k23, k24⟩ := hSw); go_simp; (try with_reducible rfl))
  try simp only [Act.put, List.setIfInBounds_toArray, List.set_cons_zero, List.set_cons_succ]
  refine held_take (i := 6) (v := ?_) rfl (by kernel_rfl) (by kernel_rfl) (by kernel_rfl) (by rfl) (by first | assumption | exact True.intro) ?_ ?_
  rotate_left
  · (intro w hSw; (try dsimp only at hSw); (try obtain ⟨k0, k1, k2, k3, k4, k5, k6, k7, k8, k9, k10, k11, k12, k13, k14, k15, k16, k17, k18, k19, k20, k21, k22, k23, k24⟩ := hSw); go_simp; (try with_reducible rfl))
  try simp only [Act.put, List.setIfInBounds_toArray, List.set_cons_zero, List.set_cons_succ]
  refine held_take (i := 7) (v := ?_) rfl (by kernel_rfl) (by kernel_rfl) (by kernel_rfl) (by rfl) (by first | assumption | exact True.intro) ?_ ?_
  rotate_left
  · (intro w hSw; (try dsimp only at hSw); (try obtain ⟨k0, k1, k2, k3, k4, k5, k6, k7, k8, k9, k10, k11, k12, k13, k14, k15, k16, k17, k18, k19, k20, k21, k22, k23, k24⟩ := hSw); go_simp; (try with_reducible rfl))
  try simp only [Act.put, List.setIfInBounds_toArray, List.set_cons_zero, List.set_cons_succ]
  refine held_take (i := 8) (v := ?_) rfl (by kernel_rfl) (by kernel_rfl) (by kernel_rfl) (by rfl) (by first | assumption | exact True.intro) ?_ ?_
  rotate_left
  · (intro w hSw; (try dsimp only at hSw); (try obtain ⟨k0, k1, k2, k3, k4, k5, k6, k7, k8, k9, k10, k11, k12, k13, k14, k15, k16, k17, k18, k19, k20, k21, k22, k23, k24⟩ := hSw); go_simp; (try with_reducible rfl))
  try simp only [Act.put, List.setIfInBounds_toArray, List.set_cons_zero, List.set_cons_succ]
  refine held_take (i := 9) (v := ?_) rfl (by kernel_rfl) (by kernel_rfl) (by kernel_rfl) (by rfl) (by first | assumption | exact True.intro) ?_ ?_
  rotate_left
  · (intro w hSw; (try dsimp only at hSw); (try obtain ⟨k0, k1, k2, k3, k4, k5, k6, k7, k8, k9, k10, k11, k12, k13, k14, k15, k16, k17, k18, k19, k20, k21, k22, k23, k24⟩ := hSw); go_simp; (try with_reducible rfl))
  try simp only [Act.put, List.setIfInBounds_toArray, List.set_cons_zero, List.set_cons_succ]
  refine held_take (i := 10) (v := ?_) rfl (by kernel_rfl) (by kernel_rfl) (by kernel_rfl) (by rfl) (by first | assumption | exact True.intro) ?_ ?_
  rotate_left
  · (intro w hSw; (try dsimp only at hSw); (try obtain ⟨k0, k1, k2, k3, k4, k5, k6, k7, k8, k9, k10, k11, k12, k13, k14, k15, k16, k17, k18, k19, k20, k21, k22, k23, k24⟩ := hSw); go_simp; (try with_reducible rfl))
  try simp only [Act.put, List.setIfInBounds_toArray, List.set_cons_zero, List.set_cons_succ]
  refine held_take (i := 11) (v := ?_) rfl (by kernel_rfl) (by kernel_rfl) (by kernel_rfl) (by rfl) (by first | assumption | exact True.intro) ?_ ?_
  rotate_left
  · (intro w hSw; (try dsimp only at hSw); (try obtain ⟨k0, k1, k2, k3, k4, k5, k6, k7, k8, k9, k10, k11, k12, k13, k14, k15, k16, k17, k18, k19, k20, k21, k22, k23, k24⟩ := hSw); go_simp; (try with_reducible rfl))
  try simp only [Act.put, List.setIfInBounds_toArray, List.set_cons_zero, List.set_cons_succ]
  refine held_take (i := 12) (v := ?_) rfl (by kernel_rfl) (by kernel_rfl) (by kernel_rfl) (by rfl) (by first | assumption | exact True.intro) ?_ ?_
  rotate_left
  · (intro w hSw; (try dsimp only at hSw); (try obtain ⟨k0, k1, k2, k3, k4, k5, k6, k7, k8, k9, k10, k11, k12, k13, k14, k15, k16, k17, k18, k19, k20, k21, k22, k23, k24⟩ := hSw); go_simp; (try with_reducible rfl))
  try simp only [Act.put, List.setIfInBounds_toArray, List.set_cons_zero, List.set_cons_succ]
  refine held_take (i := 13) (v := ?_) rfl (by kernel_rfl) (by kernel_rfl) (by kernel_rfl) (by rfl) (by first | assumption | exact True.intro) ?_ ?_
  rotate_left
  · (intro w hSw; (try dsimp only at hSw); (try obtain ⟨k0, k1, k2, k3, k4, k5, k6, k7, k8, k9, k10, k11, k12, k13, k14, k15, k16, k17, k18, k19, k20, k21, k22, k23, k24⟩ := hSw); go_simp; (try with_reducible rfl))
  try simp only [Act.put, List.setIfInBounds_toArray, List.set_cons_zero, List.set_cons_succ]
  refine held_take (i := 14) (v := ?_) rfl (by kernel_rfl) (by kernel_rfl) (by kernel_rfl) (by rfl) (by first | assumption | exact True.intro) ?_ ?_
  rotate_left
  · (intro w hSw; (try dsimp only at hSw); (try obtain ⟨k0, k1, k2, k3, k4, k5, k6, k7, k8, k9, k10, k11, k12, k13, k14, k15, k16, k17, k18, k19, k20, k21, k22, k23, k24⟩ := hSw); go_simp; (try with_reducible rfl))
  try simp only [Act.put, List.setIfInBounds_toArray, List.set_cons_zero, List.set_cons_succ]
  refine held_take (i := 15) (v := ?_) rfl (by kernel_rfl) (by kernel_rfl) (by kernel_rfl) (by rfl) (by first | assumption | exact True.intro) ?_ ?_
  rotate_left
  · (intro w hSw; (try dsimp only at hSw); (try obtain ⟨k0, k1, k2, k3, k4, k5, k6, k7, k8, k9, k10, k11, k12, k13, k14, k15, k16, k17, k18, k19, k20, k21, k22, k23, k24⟩ := hSw); go_simp; (try with_reducible rfl))
  try simp only [Act.put, List.setIfInBounds_toArray, List.set_cons_zero, List.set_cons_succ]
  refine held_op (i := 16) (by kernel_rfl) rfl (fun K hK => ?_)
  go_simp
  go_at_call 106
  (with_reducible refine (HSN.out _).mono ?_)
  rintro e2 w2 ⟨rfl, hx2⟩
  refine hK _ _ ?_ (fun hHeld3 => ?_)
  · exact HS1.out _ (HA.out.ext (Ext.trans (Ext.trans (ext_dr13 w) hx1) hx2)) (HC.out.ext (Ext.trans (Ext.trans (ext_dr13 w) hx1) hx2)) (H7.out.ext (Ext.trans (Ext.trans (ext_dr13 w) hx1) hx2)) (HF.out.ext (Ext.trans (Ext.trans (ext_dr13 w) hx1) hx2))
  clear hK K hHeld2
  try simp only [Act.put, List.setIfInBounds_toArray, List.set_cons_zero, List.set_cons_succ]
  refine held_take (i := 17) (v := ?_) rfl (by kernel_rfl) (by kernel_rfl) (by kernel_rfl) (by rfl) (by first | assumption | exact True.intro) ?_ ?_
  rotate_left
  · (intro w hSw; (try dsimp only at hSw); (try obtain ⟨k0, k1, k2, k3, k4, k5, k6, k7, k8, k9, k10, k11, k12, k13, k14, k15, k16, k17, k18, k19, k20, k21, k22, k23, k24⟩ := hSw); go_simp; (try with_reducible rfl))
  try simp only [Act.put, List.setIfInBounds_toArray, List.set_cons_zero, List.set_cons_succ]
  refine wpAnyH_done (by kernel_rfl) ?_ _
  refine NoPanic.normal ?_
  clear hHeld3
  have HX2 := Lib.hid (Ext.trans (Ext.trans (ext_dr13 w) hx1) hx2)
  clear hx1 hx2
  have ha3 := HA.out.ext HX2.out
  have f3 := ha3.blk.frozen 3
  have c3 := ha3.cells.2.2.2.1
  have q4 := (HC.out.ext HX2.out).ptr.cell1
  have hq := (WB.start ha3.blk).set 3 (.int .i64 3)
  simp only [List.setIfInBounds_toArray, List.set_cons_zero, List.set_cons_succ] at hq
  have HQ : Hid (AgAt (w2.setCell ⟨g, 3, none⟩ (.int .i64 3)) g { a with mode := 3 } ∧ Chg (fun k => k = g) w (w2.setCell ⟨g, 3, none⟩ (.int .i64 3))) := Lib.hid ⟨⟨hq.blk⟩, (Chg.of_ext (F := fun k => k = g) HX2.out).trans hq.chg (fun _ _ h => h)⟩
  clear hq ha3
  go_wp2
  go_end0
  exact ⟨rfl, HQ.out.1, HQ.out.2⟩

set_option maxRecDepth 100000 in
set_option maxHeartbeats 4000000 in
theorem save_told (w0 : World) (g p4 p5 p6 p7 p9 p10 : Nat) (a : Ag) (m : Ms) (now : Int) (sv : Value) (G : Fp) (Q : Int → World → Prop) (w : World) (ha : AgAt w g a) (hc : CapAt w g p4 p5 p6 m now) (hf : FnAt w g p4 p5 p9 p10) (h7 : Blk w p7 25 #[sv]) (h70 : p7 ≠ g) (hi : isA a m 2 = true) (hl : now < a.lease) (hm : m.mode = 1) (hs : StgOk w0 G sv m.term a.job a.inc (svB a.worked) Q) (hy : Ext w0 w) (h0 : 0 ≤ a.worked) (hk : a.worked ≤ 1000000000)
    (hlow : w0.heap.size ≤ g ∧ w0.heap.size ≤ p4 ∧ w0.heap.size ≤ p5 ∧ w0.heap.size ≤ p6 ∧ w0.heap.size ≤ p7 ∧ w0.heap.size ≤ p9 ∧ w0.heap.size ≤ p10) :
    Calls Try.prog 105 #[.pointer (some ⟨p9, 0, none⟩), .pointer (some ⟨p6, 0, none⟩), .pointer (some ⟨p4, 0, none⟩), .pointer (some ⟨p5, 0, none⟩), .pointer (some ⟨p7, 0, none⟩)] w fun e w' => ∃ r, e = .returned (.tuple #[]) ∧ AgAt w' g (if r = 0 then { a with mode := 3 } else a) ∧ Chg (fun k => k = g ∨ G k) w w' ∧ ∀ (K : Fp) (W' : World), (∀ k, K k → w0.heap.size ≤ k ∧ k < w.heap.size) → Chg K w' W' → Q r W' := by
  have HNO : Hid (¬ G g ∧ ¬ G p4 ∧ ¬ G p5 ∧ ¬ G p6 ∧ ¬ G p7 ∧ ¬ G p9 ∧ ¬ G p10) := Lib.hid ⟨fun h => by have := hs.old _ h; omega, fun h => by have := hs.old _ h; omega, fun h => by have := hs.old _ h; omega, fun h => by have := hs.old _ h; omega, fun h => by have := hs.old _ h; omega, fun h => by have := hs.old _ h; omega, fun h => by have := hs.old _ h; omega⟩
  have HGW : Hid (w0.heap.size ≤ g ∧ g < w.heap.size) := Lib.hid ⟨hlow.1, ha.blk.lt⟩
  have HA := Lib.hid ha
  have HC := Lib.hid hc
  have HF := Lib.hid hf
  have H7 := Lib.hid h7
  have HI := Lib.hid (is13_any g p4 p5 p6 a m now 2 w.drew (ha.ext (ext_dr13 w)) (hc.ext (ext_dr13 w)))
  rw [hi] at HI
  have q9 : w.drew.cell? ⟨p9, 0, none⟩ = some (.func (.func 100) #[] #[.pointer (some ⟨p4, 0, none⟩), .pointer (some ⟨p5, 0, none⟩)]) := hf.is_.cell1
  have HS1 : Hid (∀ W, AgAt W g a → CapAt W g p4 p5 p6 m now → Blk W p7 25 #[sv] → FnAt W g p4 p5 p9 p10 → (fun (W : World) => W.cell? ⟨p9, 0, none⟩ = some (.func (.func 100) #[] #[.pointer (some ⟨p4, 0, none⟩), .pointer (some ⟨p5, 0, none⟩)]) ∧ W.cell? ⟨p6, 0, none⟩ = some (.int .i64 now) ∧ W.cell? ⟨p4, 0, none⟩ = some (.pointer (some ⟨g, 0, none⟩)) ∧ W.cell? ⟨p7, 0, none⟩ = some sv ∧ W.cell? ⟨g, 0, none⟩ = some (.bool a.up) ∧ W.cell? ⟨g, 1, none⟩ = some (.int .i64 a.term) ∧ W.cell? ⟨g, 2, none⟩ = some (.int .i64 a.gen) ∧ W.cell? ⟨g, 3, none⟩ = some (.int .i64 a.mode) ∧ W.cell? ⟨g, 4, none⟩ = some (.int .i64 a.job) ∧ W.cell? ⟨g, 5, none⟩ = some (.int .i64 a.inc) ∧ W.cell? ⟨g, 6, none⟩ = some (.int .i64 a.ver) ∧ W.cell? ⟨g, 7, none⟩ = some (.int .i64 a.lease) ∧ W.cell? ⟨g, 8, none⟩ = some (.int .i64 a.worked) ∧ W.cell? ⟨g, 9, none⟩ = some (.int .i64 a.aim) ∧ W.cell? ⟨p5, 0, none⟩ = some (.int .i64 m.node) ∧ W.cell? ⟨p5, 1, none⟩ = some (.int .i64 m.kind) ∧ W.cell? ⟨p5, 2, none⟩ = some (.int .i64 m.term) ∧ W.cell? ⟨p5, 3, none⟩ = some (.int .i64 m.gen) ∧ W.cell? ⟨p5, 4, none⟩ = some (.int .i64 m.job) ∧ W.cell? ⟨p5, 5, none⟩ = some (.int .i64 m.inc) ∧ W.cell? ⟨p5, 6, none⟩ = some (.int .i64 m.ver) ∧ W.cell? ⟨p5, 7, none⟩ = some (.int .i64 m.epoch) ∧ W.cell? ⟨p5, 8, none⟩ = some (.int .i64 m.til) ∧ W.cell? ⟨p5, 9, none⟩ = some (.int .i64 m.mode) ∧ W.cell? ⟨p5, 10, none⟩ = some (.int .i64 m.work)) W) := Lib.hid fun W q1 q2 q3 q4 => ⟨q4.is_.cell1, q2.time.cell1, q2.ptr.cell1, q3.cell1, q1.blk.cell 0, q1.blk.cell 1, q1.blk.cell 2, q1.blk.cell 3, q1.blk.cell 4, q1.blk.cell 5, q1.blk.cell 6, q1.blk.cell 7, q1.blk.cell 8, q1.blk.cell 9, q2.msg.blk.cell 0, q2.msg.blk.cell 1, q2.msg.blk.cell 2, q2.msg.blk.cell 3, q2.msg.blk.cell 4, q2.msg.blk.cell 5, q2.msg.blk.cell 6, q2.msg.blk.cell 7, q2.msg.blk.cell 8, q2.msg.blk.cell 9, q2.msg.blk.cell 10⟩
  clear ha hc hf h7 hi
  have dl : decide (now < a.lease) = true := decide_eq_true hl
  have HSN := Lib.hid (fun W (h : Ext w0 W) => saved_yes w0 a m sv G Q W hs h hm h0 hk)
  unfold agV msV at HSN
  have HY := Lib.hid hy
  clear hl hm hs h0 hk hy hlow
  go_enter Try.func105, Try.ntmps105
  go_wp2_with fail
  refine held_begin (by kernel_rfl) ?_
  have hHeld0 : True := True.intro
  refine held_more (S' := fun (W : World) => W.cell? ⟨p9, 0, none⟩ = some (.func (.func 100) #[] #[.pointer (some ⟨p4, 0, none⟩), .pointer (some ⟨p5, 0, none⟩)]) ∧ W.cell? ⟨p6, 0, none⟩ = some (.int .i64 now) ∧ W.cell? ⟨p4, 0, none⟩ = some (.pointer (some ⟨g, 0, none⟩)) ∧ W.cell? ⟨p7, 0, none⟩ = some sv ∧ W.cell? ⟨g, 0, none⟩ = some (.bool a.up) ∧ W.cell? ⟨g, 1, none⟩ = some (.int .i64 a.term) ∧ W.cell? ⟨g, 2, none⟩ = some (.int .i64 a.gen) ∧ W.cell? ⟨g, 3, none⟩ = some (.int .i64 a.mode) ∧ W.cell? ⟨g, 4, none⟩ = some (.int .i64 a.job) ∧ W.cell? ⟨g, 5, none⟩ = some (.int .i64 a.inc) ∧ W.cell? ⟨g, 6, none⟩ = some (.int .i64 a.ver) ∧ W.cell? ⟨g, 7, none⟩ = some (.int .i64 a.lease) ∧ W.cell? ⟨g, 8, none⟩ = some (.int .i64 a.worked) ∧ W.cell? ⟨g, 9, none⟩ = some (.int .i64 a.aim) ∧ W.cell? ⟨p5, 0, none⟩ = some (.int .i64 m.node) ∧ W.cell? ⟨p5, 1, none⟩ = some (.int .i64 m.kind) ∧ W.cell? ⟨p5, 2, none⟩ = some (.int .i64 m.term) ∧ W.cell? ⟨p5, 3, none⟩ = some (.int .i64 m.gen) ∧ W.cell? ⟨p5, 4, none⟩ = some (.int .i64 m.job) ∧ W.cell? ⟨p5, 5, none⟩ = some (.int .i64 m.inc) ∧ W.cell? ⟨p5, 6, none⟩ = some (.int .i64 m.ver) ∧ W.cell? ⟨p5, 7, none⟩ = some (.int .i64 m.epoch) ∧ W.cell? ⟨p5, 8, none⟩ = some (.int .i64 m.til) ∧ W.cell? ⟨p5, 9, none⟩ = some (.int .i64 m.mode) ∧ W.cell? ⟨p5, 10, none⟩ = some (.int .i64 m.work)) (fun _ _ => True.intro) ?_
  have hHeld1 : (fun (W : World) => W.cell? ⟨p9, 0, none⟩ = some (.func (.func 100) #[] #[.pointer (some ⟨p4, 0, none⟩), .pointer (some ⟨p5, 0, none⟩)]) ∧ W.cell? ⟨p6, 0, none⟩ = some (.int .i64 now) ∧ W.cell? ⟨p4, 0, none⟩ = some (.pointer (some ⟨g, 0, none⟩)) ∧ W.cell? ⟨p7, 0, none⟩ = some sv ∧ W.cell? ⟨g, 0, none⟩ = some (.bool a.up) ∧ W.cell? ⟨g, 1, none⟩ = some (.int .i64 a.term) ∧ W.cell? ⟨g, 2, none⟩ = some (.int .i64 a.gen) ∧ W.cell? ⟨g, 3, none⟩ = some (.int .i64 a.mode) ∧ W.cell? ⟨g, 4, none⟩ = some (.int .i64 a.job) ∧ W.cell? ⟨g, 5, none⟩ = some (.int .i64 a.inc) ∧ W.cell? ⟨g, 6, none⟩ = some (.int .i64 a.ver) ∧ W.cell? ⟨g, 7, none⟩ = some (.int .i64 a.lease) ∧ W.cell? ⟨g, 8, none⟩ = some (.int .i64 a.worked) ∧ W.cell? ⟨g, 9, none⟩ = some (.int .i64 a.aim) ∧ W.cell? ⟨p5, 0, none⟩ = some (.int .i64 m.node) ∧ W.cell? ⟨p5, 1, none⟩ = some (.int .i64 m.kind) ∧ W.cell? ⟨p5, 2, none⟩ = some (.int .i64 m.term) ∧ W.cell? ⟨p5, 3, none⟩ = some (.int .i64 m.gen) ∧ W.cell? ⟨p5, 4, none⟩ = some (.int .i64 m.job) ∧ W.cell? ⟨p5, 5, none⟩ = some (.int .i64 m.inc) ∧ W.cell? ⟨p5, 6, none⟩ = some (.int .i64 m.ver) ∧ W.cell? ⟨p5, 7, none⟩ = some (.int .i64 m.epoch) ∧ W.cell? ⟨p5, 8, none⟩ = some (.int .i64 m.til) ∧ W.cell? ⟨p5, 9, none⟩ = some (.int .i64 m.mode) ∧ W.cell? ⟨p5, 10, none⟩ = some (.int .i64 m.work)) _ := HS1.out _ (HA.out.ext (ext_dr13 w)) (HC.out.ext (ext_dr13 w)) (H7.out.ext (ext_dr13 w)) (HF.out.ext (ext_dr13 w))
  clear hHeld0
  refine held_take (i := 0) (v := ?_) rfl (by kernel_rfl) (by kernel_rfl) (by kernel_rfl) (by rfl) (by first | assumption | exact True.intro) ?_ ?_
  rotate_left
  · (intro w hSw; (try dsimp only at hSw); (try obtain ⟨k0, k1, k2, k3, k4, k5, k6, k7, k8, k9, k10, k11, k12, k13, k14, k15, k16, k17, k18, k19, k20, k21, k22, k23, k24⟩ := hSw); go_simp; (try with_reducible rfl))
  try simp only [Act.put, List.setIfInBounds_toArray, List.set_cons_zero, List.set_cons_succ]
  refine held_op (i := 1) (by kernel_rfl) rfl (fun K hK => ?_)
  go_simp
  go_at_call 100
  (with_reducible refine (HI.out).mono ?_)
  rintro e1 w1 ⟨rfl, hx1⟩
  refine hK _ _ ?_ (fun hHeld2 => ?_)
  · exact HS1.out _ (HA.out.ext (Ext.trans (ext_dr13 w) hx1)) (HC.out.ext (Ext.trans (ext_dr13 w) hx1)) (H7.out.ext (Ext.trans (ext_dr13 w) hx1)) (HF.out.ext (Ext.trans (ext_dr13 w) hx1))
  clear hK K hHeld1
  try simp only [Act.put, List.setIfInBounds_toArray, List.set_cons_zero, List.set_cons_succ]
  refine held_take (i := 2) (v := ?_) rfl (by kernel_rfl) (by kernel_rfl) (by kernel_rfl) (by rfl) (by first | assumption | exact True.intro) ?_ ?_
  rotate_left
  · (intro w hSw; (try dsimp only at hSw); (try obtain ⟨k0, k1, k2, k3, k4, k5, k6, k7, k8, k9, k10, k11, k12, k13, k14, k15, k16, k17, k18, k19, k20, k21, k22, k23, k24⟩ := hSw); go_simp; (try with_reducible rfl))
  try simp only [Act.put, List.setIfInBounds_toArray, List.set_cons_zero, List.set_cons_succ]
  refine held_take (i := 3) (v := ?_) rfl (by kernel_rfl) (by kernel_rfl) (by kernel_rfl) (by rfl) (by first | assumption | exact True.intro) ?_ ?_
  rotate_left
  · (intro w hSw; (try dsimp only at hSw); (try obtain ⟨k0, k1, k2, k3, k4, k5, k6, k7, k8, k9, k10, k11, k12, k13, k14, k15, k16, k17, k18, k19, k20, k21, k22, k23, k24⟩ := hSw); go_simp; (try with_reducible rfl))
  try simp only [Act.put, List.setIfInBounds_toArray, List.set_cons_zero, List.set_cons_succ]
  refine held_take (i := 4) (v := ?_) rfl (by kernel_rfl) (by kernel_rfl) (by kernel_rfl) (by rfl) (by first | assumption | exact True.intro) ?_ ?_
  rotate_left
  · (intro w hSw; (try dsimp only at hSw); (try obtain ⟨k0, k1, k2, k3, k4, k5, k6, k7, k8, k9, k10, k11, k12, k13, k14, k15, k16, k17, k18, k19, k20, k21, k22, k23, k24⟩ := hSw); go_simp; (try with_reducible rfl))
  try simp only [Act.put, List.setIfInBounds_toArray, List.set_cons_zero, List.set_cons_succ]
  refine held_take (i := 5) (v := ?_) rfl (by kernel_rfl) (by kernel_rfl) (by kernel_rfl) (by rfl) (by first | assumption | exact True.intro) ?_ ?_
  rotate_left
  · (intro w hSw; (try dsimp only at hSw); (try obtain ⟨k0, k1, k2, k3, k4, k5, k6, k7, k8, k9, k10, k11, k12, k13, k14, k15, k16, k17, k18, k19, k20, k21, k22, k23, k24⟩ := hSw); go_simp; (try with_reducible rfl))
  try simp only [Act.put, List.setIfInBounds_toArray, List.set_cons_zero, List.set_cons_succ]
  refine held_take (i := 6) (v := ?_) rfl (by kernel_rfl) (by kernel_rfl) (by kernel_rfl) (by rfl) (by first | assumption | exact True.intro) ?_ ?_
  rotate_left
  · (intro w hSw; (try dsimp only at hSw); (try obtain ⟨k0, k1, k2, k3, k4, k5, k6, k7, k8, k9, k10, k11, k12, k13, k14, k15, k16, k17, k18, k19, k20, k21, k22, k23, k24⟩ := hSw); go_simp; (try with_reducible rfl))
  try simp only [Act.put, List.setIfInBounds_toArray, List.set_cons_zero, List.set_cons_succ]
  refine held_take (i := 7) (v := ?_) rfl (by kernel_rfl) (by kernel_rfl) (by kernel_rfl) (by rfl) (by first | assumption | exact True.intro) ?_ ?_
  rotate_left
  · (intro w hSw; (try dsimp only at hSw); (try obtain ⟨k0, k1, k2, k3, k4, k5, k6, k7, k8, k9, k10, k11, k12, k13, k14, k15, k16, k17, k18, k19, k20, k21, k22, k23, k24⟩ := hSw); go_simp; (try with_reducible rfl))
  try simp only [Act.put, List.setIfInBounds_toArray, List.set_cons_zero, List.set_cons_succ]
  refine held_take (i := 8) (v := ?_) rfl (by kernel_rfl) (by kernel_rfl) (by kernel_rfl) (by rfl) (by first | assumption | exact True.intro) ?_ ?_
  rotate_left
  · (intro w hSw; (try dsimp only at hSw); (try obtain ⟨k0, k1, k2, k3, k4, k5, k6, k7, k8, k9, k10, k11, k12, k13, k14, k15, k16, k17, k18, k19, k20, k21, k22, k23, k24⟩ := hSw); go_simp; (try with_reducible rfl))
  try simp only [Act.put, List.setIfInBounds_toArray, List.set_cons_zero, List.set_cons_succ]
  refine held_take (i := 9) (v := ?_) rfl (by kernel_rfl) (by kernel_rfl) (by kernel_rfl) (by rfl) (by first | assumption | exact True.intro) ?_ ?_
  rotate_left
  · (intro w hSw; (try dsimp only at hSw); (try obtain ⟨k0, k1, k2, k3, k4, k5, k6, k7, k8, k9, k10, k11, k12, k13, k14, k15, k16, k17, k18, k19, k20, k21, k22, k23, k24⟩ := hSw); go_simp; (try with_reducible rfl))
  try simp only [Act.put, List.setIfInBounds_toArray, List.set_cons_zero, List.set_cons_succ]
  refine held_take (i := 10) (v := ?_) rfl (by kernel_rfl) (by kernel_rfl) (by kernel_rfl) (by rfl) (by first | assumption | exact True.intro) ?_ ?_
  rotate_left
  · (intro w hSw; (try dsimp only at hSw); (try obtain ⟨k0, k1, k2, k3, k4, k5, k6, k7, k8, k9, k10, k11, k12, k13, k14, k15, k16, k17, k18, k19, k20, k21, k22, k23, k24⟩ := hSw); go_simp; (try with_reducible rfl))
  try simp only [Act.put, List.setIfInBounds_toArray, List.set_cons_zero, List.set_cons_succ]
  refine held_take (i := 11) (v := ?_) rfl (by kernel_rfl) (by kernel_rfl) (by kernel_rfl) (by rfl) (by first | assumption | exact True.intro) ?_ ?_
  rotate_left
  · (intro w hSw; (try dsimp only at hSw); (try obtain ⟨k0, k1, k2, k3, k4, k5, k6, k7, k8, k9, k10, k11, k12, k13, k14, k15, k16, k17, k18, k19, k20, k21, k22, k23, k24⟩ := hSw); go_simp; (try with_reducible rfl))
  try simp only [Act.put, List.setIfInBounds_toArray, List.set_cons_zero, List.set_cons_succ]
  refine held_take (i := 12) (v := ?_) rfl (by kernel_rfl) (by kernel_rfl) (by kernel_rfl) (by rfl) (by first | assumption | exact True.intro) ?_ ?_
  rotate_left
  · (intro w hSw; (try dsimp only at hSw); (try obtain ⟨k0, k1, k2, k3, k4, k5, k6, k7, k8, k9, k10, k11, k12, k13, k14, k15, k16, k17, k18, k19, k20, k21, k22, k23, k24⟩ := hSw); go_simp; (try with_reducible rfl))
  try simp only [Act.put, List.setIfInBounds_toArray, List.set_cons_zero, List.set_cons_succ]
  refine held_take (i := 13) (v := ?_) rfl (by kernel_rfl) (by kernel_rfl) (by kernel_rfl) (by rfl) (by first | assumption | exact True.intro) ?_ ?_
  rotate_left
  · (intro w hSw; (try dsimp only at hSw); (try obtain ⟨k0, k1, k2, k3, k4, k5, k6, k7, k8, k9, k10, k11, k12, k13, k14, k15, k16, k17, k18, k19, k20, k21, k22, k23, k24⟩ := hSw); go_simp; (try with_reducible rfl))
  try simp only [Act.put, List.setIfInBounds_toArray, List.set_cons_zero, List.set_cons_succ]
  refine held_take (i := 14) (v := ?_) rfl (by kernel_rfl) (by kernel_rfl) (by kernel_rfl) (by rfl) (by first | assumption | exact True.intro) ?_ ?_
  rotate_left
  · (intro w hSw; (try dsimp only at hSw); (try obtain ⟨k0, k1, k2, k3, k4, k5, k6, k7, k8, k9, k10, k11, k12, k13, k14, k15, k16, k17, k18, k19, k20, k21, k22, k23, k24⟩ := hSw); go_simp; (try with_reducible rfl))
  try simp only [Act.put, List.setIfInBounds_toArray, List.set_cons_zero, List.set_cons_succ]
  refine held_take (i := 15) (v := ?_) rfl (by kernel_rfl) (by kernel_rfl) (by kernel_rfl) (by rfl) (by first | assumption | exact True.intro) ?_ ?_
  rotate_left
  · (intro w hSw; (try dsimp only at hSw); (try obtain ⟨k0, k1, k2, k3, k4, k5, k6, k7, k8, k9, k10, k11, k12, k13, k14, k15, k16, k17, k18, k19, k20, k21, k22, k23, k24⟩ := hSw); go_simp; (try with_reducible rfl))
  try simp only [Act.put, List.setIfInBounds_toArray, List.set_cons_zero, List.set_cons_succ]
  refine held_op (i := 16) (by kernel_rfl) rfl (fun K hK => ?_)
  go_simp
  go_at_call 106
  (with_reducible refine (HSN.out _ (HY.out.trans (Ext.trans (ext_dr13 w) hx1))).mono ?_)
  rintro e2 w2 ⟨r, rfl, hc2, hq2⟩
  refine hK _ _ ?_ (fun hHeld3 => ?_)
  · exact HS1.out _ ((HA.out.ext (Ext.trans (ext_dr13 w) hx1)).chg hc2 HNO.out.1) ((HC.out.ext (Ext.trans (ext_dr13 w) hx1)).chg hc2 HNO.out.2.1 HNO.out.2.2.1 HNO.out.2.2.2.1) ((hc2.block _ (H7.out.ext (Ext.trans (ext_dr13 w) hx1)).lt HNO.out.2.2.2.2.1).trans (H7.out.ext (Ext.trans (ext_dr13 w) hx1))) ⟨(hc2.block _ (HF.out.ext (Ext.trans (ext_dr13 w) hx1)).is_.lt HNO.out.2.2.2.2.2.1).trans (HF.out.ext (Ext.trans (ext_dr13 w) hx1)).is_, (hc2.block _ (HF.out.ext (Ext.trans (ext_dr13 w) hx1)).long.lt HNO.out.2.2.2.2.2.2).trans (HF.out.ext (Ext.trans (ext_dr13 w) hx1)).long, HF.out.off⟩
  clear hK K hHeld2
  try simp only [Act.put, List.setIfInBounds_toArray, List.set_cons_zero, List.set_cons_succ]
  refine held_take (i := 17) (v := ?_) rfl (by kernel_rfl) (by kernel_rfl) (by kernel_rfl) (by rfl) (by first | assumption | exact True.intro) ?_ ?_
  rotate_left
  · (intro w hSw; (try dsimp only at hSw); (try obtain ⟨k0, k1, k2, k3, k4, k5, k6, k7, k8, k9, k10, k11, k12, k13, k14, k15, k16, k17, k18, k19, k20, k21, k22, k23, k24⟩ := hSw); go_simp; (try with_reducible rfl))
  try simp only [Act.put, List.setIfInBounds_toArray, List.set_cons_zero, List.set_cons_succ]
  refine wpAnyH_done (by kernel_rfl) ?_ _
  refine NoPanic.normal ?_
  clear hHeld3
  have HX1 := Lib.hid (Ext.trans (ext_dr13 w) hx1)
  have ha3 := (HA.out.ext HX1.out).chg hc2 HNO.out.1
  have f3 := ha3.blk.frozen 3
  have c3 := ha3.cells.2.2.2.1
  have q4 := ((HC.out.ext HX1.out).chg hc2 HNO.out.2.1 HNO.out.2.2.1 HNO.out.2.2.2.1).ptr.cell1
  have HQ2 : Hid (∀ (K : Fp) (W' : World), (∀ k, K k → w0.heap.size ≤ k ∧ k < w.heap.size) → Chg K w2 W' → Q r W') := Lib.hid fun K W' hK hc => hq2 K W' (fun k hk => ⟨(hK k hk).1, Nat.lt_of_lt_of_le (hK k hk).2 HX1.out.size⟩) hc
  have HC2 : Hid (Chg G w w2) := Lib.hid ((Chg.of_ext (F := G) HX1.out).trans hc2 (fun _ _ h => h))
  have hq := (WB.start ha3.blk).set 3 (.int .i64 3)
  simp only [List.setIfInBounds_toArray, List.set_cons_zero, List.set_cons_succ] at hq
  have HW : Hid (AgAt (w2.setCell ⟨g, 3, none⟩ (.int .i64 3)) g { a with mode := 3 } ∧ Chg (fun k => k = g) w2 (w2.setCell ⟨g, 3, none⟩ (.int .i64 3))) := Lib.hid ⟨⟨hq.blk⟩, hq.chg⟩
  have HA3 := Lib.hid ha3
  clear hq hq2 hc2 ha3 hx1
  by_cases hr : r = 0
  · have dr : (r == 0) = true := by rw [hr]; rfl
    have HR := Lib.hid hr
    clear hr
    go_wp2
    go_end0
    refine ⟨r, rfl, by rw [if_pos HR.out]; exact HW.out.1, (HC2.out.mono fun k _ hk => Or.inr hk).trans (HW.out.2.mono fun k _ hk => Or.inl hk) (fun _ _ h => h), fun K W' hK hc => HQ2.out (fun k => k = g ∨ K k) W' (fun k hk => ?_) ((HW.out.2.mono fun k _ hk => Or.inl hk).trans (hc.mono fun k _ hk => Or.inr hk) (fun _ _ h => h))⟩
    rcases hk with rfl | hk
    · exact HGW.out
    · exact hK k hk
  · have dr : (r == 0) = false := by simpa using hr
    have HR := Lib.hid hr
    clear hr
    go_wp2
    go_end0
    exact ⟨r, rfl, by rw [if_neg HR.out]; exact HA3.out, HC2.out.mono fun k _ hk => Or.inr hk, HQ2.out⟩

end Go.Proofs.Ytkkmldoohokdfaa

/- Package agent: what an order to take does to an agent. -/
namespace Go.Proofs.Ytkkmldoohokdfaa
open Go.RowKit

set_option maxRecDepth 100000 in
set_option maxHeartbeats 4000000 in
/-- Take. -/
theorem take13_any (g p4 p5 p6 p9 p10 : Nat) (a : Ag) (m : Ms) (now : Int) (w : World) (ha : AgAt w g a) (hc : CapAt w g p4 p5 p6 m now) (hf : FnAt w g p4 p5 p9 p10) :
    Calls Try.prog 103 #[.pointer (some ⟨p4, 0, none⟩), .pointer (some ⟨p5, 0, none⟩), .pointer (some ⟨p6, 0, none⟩), .pointer (some ⟨p9, 0, none⟩), .pointer (some ⟨p10, 0, none⟩)] w fun e w' => e = .returned (.tuple #[]) ∧ AgAt w' g (if a.mode = 0 ∧ a.ver = m.ver ∧ now < m.til then { a with mode := 1, job := m.job, inc := m.inc, lease := m.til } else if isA a m 1 = true ∨ isA a m 2 = true then longA a m else a) ∧ Chg (fun k => k = g) w w' := by
  have HA := Lib.hid ha
  have HC := Lib.hid hc
  have HF := Lib.hid hf
  obtain ⟨-, -, -, c3, -, -, c6, -, -, -⟩ := ha.cells
  obtain ⟨-, -, -, -, -, -, m6, -, m8, -, -⟩ := hc.msg.cells
  have q4_ := hc.ptr.cell1
  have q6 := hc.time.cell1
  clear ha hc hf
  obtain ⟨R, hR⟩ : ∃ R, R = if a.mode = 0 ∧ a.ver = m.ver ∧ now < m.til then { a with mode := 1, job := m.job, inc := m.inc, lease := m.til } else if isA a m 1 = true ∨ isA a m 2 = true then longA a m else a := ⟨_, rfl⟩
  rw [← hR]
  by_cases h0 : a.mode = 0
  · have d0 : (a.mode == 0) = true := by rw [h0]; rfl
    by_cases hv : a.ver = m.ver
    · have dv : (a.ver == m.ver) = true := by rw [hv]; simp
      by_cases hl : now < m.til
      · have dl : decide (now < m.til) = true := decide_eq_true hl
        have HR := Lib.hid (hR.trans (if_pos ⟨h0, hv, hl⟩))
        clear h0 hv hl hR
        go_enter Try.func103, Try.ntmps103
        go_wp2_with fail
        go_quiet (fail)
        have hx0 : Ext w (w.drewN nq) := Below.drewN' (Ext.refl w) nq
        generalize w.drewN nq = w0 at *
        clear c3 c6 m6 m8 q4_ q6
        have ha1 := HA.out.ext hx0
        have hc1 := HC.out.ext hx0
        obtain ⟨-, -, -, c3, c4, c5, -, c7, -, -⟩ := ha1.cells
        obtain ⟨-, -, -, -, m4, m5, -, -, m8, -, -⟩ := hc1.msg.cells
        have f3 := ha1.blk.frozen 3
        have f4 := ha1.blk.frozen 4
        have f5 := ha1.blk.frozen 5
        have f7 := ha1.blk.frozen 7
        have q4 := hc1.ptr.cell1
        have n5 : ¬ p5 = g := fun e => HC.out.off.2.1 e.symm
        have n5' : ¬ g = p5 := HC.out.off.2.1
        have n4 : ¬ p4 = g := fun e => HC.out.off.1 e.symm
        have n4' : ¬ g = p4 := HC.out.off.1
        have HQ : Hid (AgAt ((((w0.setCell ⟨g, 3, none⟩ (.int .i64 (1))).setCell ⟨g, 4, none⟩ (.int .i64 (m.job))).setCell ⟨g, 5, none⟩ (.int .i64 (m.inc))).setCell ⟨g, 7, none⟩ (.int .i64 (m.til))).drew g ({ a with mode := 1, job := m.job, inc := m.inc, lease := m.til }) ∧ Chg (fun k => k = g) w ((((w0.setCell ⟨g, 3, none⟩ (.int .i64 (1))).setCell ⟨g, 4, none⟩ (.int .i64 (m.job))).setCell ⟨g, 5, none⟩ (.int .i64 (m.inc))).setCell ⟨g, 7, none⟩ (.int .i64 (m.til))).drew) := Lib.hid (by
          have hq := (((((WB.start ha1.blk).set 3 (.int .i64 (1))).set 4 (.int .i64 (m.job))).set 5 (.int .i64 (m.inc))).set 7 (.int .i64 (m.til)))
          simp only [List.setIfInBounds_toArray, List.set_cons_zero, List.set_cons_succ] at hq
          exact ⟨⟨hq.blk⟩, (Chg.of_ext (F := fun k => k = g) (hx0)).trans hq.chg.drew (fun _ _ h => h)⟩)
        clear ha1 hc1
        clear hx0
        go_wp2_with fail
        go_region
        all_goals (try go_wp2)
        all_goals go_end0
        all_goals exact ⟨rfl, by rw [HR.out]; exact HQ.out.1, HQ.out.2⟩
      · have dl : decide (now < m.til) = false := decide_eq_false hl
        rw [if_neg (fun hc => hl hc.2.2)] at hR
        clear h0 hv hl
        go_enter Try.func103, Try.ntmps103
        go_wp2_with fail
        go_quiet (fail)
        have hx0 : Ext w (w.drewN nq) := Below.drewN' (Ext.refl w) nq
        generalize w.drewN nq = w0 at *
        have q9 := (HF.out.ext hx0).is_.cell1
        have HI := Lib.hid (is13_any g p4 p5 p6 a m now 1 w0 (HA.out.ext hx0) (HC.out.ext hx0))
        have HX0 := Lib.hid hx0
        clear hx0 c3 c6 m6 m8 q4_ q6
        cases h1 : isA a m 1 with
        | true =>
          have HR := Lib.hid (hR.trans (if_pos (.inl h1)))
          clear hR
          rw [h1] at HI
          clear h1
          go_wp2_with fail
          refine HI.out.mono ?_
          rintro e1 w2 ⟨rfl, hx1⟩
          have HX2 := Lib.hid (HX0.out.trans hx1)
          clear hx1 HI
          have q10 := (HF.out.ext HX2.out).long.cell1
          have HL := Lib.hid (lengthen_any g p4 p5 p6 a m now w2 (HA.out.ext HX2.out) (HC.out.ext HX2.out))
          go_wp2_with fail
          refine HL.out.mono ?_
          rintro e3 w3 ⟨rfl, h1, h2⟩
          have H1 := Lib.hid (And.intro h1 ((Chg.of_ext (F := fun k => k = g) HX2.out).trans h2 (fun _ _ h => h)))
          clear h1 h2 HL
          go_wp2
          go_end0
          exact ⟨rfl, by rw [HR.out]; exact H1.out.1, H1.out.2⟩
        | false =>
          rw [h1] at HI
          go_wp2_with fail
          refine HI.out.mono ?_
          rintro e1 w1 ⟨rfl, hx1⟩
          have HX1 := Lib.hid (HX0.out.trans hx1)
          clear hx1 HI q9
          have HI2 := Lib.hid (is13_any g p4 p5 p6 a m now 2 w1 (HA.out.ext HX1.out) (HC.out.ext HX1.out))
          have q9' := (HF.out.ext HX1.out).is_.cell1
          cases h2 : isA a m 2 with
          | true =>
            have HR := Lib.hid (hR.trans (if_pos (.inr h2)))
            clear hR
            rw [h2] at HI2
            clear h1 h2
            go_wp2_with fail
            refine HI2.out.mono ?_
            rintro e2 w2 ⟨rfl, hx2⟩
            have HX2 := Lib.hid (HX1.out.trans hx2)
            clear hx2 HI2 q9'
            have q10 := (HF.out.ext HX2.out).long.cell1
            have HL := Lib.hid (lengthen_any g p4 p5 p6 a m now w2 (HA.out.ext HX2.out) (HC.out.ext HX2.out))
            go_wp2_with fail
            refine HL.out.mono ?_
            rintro e3 w3 ⟨rfl, h1, h2⟩
            have H1 := Lib.hid (And.intro h1 ((Chg.of_ext (F := fun k => k = g) HX2.out).trans h2 (fun _ _ h => h)))
            clear h1 h2 HL
            go_wp2
            go_end0
            exact ⟨rfl, by rw [HR.out]; exact H1.out.1, H1.out.2⟩
          | false =>
            have HR := Lib.hid (hR.trans (if_neg (by rw [h1, h2]; decide)))
            clear hR
            rw [h2] at HI2
            clear h1 h2
            go_wp2_with fail
            refine HI2.out.mono ?_
            rintro e2 w2 ⟨rfl, hx2⟩
            have HX2 := Lib.hid (HX1.out.trans hx2)
            clear hx2 HI2 q9'
            go_wp2
            go_end0
            exact ⟨rfl, by rw [HR.out]; exact HA.out.ext HX2.out, Chg.of_ext HX2.out⟩
    · have dv : (a.ver == m.ver) = false := by simpa using hv
      rw [if_neg (fun hc => hv hc.2.1)] at hR
      clear h0 hv
      go_enter Try.func103, Try.ntmps103
      go_wp2_with fail
      go_quiet (fail)
      have hx0 : Ext w (w.drewN nq) := Below.drewN' (Ext.refl w) nq
      generalize w.drewN nq = w0 at *
      have q9 := (HF.out.ext hx0).is_.cell1
      have HI := Lib.hid (is13_any g p4 p5 p6 a m now 1 w0 (HA.out.ext hx0) (HC.out.ext hx0))
      have HX0 := Lib.hid hx0
      clear hx0 c3 c6 m6 m8 q4_ q6
      cases h1 : isA a m 1 with
      | true =>
        have HR := Lib.hid (hR.trans (if_pos (.inl h1)))
        clear hR
        rw [h1] at HI
        clear h1
        go_wp2_with fail
        refine HI.out.mono ?_
        rintro e1 w2 ⟨rfl, hx1⟩
        have HX2 := Lib.hid (HX0.out.trans hx1)
        clear hx1 HI
        have q10 := (HF.out.ext HX2.out).long.cell1
        have HL := Lib.hid (lengthen_any g p4 p5 p6 a m now w2 (HA.out.ext HX2.out) (HC.out.ext HX2.out))
        go_wp2_with fail
        refine HL.out.mono ?_
        rintro e3 w3 ⟨rfl, h1, h2⟩
        have H1 := Lib.hid (And.intro h1 ((Chg.of_ext (F := fun k => k = g) HX2.out).trans h2 (fun _ _ h => h)))
        clear h1 h2 HL
        go_wp2
        go_end0
        exact ⟨rfl, by rw [HR.out]; exact H1.out.1, H1.out.2⟩
      | false =>
        rw [h1] at HI
        go_wp2_with fail
        refine HI.out.mono ?_
        rintro e1 w1 ⟨rfl, hx1⟩
        have HX1 := Lib.hid (HX0.out.trans hx1)
        clear hx1 HI q9
        have HI2 := Lib.hid (is13_any g p4 p5 p6 a m now 2 w1 (HA.out.ext HX1.out) (HC.out.ext HX1.out))
        have q9' := (HF.out.ext HX1.out).is_.cell1
        cases h2 : isA a m 2 with
        | true =>
          have HR := Lib.hid (hR.trans (if_pos (.inr h2)))
          clear hR
          rw [h2] at HI2
          clear h1 h2
          go_wp2_with fail
          refine HI2.out.mono ?_
          rintro e2 w2 ⟨rfl, hx2⟩
          have HX2 := Lib.hid (HX1.out.trans hx2)
          clear hx2 HI2 q9'
          have q10 := (HF.out.ext HX2.out).long.cell1
          have HL := Lib.hid (lengthen_any g p4 p5 p6 a m now w2 (HA.out.ext HX2.out) (HC.out.ext HX2.out))
          go_wp2_with fail
          refine HL.out.mono ?_
          rintro e3 w3 ⟨rfl, h1, h2⟩
          have H1 := Lib.hid (And.intro h1 ((Chg.of_ext (F := fun k => k = g) HX2.out).trans h2 (fun _ _ h => h)))
          clear h1 h2 HL
          go_wp2
          go_end0
          exact ⟨rfl, by rw [HR.out]; exact H1.out.1, H1.out.2⟩
        | false =>
          have HR := Lib.hid (hR.trans (if_neg (by rw [h1, h2]; decide)))
          clear hR
          rw [h2] at HI2
          clear h1 h2
          go_wp2_with fail
          refine HI2.out.mono ?_
          rintro e2 w2 ⟨rfl, hx2⟩
          have HX2 := Lib.hid (HX1.out.trans hx2)
          clear hx2 HI2 q9'
          go_wp2
          go_end0
          exact ⟨rfl, by rw [HR.out]; exact HA.out.ext HX2.out, Chg.of_ext HX2.out⟩
  · have d0 : (a.mode == 0) = false := by simpa using h0
    rw [if_neg (fun hc => h0 hc.1)] at hR
    clear h0
    go_enter Try.func103, Try.ntmps103
    go_wp2_with fail
    go_quiet (fail)
    have hx0 : Ext w (w.drewN nq) := Below.drewN' (Ext.refl w) nq
    generalize w.drewN nq = w0 at *
    have q9 := (HF.out.ext hx0).is_.cell1
    have HI := Lib.hid (is13_any g p4 p5 p6 a m now 1 w0 (HA.out.ext hx0) (HC.out.ext hx0))
    have HX0 := Lib.hid hx0
    clear hx0 c3 c6 m6 m8 q4_ q6
    cases h1 : isA a m 1 with
    | true =>
      have HR := Lib.hid (hR.trans (if_pos (.inl h1)))
      clear hR
      rw [h1] at HI
      clear h1
      go_wp2_with fail
      refine HI.out.mono ?_
      rintro e1 w2 ⟨rfl, hx1⟩
      have HX2 := Lib.hid (HX0.out.trans hx1)
      clear hx1 HI
      have q10 := (HF.out.ext HX2.out).long.cell1
      have HL := Lib.hid (lengthen_any g p4 p5 p6 a m now w2 (HA.out.ext HX2.out) (HC.out.ext HX2.out))
      go_wp2_with fail
      refine HL.out.mono ?_
      rintro e3 w3 ⟨rfl, h1, h2⟩
      have H1 := Lib.hid (And.intro h1 ((Chg.of_ext (F := fun k => k = g) HX2.out).trans h2 (fun _ _ h => h)))
      clear h1 h2 HL
      go_wp2
      go_end0
      exact ⟨rfl, by rw [HR.out]; exact H1.out.1, H1.out.2⟩
    | false =>
      rw [h1] at HI
      go_wp2_with fail
      refine HI.out.mono ?_
      rintro e1 w1 ⟨rfl, hx1⟩
      have HX1 := Lib.hid (HX0.out.trans hx1)
      clear hx1 HI q9
      have HI2 := Lib.hid (is13_any g p4 p5 p6 a m now 2 w1 (HA.out.ext HX1.out) (HC.out.ext HX1.out))
      have q9' := (HF.out.ext HX1.out).is_.cell1
      cases h2 : isA a m 2 with
      | true =>
        have HR := Lib.hid (hR.trans (if_pos (.inr h2)))
        clear hR
        rw [h2] at HI2
        clear h1 h2
        go_wp2_with fail
        refine HI2.out.mono ?_
        rintro e2 w2 ⟨rfl, hx2⟩
        have HX2 := Lib.hid (HX1.out.trans hx2)
        clear hx2 HI2 q9'
        have q10 := (HF.out.ext HX2.out).long.cell1
        have HL := Lib.hid (lengthen_any g p4 p5 p6 a m now w2 (HA.out.ext HX2.out) (HC.out.ext HX2.out))
        go_wp2_with fail
        refine HL.out.mono ?_
        rintro e3 w3 ⟨rfl, h1, h2⟩
        have H1 := Lib.hid (And.intro h1 ((Chg.of_ext (F := fun k => k = g) HX2.out).trans h2 (fun _ _ h => h)))
        clear h1 h2 HL
        go_wp2
        go_end0
        exact ⟨rfl, by rw [HR.out]; exact H1.out.1, H1.out.2⟩
      | false =>
        have HR := Lib.hid (hR.trans (if_neg (by rw [h1, h2]; decide)))
        clear hR
        rw [h2] at HI2
        clear h1 h2
        go_wp2_with fail
        refine HI2.out.mono ?_
        rintro e2 w2 ⟨rfl, hx2⟩
        have HX2 := Lib.hid (HX1.out.trans hx2)
        clear hx2 HI2 q9'
        go_wp2
        go_end0
        exact ⟨rfl, by rw [HR.out]; exact HA.out.ext HX2.out, Chg.of_ext HX2.out⟩

end Go.Proofs.Ytkkmldoohokdfaa
