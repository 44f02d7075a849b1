/- Texts that the proof of K rests on, one behind the other. -/
import Derived.Test.YtkkmldoohokdfaaKQ9

/- Package agent: Take. -/
namespace Go.Proofs.Ytkkmldoohokdfaa
open Go.RowKit Go.Maps

theorem nilF_nil (w : World) : (binOp .eql 1 .nilFunc .nilFunc).run Try.prog w = .ok (.bool true) w := by kernel_rfl
theorem nilF_func (fn : Fn) (f c : Array Value) (w : World) : (binOp .eql 1 (.func fn f c) .nilFunc).run Try.prog w = .ok (.bool false) w := by kernel_rfl
def asksA (a : Ag) (m : Ms) (now : Int) : Bool := goesA a m && dueA a m now && decide (m.mode = 1)
theorem toldA_is (a : Ag) (m : Ms) (k : Int) : isA (toldA a m) m k = isA a m k := rfl
theorem results_three {fn : Func} {p q r : Tmp} {t u s : TypeId} (h : fn.results = #[.cell p t, .cell q u, .cell r s]) (tmps : Array Value) (P : Program) (w : World) :
    (results fn tmps).run P w =
      ((asAddr (tmps.getD p undef)).run P w).andThen fun a w₁ => ((loadVar t a).run P w₁).andThen fun v w₂ => ((asAddr (tmps.getD q undef)).run P w₂).andThen fun a' w₃ => ((loadVar u a').run P w₃).andThen fun v' w₄ =>
        ((asAddr (tmps.getD r undef)).run P w₄).andThen fun a'' w₅ => ((loadVar s a'').run P w₅).andThen fun v'' w₆ => .ok (.tuple #[v, v', v'']) w₆ := by
  simp only [results, h]
  simp [Sem.run_bind, Result.andThen]
set_option maxRecDepth 100000 in
theorem run_three {fn : Func} (h : fn.results = #[.cell 10 56, .cell 11 49, .cell 12 4]) {tmps : Array Value} {w : World} {g1 g2 g3 : Nat} {ca cm : Array Value} {b : Bool}
    (h1 : tmps.getD 10 undef = .pointer (some ⟨g1, 0, none⟩)) (h2 : tmps.getD 11 undef = .pointer (some ⟨g2, 0, none⟩)) (h3 : tmps.getD 12 undef = .pointer (some ⟨g3, 0, none⟩))
    (hb1 : Blk w g1 56 ca) (s1 : ca.size = 10) (hb2 : Blk w g2 49 cm) (s2 : cm.size = 11) (hb3 : Blk w g3 4 #[.bool b]) :
    (results fn tmps).run Try.prog w = .ok (.tuple #[.agg ca, .agg cm, .bool b]) w := by
  have e3 := hb3.cell1
  have i1 : (Try.prog.info? 56).map (·.size) = some ca.size := by rw [s1]; exact infoA_
  have i2 : (Try.prog.info? 49).map (·.size) = some cm.size := by rw [s2]; exact infoM_
  rw [results_three h, h1, h2, h3]
  simp only [asAddr, Sem.run_pure, Result.andThen_ok, run_loadVar_row w g1 56 56 _ (0, 0) _ hb1 rfl rfl i1, run_loadVar_row w g2 49 49 _ (0, 0) _ hb2 rfl rfl i2]
  simp [go_sem, e3]
/-- What Take answers. -/
structure TakeQ (a : Ag) (m : Ms) (node now : Int) (G : Fp) (Q : Int → World → Prop) (w : World) (e : Ending) (w' : World) : Prop where
  out : ∃ sv : Bool, e = .returned (.tuple #[agV (takeA a m now sv), msV (if goesA a m = true then tellA (takeA a m now sv) node else zMs), .bool (goesA a m)]) ∧
    (asksA a m now = false → sv = true ∧ Ext w w') ∧ (asksA a m now = true → ∃ r : Int, sv = (r == 0) ∧ Q r w' ∧ Chg G w w')

set_option maxRecDepth 100000 in
set_option maxHeartbeats 4000000 in
theorem take_kind (a : Ag) (m : Ms) (node now : Int) (sp : Option Addr) (w : World) (hkb : -9223372036854775808 ≤ m.kind ∧ m.kind ≤ 9223372036854775807) (hk : ¬ (1 ≤ m.kind ∧ m.kind ≤ 5)) :
    Calls Try.prog 35 #[agV a, .int .i64 node, msV m, .int .i64 now, .pointer sp] w fun e w' => e = .returned (.tuple #[agV a, msV zMs, .bool false]) ∧ Ext w w' := by
  have HKB := Lib.hid hkb
  have HP : Hid (∀ q, pickOf q m.kind = .nilFunc) := Lib.hid fun q => by unfold pickOf pickF; rw [if_neg (by omega), if_neg (by omega), if_neg (by omega), if_neg (by omega), if_neg (by omega)]
  clear hkb hk
  obtain ⟨W, hW⟩ : ∃ W, W = ((((((w.alloc (.cells #[.bool a.up, .int .i64 a.term, .int .i64 a.gen, .int .i64 a.mode, .int .i64 a.job, .int .i64 a.inc, .int .i64 a.ver, .int .i64 a.lease, .int .i64 a.worked, .int .i64 a.aim] 56)).alloc (.cells #[.int .i64 node] 3)).alloc (.cells #[.int .i64 m.node, .int .i64 m.kind, .int .i64 m.term, .int .i64 m.gen, .int .i64 m.job, .int .i64 m.inc, .int .i64 m.ver, .int .i64 m.epoch, .int .i64 m.til, .int .i64 m.mode, .int .i64 m.work] 49)).alloc (.cells #[.bool false, .int .i64 0, .int .i64 0, .int .i64 0, .int .i64 0, .int .i64 0, .int .i64 0, .int .i64 0, .int .i64 0, .int .i64 0] 56)).alloc (.cells #[.int .i64 0, .int .i64 0, .int .i64 0, .int .i64 0, .int .i64 0, .int .i64 0, .int .i64 0, .int .i64 0, .int .i64 0, .int .i64 0, .int .i64 0] 49)).alloc (.cells #[.bool false] 4)) := ⟨_, rfl⟩
  obtain ⟨b0, b1, b2, b3, b4, b5, hx, hz⟩ := six_blocks w _ _ _ _ _ _ _ _ _ _ _ _ W hW
  have HA : Hid (AgAt W w.heap.size a) := Lib.hid ⟨b0⟩
  have HNO : Hid (Blk W (w.heap.size + 1) 3 #[.int .i64 node]) := Lib.hid b1
  have HM : Hid (MsAt W (w.heap.size + 1 + 1) m) := Lib.hid ⟨b2⟩
  have HB3 : Hid (Blk W (w.heap.size + 1 + 1 + 1) 56 #[.bool false, .int .i64 0, .int .i64 0, .int .i64 0, .int .i64 0, .int .i64 0, .int .i64 0, .int .i64 0, .int .i64 0, .int .i64 0]) := Lib.hid b3
  have HB4 : Hid (Blk W (w.heap.size + 1 + 1 + 1 + 1) 49 #[.int .i64 0, .int .i64 0, .int .i64 0, .int .i64 0, .int .i64 0, .int .i64 0, .int .i64 0, .int .i64 0, .int .i64 0, .int .i64 0, .int .i64 0]) := Lib.hid b4
  have HB5 : Hid (Blk W (w.heap.size + 1 + 1 + 1 + 1 + 1) 4 #[.bool false]) := Lib.hid b5
  have HX := Lib.hid hx
  have HZ := Lib.hid hz
  obtain ⟨q, hq⟩ : ∃ q, q = W.drew.heap.size := ⟨_, rfl⟩
  have HQ : Hid (q = w.heap.size + 6) := Lib.hid (by rw [hq]; exact hz)
  have HT := Lib.hid (takers_any w.heap.size m now sp W.drew (by rw [← hq]; have := HQ.out; omega))
  rw [← hq] at HT
  unfold msV at HT
  have HS : Hid (∀ W', Ext W W' → W'.cell? ⟨w.heap.size + 1 + 1, 0, none⟩ = some (.int .i64 m.node) ∧ W'.cell? ⟨w.heap.size + 1 + 1, 1, none⟩ = some (.int .i64 m.kind) ∧ W'.cell? ⟨w.heap.size + 1 + 1, 2, none⟩ = some (.int .i64 m.term) ∧ W'.cell? ⟨w.heap.size + 1 + 1, 3, none⟩ = some (.int .i64 m.gen) ∧ W'.cell? ⟨w.heap.size + 1 + 1, 4, none⟩ = some (.int .i64 m.job) ∧ W'.cell? ⟨w.heap.size + 1 + 1, 5, none⟩ = some (.int .i64 m.inc) ∧ W'.cell? ⟨w.heap.size + 1 + 1, 6, none⟩ = some (.int .i64 m.ver) ∧ W'.cell? ⟨w.heap.size + 1 + 1, 7, none⟩ = some (.int .i64 m.epoch) ∧ W'.cell? ⟨w.heap.size + 1 + 1, 8, none⟩ = some (.int .i64 m.til) ∧ W'.cell? ⟨w.heap.size + 1 + 1, 9, none⟩ = some (.int .i64 m.mode) ∧ W'.cell? ⟨w.heap.size + 1 + 1, 10, none⟩ = some (.int .i64 m.work)) := Lib.hid fun W' h => ⟨(HM.out.ext h).blk.cell 0, (HM.out.ext h).blk.cell 1, (HM.out.ext h).blk.cell 2, (HM.out.ext h).blk.cell 3, (HM.out.ext h).blk.cell 4, (HM.out.ext h).blk.cell 5, (HM.out.ext h).blk.cell 6, (HM.out.ext h).blk.cell 7, (HM.out.ext h).blk.cell 8, (HM.out.ext h).blk.cell 9, (HM.out.ext h).blk.cell 10⟩
  have hmf : ∀ (fn : Fn) (first cap : Array Value) (w : World), (Instr.makeFunc fn first cap).run Try.prog w = .ok (.func fn first cap) w := fun _ _ _ _ => rfl
  have hbn := nilF_nil
  have hbf := nilF_func
  clear hx hz b0 b1 b2 b3 b4 b5 hq
  unfold agV msV
  go_enter_defers Try.func35, Try.ntmps35
  go_upto_region 2 with (fail)
  rw [← hW]
  clear hW hmf
  refine held_begin (by kernel_rfl) ?_
  have hHeld0 : True := True.intro
  refine held_more (S' := fun (W' : World) => W'.cell? ⟨w.heap.size + 1 + 1, 0, none⟩ = some (.int .i64 m.node) ∧ W'.cell? ⟨w.heap.size + 1 + 1, 1, none⟩ = some (.int .i64 m.kind) ∧ W'.cell? ⟨w.heap.size + 1 + 1, 2, none⟩ = some (.int .i64 m.term) ∧ W'.cell? ⟨w.heap.size + 1 + 1, 3, none⟩ = some (.int .i64 m.gen) ∧ W'.cell? ⟨w.heap.size + 1 + 1, 4, none⟩ = some (.int .i64 m.job) ∧ W'.cell? ⟨w.heap.size + 1 + 1, 5, none⟩ = some (.int .i64 m.inc) ∧ W'.cell? ⟨w.heap.size + 1 + 1, 6, none⟩ = some (.int .i64 m.ver) ∧ W'.cell? ⟨w.heap.size + 1 + 1, 7, none⟩ = some (.int .i64 m.epoch) ∧ W'.cell? ⟨w.heap.size + 1 + 1, 8, none⟩ = some (.int .i64 m.til) ∧ W'.cell? ⟨w.heap.size + 1 + 1, 9, none⟩ = some (.int .i64 m.mode) ∧ W'.cell? ⟨w.heap.size + 1 + 1, 10, none⟩ = some (.int .i64 m.work)) (fun _ _ => True.intro) ?_
  have hHeld1 : (fun (W' : World) => W'.cell? ⟨w.heap.size + 1 + 1, 0, none⟩ = some (.int .i64 m.node) ∧ W'.cell? ⟨w.heap.size + 1 + 1, 1, none⟩ = some (.int .i64 m.kind) ∧ W'.cell? ⟨w.heap.size + 1 + 1, 2, none⟩ = some (.int .i64 m.term) ∧ W'.cell? ⟨w.heap.size + 1 + 1, 3, none⟩ = some (.int .i64 m.gen) ∧ W'.cell? ⟨w.heap.size + 1 + 1, 4, none⟩ = some (.int .i64 m.job) ∧ W'.cell? ⟨w.heap.size + 1 + 1, 5, none⟩ = some (.int .i64 m.inc) ∧ W'.cell? ⟨w.heap.size + 1 + 1, 6, none⟩ = some (.int .i64 m.ver) ∧ W'.cell? ⟨w.heap.size + 1 + 1, 7, none⟩ = some (.int .i64 m.epoch) ∧ W'.cell? ⟨w.heap.size + 1 + 1, 8, none⟩ = some (.int .i64 m.til) ∧ W'.cell? ⟨w.heap.size + 1 + 1, 9, none⟩ = some (.int .i64 m.mode) ∧ W'.cell? ⟨w.heap.size + 1 + 1, 10, none⟩ = some (.int .i64 m.work)) _ := HS.out _ (ext_dr13 W)
  clear hHeld0
  refine held_take (i := 0) (v := ?_) rfl (by kernel_rfl) (by kernel_rfl) (by kernel_rfl) (by rfl) (by first | assumption | exact True.intro) ?_ ?_
  rotate_left
  · (intro w hSw; (try dsimp only at hSw); (try obtain ⟨k0, k1, k2, k3, k4, k5, k6, k7, k8, k9, k10⟩ := hSw); go_simp; (try with_reducible rfl))
  try simp only [Act.put, List.setIfInBounds_toArray, List.set_cons_zero, List.set_cons_succ]
  refine held_take (i := 1) (v := ?_) rfl (by kernel_rfl) (by kernel_rfl) (by kernel_rfl) (by rfl) (by first | assumption | exact True.intro) ?_ ?_
  rotate_left
  · (intro w hSw; (try dsimp only at hSw); (try obtain ⟨k0, k1, k2, k3, k4, k5, k6, k7, k8, k9, k10⟩ := hSw); go_simp; (try with_reducible rfl))
  try simp only [Act.put, List.setIfInBounds_toArray, List.set_cons_zero, List.set_cons_succ]
  refine held_take (i := 2) (v := ?_) rfl (by kernel_rfl) (by kernel_rfl) (by kernel_rfl) (by rfl) (by first | assumption | exact True.intro) ?_ ?_
  rotate_left
  · (intro w hSw; (try dsimp only at hSw); (try obtain ⟨k0, k1, k2, k3, k4, k5, k6, k7, k8, k9, k10⟩ := hSw); go_simp; (try with_reducible rfl))
  try simp only [Act.put, List.setIfInBounds_toArray, List.set_cons_zero, List.set_cons_succ]
  refine held_take (i := 4) (v := ?_) rfl (by kernel_rfl) (by kernel_rfl) (by kernel_rfl) (by rfl) (by first | assumption | exact True.intro) ?_ ?_
  rotate_left
  · (intro w hSw; (try dsimp only at hSw); (try obtain ⟨k0, k1, k2, k3, k4, k5, k6, k7, k8, k9, k10⟩ := hSw); go_simp; (try with_reducible rfl))
  try simp only [Act.put, List.setIfInBounds_toArray, List.set_cons_zero, List.set_cons_succ]
  refine held_take (i := 5) (v := ?_) rfl (by kernel_rfl) (by kernel_rfl) (by kernel_rfl) (by rfl) (by first | assumption | exact True.intro) ?_ ?_
  rotate_left
  · (intro w hSw; (try dsimp only at hSw); (try obtain ⟨k0, k1, k2, k3, k4, k5, k6, k7, k8, k9, k10⟩ := hSw); go_simp; (try with_reducible rfl))
  try simp only [Act.put, List.setIfInBounds_toArray, List.set_cons_zero, List.set_cons_succ]
  refine held_op (i := 3) (by kernel_rfl) rfl (fun K hK => ?_)
  go_simp
  go_at_call 75
  (with_reducible refine (HT.out).mono ?_)
  rintro e1 w1 ⟨b, rfl, hown, htk, hx1⟩
  refine hK _ _ ?_ (fun hHeld2 => ?_)
  · exact HS.out _ (Ext.trans (ext_dr13 W) hx1)
  clear hK K hHeld1
  try simp only [Act.put, List.setIfInBounds_toArray, List.set_cons_zero, List.set_cons_succ]
  refine held_op (i := 6) (by kernel_rfl) rfl (fun K hK => ?_)
  have hlk := takers_at m.kind (by have := HKB.out; omega) hown
  rw [HP.out q] at hlk
  go_simp
  refine hK _ _ ?_ (fun hHeld3 => ?_)
  · exact HS.out _ (Ext.trans (ext_dr13 W) hx1)
  clear hK K hHeld2
  try simp only [Act.put, List.setIfInBounds_toArray, List.set_cons_zero, List.set_cons_succ]
  refine held_take (i := 7) (v := ?_) rfl (by kernel_rfl) (by kernel_rfl) (by kernel_rfl) (by rfl) (by first | assumption | exact True.intro) ?_ ?_
  rotate_left
  · (intro w hSw; (try dsimp only at hSw); (try obtain ⟨k0, k1, k2, k3, k4, k5, k6, k7, k8, k9, k10⟩ := hSw); go_simp; (try with_reducible rfl))
  try simp only [Act.put, List.setIfInBounds_toArray, List.set_cons_zero, List.set_cons_succ]
  refine wpAnyH_done (by kernel_rfl) ?_ _
  refine NoPanic.normal ?_
  clear hHeld3
  have HX1 := Lib.hid (Ext.trans (ext_dr13 W) hx1)
  have HTK := Lib.hid htk
  clear hx1 htk hown hlk HT HS
  have HA1 := Lib.hid (HA.out.ext HX1.out)
  have HB31 := Lib.hid (HB3.out.ext HX1.out)
  have HB41 := Lib.hid (HB4.out.ext HX1.out)
  have HB51 := Lib.hid (HB5.out.ext HX1.out)
  obtain ⟨c0, c1, c2, c3, c4, c5, c6, c7, c8, c9⟩ := HA1.out.cells
  have HO1 := Lib.hid (agA_one (a))
  have HI1 := Lib.hid infoA_
  have HO2 := Lib.hid (msA_one zMs)
  have HI2 := Lib.hid infoM_
  have HF4 : Hid (∀ W', Chg (fun k => k = w.heap.size + 1 + 1 + 1) w1 W' → Blk W' (w.heap.size + 1 + 1 + 1 + 1) 49 #[.int .i64 0, .int .i64 0, .int .i64 0, .int .i64 0, .int .i64 0, .int .i64 0, .int .i64 0, .int .i64 0, .int .i64 0, .int .i64 0, .int .i64 0]) := Lib.hid fun W' h => (h.block _ HB41.out.lt (by intro h; have h : w.heap.size + 1 + 1 + 1 + 1 = w.heap.size + 1 + 1 + 1 := h; omega)).trans HB41.out
  have HF5 : Hid (∀ W' W'', Chg (fun k => k = w.heap.size + 1 + 1 + 1) w1 W' → Chg (fun k => k = w.heap.size + 1 + 1 + 1 + 1) W' W'' → Blk W'' (w.heap.size + 1 + 1 + 1 + 1 + 1) 4 #[.bool false]) := Lib.hid fun W' W'' h1 h2 => by
    have h3 := (h1.block _ HB51.out.lt (by intro h; have h : w.heap.size + 1 + 1 + 1 + 1 + 1 = w.heap.size + 1 + 1 + 1 := h; omega)).trans HB51.out
    exact (h2.block _ (Nat.lt_of_lt_of_le HB51.out.lt h1.size) (by intro h; have h : w.heap.size + 1 + 1 + 1 + 1 + 1 = w.heap.size + 1 + 1 + 1 + 1 := h; omega)).trans h3
  go_wp2_with (first | (refine wpList_storeC rfl 56 _ _ rfl (w.heap.size + 1 + 1 + 1) (agA (a)) rfl rfl 56 _ HB31.out HI1.out rfl HO1.out ?_; intro wa hba hca) | (refine wpList_storeC rfl 49 _ _ rfl (w.heap.size + 1 + 1 + 1 + 1) (msA zMs) rfl rfl 49 _ (HF4.out _ hca) HI2.out rfl HO2.out ?_; intro wb hbb hcb; have y0 := (HF5.out _ _ hca hcb).cell1; have y1 := (HF5.out _ _ hca hcb).frozen 0))
  skip
  have hb5 := HF5.out _ _ hca hcb
  have hq5 := (WB.start hb5).set 0 (.bool false)
  simp only [List.setIfInBounds_toArray, List.set_cons_zero] at hq5
  obtain ⟨wc, hwc⟩ : ∃ W, W = wb.setCell ⟨w.heap.size + 1 + 1 + 1 + 1 + 1, 0, none⟩ (.bool false) := ⟨_, rfl⟩
  rw [← hwc] at hq5 ⊢
  clear hwc hb5
  have hA : Blk wc (w.heap.size + 1 + 1 + 1) 56 (agA (a)) := (hq5.chg.block _ (Nat.lt_of_lt_of_le hba.lt hcb.size) (by intro h; have h : w.heap.size + 1 + 1 + 1 = w.heap.size + 1 + 1 + 1 + 1 + 1 := h; omega)).trans ((hcb.block _ hba.lt (by intro h; have h : w.heap.size + 1 + 1 + 1 = w.heap.size + 1 + 1 + 1 + 1 := h; omega)).trans hba)
  have hM : Blk wc (w.heap.size + 1 + 1 + 1 + 1) 49 (msA zMs) := (hq5.chg.block _ hbb.lt (by intro h; have h : w.heap.size + 1 + 1 + 1 + 1 = w.heap.size + 1 + 1 + 1 + 1 + 1 := h; omega)).trans hbb
  have hK : Chg (fun k => w.heap.size ≤ k ∧ k < w.heap.size + 6) w1 wc := ((hca.mono fun k _ hk => by have hk : k = w.heap.size + 1 + 1 + 1 := hk; omega).trans (hcb.mono fun k _ hk => by have hk : k = w.heap.size + 1 + 1 + 1 + 1 := hk; omega) (fun _ _ h => h)).trans (hq5.chg.mono fun k _ hk => by have hk : k = w.heap.size + 1 + 1 + 1 + 1 + 1 := hk; omega) (fun _ _ h => h)
  refine leaves_cons (f := 74) (args := #[.pointer (some ⟨w.heap.size + 1 + 1 + 1 + 1 + 1, 0, none⟩), .pointer (some ⟨w.heap.size + 1 + 1 + 1, 0, none⟩), .pointer (some ⟨w.heap.size + 1, 0, none⟩), .pointer (some ⟨w.heap.size + 1 + 1 + 1 + 1, 0, none⟩)]) (by simp) (by simp [go_sem]) ?_
  refine (told_no (w.heap.size + 1 + 1 + 1 + 1 + 1) (w.heap.size + 1 + 1 + 1) (w.heap.size + 1) (w.heap.size + 1 + 1 + 1 + 1) wc hq5.blk).mono ?_
  rintro e u' w'' ⟨rfl, rfl, rfl⟩
  exact ⟨_, run_three rfl rfl rfl rfl hA rfl hM rfl hq5.blk, rfl, hK.ext (HX.out.trans HX1.out) (fun k hk => hk.1)⟩

set_option maxRecDepth 100000 in
set_option maxHeartbeats 4000000 in
theorem take_down (a : Ag) (m : Ms) (node now : Int) (sp : Option Addr) (w : World) (hk : 1 ≤ m.kind ∧ m.kind ≤ 5) (hu : a.up = false) :
    Calls Try.prog 35 #[agV a, .int .i64 node, msV m, .int .i64 now, .pointer sp] w fun e w' => e = .returned (.tuple #[agV a, msV zMs, .bool false]) ∧ Ext w w' := by
  have HKB : Hid (-9223372036854775808 ≤ m.kind ∧ m.kind ≤ 9223372036854775807) := Lib.hid (by omega)
  have HP : Hid (∀ q, ∃ fn fa fb, pickOf q m.kind = .func fn fa fb) := Lib.hid fun q => by
    have h : m.kind = 1 ∨ m.kind = 2 ∨ m.kind = 3 ∨ m.kind = 4 ∨ m.kind = 5 := by omega
    unfold pickOf pickF
    rcases h with h | h | h | h | h <;> rw [h] <;> exact ⟨_, _, _, rfl⟩
  have HU := Lib.hid hu
  clear hk hu
  obtain ⟨W, hW⟩ : ∃ W, W = ((((((w.alloc (.cells #[.bool false, .int .i64 a.term, .int .i64 a.gen, .int .i64 a.mode, .int .i64 a.job, .int .i64 a.inc, .int .i64 a.ver, .int .i64 a.lease, .int .i64 a.worked, .int .i64 a.aim] 56)).alloc (.cells #[.int .i64 node] 3)).alloc (.cells #[.int .i64 m.node, .int .i64 m.kind, .int .i64 m.term, .int .i64 m.gen, .int .i64 m.job, .int .i64 m.inc, .int .i64 m.ver, .int .i64 m.epoch, .int .i64 m.til, .int .i64 m.mode, .int .i64 m.work] 49)).alloc (.cells #[.bool false, .int .i64 0, .int .i64 0, .int .i64 0, .int .i64 0, .int .i64 0, .int .i64 0, .int .i64 0, .int .i64 0, .int .i64 0] 56)).alloc (.cells #[.int .i64 0, .int .i64 0, .int .i64 0, .int .i64 0, .int .i64 0, .int .i64 0, .int .i64 0, .int .i64 0, .int .i64 0, .int .i64 0, .int .i64 0] 49)).alloc (.cells #[.bool false] 4)) := ⟨_, rfl⟩
  obtain ⟨b0, b1, b2, b3, b4, b5, hx, hz⟩ := six_blocks w _ _ _ _ _ _ _ _ _ _ _ _ W hW
  have HA : Hid (AgAt W w.heap.size a) := Lib.hid ⟨by rw [HU.out]; exact b0⟩
  have HNO : Hid (Blk W (w.heap.size + 1) 3 #[.int .i64 node]) := Lib.hid b1
  have HM : Hid (MsAt W (w.heap.size + 1 + 1) m) := Lib.hid ⟨b2⟩
  have HB3 : Hid (Blk W (w.heap.size + 1 + 1 + 1) 56 #[.bool false, .int .i64 0, .int .i64 0, .int .i64 0, .int .i64 0, .int .i64 0, .int .i64 0, .int .i64 0, .int .i64 0, .int .i64 0]) := Lib.hid b3
  have HB4 : Hid (Blk W (w.heap.size + 1 + 1 + 1 + 1) 49 #[.int .i64 0, .int .i64 0, .int .i64 0, .int .i64 0, .int .i64 0, .int .i64 0, .int .i64 0, .int .i64 0, .int .i64 0, .int .i64 0, .int .i64 0]) := Lib.hid b4
  have HB5 : Hid (Blk W (w.heap.size + 1 + 1 + 1 + 1 + 1) 4 #[.bool false]) := Lib.hid b5
  have HX := Lib.hid hx
  have HZ := Lib.hid hz
  obtain ⟨q, hq⟩ : ∃ q, q = W.drew.heap.size := ⟨_, rfl⟩
  have HQ : Hid (q = w.heap.size + 6) := Lib.hid (by rw [hq]; exact hz)
  have HT := Lib.hid (takers_any w.heap.size m now sp W.drew (by rw [← hq]; have := HQ.out; omega))
  rw [← hq] at HT
  unfold msV at HT
  have HS : Hid (∀ W', Ext W W' → W'.cell? ⟨w.heap.size + 1 + 1, 0, none⟩ = some (.int .i64 m.node) ∧ W'.cell? ⟨w.heap.size + 1 + 1, 1, none⟩ = some (.int .i64 m.kind) ∧ W'.cell? ⟨w.heap.size + 1 + 1, 2, none⟩ = some (.int .i64 m.term) ∧ W'.cell? ⟨w.heap.size + 1 + 1, 3, none⟩ = some (.int .i64 m.gen) ∧ W'.cell? ⟨w.heap.size + 1 + 1, 4, none⟩ = some (.int .i64 m.job) ∧ W'.cell? ⟨w.heap.size + 1 + 1, 5, none⟩ = some (.int .i64 m.inc) ∧ W'.cell? ⟨w.heap.size + 1 + 1, 6, none⟩ = some (.int .i64 m.ver) ∧ W'.cell? ⟨w.heap.size + 1 + 1, 7, none⟩ = some (.int .i64 m.epoch) ∧ W'.cell? ⟨w.heap.size + 1 + 1, 8, none⟩ = some (.int .i64 m.til) ∧ W'.cell? ⟨w.heap.size + 1 + 1, 9, none⟩ = some (.int .i64 m.mode) ∧ W'.cell? ⟨w.heap.size + 1 + 1, 10, none⟩ = some (.int .i64 m.work)) := Lib.hid fun W' h => ⟨(HM.out.ext h).blk.cell 0, (HM.out.ext h).blk.cell 1, (HM.out.ext h).blk.cell 2, (HM.out.ext h).blk.cell 3, (HM.out.ext h).blk.cell 4, (HM.out.ext h).blk.cell 5, (HM.out.ext h).blk.cell 6, (HM.out.ext h).blk.cell 7, (HM.out.ext h).blk.cell 8, (HM.out.ext h).blk.cell 9, (HM.out.ext h).blk.cell 10⟩
  have hmf : ∀ (fn : Fn) (first cap : Array Value) (w : World), (Instr.makeFunc fn first cap).run Try.prog w = .ok (.func fn first cap) w := fun _ _ _ _ => rfl
  have hbn := nilF_nil
  have hbf := nilF_func
  clear hx hz b0 b1 b2 b3 b4 b5 hq
  unfold agV msV
  rw [HU.out]
  go_enter_defers Try.func35, Try.ntmps35
  go_upto_region 2 with (fail)
  rw [← hW]
  clear hW hmf
  refine held_begin (by kernel_rfl) ?_
  have hHeld0 : True := True.intro
  refine held_more (S' := fun (W' : World) => W'.cell? ⟨w.heap.size + 1 + 1, 0, none⟩ = some (.int .i64 m.node) ∧ W'.cell? ⟨w.heap.size + 1 + 1, 1, none⟩ = some (.int .i64 m.kind) ∧ W'.cell? ⟨w.heap.size + 1 + 1, 2, none⟩ = some (.int .i64 m.term) ∧ W'.cell? ⟨w.heap.size + 1 + 1, 3, none⟩ = some (.int .i64 m.gen) ∧ W'.cell? ⟨w.heap.size + 1 + 1, 4, none⟩ = some (.int .i64 m.job) ∧ W'.cell? ⟨w.heap.size + 1 + 1, 5, none⟩ = some (.int .i64 m.inc) ∧ W'.cell? ⟨w.heap.size + 1 + 1, 6, none⟩ = some (.int .i64 m.ver) ∧ W'.cell? ⟨w.heap.size + 1 + 1, 7, none⟩ = some (.int .i64 m.epoch) ∧ W'.cell? ⟨w.heap.size + 1 + 1, 8, none⟩ = some (.int .i64 m.til) ∧ W'.cell? ⟨w.heap.size + 1 + 1, 9, none⟩ = some (.int .i64 m.mode) ∧ W'.cell? ⟨w.heap.size + 1 + 1, 10, none⟩ = some (.int .i64 m.work)) (fun _ _ => True.intro) ?_
  have hHeld1 : (fun (W' : World) => W'.cell? ⟨w.heap.size + 1 + 1, 0, none⟩ = some (.int .i64 m.node) ∧ W'.cell? ⟨w.heap.size + 1 + 1, 1, none⟩ = some (.int .i64 m.kind) ∧ W'.cell? ⟨w.heap.size + 1 + 1, 2, none⟩ = some (.int .i64 m.term) ∧ W'.cell? ⟨w.heap.size + 1 + 1, 3, none⟩ = some (.int .i64 m.gen) ∧ W'.cell? ⟨w.heap.size + 1 + 1, 4, none⟩ = some (.int .i64 m.job) ∧ W'.cell? ⟨w.heap.size + 1 + 1, 5, none⟩ = some (.int .i64 m.inc) ∧ W'.cell? ⟨w.heap.size + 1 + 1, 6, none⟩ = some (.int .i64 m.ver) ∧ W'.cell? ⟨w.heap.size + 1 + 1, 7, none⟩ = some (.int .i64 m.epoch) ∧ W'.cell? ⟨w.heap.size + 1 + 1, 8, none⟩ = some (.int .i64 m.til) ∧ W'.cell? ⟨w.heap.size + 1 + 1, 9, none⟩ = some (.int .i64 m.mode) ∧ W'.cell? ⟨w.heap.size + 1 + 1, 10, none⟩ = some (.int .i64 m.work)) _ := HS.out _ (ext_dr13 W)
  clear hHeld0
  refine held_take (i := 0) (v := ?_) rfl (by kernel_rfl) (by kernel_rfl) (by kernel_rfl) (by rfl) (by first | assumption | exact True.intro) ?_ ?_
  rotate_left
  · (intro w hSw; (try dsimp only at hSw); (try obtain ⟨k0, k1, k2, k3, k4, k5, k6, k7, k8, k9, k10⟩ := hSw); go_simp; (try with_reducible rfl))
  try simp only [Act.put, List.setIfInBounds_toArray, List.set_cons_zero, List.set_cons_succ]
  refine held_take (i := 1) (v := ?_) rfl (by kernel_rfl) (by kernel_rfl) (by kernel_rfl) (by rfl) (by first | assumption | exact True.intro) ?_ ?_
  rotate_left
  · (intro w hSw; (try dsimp only at hSw); (try obtain ⟨k0, k1, k2, k3, k4, k5, k6, k7, k8, k9, k10⟩ := hSw); go_simp; (try with_reducible rfl))
  try simp only [Act.put, List.setIfInBounds_toArray, List.set_cons_zero, List.set_cons_succ]
  refine held_take (i := 2) (v := ?_) rfl (by kernel_rfl) (by kernel_rfl) (by kernel_rfl) (by rfl) (by first | assumption | exact True.intro) ?_ ?_
  rotate_left
  · (intro w hSw; (try dsimp only at hSw); (try obtain ⟨k0, k1, k2, k3, k4, k5, k6, k7, k8, k9, k10⟩ := hSw); go_simp; (try with_reducible rfl))
  try simp only [Act.put, List.setIfInBounds_toArray, List.set_cons_zero, List.set_cons_succ]
  refine held_take (i := 4) (v := ?_) rfl (by kernel_rfl) (by kernel_rfl) (by kernel_rfl) (by rfl) (by first | assumption | exact True.intro) ?_ ?_
  rotate_left
  · (intro w hSw; (try dsimp only at hSw); (try obtain ⟨k0, k1, k2, k3, k4, k5, k6, k7, k8, k9, k10⟩ := hSw); go_simp; (try with_reducible rfl))
  try simp only [Act.put, List.setIfInBounds_toArray, List.set_cons_zero, List.set_cons_succ]
  refine held_take (i := 5) (v := ?_) rfl (by kernel_rfl) (by kernel_rfl) (by kernel_rfl) (by rfl) (by first | assumption | exact True.intro) ?_ ?_
  rotate_left
  · (intro w hSw; (try dsimp only at hSw); (try obtain ⟨k0, k1, k2, k3, k4, k5, k6, k7, k8, k9, k10⟩ := hSw); go_simp; (try with_reducible rfl))
  try simp only [Act.put, List.setIfInBounds_toArray, List.set_cons_zero, List.set_cons_succ]
  refine held_op (i := 3) (by kernel_rfl) rfl (fun K hK => ?_)
  go_simp
  go_at_call 75
  (with_reducible refine (HT.out).mono ?_)
  rintro e1 w1 ⟨b, rfl, hown, htk, hx1⟩
  refine hK _ _ ?_ (fun hHeld2 => ?_)
  · exact HS.out _ (Ext.trans (ext_dr13 W) hx1)
  clear hK K hHeld1
  try simp only [Act.put, List.setIfInBounds_toArray, List.set_cons_zero, List.set_cons_succ]
  refine held_op (i := 6) (by kernel_rfl) rfl (fun K hK => ?_)
  have hlk := takers_at m.kind (by have := HKB.out; omega) hown
  obtain ⟨fn, fa, fb, hp⟩ := HP.out q
  rw [hp] at hlk
  clear hp
  go_simp
  refine hK _ _ ?_ (fun hHeld3 => ?_)
  · exact HS.out _ (Ext.trans (ext_dr13 W) hx1)
  clear hK K hHeld2
  try simp only [Act.put, List.setIfInBounds_toArray, List.set_cons_zero, List.set_cons_succ]
  refine held_take (i := 7) (v := ?_) rfl (by kernel_rfl) (by kernel_rfl) (by kernel_rfl) (by rfl) (by first | assumption | exact True.intro) ?_ ?_
  rotate_left
  · (intro w hSw; (try dsimp only at hSw); (try obtain ⟨k0, k1, k2, k3, k4, k5, k6, k7, k8, k9, k10⟩ := hSw); go_simp; (try with_reducible rfl))
  try simp only [Act.put, List.setIfInBounds_toArray, List.set_cons_zero, List.set_cons_succ]
  refine wpAnyH_done (by kernel_rfl) ?_ _
  refine NoPanic.normal ?_
  clear hHeld3
  have HX1 := Lib.hid (Ext.trans (ext_dr13 W) hx1)
  have HTK := Lib.hid htk
  clear hx1 htk hown hlk HT HS
  have HA1 := Lib.hid (HA.out.ext HX1.out)
  have HB31 := Lib.hid (HB3.out.ext HX1.out)
  have HB41 := Lib.hid (HB4.out.ext HX1.out)
  have HB51 := Lib.hid (HB5.out.ext HX1.out)
  obtain ⟨c0, c1, c2, c3, c4, c5, c6, c7, c8, c9⟩ := HA1.out.cells
  rw [HU.out] at c0
  have HO1 := Lib.hid (agA_one ({ a with up := false }))
  have HI1 := Lib.hid infoA_
  have HO2 := Lib.hid (msA_one zMs)
  have HI2 := Lib.hid infoM_
  have HF4 : Hid (∀ W', Chg (fun k => k = w.heap.size + 1 + 1 + 1) w1 W' → Blk W' (w.heap.size + 1 + 1 + 1 + 1) 49 #[.int .i64 0, .int .i64 0, .int .i64 0, .int .i64 0, .int .i64 0, .int .i64 0, .int .i64 0, .int .i64 0, .int .i64 0, .int .i64 0, .int .i64 0]) := Lib.hid fun W' h => (h.block _ HB41.out.lt (by intro h; have h : w.heap.size + 1 + 1 + 1 + 1 = w.heap.size + 1 + 1 + 1 := h; omega)).trans HB41.out
  have HF5 : Hid (∀ W' W'', Chg (fun k => k = w.heap.size + 1 + 1 + 1) w1 W' → Chg (fun k => k = w.heap.size + 1 + 1 + 1 + 1) W' W'' → Blk W'' (w.heap.size + 1 + 1 + 1 + 1 + 1) 4 #[.bool false]) := Lib.hid fun W' W'' h1 h2 => by
    have h3 := (h1.block _ HB51.out.lt (by intro h; have h : w.heap.size + 1 + 1 + 1 + 1 + 1 = w.heap.size + 1 + 1 + 1 := h; omega)).trans HB51.out
    exact (h2.block _ (Nat.lt_of_lt_of_le HB51.out.lt h1.size) (by intro h; have h : w.heap.size + 1 + 1 + 1 + 1 + 1 = w.heap.size + 1 + 1 + 1 + 1 := h; omega)).trans h3
  go_wp2_with (first | (refine wpList_storeC rfl 56 _ _ rfl (w.heap.size + 1 + 1 + 1) (agA ({ a with up := false })) rfl rfl 56 _ HB31.out HI1.out rfl HO1.out ?_; intro wa hba hca) | (refine wpList_storeC rfl 49 _ _ rfl (w.heap.size + 1 + 1 + 1 + 1) (msA zMs) rfl rfl 49 _ (HF4.out _ hca) HI2.out rfl HO2.out ?_; intro wb hbb hcb; have y0 := (HF5.out _ _ hca hcb).cell1; have y1 := (HF5.out _ _ hca hcb).frozen 0))
  skip
  have hb5 := HF5.out _ _ hca hcb
  have hq5 := (WB.start hb5).set 0 (.bool false)
  simp only [List.setIfInBounds_toArray, List.set_cons_zero] at hq5
  obtain ⟨wc, hwc⟩ : ∃ W, W = wb.setCell ⟨w.heap.size + 1 + 1 + 1 + 1 + 1, 0, none⟩ (.bool false) := ⟨_, rfl⟩
  rw [← hwc] at hq5 ⊢
  clear hwc hb5
  have hA : Blk wc (w.heap.size + 1 + 1 + 1) 56 (agA ({ a with up := false })) := (hq5.chg.block _ (Nat.lt_of_lt_of_le hba.lt hcb.size) (by intro h; have h : w.heap.size + 1 + 1 + 1 = w.heap.size + 1 + 1 + 1 + 1 + 1 := h; omega)).trans ((hcb.block _ hba.lt (by intro h; have h : w.heap.size + 1 + 1 + 1 = w.heap.size + 1 + 1 + 1 + 1 := h; omega)).trans hba)
  have hM : Blk wc (w.heap.size + 1 + 1 + 1 + 1) 49 (msA zMs) := (hq5.chg.block _ hbb.lt (by intro h; have h : w.heap.size + 1 + 1 + 1 + 1 = w.heap.size + 1 + 1 + 1 + 1 + 1 := h; omega)).trans hbb
  have hK : Chg (fun k => w.heap.size ≤ k ∧ k < w.heap.size + 6) w1 wc := ((hca.mono fun k _ hk => by have hk : k = w.heap.size + 1 + 1 + 1 := hk; omega).trans (hcb.mono fun k _ hk => by have hk : k = w.heap.size + 1 + 1 + 1 + 1 := hk; omega) (fun _ _ h => h)).trans (hq5.chg.mono fun k _ hk => by have hk : k = w.heap.size + 1 + 1 + 1 + 1 + 1 := hk; omega) (fun _ _ h => h)
  refine leaves_cons (f := 74) (args := #[.pointer (some ⟨w.heap.size + 1 + 1 + 1 + 1 + 1, 0, none⟩), .pointer (some ⟨w.heap.size + 1 + 1 + 1, 0, none⟩), .pointer (some ⟨w.heap.size + 1, 0, none⟩), .pointer (some ⟨w.heap.size + 1 + 1 + 1 + 1, 0, none⟩)]) (by simp) (by simp [go_sem]) ?_
  refine (told_no (w.heap.size + 1 + 1 + 1 + 1 + 1) (w.heap.size + 1 + 1 + 1) (w.heap.size + 1) (w.heap.size + 1 + 1 + 1 + 1) wc hq5.blk).mono ?_
  rintro e u' w'' ⟨rfl, rfl, rfl⟩
  exact ⟨_, run_three rfl rfl rfl rfl hA rfl hM rfl hq5.blk, rfl, hK.ext (HX.out.trans HX1.out) (fun k hk => hk.1)⟩

set_option maxRecDepth 100000 in
set_option maxHeartbeats 4000000 in
theorem take_elder (a : Ag) (m : Ms) (node now : Int) (sp : Option Addr) (w : World) (hk : 1 ≤ m.kind ∧ m.kind ≤ 5) (hu : a.up = true) (he : elderA a m = true) :
    Calls Try.prog 35 #[agV a, .int .i64 node, msV m, .int .i64 now, .pointer sp] w fun e w' => e = .returned (.tuple #[agV a, msV zMs, .bool false]) ∧ Ext w w' := by
  have HKB : Hid (-9223372036854775808 ≤ m.kind ∧ m.kind ≤ 9223372036854775807) := Lib.hid (by omega)
  have HP : Hid (∀ q, ∃ fn fa fb, pickOf q m.kind = .func fn fa fb) := Lib.hid fun q => by
    have h : m.kind = 1 ∨ m.kind = 2 ∨ m.kind = 3 ∨ m.kind = 4 ∨ m.kind = 5 := by omega
    unfold pickOf pickF
    rcases h with h | h | h | h | h <;> rw [h] <;> exact ⟨_, _, _, rfl⟩
  have HU := Lib.hid hu
  clear hk hu
  obtain ⟨W, hW⟩ : ∃ W, W = ((((((w.alloc (.cells #[.bool true, .int .i64 a.term, .int .i64 a.gen, .int .i64 a.mode, .int .i64 a.job, .int .i64 a.inc, .int .i64 a.ver, .int .i64 a.lease, .int .i64 a.worked, .int .i64 a.aim] 56)).alloc (.cells #[.int .i64 node] 3)).alloc (.cells #[.int .i64 m.node, .int .i64 m.kind, .int .i64 m.term, .int .i64 m.gen, .int .i64 m.job, .int .i64 m.inc, .int .i64 m.ver, .int .i64 m.epoch, .int .i64 m.til, .int .i64 m.mode, .int .i64 m.work] 49)).alloc (.cells #[.bool false, .int .i64 0, .int .i64 0, .int .i64 0, .int .i64 0, .int .i64 0, .int .i64 0, .int .i64 0, .int .i64 0, .int .i64 0] 56)).alloc (.cells #[.int .i64 0, .int .i64 0, .int .i64 0, .int .i64 0, .int .i64 0, .int .i64 0, .int .i64 0, .int .i64 0, .int .i64 0, .int .i64 0, .int .i64 0] 49)).alloc (.cells #[.bool false] 4)) := ⟨_, rfl⟩
  obtain ⟨b0, b1, b2, b3, b4, b5, hx, hz⟩ := six_blocks w _ _ _ _ _ _ _ _ _ _ _ _ W hW
  have HA : Hid (AgAt W w.heap.size a) := Lib.hid ⟨by rw [HU.out]; exact b0⟩
  have HNO : Hid (Blk W (w.heap.size + 1) 3 #[.int .i64 node]) := Lib.hid b1
  have HM : Hid (MsAt W (w.heap.size + 1 + 1) m) := Lib.hid ⟨b2⟩
  have HB3 : Hid (Blk W (w.heap.size + 1 + 1 + 1) 56 #[.bool false, .int .i64 0, .int .i64 0, .int .i64 0, .int .i64 0, .int .i64 0, .int .i64 0, .int .i64 0, .int .i64 0, .int .i64 0]) := Lib.hid b3
  have HB4 : Hid (Blk W (w.heap.size + 1 + 1 + 1 + 1) 49 #[.int .i64 0, .int .i64 0, .int .i64 0, .int .i64 0, .int .i64 0, .int .i64 0, .int .i64 0, .int .i64 0, .int .i64 0, .int .i64 0, .int .i64 0]) := Lib.hid b4
  have HB5 : Hid (Blk W (w.heap.size + 1 + 1 + 1 + 1 + 1) 4 #[.bool false]) := Lib.hid b5
  have HX := Lib.hid hx
  have HZ := Lib.hid hz
  obtain ⟨q, hq⟩ : ∃ q, q = W.drew.heap.size := ⟨_, rfl⟩
  have HQ : Hid (q = w.heap.size + 6) := Lib.hid (by rw [hq]; exact hz)
  have HT := Lib.hid (takers_any w.heap.size m now sp W.drew (by rw [← hq]; have := HQ.out; omega))
  rw [← hq] at HT
  unfold msV at HT
  have HS : Hid (∀ W', Ext W W' → W'.cell? ⟨w.heap.size + 1 + 1, 0, none⟩ = some (.int .i64 m.node) ∧ W'.cell? ⟨w.heap.size + 1 + 1, 1, none⟩ = some (.int .i64 m.kind) ∧ W'.cell? ⟨w.heap.size + 1 + 1, 2, none⟩ = some (.int .i64 m.term) ∧ W'.cell? ⟨w.heap.size + 1 + 1, 3, none⟩ = some (.int .i64 m.gen) ∧ W'.cell? ⟨w.heap.size + 1 + 1, 4, none⟩ = some (.int .i64 m.job) ∧ W'.cell? ⟨w.heap.size + 1 + 1, 5, none⟩ = some (.int .i64 m.inc) ∧ W'.cell? ⟨w.heap.size + 1 + 1, 6, none⟩ = some (.int .i64 m.ver) ∧ W'.cell? ⟨w.heap.size + 1 + 1, 7, none⟩ = some (.int .i64 m.epoch) ∧ W'.cell? ⟨w.heap.size + 1 + 1, 8, none⟩ = some (.int .i64 m.til) ∧ W'.cell? ⟨w.heap.size + 1 + 1, 9, none⟩ = some (.int .i64 m.mode) ∧ W'.cell? ⟨w.heap.size + 1 + 1, 10, none⟩ = some (.int .i64 m.work)) := Lib.hid fun W' h => ⟨(HM.out.ext h).blk.cell 0, (HM.out.ext h).blk.cell 1, (HM.out.ext h).blk.cell 2, (HM.out.ext h).blk.cell 3, (HM.out.ext h).blk.cell 4, (HM.out.ext h).blk.cell 5, (HM.out.ext h).blk.cell 6, (HM.out.ext h).blk.cell 7, (HM.out.ext h).blk.cell 8, (HM.out.ext h).blk.cell 9, (HM.out.ext h).blk.cell 10⟩
  have hmf : ∀ (fn : Fn) (first cap : Array Value) (w : World), (Instr.makeFunc fn first cap).run Try.prog w = .ok (.func fn first cap) w := fun _ _ _ _ => rfl
  have hbn := nilF_nil
  have hbf := nilF_func
  clear hx hz b0 b1 b2 b3 b4 b5 hq
  unfold agV msV
  rw [HU.out]
  go_enter_defers Try.func35, Try.ntmps35
  go_upto_region 2 with (fail)
  rw [← hW]
  clear hW hmf
  refine held_begin (by kernel_rfl) ?_
  have hHeld0 : True := True.intro
  refine held_more (S' := fun (W' : World) => W'.cell? ⟨w.heap.size + 1 + 1, 0, none⟩ = some (.int .i64 m.node) ∧ W'.cell? ⟨w.heap.size + 1 + 1, 1, none⟩ = some (.int .i64 m.kind) ∧ W'.cell? ⟨w.heap.size + 1 + 1, 2, none⟩ = some (.int .i64 m.term) ∧ W'.cell? ⟨w.heap.size + 1 + 1, 3, none⟩ = some (.int .i64 m.gen) ∧ W'.cell? ⟨w.heap.size + 1 + 1, 4, none⟩ = some (.int .i64 m.job) ∧ W'.cell? ⟨w.heap.size + 1 + 1, 5, none⟩ = some (.int .i64 m.inc) ∧ W'.cell? ⟨w.heap.size + 1 + 1, 6, none⟩ = some (.int .i64 m.ver) ∧ W'.cell? ⟨w.heap.size + 1 + 1, 7, none⟩ = some (.int .i64 m.epoch) ∧ W'.cell? ⟨w.heap.size + 1 + 1, 8, none⟩ = some (.int .i64 m.til) ∧ W'.cell? ⟨w.heap.size + 1 + 1, 9, none⟩ = some (.int .i64 m.mode) ∧ W'.cell? ⟨w.heap.size + 1 + 1, 10, none⟩ = some (.int .i64 m.work)) (fun _ _ => True.intro) ?_
  have hHeld1 : (fun (W' : World) => W'.cell? ⟨w.heap.size + 1 + 1, 0, none⟩ = some (.int .i64 m.node) ∧ W'.cell? ⟨w.heap.size + 1 + 1, 1, none⟩ = some (.int .i64 m.kind) ∧ W'.cell? ⟨w.heap.size + 1 + 1, 2, none⟩ = some (.int .i64 m.term) ∧ W'.cell? ⟨w.heap.size + 1 + 1, 3, none⟩ = some (.int .i64 m.gen) ∧ W'.cell? ⟨w.heap.size + 1 + 1, 4, none⟩ = some (.int .i64 m.job) ∧ W'.cell? ⟨w.heap.size + 1 + 1, 5, none⟩ = some (.int .i64 m.inc) ∧ W'.cell? ⟨w.heap.size + 1 + 1, 6, none⟩ = some (.int .i64 m.ver) ∧ W'.cell? ⟨w.heap.size + 1 + 1, 7, none⟩ = some (.int .i64 m.epoch) ∧ W'.cell? ⟨w.heap.size + 1 + 1, 8, none⟩ = some (.int .i64 m.til) ∧ W'.cell? ⟨w.heap.size + 1 + 1, 9, none⟩ = some (.int .i64 m.mode) ∧ W'.cell? ⟨w.heap.size + 1 + 1, 10, none⟩ = some (.int .i64 m.work)) _ := HS.out _ (ext_dr13 W)
  clear hHeld0
  refine held_take (i := 0) (v := ?_) rfl (by kernel_rfl) (by kernel_rfl) (by kernel_rfl) (by rfl) (by first | assumption | exact True.intro) ?_ ?_
  rotate_left
  · (intro w hSw; (try dsimp only at hSw); (try obtain ⟨k0, k1, k2, k3, k4, k5, k6, k7, k8, k9, k10⟩ := hSw); go_simp; (try with_reducible rfl))
  try simp only [Act.put, List.setIfInBounds_toArray, List.set_cons_zero, List.set_cons_succ]
  refine held_take (i := 1) (v := ?_) rfl (by kernel_rfl) (by kernel_rfl) (by kernel_rfl) (by rfl) (by first | assumption | exact True.intro) ?_ ?_
  rotate_left
  · (intro w hSw; (try dsimp only at hSw); (try obtain ⟨k0, k1, k2, k3, k4, k5, k6, k7, k8, k9, k10⟩ := hSw); go_simp; (try with_reducible rfl))
  try simp only [Act.put, List.setIfInBounds_toArray, List.set_cons_zero, List.set_cons_succ]
  refine held_take (i := 2) (v := ?_) rfl (by kernel_rfl) (by kernel_rfl) (by kernel_rfl) (by rfl) (by first | assumption | exact True.intro) ?_ ?_
  rotate_left
  · (intro w hSw; (try dsimp only at hSw); (try obtain ⟨k0, k1, k2, k3, k4, k5, k6, k7, k8, k9, k10⟩ := hSw); go_simp; (try with_reducible rfl))
  try simp only [Act.put, List.setIfInBounds_toArray, List.set_cons_zero, List.set_cons_succ]
  refine held_take (i := 4) (v := ?_) rfl (by kernel_rfl) (by kernel_rfl) (by kernel_rfl) (by rfl) (by first | assumption | exact True.intro) ?_ ?_
  rotate_left
  · (intro w hSw; (try dsimp only at hSw); (try obtain ⟨k0, k1, k2, k3, k4, k5, k6, k7, k8, k9, k10⟩ := hSw); go_simp; (try with_reducible rfl))
  try simp only [Act.put, List.setIfInBounds_toArray, List.set_cons_zero, List.set_cons_succ]
  refine held_take (i := 5) (v := ?_) rfl (by kernel_rfl) (by kernel_rfl) (by kernel_rfl) (by rfl) (by first | assumption | exact True.intro) ?_ ?_
  rotate_left
  · (intro w hSw; (try dsimp only at hSw); (try obtain ⟨k0, k1, k2, k3, k4, k5, k6, k7, k8, k9, k10⟩ := hSw); go_simp; (try with_reducible rfl))
  try simp only [Act.put, List.setIfInBounds_toArray, List.set_cons_zero, List.set_cons_succ]
  refine held_op (i := 3) (by kernel_rfl) rfl (fun K hK => ?_)
  go_simp
  go_at_call 75
  (with_reducible refine (HT.out).mono ?_)
  rintro e1 w1 ⟨b, rfl, hown, htk, hx1⟩
  refine hK _ _ ?_ (fun hHeld2 => ?_)
  · exact HS.out _ (Ext.trans (ext_dr13 W) hx1)
  clear hK K hHeld1
  try simp only [Act.put, List.setIfInBounds_toArray, List.set_cons_zero, List.set_cons_succ]
  refine held_op (i := 6) (by kernel_rfl) rfl (fun K hK => ?_)
  have hlk := takers_at m.kind (by have := HKB.out; omega) hown
  obtain ⟨fn, fa, fb, hp⟩ := HP.out q
  rw [hp] at hlk
  clear hp
  go_simp
  refine hK _ _ ?_ (fun hHeld3 => ?_)
  · exact HS.out _ (Ext.trans (ext_dr13 W) hx1)
  clear hK K hHeld2
  try simp only [Act.put, List.setIfInBounds_toArray, List.set_cons_zero, List.set_cons_succ]
  refine held_take (i := 7) (v := ?_) rfl (by kernel_rfl) (by kernel_rfl) (by kernel_rfl) (by rfl) (by first | assumption | exact True.intro) ?_ ?_
  rotate_left
  · (intro w hSw; (try dsimp only at hSw); (try obtain ⟨k0, k1, k2, k3, k4, k5, k6, k7, k8, k9, k10⟩ := hSw); go_simp; (try with_reducible rfl))
  try simp only [Act.put, List.setIfInBounds_toArray, List.set_cons_zero, List.set_cons_succ]
  refine wpAnyH_done (by kernel_rfl) ?_ _
  refine NoPanic.normal ?_
  clear hHeld3
  have HX1 := Lib.hid (Ext.trans (ext_dr13 W) hx1)
  have HTK := Lib.hid htk
  clear hx1 htk hown hlk HT HS
  have HA1 := Lib.hid (HA.out.ext HX1.out)
  obtain ⟨c0, c1, c2, c3, c4, c5, c6, c7, c8, c9⟩ := HA1.out.cells
  rw [HU.out] at c0
  have HE := Lib.hid (isElder_any a m w1)
  unfold agV msV at HE
  rw [he, HU.out] at HE
  obtain ⟨m0, m1, m2, m3, m4, m5, m6, m7, m8, m9, m10⟩ := (HM.out.ext HX1.out).cells
  clear he
  go_wp2_with fail
  refine HE.out.mono ?_
  rintro e2 w2 ⟨rfl, hx2⟩
  have HX2 := Lib.hid (HX1.out.trans hx2)
  have HX12 := Lib.hid hx2
  clear hx2 HE c0 c1 c2 c3 c4 c5 c6 c7 c8 c9 m0 m1 m2 m3 m4 m5 m6 m7 m8 m9 m10
  have HA2 := Lib.hid (HA.out.ext HX2.out)
  have HB32 := Lib.hid (HB3.out.ext HX2.out)
  have HB42 := Lib.hid (HB4.out.ext HX2.out)
  have HB52 := Lib.hid (HB5.out.ext HX2.out)
  obtain ⟨c0, c1, c2, c3, c4, c5, c6, c7, c8, c9⟩ := HA2.out.cells
  rw [HU.out] at c0
  have HO1 := Lib.hid (agA_one ({ a with up := true }))
  have HI1 := Lib.hid infoA_
  have HO2 := Lib.hid (msA_one zMs)
  have HI2 := Lib.hid infoM_
  have HF4 : Hid (∀ W', Chg (fun k => k = w.heap.size + 1 + 1 + 1) w2 W' → Blk W' (w.heap.size + 1 + 1 + 1 + 1) 49 #[.int .i64 0, .int .i64 0, .int .i64 0, .int .i64 0, .int .i64 0, .int .i64 0, .int .i64 0, .int .i64 0, .int .i64 0, .int .i64 0, .int .i64 0]) := Lib.hid fun W' h => (h.block _ HB42.out.lt (by intro h; have h : w.heap.size + 1 + 1 + 1 + 1 = w.heap.size + 1 + 1 + 1 := h; omega)).trans HB42.out
  have HF5 : Hid (∀ W' W'', Chg (fun k => k = w.heap.size + 1 + 1 + 1) w2 W' → Chg (fun k => k = w.heap.size + 1 + 1 + 1 + 1) W' W'' → Blk W'' (w.heap.size + 1 + 1 + 1 + 1 + 1) 4 #[.bool false]) := Lib.hid fun W' W'' h1 h2 => by
    have h3 := (h1.block _ HB52.out.lt (by intro h; have h : w.heap.size + 1 + 1 + 1 + 1 + 1 = w.heap.size + 1 + 1 + 1 := h; omega)).trans HB52.out
    exact (h2.block _ (Nat.lt_of_lt_of_le HB52.out.lt h1.size) (by intro h; have h : w.heap.size + 1 + 1 + 1 + 1 + 1 = w.heap.size + 1 + 1 + 1 + 1 := h; omega)).trans h3
  go_wp2_with (first | (refine wpList_storeC rfl 56 _ _ rfl (w.heap.size + 1 + 1 + 1) (agA ({ a with up := true })) rfl rfl 56 _ HB32.out HI1.out rfl HO1.out ?_; intro wa hba hca) | (refine wpList_storeC rfl 49 _ _ rfl (w.heap.size + 1 + 1 + 1 + 1) (msA zMs) rfl rfl 49 _ (HF4.out _ hca) HI2.out rfl HO2.out ?_; intro wb hbb hcb; have y0 := (HF5.out _ _ hca hcb).cell1; have y1 := (HF5.out _ _ hca hcb).frozen 0))
  skip
  have hb5 := HF5.out _ _ hca hcb
  have hq5 := (WB.start hb5).set 0 (.bool false)
  simp only [List.setIfInBounds_toArray, List.set_cons_zero] at hq5
  obtain ⟨wc, hwc⟩ : ∃ W, W = wb.setCell ⟨w.heap.size + 1 + 1 + 1 + 1 + 1, 0, none⟩ (.bool false) := ⟨_, rfl⟩
  rw [← hwc] at hq5 ⊢
  clear hwc hb5
  have hA : Blk wc (w.heap.size + 1 + 1 + 1) 56 (agA ({ a with up := true })) := (hq5.chg.block _ (Nat.lt_of_lt_of_le hba.lt hcb.size) (by intro h; have h : w.heap.size + 1 + 1 + 1 = w.heap.size + 1 + 1 + 1 + 1 + 1 := h; omega)).trans ((hcb.block _ hba.lt (by intro h; have h : w.heap.size + 1 + 1 + 1 = w.heap.size + 1 + 1 + 1 + 1 := h; omega)).trans hba)
  have hM : Blk wc (w.heap.size + 1 + 1 + 1 + 1) 49 (msA zMs) := (hq5.chg.block _ hbb.lt (by intro h; have h : w.heap.size + 1 + 1 + 1 + 1 = w.heap.size + 1 + 1 + 1 + 1 + 1 := h; omega)).trans hbb
  have hK : Chg (fun k => w.heap.size ≤ k ∧ k < w.heap.size + 6) w2 wc := ((hca.mono fun k _ hk => by have hk : k = w.heap.size + 1 + 1 + 1 := hk; omega).trans (hcb.mono fun k _ hk => by have hk : k = w.heap.size + 1 + 1 + 1 + 1 := hk; omega) (fun _ _ h => h)).trans (hq5.chg.mono fun k _ hk => by have hk : k = w.heap.size + 1 + 1 + 1 + 1 + 1 := hk; omega) (fun _ _ h => h)
  refine leaves_cons (f := 74) (args := #[.pointer (some ⟨w.heap.size + 1 + 1 + 1 + 1 + 1, 0, none⟩), .pointer (some ⟨w.heap.size + 1 + 1 + 1, 0, none⟩), .pointer (some ⟨w.heap.size + 1, 0, none⟩), .pointer (some ⟨w.heap.size + 1 + 1 + 1 + 1, 0, none⟩)]) (by simp) (by simp [go_sem]) ?_
  refine (told_no (w.heap.size + 1 + 1 + 1 + 1 + 1) (w.heap.size + 1 + 1 + 1) (w.heap.size + 1) (w.heap.size + 1 + 1 + 1 + 1) wc hq5.blk).mono ?_
  rintro e u' w'' ⟨rfl, rfl, rfl⟩
  exact ⟨_, run_three rfl rfl rfl rfl hA rfl hM rfl hq5.blk, by rw [← HU.out]; rfl, hK.ext (HX.out.trans HX2.out) (fun k hk => hk.1)⟩

set_option maxRecDepth 100000 in
set_option maxHeartbeats 4000000 in
theorem take_rest (a : Ag) (m : Ms) (node now : Int) (sp : Option Addr) (G : Fp) (Q : Int → World → Prop) (w : World) (hk : m.kind = 1) (hu : a.up = true) (he : elderA a m = false) :
    Calls Try.prog 35 #[agV a, .int .i64 node, msV m, .int .i64 now, .pointer sp] w (TakeQ a m node now G Q w) := by
  have HKK := Lib.hid hk
  have HKB : Hid (-9223372036854775808 ≤ m.kind ∧ m.kind ≤ 9223372036854775807) := Lib.hid (by omega)
  have HP : Hid (∀ q, pickOf q m.kind = (.func (.func 102) #[] #[.pointer (some ⟨q, 0, none⟩)])) := Lib.hid fun q => by unfold pickOf pickF; rw [hk]; rfl
  have HG : Hid (goesA a m = true) := Lib.hid (by unfold goesA; rw [hu, he, hk]; rfl)
  have HU := Lib.hid hu
  have HAS : Hid (asksA a m now = false) := Lib.hid (by unfold asksA dueA; rw [hk]; simp)
  clear hk hu
  obtain ⟨W, hW⟩ : ∃ W, W = ((((((w.alloc (.cells #[.bool true, .int .i64 a.term, .int .i64 a.gen, .int .i64 a.mode, .int .i64 a.job, .int .i64 a.inc, .int .i64 a.ver, .int .i64 a.lease, .int .i64 a.worked, .int .i64 a.aim] 56)).alloc (.cells #[.int .i64 node] 3)).alloc (.cells #[.int .i64 m.node, .int .i64 m.kind, .int .i64 m.term, .int .i64 m.gen, .int .i64 m.job, .int .i64 m.inc, .int .i64 m.ver, .int .i64 m.epoch, .int .i64 m.til, .int .i64 m.mode, .int .i64 m.work] 49)).alloc (.cells #[.bool false, .int .i64 0, .int .i64 0, .int .i64 0, .int .i64 0, .int .i64 0, .int .i64 0, .int .i64 0, .int .i64 0, .int .i64 0] 56)).alloc (.cells #[.int .i64 0, .int .i64 0, .int .i64 0, .int .i64 0, .int .i64 0, .int .i64 0, .int .i64 0, .int .i64 0, .int .i64 0, .int .i64 0, .int .i64 0] 49)).alloc (.cells #[.bool false] 4)) := ⟨_, rfl⟩
  obtain ⟨b0, b1, b2, b3, b4, b5, hx, hz⟩ := six_blocks w _ _ _ _ _ _ _ _ _ _ _ _ W hW
  have HA : Hid (AgAt W w.heap.size a) := Lib.hid ⟨by rw [HU.out]; exact b0⟩
  have HNO : Hid (Blk W (w.heap.size + 1) 3 #[.int .i64 node]) := Lib.hid b1
  have HM : Hid (MsAt W (w.heap.size + 1 + 1) m) := Lib.hid ⟨b2⟩
  have HB3 : Hid (Blk W (w.heap.size + 1 + 1 + 1) 56 #[.bool false, .int .i64 0, .int .i64 0, .int .i64 0, .int .i64 0, .int .i64 0, .int .i64 0, .int .i64 0, .int .i64 0, .int .i64 0]) := Lib.hid b3
  have HB4 : Hid (Blk W (w.heap.size + 1 + 1 + 1 + 1) 49 #[.int .i64 0, .int .i64 0, .int .i64 0, .int .i64 0, .int .i64 0, .int .i64 0, .int .i64 0, .int .i64 0, .int .i64 0, .int .i64 0, .int .i64 0]) := Lib.hid b4
  have HB5 : Hid (Blk W (w.heap.size + 1 + 1 + 1 + 1 + 1) 4 #[.bool false]) := Lib.hid b5
  have HX := Lib.hid hx
  have HZ := Lib.hid hz
  obtain ⟨q, hq⟩ : ∃ q, q = W.drew.heap.size := ⟨_, rfl⟩
  have HQ : Hid (q = w.heap.size + 6) := Lib.hid (by rw [hq]; exact hz)
  have HT := Lib.hid (takers_any w.heap.size m now sp W.drew (by rw [← hq]; have := HQ.out; omega))
  rw [← hq] at HT
  unfold msV at HT
  have HS : Hid (∀ W', Ext W W' → W'.cell? ⟨w.heap.size + 1 + 1, 0, none⟩ = some (.int .i64 m.node) ∧ W'.cell? ⟨w.heap.size + 1 + 1, 1, none⟩ = some (.int .i64 m.kind) ∧ W'.cell? ⟨w.heap.size + 1 + 1, 2, none⟩ = some (.int .i64 m.term) ∧ W'.cell? ⟨w.heap.size + 1 + 1, 3, none⟩ = some (.int .i64 m.gen) ∧ W'.cell? ⟨w.heap.size + 1 + 1, 4, none⟩ = some (.int .i64 m.job) ∧ W'.cell? ⟨w.heap.size + 1 + 1, 5, none⟩ = some (.int .i64 m.inc) ∧ W'.cell? ⟨w.heap.size + 1 + 1, 6, none⟩ = some (.int .i64 m.ver) ∧ W'.cell? ⟨w.heap.size + 1 + 1, 7, none⟩ = some (.int .i64 m.epoch) ∧ W'.cell? ⟨w.heap.size + 1 + 1, 8, none⟩ = some (.int .i64 m.til) ∧ W'.cell? ⟨w.heap.size + 1 + 1, 9, none⟩ = some (.int .i64 m.mode) ∧ W'.cell? ⟨w.heap.size + 1 + 1, 10, none⟩ = some (.int .i64 m.work)) := Lib.hid fun W' h => ⟨(HM.out.ext h).blk.cell 0, (HM.out.ext h).blk.cell 1, (HM.out.ext h).blk.cell 2, (HM.out.ext h).blk.cell 3, (HM.out.ext h).blk.cell 4, (HM.out.ext h).blk.cell 5, (HM.out.ext h).blk.cell 6, (HM.out.ext h).blk.cell 7, (HM.out.ext h).blk.cell 8, (HM.out.ext h).blk.cell 9, (HM.out.ext h).blk.cell 10⟩
  have hmf : ∀ (fn : Fn) (first cap : Array Value) (w : World), (Instr.makeFunc fn first cap).run Try.prog w = .ok (.func fn first cap) w := fun _ _ _ _ => rfl
  have hbn := nilF_nil
  have hbf := nilF_func
  clear hx hz b0 b1 b2 b3 b4 b5 hq
  unfold agV msV
  rw [HU.out]
  go_enter_defers Try.func35, Try.ntmps35
  go_upto_region 2 with (fail)
  rw [← hW]
  clear hW hmf
  refine held_begin (by kernel_rfl) ?_
  have hHeld0 : True := True.intro
  refine held_more (S' := fun (W' : World) => W'.cell? ⟨w.heap.size + 1 + 1, 0, none⟩ = some (.int .i64 m.node) ∧ W'.cell? ⟨w.heap.size + 1 + 1, 1, none⟩ = some (.int .i64 m.kind) ∧ W'.cell? ⟨w.heap.size + 1 + 1, 2, none⟩ = some (.int .i64 m.term) ∧ W'.cell? ⟨w.heap.size + 1 + 1, 3, none⟩ = some (.int .i64 m.gen) ∧ W'.cell? ⟨w.heap.size + 1 + 1, 4, none⟩ = some (.int .i64 m.job) ∧ W'.cell? ⟨w.heap.size + 1 + 1, 5, none⟩ = some (.int .i64 m.inc) ∧ W'.cell? ⟨w.heap.size + 1 + 1, 6, none⟩ = some (.int .i64 m.ver) ∧ W'.cell? ⟨w.heap.size + 1 + 1, 7, none⟩ = some (.int .i64 m.epoch) ∧ W'.cell? ⟨w.heap.size + 1 + 1, 8, none⟩ = some (.int .i64 m.til) ∧ W'.cell? ⟨w.heap.size + 1 + 1, 9, none⟩ = some (.int .i64 m.mode) ∧ W'.cell? ⟨w.heap.size + 1 + 1, 10, none⟩ = some (.int .i64 m.work)) (fun _ _ => True.intro) ?_
  have hHeld1 : (fun (W' : World) => W'.cell? ⟨w.heap.size + 1 + 1, 0, none⟩ = some (.int .i64 m.node) ∧ W'.cell? ⟨w.heap.size + 1 + 1, 1, none⟩ = some (.int .i64 m.kind) ∧ W'.cell? ⟨w.heap.size + 1 + 1, 2, none⟩ = some (.int .i64 m.term) ∧ W'.cell? ⟨w.heap.size + 1 + 1, 3, none⟩ = some (.int .i64 m.gen) ∧ W'.cell? ⟨w.heap.size + 1 + 1, 4, none⟩ = some (.int .i64 m.job) ∧ W'.cell? ⟨w.heap.size + 1 + 1, 5, none⟩ = some (.int .i64 m.inc) ∧ W'.cell? ⟨w.heap.size + 1 + 1, 6, none⟩ = some (.int .i64 m.ver) ∧ W'.cell? ⟨w.heap.size + 1 + 1, 7, none⟩ = some (.int .i64 m.epoch) ∧ W'.cell? ⟨w.heap.size + 1 + 1, 8, none⟩ = some (.int .i64 m.til) ∧ W'.cell? ⟨w.heap.size + 1 + 1, 9, none⟩ = some (.int .i64 m.mode) ∧ W'.cell? ⟨w.heap.size + 1 + 1, 10, none⟩ = some (.int .i64 m.work)) _ := HS.out _ (ext_dr13 W)
  clear hHeld0
  refine held_take (i := 0) (v := ?_) rfl (by kernel_rfl) (by kernel_rfl) (by kernel_rfl) (by rfl) (by first | assumption | exact True.intro) ?_ ?_
  rotate_left
  · (intro w hSw; (try dsimp only at hSw); (try obtain ⟨k0, k1, k2, k3, k4, k5, k6, k7, k8, k9, k10⟩ := hSw); go_simp; (try with_reducible rfl))
  try simp only [Act.put, List.setIfInBounds_toArray, List.set_cons_zero, List.set_cons_succ]
  refine held_take (i := 1) (v := ?_) rfl (by kernel_rfl) (by kernel_rfl) (by kernel_rfl) (by rfl) (by first | assumption | exact True.intro) ?_ ?_
  rotate_left
  · (intro w hSw; (try dsimp only at hSw); (try obtain ⟨k0, k1, k2, k3, k4, k5, k6, k7, k8, k9, k10⟩ := hSw); go_simp; (try with_reducible rfl))
  try simp only [Act.put, List.setIfInBounds_toArray, List.set_cons_zero, List.set_cons_succ]
  refine held_take (i := 2) (v := ?_) rfl (by kernel_rfl) (by kernel_rfl) (by kernel_rfl) (by rfl) (by first | assumption | exact True.intro) ?_ ?_
  rotate_left
  · (intro w hSw; (try dsimp only at hSw); (try obtain ⟨k0, k1, k2, k3, k4, k5, k6, k7, k8, k9, k10⟩ := hSw); go_simp; (try with_reducible rfl))
  try simp only [Act.put, List.setIfInBounds_toArray, List.set_cons_zero, List.set_cons_succ]
  refine held_take (i := 4) (v := ?_) rfl (by kernel_rfl) (by kernel_rfl) (by kernel_rfl) (by rfl) (by first | assumption | exact True.intro) ?_ ?_
  rotate_left
  · (intro w hSw; (try dsimp only at hSw); (try obtain ⟨k0, k1, k2, k3, k4, k5, k6, k7, k8, k9, k10⟩ := hSw); go_simp; (try with_reducible rfl))
  try simp only [Act.put, List.setIfInBounds_toArray, List.set_cons_zero, List.set_cons_succ]
  refine held_take (i := 5) (v := ?_) rfl (by kernel_rfl) (by kernel_rfl) (by kernel_rfl) (by rfl) (by first | assumption | exact True.intro) ?_ ?_
  rotate_left
  · (intro w hSw; (try dsimp only at hSw); (try obtain ⟨k0, k1, k2, k3, k4, k5, k6, k7, k8, k9, k10⟩ := hSw); go_simp; (try with_reducible rfl))
  try simp only [Act.put, List.setIfInBounds_toArray, List.set_cons_zero, List.set_cons_succ]
  refine held_op (i := 3) (by kernel_rfl) rfl (fun K hK => ?_)
  go_simp
  go_at_call 75
  (with_reducible refine (HT.out).mono ?_)
  rintro e1 w1 ⟨b, rfl, hown, htk, hx1⟩
  refine hK _ _ ?_ (fun hHeld2 => ?_)
  · exact HS.out _ (Ext.trans (ext_dr13 W) hx1)
  clear hK K hHeld1
  try simp only [Act.put, List.setIfInBounds_toArray, List.set_cons_zero, List.set_cons_succ]
  refine held_op (i := 6) (by kernel_rfl) rfl (fun K hK => ?_)
  have hlk := takers_at m.kind (by have := HKB.out; omega) hown
  rw [HP.out q] at hlk
  go_simp
  refine hK _ _ ?_ (fun hHeld3 => ?_)
  · exact HS.out _ (Ext.trans (ext_dr13 W) hx1)
  clear hK K hHeld2
  try simp only [Act.put, List.setIfInBounds_toArray, List.set_cons_zero, List.set_cons_succ]
  refine held_take (i := 7) (v := ?_) rfl (by kernel_rfl) (by kernel_rfl) (by kernel_rfl) (by rfl) (by first | assumption | exact True.intro) ?_ ?_
  rotate_left
  · (intro w hSw; (try dsimp only at hSw); (try obtain ⟨k0, k1, k2, k3, k4, k5, k6, k7, k8, k9, k10⟩ := hSw); go_simp; (try with_reducible rfl))
  try simp only [Act.put, List.setIfInBounds_toArray, List.set_cons_zero, List.set_cons_succ]
  refine wpAnyH_done (by kernel_rfl) ?_ _
  refine NoPanic.normal ?_
  clear hHeld3
  have HX1 := Lib.hid (Ext.trans (ext_dr13 W) hx1)
  have HTK := Lib.hid htk
  clear hx1 htk hown hlk HT HS
  have HA1 := Lib.hid (HA.out.ext HX1.out)
  obtain ⟨c0, c1, c2, c3, c4, c5, c6, c7, c8, c9⟩ := HA1.out.cells
  rw [HU.out] at c0
  have HE := Lib.hid (isElder_any a m w1)
  unfold agV msV at HE
  rw [he, HU.out] at HE
  obtain ⟨m0, m1, m2, m3, m4, m5, m6, m7, m8, m9, m10⟩ := (HM.out.ext HX1.out).cells
  clear he
  go_wp2_with fail
  refine HE.out.mono ?_
  rintro e2 w2 ⟨rfl, hx2⟩
  have HX2 := Lib.hid (HX1.out.trans hx2)
  have HX12 := Lib.hid hx2
  clear hx2 HE c0 c1 c2 c3 c4 c5 c6 c7 c8 c9 m0 m1 m2 m3 m4 m5 m6 m7 m8 m9 m10
  have HA2 := Lib.hid (HA.out.ext HX2.out)
  have HB32 := Lib.hid (HB3.out.ext HX2.out)
  have HB42 := Lib.hid (HB4.out.ext HX2.out)
  have HB52 := Lib.hid (HB5.out.ext HX2.out)
  have HM2 := Lib.hid (HM.out.ext HX2.out)
  have HTK2 := Lib.hid (HTK.out.ext HX12.out)
  have HNO2 := Lib.hid (HNO.out.ext HX2.out)
  have c1 := HA2.out.cells.2.1
  have c2 := HA2.out.cells.2.2.1
  have f1 := HA2.out.blk.frozen 1
  have f2 := HA2.out.blk.frozen 2
  have m2 := HM2.out.cells.2.2.1
  have m3 := HM2.out.cells.2.2.2.1
  have n2 : ¬ (w.heap.size + 1 + 1) = w.heap.size := by omega
  have n2' : ¬ w.heap.size = w.heap.size + 1 + 1 := by omega
  have hq3 := ((WB.start HA2.out.blk).set 1 (.int .i64 m.term)).set 2 (.int .i64 m.gen)
  simp only [List.setIfInBounds_toArray, List.set_cons_zero, List.set_cons_succ] at hq3
  obtain ⟨w3, hw3⟩ : ∃ W, W = ((w2.setCell ⟨w.heap.size, 1, none⟩ (.int .i64 m.term)).setCell ⟨w.heap.size, 2, none⟩ (.int .i64 m.gen)).drew := ⟨_, rfl⟩
  have HA3 : Hid (AgAt w3 w.heap.size (toldA a m)) := Lib.hid (by rw [hw3]; exact ⟨hq3.blk⟩)
  have HC3 : Hid (Chg (fun k => k = w.heap.size) w2 w3) := Lib.hid (by rw [hw3]; exact hq3.chg.drew)
  clear hq3
  go_wp2_with fail
  go_region
  all_goals go_wp2_with fail
  rw [← hw3]
  clear hw3 n2 n2' c1 c2 f1 f2 m2 m3
  have HT3 : Hid (TkAt w3 w.heap.size q m now (.pointer sp)) := Lib.hid (HTK2.out.chg HC3.out (fun k h1 h2 e => by have e : k = w.heap.size := e; have := HQ.out; omega))
  have HX3 : Hid (Ext w w3) := Lib.hid (HC3.out.ext (HX.out.trans HX2.out) (fun k hk => by have hk : k = w.heap.size := hk; omega))
  have HNO3 : Hid (Blk w3 (w.heap.size + 1) 3 (#[.int .i64 node])) := Lib.hid ((HC3.out.block _ HNO2.out.lt (by intro h; have h : w.heap.size + 1 = w.heap.size := h; omega)).trans HNO2.out)
  have HB33 : Hid (Blk w3 (w.heap.size + 1 + 1 + 1) 56 (#[.bool false, .int .i64 0, .int .i64 0, .int .i64 0, .int .i64 0, .int .i64 0, .int .i64 0, .int .i64 0, .int .i64 0, .int .i64 0])) := Lib.hid ((HC3.out.block _ HB32.out.lt (by intro h; have h : w.heap.size + 1 + 1 + 1 = w.heap.size := h; omega)).trans HB32.out)
  have HB43 : Hid (Blk w3 (w.heap.size + 1 + 1 + 1 + 1) 49 (#[.int .i64 0, .int .i64 0, .int .i64 0, .int .i64 0, .int .i64 0, .int .i64 0, .int .i64 0, .int .i64 0, .int .i64 0, .int .i64 0, .int .i64 0])) := Lib.hid ((HC3.out.block _ HB42.out.lt (by intro h; have h : w.heap.size + 1 + 1 + 1 + 1 = w.heap.size := h; omega)).trans HB42.out)
  have HB53 : Hid (Blk w3 (w.heap.size + 1 + 1 + 1 + 1 + 1) 4 (#[.bool false])) := Lib.hid ((HC3.out.block _ HB52.out.lt (by intro h; have h : w.heap.size + 1 + 1 + 1 + 1 + 1 = w.heap.size := h; omega)).trans HB52.out)
  clear HNO2 HB32 HB42 HB52 HM2 HTK2 HA2 HTK HB3 HB4 HB5 HNO HM HA HA1
  have HCL := Lib.hid (rest13_any w.heap.size q (q + 1) (q + 2) (toldA a m) m now w3 HA3.out HT3.out.cap)
  skip
  refine HCL.out.mono ?_
  rintro e4 w4 ⟨rfl, ha4, hc4⟩
  skip
  obtain ⟨a4, ha4e⟩ : ∃ x, x = (if (toldA a m).mode = 4 then toldA a m else looseA (toldA a m)) := ⟨_, rfl⟩
  rw [← ha4e] at ha4
  have HA4 := Lib.hid ha4
  have HE4 := Lib.hid ha4e
  have HC4 := Lib.hid hc4
  clear ha4 ha4e hc4 HCL
  have HNO4 : Hid (Blk w4 (w.heap.size + 1) 3 (#[.int .i64 node])) := Lib.hid ((HC4.out.block _ HNO3.out.lt (by intro h; have h : w.heap.size + 1 = w.heap.size := h; omega)).trans HNO3.out)
  have HB34 : Hid (Blk w4 (w.heap.size + 1 + 1 + 1) 56 (#[.bool false, .int .i64 0, .int .i64 0, .int .i64 0, .int .i64 0, .int .i64 0, .int .i64 0, .int .i64 0, .int .i64 0, .int .i64 0])) := Lib.hid ((HC4.out.block _ HB33.out.lt (by intro h; have h : w.heap.size + 1 + 1 + 1 = w.heap.size := h; omega)).trans HB33.out)
  have HB44 : Hid (Blk w4 (w.heap.size + 1 + 1 + 1 + 1) 49 (#[.int .i64 0, .int .i64 0, .int .i64 0, .int .i64 0, .int .i64 0, .int .i64 0, .int .i64 0, .int .i64 0, .int .i64 0, .int .i64 0, .int .i64 0])) := Lib.hid ((HC4.out.block _ HB43.out.lt (by intro h; have h : w.heap.size + 1 + 1 + 1 + 1 = w.heap.size := h; omega)).trans HB43.out)
  have HB54 : Hid (Blk w4 (w.heap.size + 1 + 1 + 1 + 1 + 1) 4 (#[.bool false])) := Lib.hid ((HC4.out.block _ HB53.out.lt (by intro h; have h : w.heap.size + 1 + 1 + 1 + 1 + 1 = w.heap.size := h; omega)).trans HB53.out)
  have HSZ : Hid (w.heap.size + 6 ≤ w3.heap.size) := Lib.hid (by have h1 := HX2.out.size; have h2 := HC3.out.size; have := HZ.out; omega)
  clear HNO3 HB33 HB43 HB53 HT3
  obtain ⟨c0, c1, c2, c3, c4, c5, c6, c7, c8, c9⟩ := HA4.out.cells
  have HO1 := Lib.hid (agA_one (a4))
  have HI1 := Lib.hid infoA_
  have HO2 := Lib.hid (msA_one zMs)
  have HI2 := Lib.hid infoM_
  have HF4 : Hid (∀ W', Chg (fun k => k = w.heap.size + 1 + 1 + 1) w4 W' → Blk W' (w.heap.size + 1 + 1 + 1 + 1) 49 #[.int .i64 0, .int .i64 0, .int .i64 0, .int .i64 0, .int .i64 0, .int .i64 0, .int .i64 0, .int .i64 0, .int .i64 0, .int .i64 0, .int .i64 0]) := Lib.hid fun W' h => (h.block _ HB44.out.lt (by intro h; have h : w.heap.size + 1 + 1 + 1 + 1 = w.heap.size + 1 + 1 + 1 := h; omega)).trans HB44.out
  have HF5 : Hid (∀ W' W'', Chg (fun k => k = w.heap.size + 1 + 1 + 1) w4 W' → Chg (fun k => k = w.heap.size + 1 + 1 + 1 + 1) W' W'' → Blk W'' (w.heap.size + 1 + 1 + 1 + 1 + 1) 4 #[.bool false]) := Lib.hid fun W' W'' h1 h2 => by
    have h3 := (h1.block _ HB54.out.lt (by intro h; have h : w.heap.size + 1 + 1 + 1 + 1 + 1 = w.heap.size + 1 + 1 + 1 := h; omega)).trans HB54.out
    exact (h2.block _ (Nat.lt_of_lt_of_le HB54.out.lt h1.size) (by intro h; have h : w.heap.size + 1 + 1 + 1 + 1 + 1 = w.heap.size + 1 + 1 + 1 + 1 := h; omega)).trans h3
  go_wp2_with (first | (refine wpList_storeC rfl 56 _ _ rfl (w.heap.size + 1 + 1 + 1) (agA (a4)) rfl rfl 56 _ HB34.out HI1.out rfl HO1.out ?_; intro wa hba hca) | (refine wpList_storeC rfl 49 _ _ rfl (w.heap.size + 1 + 1 + 1 + 1) (msA zMs) rfl rfl 49 _ (HF4.out _ hca) HI2.out rfl HO2.out ?_; intro wb hbb hcb; have y0 := (HF5.out _ _ hca hcb).cell1; have y1 := (HF5.out _ _ hca hcb).frozen 0))
  skip
  have hb5 := HF5.out _ _ hca hcb
  have hq5 := (WB.start hb5).set 0 (.bool true)
  simp only [List.setIfInBounds_toArray, List.set_cons_zero] at hq5
  obtain ⟨wc, hwc⟩ : ∃ W, W = wb.setCell ⟨w.heap.size + 1 + 1 + 1 + 1 + 1, 0, none⟩ (.bool true) := ⟨_, rfl⟩
  rw [← hwc] at hq5 ⊢
  clear hwc hb5
  have hA : Blk wc (w.heap.size + 1 + 1 + 1) 56 (agA (a4)) := (hq5.chg.block _ (Nat.lt_of_lt_of_le hba.lt hcb.size) (by intro h; have h : w.heap.size + 1 + 1 + 1 = w.heap.size + 1 + 1 + 1 + 1 + 1 := h; omega)).trans ((hcb.block _ hba.lt (by intro h; have h : w.heap.size + 1 + 1 + 1 = w.heap.size + 1 + 1 + 1 + 1 := h; omega)).trans hba)
  have hM : Blk wc (w.heap.size + 1 + 1 + 1 + 1) 49 (msA zMs) := (hq5.chg.block _ hbb.lt (by intro h; have h : w.heap.size + 1 + 1 + 1 + 1 = w.heap.size + 1 + 1 + 1 + 1 + 1 := h; omega)).trans hbb
  have hK : Chg (fun k => w.heap.size ≤ k ∧ k < w.heap.size + 6) w4 wc := ((hca.mono fun k _ hk => by have hk : k = w.heap.size + 1 + 1 + 1 := hk; omega).trans (hcb.mono fun k _ hk => by have hk : k = w.heap.size + 1 + 1 + 1 + 1 := hk; omega) (fun _ _ h => h)).trans (hq5.chg.mono fun k _ hk => by have hk : k = w.heap.size + 1 + 1 + 1 + 1 + 1 := hk; omega) (fun _ _ h => h)
  have hAC : AgAt wc (w.heap.size + 1 + 1 + 1) a4 := ⟨hA⟩
  have hNC : Blk wc (w.heap.size + 1) 3 #[.int .i64 node] := (hq5.chg.block _ (Nat.lt_of_lt_of_le HNO4.out.lt (Nat.le_trans hca.size hcb.size)) (by intro h; have h : w.heap.size + 1 = w.heap.size + 1 + 1 + 1 + 1 + 1 := h; omega)).trans ((hcb.block _ (Nat.lt_of_lt_of_le HNO4.out.lt hca.size) (by intro h; have h : w.heap.size + 1 = w.heap.size + 1 + 1 + 1 + 1 := h; omega)).trans ((hca.block _ HNO4.out.lt (by intro h; have h : w.heap.size + 1 = w.heap.size + 1 + 1 + 1 := h; omega)).trans HNO4.out))
  refine leaves_cons (f := 74) (args := #[.pointer (some ⟨w.heap.size + 1 + 1 + 1 + 1 + 1, 0, none⟩), .pointer (some ⟨w.heap.size + 1 + 1 + 1, 0, none⟩), .pointer (some ⟨w.heap.size + 1, 0, none⟩), .pointer (some ⟨w.heap.size + 1 + 1 + 1 + 1, 0, none⟩)]) (by simp) (by simp [go_sem]) ?_
  refine (told_yes (w.heap.size + 1 + 1 + 1 + 1 + 1) (w.heap.size + 1 + 1 + 1) (w.heap.size + 1) (w.heap.size + 1 + 1 + 1 + 1) a4 node wc hq5.blk hAC hNC _ hM rfl).mono ?_
  rintro e u' w6 ⟨rfl, rfl, hms, hc6⟩
  have hA6 := (hc6.block _ hA.lt (by intro h; have h : w.heap.size + 1 + 1 + 1 = w.heap.size + 1 + 1 + 1 + 1 := h; omega)).trans hA
  have hB6 := (hc6.block _ hq5.blk.lt (by intro h; have h : w.heap.size + 1 + 1 + 1 + 1 + 1 = w.heap.size + 1 + 1 + 1 + 1 := h; omega)).trans hq5.blk
  have hK6 : Chg (fun k => w.heap.size ≤ k ∧ k < w.heap.size + 6) w4 w6 := hK.trans (hc6.mono fun k _ hk => by have hk : k = w.heap.size + 1 + 1 + 1 + 1 := hk; omega) (fun _ _ h => h)
  refine ⟨_, run_three rfl rfl rfl rfl hA6 rfl hms.blk rfl hB6, ?_⟩
  have hx6 : Ext w w6 := hK6.ext (HC4.out.ext HX3.out (fun k hk => by have hk : k = w.heap.size := hk; omega)) (fun k hk => hk.1)
  have hta : takeA a m now true = a4 := by rw [HE4.out]; unfold takeA; rw [if_pos HG.out]; show _ = (if (toldA a m).mode = 4 then toldA a m else looseA (toldA a m)); unfold doA; rw [if_pos HKK.out]
  exact ⟨true, by rw [hta, HG.out]; rfl, fun _ => ⟨rfl, hx6⟩, fun h => by rw [HAS.out] at h; cases h⟩

set_option maxRecDepth 100000 in
set_option maxHeartbeats 4000000 in
theorem take_take (a : Ag) (m : Ms) (node now : Int) (sp : Option Addr) (G : Fp) (Q : Int → World → Prop) (w : World) (hk : m.kind = 2) (hu : a.up = true) (he : elderA a m = false) :
    Calls Try.prog 35 #[agV a, .int .i64 node, msV m, .int .i64 now, .pointer sp] w (TakeQ a m node now G Q w) := by
  have HKK := Lib.hid hk
  have HKB : Hid (-9223372036854775808 ≤ m.kind ∧ m.kind ≤ 9223372036854775807) := Lib.hid (by omega)
  have HP : Hid (∀ q, pickOf q m.kind = (.func (.func 103) #[] #[.pointer (some ⟨q, 0, none⟩), .pointer (some ⟨q + 1, 0, none⟩), .pointer (some ⟨q + 2, 0, none⟩), .pointer (some ⟨q + 4, 0, none⟩), .pointer (some ⟨q + 5, 0, none⟩)])) := Lib.hid fun q => by unfold pickOf pickF; rw [hk]; rfl
  have HG : Hid (goesA a m = true) := Lib.hid (by unfold goesA; rw [hu, he, hk]; rfl)
  have HU := Lib.hid hu
  have HAS : Hid (asksA a m now = false) := Lib.hid (by unfold asksA dueA; rw [hk]; simp)
  clear hk hu
  obtain ⟨W, hW⟩ : ∃ W, W = ((((((w.alloc (.cells #[.bool true, .int .i64 a.term, .int .i64 a.gen, .int .i64 a.mode, .int .i64 a.job, .int .i64 a.inc, .int .i64 a.ver, .int .i64 a.lease, .int .i64 a.worked, .int .i64 a.aim] 56)).alloc (.cells #[.int .i64 node] 3)).alloc (.cells #[.int .i64 m.node, .int .i64 m.kind, .int .i64 m.term, .int .i64 m.gen, .int .i64 m.job, .int .i64 m.inc, .int .i64 m.ver, .int .i64 m.epoch, .int .i64 m.til, .int .i64 m.mode, .int .i64 m.work] 49)).alloc (.cells #[.bool false, .int .i64 0, .int .i64 0, .int .i64 0, .int .i64 0, .int .i64 0, .int .i64 0, .int .i64 0, .int .i64 0, .int .i64 0] 56)).alloc (.cells #[.int .i64 0, .int .i64 0, .int .i64 0, .int .i64 0, .int .i64 0, .int .i64 0, .int .i64 0, .int .i64 0, .int .i64 0, .int .i64 0, .int .i64 0] 49)).alloc (.cells #[.bool false] 4)) := ⟨_, rfl⟩
  obtain ⟨b0, b1, b2, b3, b4, b5, hx, hz⟩ := six_blocks w _ _ _ _ _ _ _ _ _ _ _ _ W hW
  have HA : Hid (AgAt W w.heap.size a) := Lib.hid ⟨by rw [HU.out]; exact b0⟩
  have HNO : Hid (Blk W (w.heap.size + 1) 3 #[.int .i64 node]) := Lib.hid b1
  have HM : Hid (MsAt W (w.heap.size + 1 + 1) m) := Lib.hid ⟨b2⟩
  have HB3 : Hid (Blk W (w.heap.size + 1 + 1 + 1) 56 #[.bool false, .int .i64 0, .int .i64 0, .int .i64 0, .int .i64 0, .int .i64 0, .int .i64 0, .int .i64 0, .int .i64 0, .int .i64 0]) := Lib.hid b3
  have HB4 : Hid (Blk W (w.heap.size + 1 + 1 + 1 + 1) 49 #[.int .i64 0, .int .i64 0, .int .i64 0, .int .i64 0, .int .i64 0, .int .i64 0, .int .i64 0, .int .i64 0, .int .i64 0, .int .i64 0, .int .i64 0]) := Lib.hid b4
  have HB5 : Hid (Blk W (w.heap.size + 1 + 1 + 1 + 1 + 1) 4 #[.bool false]) := Lib.hid b5
  have HX := Lib.hid hx
  have HZ := Lib.hid hz
  obtain ⟨q, hq⟩ : ∃ q, q = W.drew.heap.size := ⟨_, rfl⟩
  have HQ : Hid (q = w.heap.size + 6) := Lib.hid (by rw [hq]; exact hz)
  have HT := Lib.hid (takers_any w.heap.size m now sp W.drew (by rw [← hq]; have := HQ.out; omega))
  rw [← hq] at HT
  unfold msV at HT
  have HS : Hid (∀ W', Ext W W' → W'.cell? ⟨w.heap.size + 1 + 1, 0, none⟩ = some (.int .i64 m.node) ∧ W'.cell? ⟨w.heap.size + 1 + 1, 1, none⟩ = some (.int .i64 m.kind) ∧ W'.cell? ⟨w.heap.size + 1 + 1, 2, none⟩ = some (.int .i64 m.term) ∧ W'.cell? ⟨w.heap.size + 1 + 1, 3, none⟩ = some (.int .i64 m.gen) ∧ W'.cell? ⟨w.heap.size + 1 + 1, 4, none⟩ = some (.int .i64 m.job) ∧ W'.cell? ⟨w.heap.size + 1 + 1, 5, none⟩ = some (.int .i64 m.inc) ∧ W'.cell? ⟨w.heap.size + 1 + 1, 6, none⟩ = some (.int .i64 m.ver) ∧ W'.cell? ⟨w.heap.size + 1 + 1, 7, none⟩ = some (.int .i64 m.epoch) ∧ W'.cell? ⟨w.heap.size + 1 + 1, 8, none⟩ = some (.int .i64 m.til) ∧ W'.cell? ⟨w.heap.size + 1 + 1, 9, none⟩ = some (.int .i64 m.mode) ∧ W'.cell? ⟨w.heap.size + 1 + 1, 10, none⟩ = some (.int .i64 m.work)) := Lib.hid fun W' h => ⟨(HM.out.ext h).blk.cell 0, (HM.out.ext h).blk.cell 1, (HM.out.ext h).blk.cell 2, (HM.out.ext h).blk.cell 3, (HM.out.ext h).blk.cell 4, (HM.out.ext h).blk.cell 5, (HM.out.ext h).blk.cell 6, (HM.out.ext h).blk.cell 7, (HM.out.ext h).blk.cell 8, (HM.out.ext h).blk.cell 9, (HM.out.ext h).blk.cell 10⟩
  have hmf : ∀ (fn : Fn) (first cap : Array Value) (w : World), (Instr.makeFunc fn first cap).run Try.prog w = .ok (.func fn first cap) w := fun _ _ _ _ => rfl
  have hbn := nilF_nil
  have hbf := nilF_func
  clear hx hz b0 b1 b2 b3 b4 b5 hq
  unfold agV msV
  rw [HU.out]
  go_enter_defers Try.func35, Try.ntmps35
  go_upto_region 2 with (fail)
  rw [← hW]
  clear hW hmf
  refine held_begin (by kernel_rfl) ?_
  have hHeld0 : True := True.intro
  refine held_more (S' := fun (W' : World) => W'.cell? ⟨w.heap.size + 1 + 1, 0, none⟩ = some (.int .i64 m.node) ∧ W'.cell? ⟨w.heap.size + 1 + 1, 1, none⟩ = some (.int .i64 m.kind) ∧ W'.cell? ⟨w.heap.size + 1 + 1, 2, none⟩ = some (.int .i64 m.term) ∧ W'.cell? ⟨w.heap.size + 1 + 1, 3, none⟩ = some (.int .i64 m.gen) ∧ W'.cell? ⟨w.heap.size + 1 + 1, 4, none⟩ = some (.int .i64 m.job) ∧ W'.cell? ⟨w.heap.size + 1 + 1, 5, none⟩ = some (.int .i64 m.inc) ∧ W'.cell? ⟨w.heap.size + 1 + 1, 6, none⟩ = some (.int .i64 m.ver) ∧ W'.cell? ⟨w.heap.size + 1 + 1, 7, none⟩ = some (.int .i64 m.epoch) ∧ W'.cell? ⟨w.heap.size + 1 + 1, 8, none⟩ = some (.int .i64 m.til) ∧ W'.cell? ⟨w.heap.size + 1 + 1, 9, none⟩ = some (.int .i64 m.mode) ∧ W'.cell? ⟨w.heap.size + 1 + 1, 10, none⟩ = some (.int .i64 m.work)) (fun _ _ => True.intro) ?_
  have hHeld1 : (fun (W' : World) => W'.cell? ⟨w.heap.size + 1 + 1, 0, none⟩ = some (.int .i64 m.node) ∧ W'.cell? ⟨w.heap.size + 1 + 1, 1, none⟩ = some (.int .i64 m.kind) ∧ W'.cell? ⟨w.heap.size + 1 + 1, 2, none⟩ = some (.int .i64 m.term) ∧ W'.cell? ⟨w.heap.size + 1 + 1, 3, none⟩ = some (.int .i64 m.gen) ∧ W'.cell? ⟨w.heap.size + 1 + 1, 4, none⟩ = some (.int .i64 m.job) ∧ W'.cell? ⟨w.heap.size + 1 + 1, 5, none⟩ = some (.int .i64 m.inc) ∧ W'.cell? ⟨w.heap.size + 1 + 1, 6, none⟩ = some (.int .i64 m.ver) ∧ W'.cell? ⟨w.heap.size + 1 + 1, 7, none⟩ = some (.int .i64 m.epoch) ∧ W'.cell? ⟨w.heap.size + 1 + 1, 8, none⟩ = some (.int .i64 m.til) ∧ W'.cell? ⟨w.heap.size + 1 + 1, 9, none⟩ = some (.int .i64 m.mode) ∧ W'.cell? ⟨w.heap.size + 1 + 1, 10, none⟩ = some (.int .i64 m.work)) _ := HS.out _ (ext_dr13 W)
  clear hHeld0
  refine held_take (i := 0) (v := ?_) rfl (by kernel_rfl) (by kernel_rfl) (by kernel_rfl) (by rfl) (by first | assumption | exact True.intro) ?_ ?_
  rotate_left
  · (intro w hSw; (try dsimp only at hSw); (try obtain ⟨k0, k1, k2, k3, k4, k5, k6, k7, k8, k9, k10⟩ := hSw); go_simp; (try with_reducible rfl))
  try simp only [Act.put, List.setIfInBounds_toArray, List.set_cons_zero, List.set_cons_succ]
  refine held_take (i := 1) (v := ?_) rfl (by kernel_rfl) (by kernel_rfl) (by kernel_rfl) (by rfl) (by first | assumption | exact True.intro) ?_ ?_
  rotate_left
  · (intro w hSw; (try dsimp only at hSw); (try obtain ⟨k0, k1, k2, k3, k4, k5, k6, k7, k8, k9, k10⟩ := hSw); go_simp; (try with_reducible rfl))
  try simp only [Act.put, List.setIfInBounds_toArray, List.set_cons_zero, List.set_cons_succ]
  refine held_take (i := 2) (v := ?_) rfl (by kernel_rfl) (by kernel_rfl) (by kernel_rfl) (by rfl) (by first | assumption | exact True.intro) ?_ ?_
  rotate_left
  · (intro w hSw; (try dsimp only at hSw); (try obtain ⟨k0, k1, k2, k3, k4, k5, k6, k7, k8, k9, k10⟩ := hSw); go_simp; (try with_reducible rfl))
  try simp only [Act.put, List.setIfInBounds_toArray, List.set_cons_zero, List.set_cons_succ]
  refine held_take (i := 4) (v := ?_) rfl (by kernel_rfl) (by kernel_rfl) (by kernel_rfl) (by rfl) (by first | assumption | exact True.intro) ?_ ?_
  rotate_left
  · (intro w hSw; (try dsimp only at hSw); (try obtain ⟨k0, k1, k2, k3, k4, k5, k6, k7, k8, k9, k10⟩ := hSw); go_simp; (try with_reducible rfl))
  try simp only [Act.put, List.setIfInBounds_toArray, List.set_cons_zero, List.set_cons_succ]
  refine held_take (i := 5) (v := ?_) rfl (by kernel_rfl) (by kernel_rfl) (by kernel_rfl) (by rfl) (by first | assumption | exact True.intro) ?_ ?_
  rotate_left
  · (intro w hSw; (try dsimp only at hSw); (try obtain ⟨k0, k1, k2, k3, k4, k5, k6, k7, k8, k9, k10⟩ := hSw); go_simp; (try with_reducible rfl))
  try simp only [Act.put, List.setIfInBounds_toArray, List.set_cons_zero, List.set_cons_succ]
  refine held_op (i := 3) (by kernel_rfl) rfl (fun K hK => ?_)
  go_simp
  go_at_call 75
  (with_reducible refine (HT.out).mono ?_)
  rintro e1 w1 ⟨b, rfl, hown, htk, hx1⟩
  refine hK _ _ ?_ (fun hHeld2 => ?_)
  · exact HS.out _ (Ext.trans (ext_dr13 W) hx1)
  clear hK K hHeld1
  try simp only [Act.put, List.setIfInBounds_toArray, List.set_cons_zero, List.set_cons_succ]
  refine held_op (i := 6) (by kernel_rfl) rfl (fun K hK => ?_)
  have hlk := takers_at m.kind (by have := HKB.out; omega) hown
  rw [HP.out q] at hlk
  go_simp
  refine hK _ _ ?_ (fun hHeld3 => ?_)
  · exact HS.out _ (Ext.trans (ext_dr13 W) hx1)
  clear hK K hHeld2
  try simp only [Act.put, List.setIfInBounds_toArray, List.set_cons_zero, List.set_cons_succ]
  refine held_take (i := 7) (v := ?_) rfl (by kernel_rfl) (by kernel_rfl) (by kernel_rfl) (by rfl) (by first | assumption | exact True.intro) ?_ ?_
  rotate_left
  · (intro w hSw; (try dsimp only at hSw); (try obtain ⟨k0, k1, k2, k3, k4, k5, k6, k7, k8, k9, k10⟩ := hSw); go_simp; (try with_reducible rfl))
  try simp only [Act.put, List.setIfInBounds_toArray, List.set_cons_zero, List.set_cons_succ]
  refine wpAnyH_done (by kernel_rfl) ?_ _
  refine NoPanic.normal ?_
  clear hHeld3
  have HX1 := Lib.hid (Ext.trans (ext_dr13 W) hx1)
  have HTK := Lib.hid htk
  clear hx1 htk hown hlk HT HS
  have HA1 := Lib.hid (HA.out.ext HX1.out)
  obtain ⟨c0, c1, c2, c3, c4, c5, c6, c7, c8, c9⟩ := HA1.out.cells
  rw [HU.out] at c0
  have HE := Lib.hid (isElder_any a m w1)
  unfold agV msV at HE
  rw [he, HU.out] at HE
  obtain ⟨m0, m1, m2, m3, m4, m5, m6, m7, m8, m9, m10⟩ := (HM.out.ext HX1.out).cells
  clear he
  go_wp2_with fail
  refine HE.out.mono ?_
  rintro e2 w2 ⟨rfl, hx2⟩
  have HX2 := Lib.hid (HX1.out.trans hx2)
  have HX12 := Lib.hid hx2
  clear hx2 HE c0 c1 c2 c3 c4 c5 c6 c7 c8 c9 m0 m1 m2 m3 m4 m5 m6 m7 m8 m9 m10
  have HA2 := Lib.hid (HA.out.ext HX2.out)
  have HB32 := Lib.hid (HB3.out.ext HX2.out)
  have HB42 := Lib.hid (HB4.out.ext HX2.out)
  have HB52 := Lib.hid (HB5.out.ext HX2.out)
  have HM2 := Lib.hid (HM.out.ext HX2.out)
  have HTK2 := Lib.hid (HTK.out.ext HX12.out)
  have HNO2 := Lib.hid (HNO.out.ext HX2.out)
  have c1 := HA2.out.cells.2.1
  have c2 := HA2.out.cells.2.2.1
  have f1 := HA2.out.blk.frozen 1
  have f2 := HA2.out.blk.frozen 2
  have m2 := HM2.out.cells.2.2.1
  have m3 := HM2.out.cells.2.2.2.1
  have n2 : ¬ (w.heap.size + 1 + 1) = w.heap.size := by omega
  have n2' : ¬ w.heap.size = w.heap.size + 1 + 1 := by omega
  have hq3 := ((WB.start HA2.out.blk).set 1 (.int .i64 m.term)).set 2 (.int .i64 m.gen)
  simp only [List.setIfInBounds_toArray, List.set_cons_zero, List.set_cons_succ] at hq3
  obtain ⟨w3, hw3⟩ : ∃ W, W = ((w2.setCell ⟨w.heap.size, 1, none⟩ (.int .i64 m.term)).setCell ⟨w.heap.size, 2, none⟩ (.int .i64 m.gen)).drew := ⟨_, rfl⟩
  have HA3 : Hid (AgAt w3 w.heap.size (toldA a m)) := Lib.hid (by rw [hw3]; exact ⟨hq3.blk⟩)
  have HC3 : Hid (Chg (fun k => k = w.heap.size) w2 w3) := Lib.hid (by rw [hw3]; exact hq3.chg.drew)
  clear hq3
  go_wp2_with fail
  go_region
  all_goals go_wp2_with fail
  rw [← hw3]
  clear hw3 n2 n2' c1 c2 f1 f2 m2 m3
  have HT3 : Hid (TkAt w3 w.heap.size q m now (.pointer sp)) := Lib.hid (HTK2.out.chg HC3.out (fun k h1 h2 e => by have e : k = w.heap.size := e; have := HQ.out; omega))
  have HX3 : Hid (Ext w w3) := Lib.hid (HC3.out.ext (HX.out.trans HX2.out) (fun k hk => by have hk : k = w.heap.size := hk; omega))
  have HNO3 : Hid (Blk w3 (w.heap.size + 1) 3 (#[.int .i64 node])) := Lib.hid ((HC3.out.block _ HNO2.out.lt (by intro h; have h : w.heap.size + 1 = w.heap.size := h; omega)).trans HNO2.out)
  have HB33 : Hid (Blk w3 (w.heap.size + 1 + 1 + 1) 56 (#[.bool false, .int .i64 0, .int .i64 0, .int .i64 0, .int .i64 0, .int .i64 0, .int .i64 0, .int .i64 0, .int .i64 0, .int .i64 0])) := Lib.hid ((HC3.out.block _ HB32.out.lt (by intro h; have h : w.heap.size + 1 + 1 + 1 = w.heap.size := h; omega)).trans HB32.out)
  have HB43 : Hid (Blk w3 (w.heap.size + 1 + 1 + 1 + 1) 49 (#[.int .i64 0, .int .i64 0, .int .i64 0, .int .i64 0, .int .i64 0, .int .i64 0, .int .i64 0, .int .i64 0, .int .i64 0, .int .i64 0, .int .i64 0])) := Lib.hid ((HC3.out.block _ HB42.out.lt (by intro h; have h : w.heap.size + 1 + 1 + 1 + 1 = w.heap.size := h; omega)).trans HB42.out)
  have HB53 : Hid (Blk w3 (w.heap.size + 1 + 1 + 1 + 1 + 1) 4 (#[.bool false])) := Lib.hid ((HC3.out.block _ HB52.out.lt (by intro h; have h : w.heap.size + 1 + 1 + 1 + 1 + 1 = w.heap.size := h; omega)).trans HB52.out)
  clear HNO2 HB32 HB42 HB52 HM2 HTK2 HA2 HTK HB3 HB4 HB5 HNO HM HA HA1
  have HCL := Lib.hid (take13_any w.heap.size q (q + 1) (q + 2) (q + 4) (q + 5) (toldA a m) m now w3 HA3.out HT3.out.cap HT3.out.fns)
  skip
  refine HCL.out.mono ?_
  rintro e4 w4 ⟨rfl, ha4, hc4⟩
  skip
  obtain ⟨a4, ha4e⟩ : ∃ x, x = (if (toldA a m).mode = 0 ∧ (toldA a m).ver = m.ver ∧ now < m.til then { toldA a m with mode := 1, job := m.job, inc := m.inc, lease := m.til } else if isA (toldA a m) m 1 = true ∨ isA (toldA a m) m 2 = true then longA (toldA a m) m else toldA a m) := ⟨_, rfl⟩
  rw [← ha4e] at ha4
  have HA4 := Lib.hid ha4
  have HE4 := Lib.hid ha4e
  have HC4 := Lib.hid hc4
  clear ha4 ha4e hc4 HCL
  have HNO4 : Hid (Blk w4 (w.heap.size + 1) 3 (#[.int .i64 node])) := Lib.hid ((HC4.out.block _ HNO3.out.lt (by intro h; have h : w.heap.size + 1 = w.heap.size := h; omega)).trans HNO3.out)
  have HB34 : Hid (Blk w4 (w.heap.size + 1 + 1 + 1) 56 (#[.bool false, .int .i64 0, .int .i64 0, .int .i64 0, .int .i64 0, .int .i64 0, .int .i64 0, .int .i64 0, .int .i64 0, .int .i64 0])) := Lib.hid ((HC4.out.block _ HB33.out.lt (by intro h; have h : w.heap.size + 1 + 1 + 1 = w.heap.size := h; omega)).trans HB33.out)
  have HB44 : Hid (Blk w4 (w.heap.size + 1 + 1 + 1 + 1) 49 (#[.int .i64 0, .int .i64 0, .int .i64 0, .int .i64 0, .int .i64 0, .int .i64 0, .int .i64 0, .int .i64 0, .int .i64 0, .int .i64 0, .int .i64 0])) := Lib.hid ((HC4.out.block _ HB43.out.lt (by intro h; have h : w.heap.size + 1 + 1 + 1 + 1 = w.heap.size := h; omega)).trans HB43.out)
  have HB54 : Hid (Blk w4 (w.heap.size + 1 + 1 + 1 + 1 + 1) 4 (#[.bool false])) := Lib.hid ((HC4.out.block _ HB53.out.lt (by intro h; have h : w.heap.size + 1 + 1 + 1 + 1 + 1 = w.heap.size := h; omega)).trans HB53.out)
  have HSZ : Hid (w.heap.size + 6 ≤ w3.heap.size) := Lib.hid (by have h1 := HX2.out.size; have h2 := HC3.out.size; have := HZ.out; omega)
  clear HNO3 HB33 HB43 HB53 HT3
  obtain ⟨c0, c1, c2, c3, c4, c5, c6, c7, c8, c9⟩ := HA4.out.cells
  have HO1 := Lib.hid (agA_one (a4))
  have HI1 := Lib.hid infoA_
  have HO2 := Lib.hid (msA_one zMs)
  have HI2 := Lib.hid infoM_
  have HF4 : Hid (∀ W', Chg (fun k => k = w.heap.size + 1 + 1 + 1) w4 W' → Blk W' (w.heap.size + 1 + 1 + 1 + 1) 49 #[.int .i64 0, .int .i64 0, .int .i64 0, .int .i64 0, .int .i64 0, .int .i64 0, .int .i64 0, .int .i64 0, .int .i64 0, .int .i64 0, .int .i64 0]) := Lib.hid fun W' h => (h.block _ HB44.out.lt (by intro h; have h : w.heap.size + 1 + 1 + 1 + 1 = w.heap.size + 1 + 1 + 1 := h; omega)).trans HB44.out
  have HF5 : Hid (∀ W' W'', Chg (fun k => k = w.heap.size + 1 + 1 + 1) w4 W' → Chg (fun k => k = w.heap.size + 1 + 1 + 1 + 1) W' W'' → Blk W'' (w.heap.size + 1 + 1 + 1 + 1 + 1) 4 #[.bool false]) := Lib.hid fun W' W'' h1 h2 => by
    have h3 := (h1.block _ HB54.out.lt (by intro h; have h : w.heap.size + 1 + 1 + 1 + 1 + 1 = w.heap.size + 1 + 1 + 1 := h; omega)).trans HB54.out
    exact (h2.block _ (Nat.lt_of_lt_of_le HB54.out.lt h1.size) (by intro h; have h : w.heap.size + 1 + 1 + 1 + 1 + 1 = w.heap.size + 1 + 1 + 1 + 1 := h; omega)).trans h3
  go_wp2_with (first | (refine wpList_storeC rfl 56 _ _ rfl (w.heap.size + 1 + 1 + 1) (agA (a4)) rfl rfl 56 _ HB34.out HI1.out rfl HO1.out ?_; intro wa hba hca) | (refine wpList_storeC rfl 49 _ _ rfl (w.heap.size + 1 + 1 + 1 + 1) (msA zMs) rfl rfl 49 _ (HF4.out _ hca) HI2.out rfl HO2.out ?_; intro wb hbb hcb; have y0 := (HF5.out _ _ hca hcb).cell1; have y1 := (HF5.out _ _ hca hcb).frozen 0))
  skip
  have hb5 := HF5.out _ _ hca hcb
  have hq5 := (WB.start hb5).set 0 (.bool true)
  simp only [List.setIfInBounds_toArray, List.set_cons_zero] at hq5
  obtain ⟨wc, hwc⟩ : ∃ W, W = wb.setCell ⟨w.heap.size + 1 + 1 + 1 + 1 + 1, 0, none⟩ (.bool true) := ⟨_, rfl⟩
  rw [← hwc] at hq5 ⊢
  clear hwc hb5
  have hA : Blk wc (w.heap.size + 1 + 1 + 1) 56 (agA (a4)) := (hq5.chg.block _ (Nat.lt_of_lt_of_le hba.lt hcb.size) (by intro h; have h : w.heap.size + 1 + 1 + 1 = w.heap.size + 1 + 1 + 1 + 1 + 1 := h; omega)).trans ((hcb.block _ hba.lt (by intro h; have h : w.heap.size + 1 + 1 + 1 = w.heap.size + 1 + 1 + 1 + 1 := h; omega)).trans hba)
  have hM : Blk wc (w.heap.size + 1 + 1 + 1 + 1) 49 (msA zMs) := (hq5.chg.block _ hbb.lt (by intro h; have h : w.heap.size + 1 + 1 + 1 + 1 = w.heap.size + 1 + 1 + 1 + 1 + 1 := h; omega)).trans hbb
  have hK : Chg (fun k => w.heap.size ≤ k ∧ k < w.heap.size + 6) w4 wc := ((hca.mono fun k _ hk => by have hk : k = w.heap.size + 1 + 1 + 1 := hk; omega).trans (hcb.mono fun k _ hk => by have hk : k = w.heap.size + 1 + 1 + 1 + 1 := hk; omega) (fun _ _ h => h)).trans (hq5.chg.mono fun k _ hk => by have hk : k = w.heap.size + 1 + 1 + 1 + 1 + 1 := hk; omega) (fun _ _ h => h)
  have hAC : AgAt wc (w.heap.size + 1 + 1 + 1) a4 := ⟨hA⟩
  have hNC : Blk wc (w.heap.size + 1) 3 #[.int .i64 node] := (hq5.chg.block _ (Nat.lt_of_lt_of_le HNO4.out.lt (Nat.le_trans hca.size hcb.size)) (by intro h; have h : w.heap.size + 1 = w.heap.size + 1 + 1 + 1 + 1 + 1 := h; omega)).trans ((hcb.block _ (Nat.lt_of_lt_of_le HNO4.out.lt hca.size) (by intro h; have h : w.heap.size + 1 = w.heap.size + 1 + 1 + 1 + 1 := h; omega)).trans ((hca.block _ HNO4.out.lt (by intro h; have h : w.heap.size + 1 = w.heap.size + 1 + 1 + 1 := h; omega)).trans HNO4.out))
  refine leaves_cons (f := 74) (args := #[.pointer (some ⟨w.heap.size + 1 + 1 + 1 + 1 + 1, 0, none⟩), .pointer (some ⟨w.heap.size + 1 + 1 + 1, 0, none⟩), .pointer (some ⟨w.heap.size + 1, 0, none⟩), .pointer (some ⟨w.heap.size + 1 + 1 + 1 + 1, 0, none⟩)]) (by simp) (by simp [go_sem]) ?_
  refine (told_yes (w.heap.size + 1 + 1 + 1 + 1 + 1) (w.heap.size + 1 + 1 + 1) (w.heap.size + 1) (w.heap.size + 1 + 1 + 1 + 1) a4 node wc hq5.blk hAC hNC _ hM rfl).mono ?_
  rintro e u' w6 ⟨rfl, rfl, hms, hc6⟩
  have hA6 := (hc6.block _ hA.lt (by intro h; have h : w.heap.size + 1 + 1 + 1 = w.heap.size + 1 + 1 + 1 + 1 := h; omega)).trans hA
  have hB6 := (hc6.block _ hq5.blk.lt (by intro h; have h : w.heap.size + 1 + 1 + 1 + 1 + 1 = w.heap.size + 1 + 1 + 1 + 1 := h; omega)).trans hq5.blk
  have hK6 : Chg (fun k => w.heap.size ≤ k ∧ k < w.heap.size + 6) w4 w6 := hK.trans (hc6.mono fun k _ hk => by have hk : k = w.heap.size + 1 + 1 + 1 + 1 := hk; omega) (fun _ _ h => h)
  refine ⟨_, run_three rfl rfl rfl rfl hA6 rfl hms.blk rfl hB6, ?_⟩
  have hx6 : Ext w w6 := hK6.ext (HC4.out.ext HX3.out (fun k hk => by have hk : k = w.heap.size := hk; omega)) (fun k hk => hk.1)
  have hta : takeA a m now true = a4 := by rw [HE4.out]; unfold takeA; rw [if_pos HG.out]; unfold doA; rw [if_neg (by rw [HKK.out]; decide), if_pos HKK.out]
  exact ⟨true, by rw [hta, HG.out]; rfl, fun _ => ⟨rfl, hx6⟩, fun h => by rw [HAS.out] at h; cases h⟩

set_option maxRecDepth 100000 in
set_option maxHeartbeats 4000000 in
theorem take_work (a : Ag) (m : Ms) (node now : Int) (sp : Option Addr) (G : Fp) (Q : Int → World → Prop) (w : World) (hk : m.kind = 3) (hu : a.up = true) (he : elderA a m = false) :
    Calls Try.prog 35 #[agV a, .int .i64 node, msV m, .int .i64 now, .pointer sp] w (TakeQ a m node now G Q w) := by
  have HKK := Lib.hid hk
  have HKB : Hid (-9223372036854775808 ≤ m.kind ∧ m.kind ≤ 9223372036854775807) := Lib.hid (by omega)
  have HP : Hid (∀ q, pickOf q m.kind = (.func (.func 104) #[] #[.pointer (some ⟨q + 4, 0, none⟩), .pointer (some ⟨q + 1, 0, none⟩), .pointer (some ⟨q, 0, none⟩), .pointer (some ⟨q + 5, 0, none⟩)])) := Lib.hid fun q => by unfold pickOf pickF; rw [hk]; rfl
  have HG : Hid (goesA a m = true) := Lib.hid (by unfold goesA; rw [hu, he, hk]; rfl)
  have HU := Lib.hid hu
  have HAS : Hid (asksA a m now = false) := Lib.hid (by unfold asksA dueA; rw [hk]; simp)
  clear hk hu
  obtain ⟨W, hW⟩ : ∃ W, W = ((((((w.alloc (.cells #[.bool true, .int .i64 a.term, .int .i64 a.gen, .int .i64 a.mode, .int .i64 a.job, .int .i64 a.inc, .int .i64 a.ver, .int .i64 a.lease, .int .i64 a.worked, .int .i64 a.aim] 56)).alloc (.cells #[.int .i64 node] 3)).alloc (.cells #[.int .i64 m.node, .int .i64 m.kind, .int .i64 m.term, .int .i64 m.gen, .int .i64 m.job, .int .i64 m.inc, .int .i64 m.ver, .int .i64 m.epoch, .int .i64 m.til, .int .i64 m.mode, .int .i64 m.work] 49)).alloc (.cells #[.bool false, .int .i64 0, .int .i64 0, .int .i64 0, .int .i64 0, .int .i64 0, .int .i64 0, .int .i64 0, .int .i64 0, .int .i64 0] 56)).alloc (.cells #[.int .i64 0, .int .i64 0, .int .i64 0, .int .i64 0, .int .i64 0, .int .i64 0, .int .i64 0, .int .i64 0, .int .i64 0, .int .i64 0, .int .i64 0] 49)).alloc (.cells #[.bool false] 4)) := ⟨_, rfl⟩
  obtain ⟨b0, b1, b2, b3, b4, b5, hx, hz⟩ := six_blocks w _ _ _ _ _ _ _ _ _ _ _ _ W hW
  have HA : Hid (AgAt W w.heap.size a) := Lib.hid ⟨by rw [HU.out]; exact b0⟩
  have HNO : Hid (Blk W (w.heap.size + 1) 3 #[.int .i64 node]) := Lib.hid b1
  have HM : Hid (MsAt W (w.heap.size + 1 + 1) m) := Lib.hid ⟨b2⟩
  have HB3 : Hid (Blk W (w.heap.size + 1 + 1 + 1) 56 #[.bool false, .int .i64 0, .int .i64 0, .int .i64 0, .int .i64 0, .int .i64 0, .int .i64 0, .int .i64 0, .int .i64 0, .int .i64 0]) := Lib.hid b3
  have HB4 : Hid (Blk W (w.heap.size + 1 + 1 + 1 + 1) 49 #[.int .i64 0, .int .i64 0, .int .i64 0, .int .i64 0, .int .i64 0, .int .i64 0, .int .i64 0, .int .i64 0, .int .i64 0, .int .i64 0, .int .i64 0]) := Lib.hid b4
  have HB5 : Hid (Blk W (w.heap.size + 1 + 1 + 1 + 1 + 1) 4 #[.bool false]) := Lib.hid b5
  have HX := Lib.hid hx
  have HZ := Lib.hid hz
  obtain ⟨q, hq⟩ : ∃ q, q = W.drew.heap.size := ⟨_, rfl⟩
  have HQ : Hid (q = w.heap.size + 6) := Lib.hid (by rw [hq]; exact hz)
  have HT := Lib.hid (takers_any w.heap.size m now sp W.drew (by rw [← hq]; have := HQ.out; omega))
  rw [← hq] at HT
  unfold msV at HT
  have HS : Hid (∀ W', Ext W W' → W'.cell? ⟨w.heap.size + 1 + 1, 0, none⟩ = some (.int .i64 m.node) ∧ W'.cell? ⟨w.heap.size + 1 + 1, 1, none⟩ = some (.int .i64 m.kind) ∧ W'.cell? ⟨w.heap.size + 1 + 1, 2, none⟩ = some (.int .i64 m.term) ∧ W'.cell? ⟨w.heap.size + 1 + 1, 3, none⟩ = some (.int .i64 m.gen) ∧ W'.cell? ⟨w.heap.size + 1 + 1, 4, none⟩ = some (.int .i64 m.job) ∧ W'.cell? ⟨w.heap.size + 1 + 1, 5, none⟩ = some (.int .i64 m.inc) ∧ W'.cell? ⟨w.heap.size + 1 + 1, 6, none⟩ = some (.int .i64 m.ver) ∧ W'.cell? ⟨w.heap.size + 1 + 1, 7, none⟩ = some (.int .i64 m.epoch) ∧ W'.cell? ⟨w.heap.size + 1 + 1, 8, none⟩ = some (.int .i64 m.til) ∧ W'.cell? ⟨w.heap.size + 1 + 1, 9, none⟩ = some (.int .i64 m.mode) ∧ W'.cell? ⟨w.heap.size + 1 + 1, 10, none⟩ = some (.int .i64 m.work)) := Lib.hid fun W' h => ⟨(HM.out.ext h).blk.cell 0, (HM.out.ext h).blk.cell 1, (HM.out.ext h).blk.cell 2, (HM.out.ext h).blk.cell 3, (HM.out.ext h).blk.cell 4, (HM.out.ext h).blk.cell 5, (HM.out.ext h).blk.cell 6, (HM.out.ext h).blk.cell 7, (HM.out.ext h).blk.cell 8, (HM.out.ext h).blk.cell 9, (HM.out.ext h).blk.cell 10⟩
  have hmf : ∀ (fn : Fn) (first cap : Array Value) (w : World), (Instr.makeFunc fn first cap).run Try.prog w = .ok (.func fn first cap) w := fun _ _ _ _ => rfl
  have hbn := nilF_nil
  have hbf := nilF_func
  clear hx hz b0 b1 b2 b3 b4 b5 hq
  unfold agV msV
  rw [HU.out]
  go_enter_defers Try.func35, Try.ntmps35
  go_upto_region 2 with (fail)
  rw [← hW]
  clear hW hmf
  refine held_begin (by kernel_rfl) ?_
  have hHeld0 : True := True.intro
  refine held_more (S' := fun (W' : World) => W'.cell? ⟨w.heap.size + 1 + 1, 0, none⟩ = some (.int .i64 m.node) ∧ W'.cell? ⟨w.heap.size + 1 + 1, 1, none⟩ = some (.int .i64 m.kind) ∧ W'.cell? ⟨w.heap.size + 1 + 1, 2, none⟩ = some (.int .i64 m.term) ∧ W'.cell? ⟨w.heap.size + 1 + 1, 3, none⟩ = some (.int .i64 m.gen) ∧ W'.cell? ⟨w.heap.size + 1 + 1, 4, none⟩ = some (.int .i64 m.job) ∧ W'.cell? ⟨w.heap.size + 1 + 1, 5, none⟩ = some (.int .i64 m.inc) ∧ W'.cell? ⟨w.heap.size + 1 + 1, 6, none⟩ = some (.int .i64 m.ver) ∧ W'.cell? ⟨w.heap.size + 1 + 1, 7, none⟩ = some (.int .i64 m.epoch) ∧ W'.cell? ⟨w.heap.size + 1 + 1, 8, none⟩ = some (.int .i64 m.til) ∧ W'.cell? ⟨w.heap.size + 1 + 1, 9, none⟩ = some (.int .i64 m.mode) ∧ W'.cell? ⟨w.heap.size + 1 + 1, 10, none⟩ = some (.int .i64 m.work)) (fun _ _ => True.intro) ?_
  have hHeld1 : (fun (W' : World) => W'.cell? ⟨w.heap.size + 1 + 1, 0, none⟩ = some (.int .i64 m.node) ∧ W'.cell? ⟨w.heap.size + 1 + 1, 1, none⟩ = some (.int .i64 m.kind) ∧ W'.cell? ⟨w.heap.size + 1 + 1, 2, none⟩ = some (.int .i64 m.term) ∧ W'.cell? ⟨w.heap.size + 1 + 1, 3, none⟩ = some (.int .i64 m.gen) ∧ W'.cell? ⟨w.heap.size + 1 + 1, 4, none⟩ = some (.int .i64 m.job) ∧ W'.cell? ⟨w.heap.size + 1 + 1, 5, none⟩ = some (.int .i64 m.inc) ∧ W'.cell? ⟨w.heap.size + 1 + 1, 6, none⟩ = some (.int .i64 m.ver) ∧ W'.cell? ⟨w.heap.size + 1 + 1, 7, none⟩ = some (.int .i64 m.epoch) ∧ W'.cell? ⟨w.heap.size + 1 + 1, 8, none⟩ = some (.int .i64 m.til) ∧ W'.cell? ⟨w.heap.size + 1 + 1, 9, none⟩ = some (.int .i64 m.mode) ∧ W'.cell? ⟨w.heap.size + 1 + 1, 10, none⟩ = some (.int .i64 m.work)) _ := HS.out _ (ext_dr13 W)
  clear hHeld0
  refine held_take (i := 0) (v := ?_) rfl (by kernel_rfl) (by kernel_rfl) (by kernel_rfl) (by rfl) (by first | assumption | exact True.intro) ?_ ?_
  rotate_left
  · (intro w hSw; (try dsimp only at hSw); (try obtain ⟨k0, k1, k2, k3, k4, k5, k6, k7, k8, k9, k10⟩ := hSw); go_simp; (try with_reducible rfl))
  try simp only [Act.put, List.setIfInBounds_toArray, List.set_cons_zero, List.set_cons_succ]
  refine held_take (i := 1) (v := ?_) rfl (by kernel_rfl) (by kernel_rfl) (by kernel_rfl) (by rfl) (by first | assumption | exact True.intro) ?_ ?_
  rotate_left
  · (intro w hSw; (try dsimp only at hSw); (try obtain ⟨k0, k1, k2, k3, k4, k5, k6, k7, k8, k9, k10⟩ := hSw); go_simp; (try with_reducible rfl))
  try simp only [Act.put, List.setIfInBounds_toArray, List.set_cons_zero, List.set_cons_succ]
  refine held_take (i := 2) (v := ?_) rfl (by kernel_rfl) (by kernel_rfl) (by kernel_rfl) (by rfl) (by first | assumption | exact True.intro) ?_ ?_
  rotate_left
  · (intro w hSw; (try dsimp only at hSw); (try obtain ⟨k0, k1, k2, k3, k4, k5, k6, k7, k8, k9, k10⟩ := hSw); go_simp; (try with_reducible rfl))
  try simp only [Act.put, List.setIfInBounds_toArray, List.set_cons_zero, List.set_cons_succ]
  refine held_take (i := 4) (v := ?_) rfl (by kernel_rfl) (by kernel_rfl) (by kernel_rfl) (by rfl) (by first | assumption | exact True.intro) ?_ ?_
  rotate_left
  · (intro w hSw; (try dsimp only at hSw); (try obtain ⟨k0, k1, k2, k3, k4, k5, k6, k7, k8, k9, k10⟩ := hSw); go_simp; (try with_reducible rfl))
  try simp only [Act.put, List.setIfInBounds_toArray, List.set_cons_zero, List.set_cons_succ]
  refine held_take (i := 5) (v := ?_) rfl (by kernel_rfl) (by kernel_rfl) (by kernel_rfl) (by rfl) (by first | assumption | exact True.intro) ?_ ?_
  rotate_left
  · (intro w hSw; (try dsimp only at hSw); (try obtain ⟨k0, k1, k2, k3, k4, k5, k6, k7, k8, k9, k10⟩ := hSw); go_simp; (try with_reducible rfl))
  try simp only [Act.put, List.setIfInBounds_toArray, List.set_cons_zero, List.set_cons_succ]
  refine held_op (i := 3) (by kernel_rfl) rfl (fun K hK => ?_)
  go_simp
  go_at_call 75
  (with_reducible refine (HT.out).mono ?_)
  rintro e1 w1 ⟨b, rfl, hown, htk, hx1⟩
  refine hK _ _ ?_ (fun hHeld2 => ?_)
  · exact HS.out _ (Ext.trans (ext_dr13 W) hx1)
  clear hK K hHeld1
  try simp only [Act.put, List.setIfInBounds_toArray, List.set_cons_zero, List.set_cons_succ]
  refine held_op (i := 6) (by kernel_rfl) rfl (fun K hK => ?_)
  have hlk := takers_at m.kind (by have := HKB.out; omega) hown
  rw [HP.out q] at hlk
  go_simp
  refine hK _ _ ?_ (fun hHeld3 => ?_)
  · exact HS.out _ (Ext.trans (ext_dr13 W) hx1)
  clear hK K hHeld2
  try simp only [Act.put, List.setIfInBounds_toArray, List.set_cons_zero, List.set_cons_succ]
  refine held_take (i := 7) (v := ?_) rfl (by kernel_rfl) (by kernel_rfl) (by kernel_rfl) (by rfl) (by first | assumption | exact True.intro) ?_ ?_
  rotate_left
  · (intro w hSw; (try dsimp only at hSw); (try obtain ⟨k0, k1, k2, k3, k4, k5, k6, k7, k8, k9, k10⟩ := hSw); go_simp; (try with_reducible rfl))
  try simp only [Act.put, List.setIfInBounds_toArray, List.set_cons_zero, List.set_cons_succ]
  refine wpAnyH_done (by kernel_rfl) ?_ _
  refine NoPanic.normal ?_
  clear hHeld3
  have HX1 := Lib.hid (Ext.trans (ext_dr13 W) hx1)
  have HTK := Lib.hid htk
  clear hx1 htk hown hlk HT HS
  have HA1 := Lib.hid (HA.out.ext HX1.out)
  obtain ⟨c0, c1, c2, c3, c4, c5, c6, c7, c8, c9⟩ := HA1.out.cells
  rw [HU.out] at c0
  have HE := Lib.hid (isElder_any a m w1)
  unfold agV msV at HE
  rw [he, HU.out] at HE
  obtain ⟨m0, m1, m2, m3, m4, m5, m6, m7, m8, m9, m10⟩ := (HM.out.ext HX1.out).cells
  clear he
  go_wp2_with fail
  refine HE.out.mono ?_
  rintro e2 w2 ⟨rfl, hx2⟩
  have HX2 := Lib.hid (HX1.out.trans hx2)
  have HX12 := Lib.hid hx2
  clear hx2 HE c0 c1 c2 c3 c4 c5 c6 c7 c8 c9 m0 m1 m2 m3 m4 m5 m6 m7 m8 m9 m10
  have HA2 := Lib.hid (HA.out.ext HX2.out)
  have HB32 := Lib.hid (HB3.out.ext HX2.out)
  have HB42 := Lib.hid (HB4.out.ext HX2.out)
  have HB52 := Lib.hid (HB5.out.ext HX2.out)
  have HM2 := Lib.hid (HM.out.ext HX2.out)
  have HTK2 := Lib.hid (HTK.out.ext HX12.out)
  have HNO2 := Lib.hid (HNO.out.ext HX2.out)
  have c1 := HA2.out.cells.2.1
  have c2 := HA2.out.cells.2.2.1
  have f1 := HA2.out.blk.frozen 1
  have f2 := HA2.out.blk.frozen 2
  have m2 := HM2.out.cells.2.2.1
  have m3 := HM2.out.cells.2.2.2.1
  have n2 : ¬ (w.heap.size + 1 + 1) = w.heap.size := by omega
  have n2' : ¬ w.heap.size = w.heap.size + 1 + 1 := by omega
  have hq3 := ((WB.start HA2.out.blk).set 1 (.int .i64 m.term)).set 2 (.int .i64 m.gen)
  simp only [List.setIfInBounds_toArray, List.set_cons_zero, List.set_cons_succ] at hq3
  obtain ⟨w3, hw3⟩ : ∃ W, W = ((w2.setCell ⟨w.heap.size, 1, none⟩ (.int .i64 m.term)).setCell ⟨w.heap.size, 2, none⟩ (.int .i64 m.gen)).drew := ⟨_, rfl⟩
  have HA3 : Hid (AgAt w3 w.heap.size (toldA a m)) := Lib.hid (by rw [hw3]; exact ⟨hq3.blk⟩)
  have HC3 : Hid (Chg (fun k => k = w.heap.size) w2 w3) := Lib.hid (by rw [hw3]; exact hq3.chg.drew)
  clear hq3
  go_wp2_with fail
  go_region
  all_goals go_wp2_with fail
  rw [← hw3]
  clear hw3 n2 n2' c1 c2 f1 f2 m2 m3
  have HT3 : Hid (TkAt w3 w.heap.size q m now (.pointer sp)) := Lib.hid (HTK2.out.chg HC3.out (fun k h1 h2 e => by have e : k = w.heap.size := e; have := HQ.out; omega))
  have HX3 : Hid (Ext w w3) := Lib.hid (HC3.out.ext (HX.out.trans HX2.out) (fun k hk => by have hk : k = w.heap.size := hk; omega))
  have HNO3 : Hid (Blk w3 (w.heap.size + 1) 3 (#[.int .i64 node])) := Lib.hid ((HC3.out.block _ HNO2.out.lt (by intro h; have h : w.heap.size + 1 = w.heap.size := h; omega)).trans HNO2.out)
  have HB33 : Hid (Blk w3 (w.heap.size + 1 + 1 + 1) 56 (#[.bool false, .int .i64 0, .int .i64 0, .int .i64 0, .int .i64 0, .int .i64 0, .int .i64 0, .int .i64 0, .int .i64 0, .int .i64 0])) := Lib.hid ((HC3.out.block _ HB32.out.lt (by intro h; have h : w.heap.size + 1 + 1 + 1 = w.heap.size := h; omega)).trans HB32.out)
  have HB43 : Hid (Blk w3 (w.heap.size + 1 + 1 + 1 + 1) 49 (#[.int .i64 0, .int .i64 0, .int .i64 0, .int .i64 0, .int .i64 0, .int .i64 0, .int .i64 0, .int .i64 0, .int .i64 0, .int .i64 0, .int .i64 0])) := Lib.hid ((HC3.out.block _ HB42.out.lt (by intro h; have h : w.heap.size + 1 + 1 + 1 + 1 = w.heap.size := h; omega)).trans HB42.out)
  have HB53 : Hid (Blk w3 (w.heap.size + 1 + 1 + 1 + 1 + 1) 4 (#[.bool false])) := Lib.hid ((HC3.out.block _ HB52.out.lt (by intro h; have h : w.heap.size + 1 + 1 + 1 + 1 + 1 = w.heap.size := h; omega)).trans HB52.out)
  clear HNO2 HB32 HB42 HB52 HM2 HTK2 HA2 HTK HB3 HB4 HB5 HNO HM HA HA1
  have HCL := Lib.hid (work13_any w.heap.size q (q + 1) (q + 2) (q + 4) (q + 5) (toldA a m) m now w3 HA3.out HT3.out.cap HT3.out.fns)
  skip
  refine HCL.out.mono ?_
  rintro e4 w4 ⟨rfl, ha4, hc4⟩
  skip
  obtain ⟨a4, ha4e⟩ : ∃ x, x = (if isA (toldA a m) m 1 = true then { toldA a m with mode := 2, worked := m.work, lease := m.til } else if isA (toldA a m) m 2 = true then longA (toldA a m) m else toldA a m) := ⟨_, rfl⟩
  rw [← ha4e] at ha4
  have HA4 := Lib.hid ha4
  have HE4 := Lib.hid ha4e
  have HC4 := Lib.hid hc4
  clear ha4 ha4e hc4 HCL
  have HNO4 : Hid (Blk w4 (w.heap.size + 1) 3 (#[.int .i64 node])) := Lib.hid ((HC4.out.block _ HNO3.out.lt (by intro h; have h : w.heap.size + 1 = w.heap.size := h; omega)).trans HNO3.out)
  have HB34 : Hid (Blk w4 (w.heap.size + 1 + 1 + 1) 56 (#[.bool false, .int .i64 0, .int .i64 0, .int .i64 0, .int .i64 0, .int .i64 0, .int .i64 0, .int .i64 0, .int .i64 0, .int .i64 0])) := Lib.hid ((HC4.out.block _ HB33.out.lt (by intro h; have h : w.heap.size + 1 + 1 + 1 = w.heap.size := h; omega)).trans HB33.out)
  have HB44 : Hid (Blk w4 (w.heap.size + 1 + 1 + 1 + 1) 49 (#[.int .i64 0, .int .i64 0, .int .i64 0, .int .i64 0, .int .i64 0, .int .i64 0, .int .i64 0, .int .i64 0, .int .i64 0, .int .i64 0, .int .i64 0])) := Lib.hid ((HC4.out.block _ HB43.out.lt (by intro h; have h : w.heap.size + 1 + 1 + 1 + 1 = w.heap.size := h; omega)).trans HB43.out)
  have HB54 : Hid (Blk w4 (w.heap.size + 1 + 1 + 1 + 1 + 1) 4 (#[.bool false])) := Lib.hid ((HC4.out.block _ HB53.out.lt (by intro h; have h : w.heap.size + 1 + 1 + 1 + 1 + 1 = w.heap.size := h; omega)).trans HB53.out)
  have HSZ : Hid (w.heap.size + 6 ≤ w3.heap.size) := Lib.hid (by have h1 := HX2.out.size; have h2 := HC3.out.size; have := HZ.out; omega)
  clear HNO3 HB33 HB43 HB53 HT3
  obtain ⟨c0, c1, c2, c3, c4, c5, c6, c7, c8, c9⟩ := HA4.out.cells
  have HO1 := Lib.hid (agA_one (a4))
  have HI1 := Lib.hid infoA_
  have HO2 := Lib.hid (msA_one zMs)
  have HI2 := Lib.hid infoM_
  have HF4 : Hid (∀ W', Chg (fun k => k = w.heap.size + 1 + 1 + 1) w4 W' → Blk W' (w.heap.size + 1 + 1 + 1 + 1) 49 #[.int .i64 0, .int .i64 0, .int .i64 0, .int .i64 0, .int .i64 0, .int .i64 0, .int .i64 0, .int .i64 0, .int .i64 0, .int .i64 0, .int .i64 0]) := Lib.hid fun W' h => (h.block _ HB44.out.lt (by intro h; have h : w.heap.size + 1 + 1 + 1 + 1 = w.heap.size + 1 + 1 + 1 := h; omega)).trans HB44.out
  have HF5 : Hid (∀ W' W'', Chg (fun k => k = w.heap.size + 1 + 1 + 1) w4 W' → Chg (fun k => k = w.heap.size + 1 + 1 + 1 + 1) W' W'' → Blk W'' (w.heap.size + 1 + 1 + 1 + 1 + 1) 4 #[.bool false]) := Lib.hid fun W' W'' h1 h2 => by
    have h3 := (h1.block _ HB54.out.lt (by intro h; have h : w.heap.size + 1 + 1 + 1 + 1 + 1 = w.heap.size + 1 + 1 + 1 := h; omega)).trans HB54.out
    exact (h2.block _ (Nat.lt_of_lt_of_le HB54.out.lt h1.size) (by intro h; have h : w.heap.size + 1 + 1 + 1 + 1 + 1 = w.heap.size + 1 + 1 + 1 + 1 := h; omega)).trans h3
  go_wp2_with (first | (refine wpList_storeC rfl 56 _ _ rfl (w.heap.size + 1 + 1 + 1) (agA (a4)) rfl rfl 56 _ HB34.out HI1.out rfl HO1.out ?_; intro wa hba hca) | (refine wpList_storeC rfl 49 _ _ rfl (w.heap.size + 1 + 1 + 1 + 1) (msA zMs) rfl rfl 49 _ (HF4.out _ hca) HI2.out rfl HO2.out ?_; intro wb hbb hcb; have y0 := (HF5.out _ _ hca hcb).cell1; have y1 := (HF5.out _ _ hca hcb).frozen 0))
  skip
  have hb5 := HF5.out _ _ hca hcb
  have hq5 := (WB.start hb5).set 0 (.bool true)
  simp only [List.setIfInBounds_toArray, List.set_cons_zero] at hq5
  obtain ⟨wc, hwc⟩ : ∃ W, W = wb.setCell ⟨w.heap.size + 1 + 1 + 1 + 1 + 1, 0, none⟩ (.bool true) := ⟨_, rfl⟩
  rw [← hwc] at hq5 ⊢
  clear hwc hb5
  have hA : Blk wc (w.heap.size + 1 + 1 + 1) 56 (agA (a4)) := (hq5.chg.block _ (Nat.lt_of_lt_of_le hba.lt hcb.size) (by intro h; have h : w.heap.size + 1 + 1 + 1 = w.heap.size + 1 + 1 + 1 + 1 + 1 := h; omega)).trans ((hcb.block _ hba.lt (by intro h; have h : w.heap.size + 1 + 1 + 1 = w.heap.size + 1 + 1 + 1 + 1 := h; omega)).trans hba)
  have hM : Blk wc (w.heap.size + 1 + 1 + 1 + 1) 49 (msA zMs) := (hq5.chg.block _ hbb.lt (by intro h; have h : w.heap.size + 1 + 1 + 1 + 1 = w.heap.size + 1 + 1 + 1 + 1 + 1 := h; omega)).trans hbb
  have hK : Chg (fun k => w.heap.size ≤ k ∧ k < w.heap.size + 6) w4 wc := ((hca.mono fun k _ hk => by have hk : k = w.heap.size + 1 + 1 + 1 := hk; omega).trans (hcb.mono fun k _ hk => by have hk : k = w.heap.size + 1 + 1 + 1 + 1 := hk; omega) (fun _ _ h => h)).trans (hq5.chg.mono fun k _ hk => by have hk : k = w.heap.size + 1 + 1 + 1 + 1 + 1 := hk; omega) (fun _ _ h => h)
  have hAC : AgAt wc (w.heap.size + 1 + 1 + 1) a4 := ⟨hA⟩
  have hNC : Blk wc (w.heap.size + 1) 3 #[.int .i64 node] := (hq5.chg.block _ (Nat.lt_of_lt_of_le HNO4.out.lt (Nat.le_trans hca.size hcb.size)) (by intro h; have h : w.heap.size + 1 = w.heap.size + 1 + 1 + 1 + 1 + 1 := h; omega)).trans ((hcb.block _ (Nat.lt_of_lt_of_le HNO4.out.lt hca.size) (by intro h; have h : w.heap.size + 1 = w.heap.size + 1 + 1 + 1 + 1 := h; omega)).trans ((hca.block _ HNO4.out.lt (by intro h; have h : w.heap.size + 1 = w.heap.size + 1 + 1 + 1 := h; omega)).trans HNO4.out))
  refine leaves_cons (f := 74) (args := #[.pointer (some ⟨w.heap.size + 1 + 1 + 1 + 1 + 1, 0, none⟩), .pointer (some ⟨w.heap.size + 1 + 1 + 1, 0, none⟩), .pointer (some ⟨w.heap.size + 1, 0, none⟩), .pointer (some ⟨w.heap.size + 1 + 1 + 1 + 1, 0, none⟩)]) (by simp) (by simp [go_sem]) ?_
  refine (told_yes (w.heap.size + 1 + 1 + 1 + 1 + 1) (w.heap.size + 1 + 1 + 1) (w.heap.size + 1) (w.heap.size + 1 + 1 + 1 + 1) a4 node wc hq5.blk hAC hNC _ hM rfl).mono ?_
  rintro e u' w6 ⟨rfl, rfl, hms, hc6⟩
  have hA6 := (hc6.block _ hA.lt (by intro h; have h : w.heap.size + 1 + 1 + 1 = w.heap.size + 1 + 1 + 1 + 1 := h; omega)).trans hA
  have hB6 := (hc6.block _ hq5.blk.lt (by intro h; have h : w.heap.size + 1 + 1 + 1 + 1 + 1 = w.heap.size + 1 + 1 + 1 + 1 := h; omega)).trans hq5.blk
  have hK6 : Chg (fun k => w.heap.size ≤ k ∧ k < w.heap.size + 6) w4 w6 := hK.trans (hc6.mono fun k _ hk => by have hk : k = w.heap.size + 1 + 1 + 1 + 1 := hk; omega) (fun _ _ h => h)
  refine ⟨_, run_three rfl rfl rfl rfl hA6 rfl hms.blk rfl hB6, ?_⟩
  have hx6 : Ext w w6 := hK6.ext (HC4.out.ext HX3.out (fun k hk => by have hk : k = w.heap.size := hk; omega)) (fun k hk => hk.1)
  have hta : takeA a m now true = a4 := by rw [HE4.out]; unfold takeA; rw [if_pos HG.out]; unfold doA; rw [if_neg (by rw [HKK.out]; decide), if_neg (by rw [HKK.out]; decide), if_pos HKK.out]
  exact ⟨true, by rw [hta, HG.out]; rfl, fun _ => ⟨rfl, hx6⟩, fun h => by rw [HAS.out] at h; cases h⟩

set_option maxRecDepth 100000 in
set_option maxHeartbeats 4000000 in
theorem take_turn (a : Ag) (m : Ms) (node now : Int) (sp : Option Addr) (G : Fp) (Q : Int → World → Prop) (w : World) (hk : m.kind = 5) (hu : a.up = true) (he : elderA a m = false) :
    Calls Try.prog 35 #[agV a, .int .i64 node, msV m, .int .i64 now, .pointer sp] w (TakeQ a m node now G Q w) := by
  have HKK := Lib.hid hk
  have HKB : Hid (-9223372036854775808 ≤ m.kind ∧ m.kind ≤ 9223372036854775807) := Lib.hid (by omega)
  have HP : Hid (∀ q, pickOf q m.kind = (.func (.func 107) #[] #[.pointer (some ⟨q, 0, none⟩), .pointer (some ⟨q + 1, 0, none⟩)])) := Lib.hid fun q => by unfold pickOf pickF; rw [hk]; rfl
  have HG : Hid (goesA a m = true) := Lib.hid (by unfold goesA; rw [hu, he, hk]; rfl)
  have HU := Lib.hid hu
  have HAS : Hid (asksA a m now = false) := Lib.hid (by unfold asksA dueA; rw [hk]; simp)
  clear hk hu
  obtain ⟨W, hW⟩ : ∃ W, W = ((((((w.alloc (.cells #[.bool true, .int .i64 a.term, .int .i64 a.gen, .int .i64 a.mode, .int .i64 a.job, .int .i64 a.inc, .int .i64 a.ver, .int .i64 a.lease, .int .i64 a.worked, .int .i64 a.aim] 56)).alloc (.cells #[.int .i64 node] 3)).alloc (.cells #[.int .i64 m.node, .int .i64 m.kind, .int .i64 m.term, .int .i64 m.gen, .int .i64 m.job, .int .i64 m.inc, .int .i64 m.ver, .int .i64 m.epoch, .int .i64 m.til, .int .i64 m.mode, .int .i64 m.work] 49)).alloc (.cells #[.bool false, .int .i64 0, .int .i64 0, .int .i64 0, .int .i64 0, .int .i64 0, .int .i64 0, .int .i64 0, .int .i64 0, .int .i64 0] 56)).alloc (.cells #[.int .i64 0, .int .i64 0, .int .i64 0, .int .i64 0, .int .i64 0, .int .i64 0, .int .i64 0, .int .i64 0, .int .i64 0, .int .i64 0, .int .i64 0] 49)).alloc (.cells #[.bool false] 4)) := ⟨_, rfl⟩
  obtain ⟨b0, b1, b2, b3, b4, b5, hx, hz⟩ := six_blocks w _ _ _ _ _ _ _ _ _ _ _ _ W hW
  have HA : Hid (AgAt W w.heap.size a) := Lib.hid ⟨by rw [HU.out]; exact b0⟩
  have HNO : Hid (Blk W (w.heap.size + 1) 3 #[.int .i64 node]) := Lib.hid b1
  have HM : Hid (MsAt W (w.heap.size + 1 + 1) m) := Lib.hid ⟨b2⟩
  have HB3 : Hid (Blk W (w.heap.size + 1 + 1 + 1) 56 #[.bool false, .int .i64 0, .int .i64 0, .int .i64 0, .int .i64 0, .int .i64 0, .int .i64 0, .int .i64 0, .int .i64 0, .int .i64 0]) := Lib.hid b3
  have HB4 : Hid (Blk W (w.heap.size + 1 + 1 + 1 + 1) 49 #[.int .i64 0, .int .i64 0, .int .i64 0, .int .i64 0, .int .i64 0, .int .i64 0, .int .i64 0, .int .i64 0, .int .i64 0, .int .i64 0, .int .i64 0]) := Lib.hid b4
  have HB5 : Hid (Blk W (w.heap.size + 1 + 1 + 1 + 1 + 1) 4 #[.bool false]) := Lib.hid b5
  have HX := Lib.hid hx
  have HZ := Lib.hid hz
  obtain ⟨q, hq⟩ : ∃ q, q = W.drew.heap.size := ⟨_, rfl⟩
  have HQ : Hid (q = w.heap.size + 6) := Lib.hid (by rw [hq]; exact hz)
  have HT := Lib.hid (takers_any w.heap.size m now sp W.drew (by rw [← hq]; have := HQ.out; omega))
  rw [← hq] at HT
  unfold msV at HT
  have HS : Hid (∀ W', Ext W W' → W'.cell? ⟨w.heap.size + 1 + 1, 0, none⟩ = some (.int .i64 m.node) ∧ W'.cell? ⟨w.heap.size + 1 + 1, 1, none⟩ = some (.int .i64 m.kind) ∧ W'.cell? ⟨w.heap.size + 1 + 1, 2, none⟩ = some (.int .i64 m.term) ∧ W'.cell? ⟨w.heap.size + 1 + 1, 3, none⟩ = some (.int .i64 m.gen) ∧ W'.cell? ⟨w.heap.size + 1 + 1, 4, none⟩ = some (.int .i64 m.job) ∧ W'.cell? ⟨w.heap.size + 1 + 1, 5, none⟩ = some (.int .i64 m.inc) ∧ W'.cell? ⟨w.heap.size + 1 + 1, 6, none⟩ = some (.int .i64 m.ver) ∧ W'.cell? ⟨w.heap.size + 1 + 1, 7, none⟩ = some (.int .i64 m.epoch) ∧ W'.cell? ⟨w.heap.size + 1 + 1, 8, none⟩ = some (.int .i64 m.til) ∧ W'.cell? ⟨w.heap.size + 1 + 1, 9, none⟩ = some (.int .i64 m.mode) ∧ W'.cell? ⟨w.heap.size + 1 + 1, 10, none⟩ = some (.int .i64 m.work)) := Lib.hid fun W' h => ⟨(HM.out.ext h).blk.cell 0, (HM.out.ext h).blk.cell 1, (HM.out.ext h).blk.cell 2, (HM.out.ext h).blk.cell 3, (HM.out.ext h).blk.cell 4, (HM.out.ext h).blk.cell 5, (HM.out.ext h).blk.cell 6, (HM.out.ext h).blk.cell 7, (HM.out.ext h).blk.cell 8, (HM.out.ext h).blk.cell 9, (HM.out.ext h).blk.cell 10⟩
  have hmf : ∀ (fn : Fn) (first cap : Array Value) (w : World), (Instr.makeFunc fn first cap).run Try.prog w = .ok (.func fn first cap) w := fun _ _ _ _ => rfl
  have hbn := nilF_nil
  have hbf := nilF_func
  clear hx hz b0 b1 b2 b3 b4 b5 hq
  unfold agV msV
  rw [HU.out]
  go_enter_defers Try.func35, Try.ntmps35
  go_upto_region 2 with (fail)
  rw [← hW]
  clear hW hmf
  refine held_begin (by kernel_rfl) ?_
  have hHeld0 : True := True.intro
  refine held_more (S' := fun (W' : World) => W'.cell? ⟨w.heap.size + 1 + 1, 0, none⟩ = some (.int .i64 m.node) ∧ W'.cell? ⟨w.heap.size + 1 + 1, 1, none⟩ = some (.int .i64 m.kind) ∧ W'.cell? ⟨w.heap.size + 1 + 1, 2, none⟩ = some (.int .i64 m.term) ∧ W'.cell? ⟨w.heap.size + 1 + 1, 3, none⟩ = some (.int .i64 m.gen) ∧ W'.cell? ⟨w.heap.size + 1 + 1, 4, none⟩ = some (.int .i64 m.job) ∧ W'.cell? ⟨w.heap.size + 1 + 1, 5, none⟩ = some (.int .i64 m.inc) ∧ W'.cell? ⟨w.heap.size + 1 + 1, 6, none⟩ = some (.int .i64 m.ver) ∧ W'.cell? ⟨w.heap.size + 1 + 1, 7, none⟩ = some (.int .i64 m.epoch) ∧ W'.cell? ⟨w.heap.size + 1 + 1, 8, none⟩ = some (.int .i64 m.til) ∧ W'.cell? ⟨w.heap.size + 1 + 1, 9, none⟩ = some (.int .i64 m.mode) ∧ W'.cell? ⟨w.heap.size + 1 + 1, 10, none⟩ = some (.int .i64 m.work)) (fun _ _ => True.intro) ?_
  have hHeld1 : (fun (W' : World) => W'.cell? ⟨w.heap.size + 1 + 1, 0, none⟩ = some (.int .i64 m.node) ∧ W'.cell? ⟨w.heap.size + 1 + 1, 1, none⟩ = some (.int .i64 m.kind) ∧ W'.cell? ⟨w.heap.size + 1 + 1, 2, none⟩ = some (.int .i64 m.term) ∧ W'.cell? ⟨w.heap.size + 1 + 1, 3, none⟩ = some (.int .i64 m.gen) ∧ W'.cell? ⟨w.heap.size + 1 + 1, 4, none⟩ = some (.int .i64 m.job) ∧ W'.cell? ⟨w.heap.size + 1 + 1, 5, none⟩ = some (.int .i64 m.inc) ∧ W'.cell? ⟨w.heap.size + 1 + 1, 6, none⟩ = some (.int .i64 m.ver) ∧ W'.cell? ⟨w.heap.size + 1 + 1, 7, none⟩ = some (.int .i64 m.epoch) ∧ W'.cell? ⟨w.heap.size + 1 + 1, 8, none⟩ = some (.int .i64 m.til) ∧ W'.cell? ⟨w.heap.size + 1 + 1, 9, none⟩ = some (.int .i64 m.mode) ∧ W'.cell? ⟨w.heap.size + 1 + 1, 10, none⟩ = some (.int .i64 m.work)) _ := HS.out _ (ext_dr13 W)
  clear hHeld0
  refine held_take (i := 0) (v := ?_) rfl (by kernel_rfl) (by kernel_rfl) (by kernel_rfl) (by rfl) (by first | assumption | exact True.intro) ?_ ?_
  rotate_left
  · (intro w hSw; (try dsimp only at hSw); (try obtain ⟨k0, k1, k2, k3, k4, k5, k6, k7, k8, k9, k10⟩ := hSw); go_simp; (try with_reducible rfl))
  try simp only [Act.put, List.setIfInBounds_toArray, List.set_cons_zero, List.set_cons_succ]
  refine held_take (i := 1) (v := ?_) rfl (by kernel_rfl) (by kernel_rfl) (by kernel_rfl) (by rfl) (by first | assumption | exact True.intro) ?_ ?_
  rotate_left
  · (intro w hSw; (try dsimp only at hSw); (try obtain ⟨k0, k1, k2, k3, k4, k5, k6, k7, k8, k9, k10⟩ := hSw); go_simp; (try with_reducible rfl))
  try simp only [Act.put, List.setIfInBounds_toArray, List.set_cons_zero, List.set_cons_succ]
  refine held_take (i := 2) (v := ?_) rfl (by kernel_rfl) (by kernel_rfl) (by kernel_rfl) (by rfl) (by first | assumption | exact True.intro) ?_ ?_
  rotate_left
  · (intro w hSw; (try dsimp only at hSw); (try obtain ⟨k0, k1, k2, k3, k4, k5, k6, k7, k8, k9, k10⟩ := hSw); go_simp; (try with_reducible rfl))
  try simp only [Act.put, List.setIfInBounds_toArray, List.set_cons_zero, List.set_cons_succ]
  refine held_take (i := 4) (v := ?_) rfl (by kernel_rfl) (by kernel_rfl) (by kernel_rfl) (by rfl) (by first | assumption | exact True.intro) ?_ ?_
  rotate_left
  · (intro w hSw; (try dsimp only at hSw); (try obtain ⟨k0, k1, k2, k3, k4, k5, k6, k7, k8, k9, k10⟩ := hSw); go_simp; (try with_reducible rfl))
  try simp only [Act.put, List.setIfInBounds_toArray, List.set_cons_zero, List.set_cons_succ]
  refine held_take (i := 5) (v := ?_) rfl (by kernel_rfl) (by kernel_rfl) (by kernel_rfl) (by rfl) (by first | assumption | exact True.intro) ?_ ?_
  rotate_left
  · (intro w hSw; (try dsimp only at hSw); (try obtain ⟨k0, k1, k2, k3, k4, k5, k6, k7, k8, k9, k10⟩ := hSw); go_simp; (try with_reducible rfl))
  try simp only [Act.put, List.setIfInBounds_toArray, List.set_cons_zero, List.set_cons_succ]
  refine held_op (i := 3) (by kernel_rfl) rfl (fun K hK => ?_)
  go_simp
  go_at_call 75
  (with_reducible refine (HT.out).mono ?_)
  rintro e1 w1 ⟨b, rfl, hown, htk, hx1⟩
  refine hK _ _ ?_ (fun hHeld2 => ?_)
  · exact HS.out _ (Ext.trans (ext_dr13 W) hx1)
  clear hK K hHeld1
  try simp only [Act.put, List.setIfInBounds_toArray, List.set_cons_zero, List.set_cons_succ]
  refine held_op (i := 6) (by kernel_rfl) rfl (fun K hK => ?_)
  have hlk := takers_at m.kind (by have := HKB.out; omega) hown
  rw [HP.out q] at hlk
  go_simp
  refine hK _ _ ?_ (fun hHeld3 => ?_)
  · exact HS.out _ (Ext.trans (ext_dr13 W) hx1)
  clear hK K hHeld2
  try simp only [Act.put, List.setIfInBounds_toArray, List.set_cons_zero, List.set_cons_succ]
  refine held_take (i := 7) (v := ?_) rfl (by kernel_rfl) (by kernel_rfl) (by kernel_rfl) (by rfl) (by first | assumption | exact True.intro) ?_ ?_
  rotate_left
  · (intro w hSw; (try dsimp only at hSw); (try obtain ⟨k0, k1, k2, k3, k4, k5, k6, k7, k8, k9, k10⟩ := hSw); go_simp; (try with_reducible rfl))
  try simp only [Act.put, List.setIfInBounds_toArray, List.set_cons_zero, List.set_cons_succ]
  refine wpAnyH_done (by kernel_rfl) ?_ _
  refine NoPanic.normal ?_
  clear hHeld3
  have HX1 := Lib.hid (Ext.trans (ext_dr13 W) hx1)
  have HTK := Lib.hid htk
  clear hx1 htk hown hlk HT HS
  have HA1 := Lib.hid (HA.out.ext HX1.out)
  obtain ⟨c0, c1, c2, c3, c4, c5, c6, c7, c8, c9⟩ := HA1.out.cells
  rw [HU.out] at c0
  have HE := Lib.hid (isElder_any a m w1)
  unfold agV msV at HE
  rw [he, HU.out] at HE
  obtain ⟨m0, m1, m2, m3, m4, m5, m6, m7, m8, m9, m10⟩ := (HM.out.ext HX1.out).cells
  clear he
  go_wp2_with fail
  refine HE.out.mono ?_
  rintro e2 w2 ⟨rfl, hx2⟩
  have HX2 := Lib.hid (HX1.out.trans hx2)
  have HX12 := Lib.hid hx2
  clear hx2 HE c0 c1 c2 c3 c4 c5 c6 c7 c8 c9 m0 m1 m2 m3 m4 m5 m6 m7 m8 m9 m10
  have HA2 := Lib.hid (HA.out.ext HX2.out)
  have HB32 := Lib.hid (HB3.out.ext HX2.out)
  have HB42 := Lib.hid (HB4.out.ext HX2.out)
  have HB52 := Lib.hid (HB5.out.ext HX2.out)
  have HM2 := Lib.hid (HM.out.ext HX2.out)
  have HTK2 := Lib.hid (HTK.out.ext HX12.out)
  have HNO2 := Lib.hid (HNO.out.ext HX2.out)
  have c1 := HA2.out.cells.2.1
  have c2 := HA2.out.cells.2.2.1
  have f1 := HA2.out.blk.frozen 1
  have f2 := HA2.out.blk.frozen 2
  have m2 := HM2.out.cells.2.2.1
  have m3 := HM2.out.cells.2.2.2.1
  have n2 : ¬ (w.heap.size + 1 + 1) = w.heap.size := by omega
  have n2' : ¬ w.heap.size = w.heap.size + 1 + 1 := by omega
  have hq3 := ((WB.start HA2.out.blk).set 1 (.int .i64 m.term)).set 2 (.int .i64 m.gen)
  simp only [List.setIfInBounds_toArray, List.set_cons_zero, List.set_cons_succ] at hq3
  obtain ⟨w3, hw3⟩ : ∃ W, W = ((w2.setCell ⟨w.heap.size, 1, none⟩ (.int .i64 m.term)).setCell ⟨w.heap.size, 2, none⟩ (.int .i64 m.gen)).drew := ⟨_, rfl⟩
  have HA3 : Hid (AgAt w3 w.heap.size (toldA a m)) := Lib.hid (by rw [hw3]; exact ⟨hq3.blk⟩)
  have HC3 : Hid (Chg (fun k => k = w.heap.size) w2 w3) := Lib.hid (by rw [hw3]; exact hq3.chg.drew)
  clear hq3
  go_wp2_with fail
  go_region
  all_goals go_wp2_with fail
  rw [← hw3]
  clear hw3 n2 n2' c1 c2 f1 f2 m2 m3
  have HT3 : Hid (TkAt w3 w.heap.size q m now (.pointer sp)) := Lib.hid (HTK2.out.chg HC3.out (fun k h1 h2 e => by have e : k = w.heap.size := e; have := HQ.out; omega))
  have HX3 : Hid (Ext w w3) := Lib.hid (HC3.out.ext (HX.out.trans HX2.out) (fun k hk => by have hk : k = w.heap.size := hk; omega))
  have HNO3 : Hid (Blk w3 (w.heap.size + 1) 3 (#[.int .i64 node])) := Lib.hid ((HC3.out.block _ HNO2.out.lt (by intro h; have h : w.heap.size + 1 = w.heap.size := h; omega)).trans HNO2.out)
  have HB33 : Hid (Blk w3 (w.heap.size + 1 + 1 + 1) 56 (#[.bool false, .int .i64 0, .int .i64 0, .int .i64 0, .int .i64 0, .int .i64 0, .int .i64 0, .int .i64 0, .int .i64 0, .int .i64 0])) := Lib.hid ((HC3.out.block _ HB32.out.lt (by intro h; have h : w.heap.size + 1 + 1 + 1 = w.heap.size := h; omega)).trans HB32.out)
  have HB43 : Hid (Blk w3 (w.heap.size + 1 + 1 + 1 + 1) 49 (#[.int .i64 0, .int .i64 0, .int .i64 0, .int .i64 0, .int .i64 0, .int .i64 0, .int .i64 0, .int .i64 0, .int .i64 0, .int .i64 0, .int .i64 0])) := Lib.hid ((HC3.out.block _ HB42.out.lt (by intro h; have h : w.heap.size + 1 + 1 + 1 + 1 = w.heap.size := h; omega)).trans HB42.out)
  have HB53 : Hid (Blk w3 (w.heap.size + 1 + 1 + 1 + 1 + 1) 4 (#[.bool false])) := Lib.hid ((HC3.out.block _ HB52.out.lt (by intro h; have h : w.heap.size + 1 + 1 + 1 + 1 + 1 = w.heap.size := h; omega)).trans HB52.out)
  clear HNO2 HB32 HB42 HB52 HM2 HTK2 HA2 HTK HB3 HB4 HB5 HNO HM HA HA1
  have HCL := Lib.hid (turn13_any w.heap.size q (q + 1) (q + 2) (q + 4) (q + 5) (toldA a m) m now w3 HA3.out HT3.out.cap HT3.out.fns)
  skip
  refine HCL.out.mono ?_
  rintro e4 w4 ⟨rfl, ha4, hc4⟩
  skip
  obtain ⟨a4, ha4e⟩ : ∃ x, x = (if (toldA a m).mode = 0 ∧ 1 ≤ m.ver ∧ m.ver ≤ 9 then { toldA a m with mode := 4, aim := m.ver } else toldA a m) := ⟨_, rfl⟩
  rw [← ha4e] at ha4
  have HA4 := Lib.hid ha4
  have HE4 := Lib.hid ha4e
  have HC4 := Lib.hid hc4
  clear ha4 ha4e hc4 HCL
  have HNO4 : Hid (Blk w4 (w.heap.size + 1) 3 (#[.int .i64 node])) := Lib.hid ((HC4.out.block _ HNO3.out.lt (by intro h; have h : w.heap.size + 1 = w.heap.size := h; omega)).trans HNO3.out)
  have HB34 : Hid (Blk w4 (w.heap.size + 1 + 1 + 1) 56 (#[.bool false, .int .i64 0, .int .i64 0, .int .i64 0, .int .i64 0, .int .i64 0, .int .i64 0, .int .i64 0, .int .i64 0, .int .i64 0])) := Lib.hid ((HC4.out.block _ HB33.out.lt (by intro h; have h : w.heap.size + 1 + 1 + 1 = w.heap.size := h; omega)).trans HB33.out)
  have HB44 : Hid (Blk w4 (w.heap.size + 1 + 1 + 1 + 1) 49 (#[.int .i64 0, .int .i64 0, .int .i64 0, .int .i64 0, .int .i64 0, .int .i64 0, .int .i64 0, .int .i64 0, .int .i64 0, .int .i64 0, .int .i64 0])) := Lib.hid ((HC4.out.block _ HB43.out.lt (by intro h; have h : w.heap.size + 1 + 1 + 1 + 1 = w.heap.size := h; omega)).trans HB43.out)
  have HB54 : Hid (Blk w4 (w.heap.size + 1 + 1 + 1 + 1 + 1) 4 (#[.bool false])) := Lib.hid ((HC4.out.block _ HB53.out.lt (by intro h; have h : w.heap.size + 1 + 1 + 1 + 1 + 1 = w.heap.size := h; omega)).trans HB53.out)
  have HSZ : Hid (w.heap.size + 6 ≤ w3.heap.size) := Lib.hid (by have h1 := HX2.out.size; have h2 := HC3.out.size; have := HZ.out; omega)
  clear HNO3 HB33 HB43 HB53 HT3
  obtain ⟨c0, c1, c2, c3, c4, c5, c6, c7, c8, c9⟩ := HA4.out.cells
  have HO1 := Lib.hid (agA_one (a4))
  have HI1 := Lib.hid infoA_
  have HO2 := Lib.hid (msA_one zMs)
  have HI2 := Lib.hid infoM_
  have HF4 : Hid (∀ W', Chg (fun k => k = w.heap.size + 1 + 1 + 1) w4 W' → Blk W' (w.heap.size + 1 + 1 + 1 + 1) 49 #[.int .i64 0, .int .i64 0, .int .i64 0, .int .i64 0, .int .i64 0, .int .i64 0, .int .i64 0, .int .i64 0, .int .i64 0, .int .i64 0, .int .i64 0]) := Lib.hid fun W' h => (h.block _ HB44.out.lt (by intro h; have h : w.heap.size + 1 + 1 + 1 + 1 = w.heap.size + 1 + 1 + 1 := h; omega)).trans HB44.out
  have HF5 : Hid (∀ W' W'', Chg (fun k => k = w.heap.size + 1 + 1 + 1) w4 W' → Chg (fun k => k = w.heap.size + 1 + 1 + 1 + 1) W' W'' → Blk W'' (w.heap.size + 1 + 1 + 1 + 1 + 1) 4 #[.bool false]) := Lib.hid fun W' W'' h1 h2 => by
    have h3 := (h1.block _ HB54.out.lt (by intro h; have h : w.heap.size + 1 + 1 + 1 + 1 + 1 = w.heap.size + 1 + 1 + 1 := h; omega)).trans HB54.out
    exact (h2.block _ (Nat.lt_of_lt_of_le HB54.out.lt h1.size) (by intro h; have h : w.heap.size + 1 + 1 + 1 + 1 + 1 = w.heap.size + 1 + 1 + 1 + 1 := h; omega)).trans h3
  go_wp2_with (first | (refine wpList_storeC rfl 56 _ _ rfl (w.heap.size + 1 + 1 + 1) (agA (a4)) rfl rfl 56 _ HB34.out HI1.out rfl HO1.out ?_; intro wa hba hca) | (refine wpList_storeC rfl 49 _ _ rfl (w.heap.size + 1 + 1 + 1 + 1) (msA zMs) rfl rfl 49 _ (HF4.out _ hca) HI2.out rfl HO2.out ?_; intro wb hbb hcb; have y0 := (HF5.out _ _ hca hcb).cell1; have y1 := (HF5.out _ _ hca hcb).frozen 0))
  skip
  have hb5 := HF5.out _ _ hca hcb
  have hq5 := (WB.start hb5).set 0 (.bool true)
  simp only [List.setIfInBounds_toArray, List.set_cons_zero] at hq5
  obtain ⟨wc, hwc⟩ : ∃ W, W = wb.setCell ⟨w.heap.size + 1 + 1 + 1 + 1 + 1, 0, none⟩ (.bool true) := ⟨_, rfl⟩
  rw [← hwc] at hq5 ⊢
  clear hwc hb5
  have hA : Blk wc (w.heap.size + 1 + 1 + 1) 56 (agA (a4)) := (hq5.chg.block _ (Nat.lt_of_lt_of_le hba.lt hcb.size) (by intro h; have h : w.heap.size + 1 + 1 + 1 = w.heap.size + 1 + 1 + 1 + 1 + 1 := h; omega)).trans ((hcb.block _ hba.lt (by intro h; have h : w.heap.size + 1 + 1 + 1 = w.heap.size + 1 + 1 + 1 + 1 := h; omega)).trans hba)
  have hM : Blk wc (w.heap.size + 1 + 1 + 1 + 1) 49 (msA zMs) := (hq5.chg.block _ hbb.lt (by intro h; have h : w.heap.size + 1 + 1 + 1 + 1 = w.heap.size + 1 + 1 + 1 + 1 + 1 := h; omega)).trans hbb
  have hK : Chg (fun k => w.heap.size ≤ k ∧ k < w.heap.size + 6) w4 wc := ((hca.mono fun k _ hk => by have hk : k = w.heap.size + 1 + 1 + 1 := hk; omega).trans (hcb.mono fun k _ hk => by have hk : k = w.heap.size + 1 + 1 + 1 + 1 := hk; omega) (fun _ _ h => h)).trans (hq5.chg.mono fun k _ hk => by have hk : k = w.heap.size + 1 + 1 + 1 + 1 + 1 := hk; omega) (fun _ _ h => h)
  have hAC : AgAt wc (w.heap.size + 1 + 1 + 1) a4 := ⟨hA⟩
  have hNC : Blk wc (w.heap.size + 1) 3 #[.int .i64 node] := (hq5.chg.block _ (Nat.lt_of_lt_of_le HNO4.out.lt (Nat.le_trans hca.size hcb.size)) (by intro h; have h : w.heap.size + 1 = w.heap.size + 1 + 1 + 1 + 1 + 1 := h; omega)).trans ((hcb.block _ (Nat.lt_of_lt_of_le HNO4.out.lt hca.size) (by intro h; have h : w.heap.size + 1 = w.heap.size + 1 + 1 + 1 + 1 := h; omega)).trans ((hca.block _ HNO4.out.lt (by intro h; have h : w.heap.size + 1 = w.heap.size + 1 + 1 + 1 := h; omega)).trans HNO4.out))
  refine leaves_cons (f := 74) (args := #[.pointer (some ⟨w.heap.size + 1 + 1 + 1 + 1 + 1, 0, none⟩), .pointer (some ⟨w.heap.size + 1 + 1 + 1, 0, none⟩), .pointer (some ⟨w.heap.size + 1, 0, none⟩), .pointer (some ⟨w.heap.size + 1 + 1 + 1 + 1, 0, none⟩)]) (by simp) (by simp [go_sem]) ?_
  refine (told_yes (w.heap.size + 1 + 1 + 1 + 1 + 1) (w.heap.size + 1 + 1 + 1) (w.heap.size + 1) (w.heap.size + 1 + 1 + 1 + 1) a4 node wc hq5.blk hAC hNC _ hM rfl).mono ?_
  rintro e u' w6 ⟨rfl, rfl, hms, hc6⟩
  have hA6 := (hc6.block _ hA.lt (by intro h; have h : w.heap.size + 1 + 1 + 1 = w.heap.size + 1 + 1 + 1 + 1 := h; omega)).trans hA
  have hB6 := (hc6.block _ hq5.blk.lt (by intro h; have h : w.heap.size + 1 + 1 + 1 + 1 + 1 = w.heap.size + 1 + 1 + 1 + 1 := h; omega)).trans hq5.blk
  have hK6 : Chg (fun k => w.heap.size ≤ k ∧ k < w.heap.size + 6) w4 w6 := hK.trans (hc6.mono fun k _ hk => by have hk : k = w.heap.size + 1 + 1 + 1 + 1 := hk; omega) (fun _ _ h => h)
  refine ⟨_, run_three rfl rfl rfl rfl hA6 rfl hms.blk rfl hB6, ?_⟩
  have hx6 : Ext w w6 := hK6.ext (HC4.out.ext HX3.out (fun k hk => by have hk : k = w.heap.size := hk; omega)) (fun k hk => hk.1)
  have hta : takeA a m now true = a4 := by rw [HE4.out]; unfold takeA; rw [if_pos HG.out]; unfold doA; rw [if_neg (by rw [HKK.out]; decide), if_neg (by rw [HKK.out]; decide), if_neg (by rw [HKK.out]; decide), if_neg (by rw [HKK.out]; decide)]
  exact ⟨true, by rw [hta, HG.out]; rfl, fun _ => ⟨rfl, hx6⟩, fun h => by rw [HAS.out] at h; cases h⟩

end Go.Proofs.Ytkkmldoohokdfaa
