/- Texts that the proof of I rests on, one behind the other. -/
import Derived.Test.YtddhbokknbmdfaaDoorIQ12
import Derived.Deep.Cut
import Derived.Deep.DeepCutAuto
import Derived.Deep.CutBlock
import Derived.Test.YtddhbokknbmdfaaDoorRows
import Derived.Deep.QuietTactic
import Derived.BigQuiet
import Derived.Stop.LaidErr

/- Package image: Get. -/
namespace Go.Proofs.YtddhbokknbmdfaaDoor
open Go.RowKit

theorem info6 : (Tryd.prog.info? 30).map (·.size) = some 6 := by kernel_rfl
theorem results_two {fn : Func} {p q : Tmp} {t u : TypeId} (h : fn.results = #[.cell p t, .cell q u]) (tmps : Array Value) (P : Program) (w : World) :
    (results fn tmps).run P w =
      ((asAddr (tmps.getD p undef)).run P w).andThen fun a w₁ => ((loadVar t a).run P w₁).andThen fun v w₂ => ((asAddr (tmps.getD q undef)).run P w₂).andThen fun a' w₃ => ((loadVar u a').run P w₃).andThen fun v' w₄ => .ok (.tuple #[v, v']) w₄ := by
  simp only [results, h]
  simp [Sem.run_bind, Result.andThen]
set_option maxRecDepth 100000 in
theorem run_two {fn : Func} (h : fn.results = #[.cell 4 30, .cell 5 4]) {tmps : Array Value} {w : World} {g4 g5 : Nat} {v0 v1 v2 v3 v4 v5 : Value} {b : Bool} (h4 : tmps.getD 4 undef = .pointer (some ⟨g4, 0, none⟩)) (h5 : tmps.getD 5 undef = .pointer (some ⟨g5, 0, none⟩))
    (hb4 : Blk w g4 30 #[v0, v1, v2, v3, v4, v5]) (hb5 : Blk w g5 4 #[.bool b]) : (results fn tmps).run Tryd.prog w = .ok (.tuple #[.agg #[v0, v1, v2, v3, v4, v5], .bool b]) w := by
  have e5 := hb5.cell1
  rw [results_two h, h4, h5]
  simp only [asAddr, Sem.run_pure, Result.andThen_ok, run_loadVar_row w g4 30 30 _ (0, 0) _ hb4 rfl rfl info6]
  simp [go_sem, e5]
/-- What Get answers. -/
def GetPost (c : Cf) (bs : List UInt8) (w : World) (e : Ending) (w' : World) : Prop :=
  ∃ vn vj s ok, e = .returned (.tuple #[stV vn vj s, .bool ok]) ∧ RdSt w' vn vj s ∧ Ext w w' ∧ (∀ k, vn.ownBlock = some k ∨ vj.ownBlock = some k → w.heap.size ≤ k) ∧ (ok = true → IsImg c bs s) ∧ (ok = false → s = zeroS ∧ ∀ t, ¬ IsImg c bs t)
theorem nil_own (m : Nat) : ∀ k, (Value.slice none 0 0).ownBlock = some k ∨ (Value.slice none 0 0).ownBlock = some k → m ≤ k := fun k hk => by rcases hk with hk | hk <;> cases hk
theorem rdst_zero (w : World) : RdSt w (.slice none 0 0) (.slice none 0 0) zeroS := ⟨⟨rfl, none, 0, rfl, Nat.le_refl _, Nat.zero_le _, fun h => absurd h (Nat.lt_irrefl 0)⟩, ⟨rfl, none, 0, rfl, Nat.le_refl _, Nat.zero_le _, fun h => absurd h (Nat.lt_irrefl 0)⟩⟩
theorem IsImg.reads {c : Cf} {bs : List UInt8} {t : St} (h : IsImg c bs t) : ∃ l : List Nat, listAt bs 0 312 = some (l, bs.length) ∧ GoodL (l.map fun (n : Nat) => (n : Int)) ∧ stOf (l.map fun (n : Nat) => (n : Int)) = t := by
  have h1 := h.right.read [] 312 (by omega)
  rw [h.bytes, List.append_nil] at h1
  exact ⟨_, h1, by rw [h.right.numsBack]; exact good_img t, by rw [h.right.numsBack]; exact stOf_img t⟩

set_option maxRecDepth 100000 in
set_option maxHeartbeats 8000000 in
theorem ImgGet_any (c : Cf) (bs : List UInt8) (v : Value) (w : World) (hr : Rd w v (bs.map B)) (hlen : bs.length ≤ 100000) (hL : LaidI w) :
    Calls Tryd.prog 20 #[cfV c, v] w (GetPost c bs w) := by
  obtain ⟨W1, hW1, hx1, hba, hbb, hbc⟩ := three_blocks w 23 30 4 #[.int .i64 c.nodes, .int .i64 c.queues, .int .i64 c.quota, .int .i64 c.wave, .int .i64 c.lease, .int .i64 c.retry, .int .i64 c.deadline, .int .i64 c.room, .int .i64 c.disk] #[.slice none 0 0, .slice none 0 0, .int .i64 0, .int .i64 0, .int .i64 0, .int .i64 0] #[.bool false]
  have HRD := Lib.hid (read_any bs v W1 (hr.ext hx1) hlen (hL.ext hx1))
  obtain ⟨A, cv, rfl, -, -, -⟩ := hr
  rw [List.length_map] at *
  have hbc : Blk W1 (w.heap.size + 1 + 1) 4 #[.bool false] := hbc
  have HX1 := Lib.hid hx1
  have HBA := Lib.hid hba
  have HBB := Lib.hid hbb
  have HBC := Lib.hid hbc
  have hmf : ∀ (fn : Fn) (first cap : Array Value) (w : World), (Instr.makeFunc fn first cap).run Tryd.prog w = .ok (.func fn first cap) w := fun _ _ _ _ => rfl
  unfold cfV
  clear hx1 hba hbb hbc hL hlen
  go_enter_defers Tryd.func20, Tryd.ntmps20
  go_wp2_with fail
  rw [← hW1]
  clear hW1
  refine HRD.out.mono ?_
  intro e2 w2 hp
  rcases hp with ⟨l, hla, hgd, vn, vj, rfl, hrs, hrb, hx2⟩ | ⟨⟨T, pv, rfl⟩, hx2, hno⟩
  · obtain ⟨s, hs⟩ : ∃ s, s = stOf (l.map fun (n : Nat) => (n : Int)) := ⟨_, rfl⟩
    rw [← hs] at hrs ⊢
    obtain ⟨An, cn, rfl, -, -⟩ := hrs.nodes.slice_
    obtain ⟨Aj, cj, rfl, -, -⟩ := hrs.jobs.slice_
    have hoff : offG (w.heap.size + 1) (.slice An s.nodes.length cn) s.nodes.length ∧ offG (w.heap.size + 1) (.slice Aj s.jobs.length cj) s.jobs.length := ⟨fun _ k h e => by have := hrb k (.inl h); have := HBB.out.lt; omega, fun _ k h e => by have := hrb k (.inr h); have := HBB.out.lt; omega⟩
    unfold stV
    have hb4 := HBB.out.ext hx2
    have z0 : w2.cell? ⟨w.heap.size + 1, 0, none⟩ = some (.slice none 0 0) := hb4.cell 0
    have f0 := hb4.frozen 0
    have z1 : w2.cell? ⟨w.heap.size + 1, 1, none⟩ = some (.slice none 0 0) := hb4.cell 1
    have f1 := hb4.frozen 1
    have z2 : w2.cell? ⟨w.heap.size + 1, 2, none⟩ = some (.int .i64 0) := hb4.cell 2
    have f2 := hb4.frozen 2
    have z3 : w2.cell? ⟨w.heap.size + 1, 3, none⟩ = some (.int .i64 0) := hb4.cell 3
    have f3 := hb4.frozen 3
    have z4 : w2.cell? ⟨w.heap.size + 1, 4, none⟩ = some (.int .i64 0) := hb4.cell 4
    have f4 := hb4.frozen 4
    have z5 : w2.cell? ⟨w.heap.size + 1, 5, none⟩ = some (.int .i64 0) := hb4.cell 5
    have f5 := hb4.frozen 5
    have hq := PB.start hb4
    replace hq := hq.set 0 (.slice An s.nodes.length cn)
    replace hq := hq.set 1 (.slice Aj s.jobs.length cj)
    replace hq := hq.set 2 (.int .i64 s.goal)
    replace hq := hq.set 3 (.int .i64 s.prior)
    replace hq := hq.set 4 (.int .i64 s.mode)
    replace hq := hq.set 5 (.int .i64 s.term)
    simp only [List.setIfInBounds_toArray, List.set_cons_zero, List.set_cons_succ] at hq
    obtain ⟨w3, hw3⟩ : ∃ W, W = ((((((w2.setCell ⟨w.heap.size + 1, 0, none⟩ (.slice An s.nodes.length cn)).setCell ⟨w.heap.size + 1, 1, none⟩ (.slice Aj s.jobs.length cj)).setCell ⟨w.heap.size + 1, 2, none⟩ (.int .i64 s.goal)).setCell ⟨w.heap.size + 1, 3, none⟩ (.int .i64 s.prior)).setCell ⟨w.heap.size + 1, 4, none⟩ (.int .i64 s.mode)).setCell ⟨w.heap.size + 1, 5, none⟩ (.int .i64 s.term)) := ⟨_, rfl⟩
    rw [← hw3] at hq
    have hc3 := PB.chg_ hq
    have hsz : w2.heap.size ≤ w3.heap.size := by rw [hq.size]; exact Nat.le_refl _
    have HS3 : Hid (RdSt w3 (.slice An s.nodes.length cn) (.slice Aj s.jobs.length cj) s ∧ offG (w.heap.size + 1) (.slice An s.nodes.length cn) s.nodes.length ∧ offG (w.heap.size + 1) (.slice Aj s.jobs.length cj) s.jobs.length) := Lib.hid ⟨⟨hrs.nodes.off hoff.1 hsz hq.same, hrs.jobs.off hoff.2 hsz hq.same⟩, hoff⟩
    have HB4 := Lib.hid hq.blk
    have HB2 : Hid (Blk w3 w.heap.size 23 #[.int .i64 c.nodes, .int .i64 c.queues, .int .i64 c.quota, .int .i64 c.wave, .int .i64 c.lease, .int .i64 c.retry, .int .i64 c.deadline, .int .i64 c.room, .int .i64 c.disk]) := Lib.hid ((hc3.block _ (HBA.out.ext hx2).lt (by intro h; have h : w.heap.size = w.heap.size + 1 := h; omega)).trans (HBA.out.ext hx2))
    have HB5 : Hid (Blk w3 (w.heap.size + 1 + 1) 4 #[.bool false]) := Lib.hid ((hc3.block _ (HBC.out.ext hx2).lt (by intro h; have h : w.heap.size + 1 + 1 = w.heap.size + 1 := h; omega)).trans (HBC.out.ext hx2))
    have HX3 : Hid (Ext w w3) := Lib.hid (hc3.ext (HX1.out.trans hx2) (fun k hk => by have hk : k = w.heap.size + 1 := hk; omega))
    have HRT := Lib.hid (RightS_any c _ _ s w3 HS3.out.1.nodes HS3.out.1.jobs)
    unfold cfV stV at HRT
    have HLA := Lib.hid hla
    have HGD := Lib.hid hgd
    have HSE := Lib.hid hs
    clear hla hgd hrs hx2 hs hb4 hq hc3 hsz hoff HRD
    go_upto_region 3 with (fail)
    rw [← hw3]
    clear hw3 z0 f0 z1 f1 z2 f2 z3 f3 z4 f4 z5 f5
    have k0 : w3.cell? ⟨w.heap.size, 0, none⟩ = some (.int .i64 c.nodes) := HB2.out.cell 0
    have k1 : w3.cell? ⟨w.heap.size, 1, none⟩ = some (.int .i64 c.queues) := HB2.out.cell 1
    have k2 : w3.cell? ⟨w.heap.size, 2, none⟩ = some (.int .i64 c.quota) := HB2.out.cell 2
    have k3 : w3.cell? ⟨w.heap.size, 3, none⟩ = some (.int .i64 c.wave) := HB2.out.cell 3
    have k4 : w3.cell? ⟨w.heap.size, 4, none⟩ = some (.int .i64 c.lease) := HB2.out.cell 4
    have k5 : w3.cell? ⟨w.heap.size, 5, none⟩ = some (.int .i64 c.retry) := HB2.out.cell 5
    have k6 : w3.cell? ⟨w.heap.size, 6, none⟩ = some (.int .i64 c.deadline) := HB2.out.cell 6
    have k7 : w3.cell? ⟨w.heap.size, 7, none⟩ = some (.int .i64 c.room) := HB2.out.cell 7
    have k8 : w3.cell? ⟨w.heap.size, 8, none⟩ = some (.int .i64 c.disk) := HB2.out.cell 8
    have z0 : w3.cell? ⟨w.heap.size + 1, 0, none⟩ = some (.slice An s.nodes.length cn) := HB4.out.cell 0
    have z1 : w3.cell? ⟨w.heap.size + 1, 1, none⟩ = some (.slice Aj s.jobs.length cj) := HB4.out.cell 1
    have z2 : w3.cell? ⟨w.heap.size + 1, 2, none⟩ = some (.int .i64 s.goal) := HB4.out.cell 2
    have z3 : w3.cell? ⟨w.heap.size + 1, 3, none⟩ = some (.int .i64 s.prior) := HB4.out.cell 3
    have z4 : w3.cell? ⟨w.heap.size + 1, 4, none⟩ = some (.int .i64 s.mode) := HB4.out.cell 4
    have z5 : w3.cell? ⟨w.heap.size + 1, 5, none⟩ = some (.int .i64 s.term) := HB4.out.cell 5
    go_wp2_with fail
    refine HRT.out.mono ?_
    rintro e4 w4 ⟨bb, rfl, hbb, hx4⟩
    have HRB := Lib.hid hbb
    have HS4 : Hid (RdSt w4 (.slice An s.nodes.length cn) (.slice Aj s.jobs.length cj) s) := Lib.hid (HS3.out.1.ext hx4)
    have HX4 := Lib.hid (HX3.out.trans hx4)
    have hb4 := HB4.out.ext hx4
    have hb5 := HB5.out.ext hx4
    have HC4 := Lib.hid hb4
    have HC5 := Lib.hid hb5
    clear hbb hx4 HB2 HB4 HB5 HX3 HRT k0 k1 k2 k3 k4 k5 k6 k7 k8 z0 z1 z2 z3 z4 z5
    have z0 : w4.cell? ⟨w.heap.size + 1, 0, none⟩ = some (.slice An s.nodes.length cn) := hb4.cell 0
    have f0 := hb4.frozen 0
    have z1 : w4.cell? ⟨w.heap.size + 1, 1, none⟩ = some (.slice Aj s.jobs.length cj) := hb4.cell 1
    have f1 := hb4.frozen 1
    have z2 : w4.cell? ⟨w.heap.size + 1, 2, none⟩ = some (.int .i64 s.goal) := hb4.cell 2
    have f2 := hb4.frozen 2
    have z3 : w4.cell? ⟨w.heap.size + 1, 3, none⟩ = some (.int .i64 s.prior) := hb4.cell 3
    have f3 := hb4.frozen 3
    have z4 : w4.cell? ⟨w.heap.size + 1, 4, none⟩ = some (.int .i64 s.mode) := hb4.cell 4
    have f4 := hb4.frozen 4
    have z5 : w4.cell? ⟨w.heap.size + 1, 5, none⟩ = some (.int .i64 s.term) := hb4.cell 5
    have f5 := hb4.frozen 5
    have y0 := hb5.cell1
    have y1 := hb5.frozen 0
    clear hb4 hb5
    cases bb
    case false =>
      go_wp2
      have hq := PB.start HC4.out
      replace hq := hq.set 0 (.slice none 0 0)
      replace hq := hq.set 1 (.slice none 0 0)
      replace hq := hq.set 2 (.int .i64 0)
      replace hq := hq.set 3 (.int .i64 0)
      replace hq := hq.set 4 (.int .i64 0)
      replace hq := hq.set 5 (.int .i64 0)
      simp only [List.setIfInBounds_toArray, List.set_cons_zero, List.set_cons_succ] at hq
      obtain ⟨w5, hw5⟩ : ∃ W, W = ((((((w4.setCell ⟨w.heap.size + 1, 0, none⟩ (.slice none 0 0)).setCell ⟨w.heap.size + 1, 1, none⟩ (.slice none 0 0)).setCell ⟨w.heap.size + 1, 2, none⟩ (.int .i64 0)).setCell ⟨w.heap.size + 1, 3, none⟩ (.int .i64 0)).setCell ⟨w.heap.size + 1, 4, none⟩ (.int .i64 0)).setCell ⟨w.heap.size + 1, 5, none⟩ (.int .i64 0)) := ⟨_, rfl⟩
      rw [← hw5] at hq ⊢
      clear hw5
      have hc5 := PB.chg_ hq
      have hb5 : Blk w5 (w.heap.size + 1 + 1) 4 #[.bool false] := (hc5.block _ HC5.out.lt (by intro h; have h : w.heap.size + 1 + 1 = w.heap.size + 1 := h; omega)).trans HC5.out
      have hq2 := PB.start hb5
      replace hq2 := hq2.set 0 (.bool false)
      simp only [List.setIfInBounds_toArray, List.set_cons_zero] at hq2
      obtain ⟨w6, hw6⟩ : ∃ W, W = w5.setCell ⟨w.heap.size + 1 + 1, 0, none⟩ (.bool false) := ⟨_, rfl⟩
      rw [← hw6] at hq2 ⊢
      clear hw6
      have hb6 : Blk w6 (w.heap.size + 1) 30 #[.slice none 0 0, .slice none 0 0, .int .i64 0, .int .i64 0, .int .i64 0, .int .i64 0] := (hq2.same _ (by intro h; omega)).trans hq.blk
      have hxf : Ext w w6 := hq2.below _ _ (hq.below _ _ HX4.out (by omega)) (by omega)
      refine leaves_cons (f := 31) (args := #[.pointer (some ⟨w.heap.size + 1, 0, none⟩), .pointer (some ⟨w.heap.size + 1 + 1, 0, none⟩)]) (by simp) (by simp [go_sem]) ?_
      refine (catch_idle (w.heap.size + 1) (w.heap.size + 1 + 1) w6).mono ?_
      rintro e u' w'' ⟨rfl, rfl, rfl⟩
      exact ⟨_, run_two rfl rfl rfl hb6 hq2.blk, .slice none 0 0, .slice none 0 0, zeroS, false, rfl, rdst_zero _, hxf, nil_own _, (fun h => by cases h), fun _ => ⟨rfl, fun t ht => by obtain ⟨l2, q1, q2, q3⟩ := ht.reads; rw [HLA.out] at q1; cases q1; have q4 := HRB.out.2 (by rw [HSE.out, q3]; exact ht.right); cases q4⟩⟩
    case true =>
      go_wp2
      have hq := PB.start HC4.out
      replace hq := hq.set 0 (.slice An s.nodes.length cn)
      replace hq := hq.set 1 (.slice Aj s.jobs.length cj)
      replace hq := hq.set 2 (.int .i64 s.goal)
      replace hq := hq.set 3 (.int .i64 s.prior)
      replace hq := hq.set 4 (.int .i64 s.mode)
      replace hq := hq.set 5 (.int .i64 s.term)
      simp only [List.setIfInBounds_toArray, List.set_cons_zero, List.set_cons_succ] at hq
      obtain ⟨w5, hw5⟩ : ∃ W, W = ((((((w4.setCell ⟨w.heap.size + 1, 0, none⟩ (.slice An s.nodes.length cn)).setCell ⟨w.heap.size + 1, 1, none⟩ (.slice Aj s.jobs.length cj)).setCell ⟨w.heap.size + 1, 2, none⟩ (.int .i64 s.goal)).setCell ⟨w.heap.size + 1, 3, none⟩ (.int .i64 s.prior)).setCell ⟨w.heap.size + 1, 4, none⟩ (.int .i64 s.mode)).setCell ⟨w.heap.size + 1, 5, none⟩ (.int .i64 s.term)) := ⟨_, rfl⟩
      rw [← hw5] at hq ⊢
      clear hw5
      have hc5 := PB.chg_ hq
      have hb5 : Blk w5 (w.heap.size + 1 + 1) 4 #[.bool false] := (hc5.block _ HC5.out.lt (by intro h; have h : w.heap.size + 1 + 1 = w.heap.size + 1 := h; omega)).trans HC5.out
      have hq2 := PB.start hb5
      replace hq2 := hq2.set 0 (.bool true)
      simp only [List.setIfInBounds_toArray, List.set_cons_zero] at hq2
      obtain ⟨w6, hw6⟩ : ∃ W, W = w5.setCell ⟨w.heap.size + 1 + 1, 0, none⟩ (.bool true) := ⟨_, rfl⟩
      rw [← hw6] at hq2 ⊢
      clear hw6
      have hb6 : Blk w6 (w.heap.size + 1) 30 #[.slice An s.nodes.length cn, .slice Aj s.jobs.length cj, .int .i64 s.goal, .int .i64 s.prior, .int .i64 s.mode, .int .i64 s.term] := (hq2.same _ (by intro h; omega)).trans hq.blk
      have hxf : Ext w w6 := hq2.below _ _ (hq.below _ _ HX4.out (by omega)) (by omega)
      refine leaves_cons (f := 31) (args := #[.pointer (some ⟨w.heap.size + 1, 0, none⟩), .pointer (some ⟨w.heap.size + 1 + 1, 0, none⟩)]) (by simp) (by simp [go_sem]) ?_
      refine (catch_idle (w.heap.size + 1) (w.heap.size + 1 + 1) w6).mono ?_
      rintro e u' w'' ⟨rfl, rfl, rfl⟩
      have hoff := HS3.out.2
      have hs5 : w4.heap.size ≤ w5.heap.size := by rw [hq.size]; exact Nat.le_refl _
      have hs6 : w5.heap.size ≤ w''.heap.size := by rw [hq2.size]; exact Nat.le_refl _
      have o5 : offG (w.heap.size + 1 + 1) (.slice An s.nodes.length cn) s.nodes.length ∧ offG (w.heap.size + 1 + 1) (.slice Aj s.jobs.length cj) s.jobs.length := ⟨fun _ k h e => by have := hrb k (.inl h); have := HBC.out.lt; omega, fun _ k h e => by have := hrb k (.inr h); have := HBC.out.lt; omega⟩
      exact ⟨_, run_two rfl rfl rfl hb6 hq2.blk, _, _, s, true, rfl, ⟨(HS4.out.nodes.off hoff.1 hs5 hq.same).off o5.1 hs6 hq2.same, (HS4.out.jobs.off hoff.2 hs5 hq.same).off o5.2 hs6 hq2.same⟩, hxf, (fun k hk => Nat.le_trans HX1.out.size (hrb k hk)), fun _ => (by rw [HSE.out]; exact IsImg.of_read HLA.out HGD.out (by rw [← HSE.out]; exact HRB.out.1 (by trivial))), (fun h => by cases h)⟩
  · have hb4 := HBB.out.ext hx2
    have hb5 := HBC.out.ext hx2
    have HX2 := Lib.hid (HX1.out.trans hx2)
    have HNO := Lib.hid hno
    clear hx2 hno HRD
    go_wp2
    refine leaves_cons (f := 31) (args := #[.pointer (some ⟨w.heap.size + 1, 0, none⟩), .pointer (some ⟨w.heap.size + 1 + 1, 0, none⟩)]) (by simp) (by simp [go_sem]) ?_
    refine (catch_panicking (w.heap.size + 1) (w.heap.size + 1 + 1) _ _ _ _ _ _ false T pv w2 hb4 hb5 (by omega)).mono ?_
    rintro e u' w'' ⟨rfl, rfl, hw''⟩
    simp [Leaves, settle]
    have hq := PB.start hb4
    replace hq := hq.set 0 (.slice none 0 0)
    replace hq := hq.set 1 (.slice none 0 0)
    replace hq := hq.set 2 (.int .i64 0)
    replace hq := hq.set 3 (.int .i64 0)
    replace hq := hq.set 4 (.int .i64 0)
    replace hq := hq.set 5 (.int .i64 0)
    simp only [List.setIfInBounds_toArray, List.set_cons_zero, List.set_cons_succ] at hq
    obtain ⟨w5, hw5⟩ : ∃ W, W = ((((((w2.setCell ⟨w.heap.size + 1, 0, none⟩ (.slice none 0 0)).setCell ⟨w.heap.size + 1, 1, none⟩ (.slice none 0 0)).setCell ⟨w.heap.size + 1, 2, none⟩ (.int .i64 0)).setCell ⟨w.heap.size + 1, 3, none⟩ (.int .i64 0)).setCell ⟨w.heap.size + 1, 4, none⟩ (.int .i64 0)).setCell ⟨w.heap.size + 1, 5, none⟩ (.int .i64 0)) := ⟨_, rfl⟩
    rw [← hw5] at hq hw''
    clear hw5
    have hc5 := PB.chg_ hq
    have hb5' : Blk w5 (w.heap.size + 1 + 1) 4 #[.bool false] := (hc5.block _ hb5.lt (by intro h; have h : w.heap.size + 1 + 1 = w.heap.size + 1 := h; omega)).trans hb5
    have hq2 := PB.start hb5'
    replace hq2 := hq2.set 0 (.bool false)
    simp only [List.setIfInBounds_toArray, List.set_cons_zero] at hq2
    rw [← hw''] at hq2
    have hb6 : Blk w'' (w.heap.size + 1) 30 #[.slice none 0 0, .slice none 0 0, .int .i64 0, .int .i64 0, .int .i64 0, .int .i64 0] := (hq2.same _ (by intro h; omega)).trans hq.blk
    exact ⟨_, run_two rfl rfl rfl hb6 hq2.blk, .slice none 0 0, .slice none 0 0, zeroS, false, rfl, rdst_zero _, hq2.below _ _ (hq.below _ _ HX2.out (by omega)) (by omega), nil_own _, (fun h => by cases h), fun _ => ⟨rfl, fun t ht => by obtain ⟨l2, q1, q2, q3⟩ := ht.reads; exact HNO.out ⟨l2, q1, q2⟩⟩⟩

end Go.Proofs.YtddhbokknbmdfaaDoor

/- Package image: a state's numbers. -/
namespace Go.Proofs.YtddhbokknbmdfaaDoor
open Go.RowKit

theorem rds_of_rd {w : World} {v : Value} {xs : List Value} (h : Rd w v xs) : RdS 1 w v xs.length xs := by
  obtain ⟨A, c, rfl, h1, h2, h3⟩ := h
  exact ⟨by rw [Nat.mul_one], A, c, rfl, h1, h2, h3⟩

set_option maxRecDepth 100000 in
set_option maxHeartbeats 4000000 in
theorem imgNumbers_any (vn vj : Value) (s : St) (w : World) (h : RdSt w vn vj s) (hn : s.nodes.length ≤ 6) (hj : s.jobs.length ≤ 24) :
    Calls Tryd.prog 48 #[stV vn vj s] w fun e w' => ∃ v', e = .returned v' ∧ Grew w.heap.size 3 (.slice none 0 0) w ((imgL s).map I) v' w' := by
  obtain ⟨An, cn, rfl, hnc, hcm, hNN⟩ := has_cells h.nodes
  obtain ⟨Aj, cj, rfl, hjc, hjm, hJJ⟩ := jobs_cells h.jobs
  obtain ⟨hx, hb⟩ := boxSt (.slice An s.nodes.length cn) (.slice Aj s.jobs.length cj) s w 30
  unfold stC at hx hb
  obtain ⟨W1, hW1⟩ : ∃ W, W = w.alloc (.cells #[.slice An s.nodes.length cn, .slice Aj s.jobs.length cj, .int .i64 s.goal, .int .i64 s.prior, .int .i64 s.mode, .int .i64 s.term] 30) := ⟨_, rfl⟩
  rw [← hW1] at hx hb
  have hg1 : w.heap.size + 1 = W1.heap.size := by rw [hW1]; simp
  have HX1 := Lib.hid hx
  have HB1 := Lib.hid hb
  have HNN := Lib.hid fun i n hi => hNN i n hi
  have HJJ := Lib.hid fun i n hi => hJJ i n hi
  have HG := Lib.hid hg1
  have HN6 := Lib.hid hn
  have HJ24 := Lib.hid hj
  unfold stV
  clear hx hb hNN hJJ h hg1
  obtain ⟨W2, hW2⟩ : ∃ W, W = W1.alloc (.cells #[.int .i64 (s.nodes.length : Int)] 3) := ⟨_, rfl⟩
  have hx2 : Ext W1 W2 := by rw [hW2]; exact (Below.refl _ _).alloc (Nat.le_refl _) _
  have HX2 := Lib.hid hx2
  have HG0 : Hid (Grew W1.heap.size 3 (.slice none 0 0) W1 (([(s.nodes.length : Int)]).map I) (.slice (some ⟨W1.heap.size, 0, none⟩) 1 1) W2) := Lib.hid (Grew.of_ext hx2 (by rw [hW2]; exact World.ownsRow_lit (size := 1) W1 _ 1 (Nat.le_refl _) (show 1 ≤ maxLen by decide) rfl))
  clear hx2
  have s0 : W1.cell? ⟨w.heap.size, 0, none⟩ = some (.slice An s.nodes.length cn) := HB1.out.cell 0
  have s1 : W1.cell? ⟨w.heap.size, 1, none⟩ = some (.slice Aj s.jobs.length cj) := HB1.out.cell 1
  go_enter Tryd.func48, Tryd.ntmps48
  go_upto_region 1 with (fail)
  rw [← hW1]
  clear hW1
  go_upto_region 2 with (fail)
  rw [← hW2]
  clear hW2 s0 s1
  have s0 : W2.cell? ⟨w.heap.size, 0, none⟩ = some (.slice An s.nodes.length cn) := (HB1.out.ext HX2.out).cell 0
  go_wp2_with fail
  clear s0
  go_loopw [3, 15] (fun v i wr => ∃ q : Nat, i = .int .i64 q ∧ q ≤ s.nodes.length ∧ Hid (Grew W1.heap.size 3 (.slice none 0 0) W1 (((s.nodes.length : Int) :: (s.nodes.take q).flatMap ndL).map I) v wr)) (fun _ i _ => s.nodes.length - (intOf i).toNat)
  case atStart => exact ⟨0, rfl, Nat.zero_le _, by simpa using HG0⟩
  case round =>
    obtain ⟨q, rfl, hq, HR⟩ := hrel
    by_cases hlt : q < s.nodes.length
    · have d1 : decide ((q : Int) < (s.nodes.length : Int)) = true := decide_eq_true (by omega)
      have d1' : decide (q < s.nodes.length) = true := decide_eq_true hlt
      obtain ⟨n, hnk⟩ : ∃ n, s.nodes[q]? = some n := ⟨_, List.getElem?_eq_getElem hlt⟩
      obtain ⟨b, o, rfl, hbl, hat⟩ := HNN.out q n hnk
      have hxr := HX1.out.trans HR.out.ext
      have c0 : wr.cell? ⟨b, o + q * 5, none⟩ = some (.bool n.up) := hxr.cellOf hat.c0 hbl
      have c1 : wr.cell? ⟨b, o + q * 5 + 1, none⟩ = some (.bool n.cordon) := hxr.cellOf hat.c1 hbl
      have c2 : wr.cell? ⟨b, o + q * 5 + 2, none⟩ = some (.bool n.moving) := hxr.cellOf hat.c2 hbl
      have c3 : wr.cell? ⟨b, o + q * 5 + 3, none⟩ = some (.int .i64 n.version) := hxr.cellOf hat.c3 hbl
      have c4 : wr.cell? ⟨b, o + q * 5 + 4, none⟩ = some (.int .i64 n.job) := hxr.cellOf hat.c4 hbl
      have x1 : (0 : Int) ≤ (q : Int) ∧ (q : Int) < (s.nodes.length : Int) := by omega
      have HNK := Lib.hid hnk
      have HLT := Lib.hid hlt
      obtain ⟨W5, hW5⟩ : ∃ W, W = wr.alloc (.cells #[.bool n.up, .bool n.cordon, .bool n.moving, .int .i64 n.version, .int .i64 n.job] 45) := ⟨_, rfl⟩
      have HX5 : Hid (Ext wr W5) := Lib.hid (by rw [hW5]; exact (Below.refl _ _).alloc (Nat.le_refl _) _)
      have HB5 : Hid (Blk W5 wr.heap.size 45 #[.bool n.up, .bool n.cordon, .bool n.moving, .int .i64 n.version, .int .i64 n.job]) := Lib.hid (by rw [hW5]; exact Blk.new _ _ _)
      have HR5 := Lib.hid (HR.out.step HX5.out)
      obtain ⟨mk, hmk⟩ : ∃ mk, mk = markN n := ⟨_, rfl⟩
      have HMK : Hid (∀ W, Calls Tryd.prog 89 #[.agg #[.bool n.up, .bool n.cordon, .bool n.moving, .int .i64 n.version, .int .i64 n.job]] W fun e w' => e = .returned (.int .i64 mk) ∧ Ext W w') := Lib.hid fun W => by rw [hmk]; exact mark_any n W
      have HNX : Hid ((s.nodes.take (q + 1)).flatMap ndL = (s.nodes.take q).flatMap ndL ++ [mk, n.version, n.job]) := Lib.hid (by rw [List.take_add_one, hnk, Option.toList_some, List.flatMap_append, hmk]; rfl)
      have HLB : Hid ((((s.nodes.length : Int) :: (s.nodes.take q).flatMap ndL).map I).length ≤ 19) := Lib.hid (by rw [List.length_map, List.length_cons, flatK_len ndL_len, List.length_take]; have := HN6.out; omega)
      clear hat hnk hxr hmk
      go_upto_region 5 with (fail)
      rw [← hW5]
      clear hW5 c0 c1 c2 c3 c4
      have HNE : Hid (some wr.heap.size ≠ u3.ownBlock) := Lib.hid (fun e => Nat.lt_irrefl _ (HR.out.1.lt _ e.symm).2)
      generalize wr.heap.size = gn at *
      refine held_begin (by kernel_rfl) ?_
      have hHeld0 : True := True.intro
      refine held_more (S' := fun (W : World) => W.cell? ⟨gn, 0, none⟩ = some (.bool n.up) ∧ W.cell? ⟨gn, 1, none⟩ = some (.bool n.cordon) ∧ W.cell? ⟨gn, 2, none⟩ = some (.bool n.moving) ∧ W.cell? ⟨gn, 3, none⟩ = some (.int .i64 n.version) ∧ W.cell? ⟨gn, 4, none⟩ = some (.int .i64 n.job)) (fun _ _ => True.intro) ?_
      have hHeld1 : (fun (W : World) => W.cell? ⟨gn, 0, none⟩ = some (.bool n.up) ∧ W.cell? ⟨gn, 1, none⟩ = some (.bool n.cordon) ∧ W.cell? ⟨gn, 2, none⟩ = some (.bool n.moving) ∧ W.cell? ⟨gn, 3, none⟩ = some (.int .i64 n.version) ∧ W.cell? ⟨gn, 4, none⟩ = some (.int .i64 n.job)) _ := ⟨(HB5.out.ext (ext_drew9 (Ext.refl W5))).cell 0, (HB5.out.ext (ext_drew9 (Ext.refl W5))).cell 1, (HB5.out.ext (ext_drew9 (Ext.refl W5))).cell 2, (HB5.out.ext (ext_drew9 (Ext.refl W5))).cell 3, (HB5.out.ext (ext_drew9 (Ext.refl W5))).cell 4⟩
      clear hHeld0
      refine held_take (i := 0) (v := ?_) rfl (by kernel_rfl) (by kernel_rfl) (by kernel_rfl) (by rfl) (by first | assumption | exact True.intro) ?_ ?_
      rotate_left
      · (intro w hSw; (try dsimp only at hSw); go_simp; (try with_reducible rfl))
      try simp only [Act.put, List.setIfInBounds_toArray, List.set_cons_zero, List.set_cons_succ]
      refine held_take (i := 1) (v := ?_) rfl (by kernel_rfl) (by kernel_rfl) (by kernel_rfl) (by rfl) (by first | assumption | exact True.intro) ?_ ?_
      rotate_left
      · (intro w hSw; (try dsimp only at hSw); go_simp; (try with_reducible rfl))
      try simp only [Act.put, List.setIfInBounds_toArray, List.set_cons_zero, List.set_cons_succ]
      refine held_take (i := 3) (v := ?_) rfl (by kernel_rfl) (by kernel_rfl) (by kernel_rfl) (by rfl) (by first | assumption | exact True.intro) ?_ ?_
      rotate_left
      · (intro w hSw; (try dsimp only at hSw); go_simp; (try with_reducible rfl))
      try simp only [Act.put, List.setIfInBounds_toArray, List.set_cons_zero, List.set_cons_succ]
      refine held_take (i := 4) (v := ?_) rfl (by kernel_rfl) (by kernel_rfl) (by kernel_rfl) (by rfl) (by first | assumption | exact True.intro) ?_ ?_
      rotate_left
      · (intro w hSw; (try dsimp only at hSw); go_simp; (try with_reducible rfl))
      try simp only [Act.put, List.setIfInBounds_toArray, List.set_cons_zero, List.set_cons_succ]
      refine held_take (i := 5) (v := ?_) rfl (by kernel_rfl) (by kernel_rfl) (by kernel_rfl) (by rfl) (by first | assumption | exact True.intro) ?_ ?_
      rotate_left
      · (intro w hSw; (try dsimp only at hSw); go_simp; (try with_reducible rfl))
      try simp only [Act.put, List.setIfInBounds_toArray, List.set_cons_zero, List.set_cons_succ]
      refine held_take (i := 6) (v := ?_) rfl (by kernel_rfl) (by kernel_rfl) (by kernel_rfl) (by rfl) (by first | assumption | exact True.intro) ?_ ?_
      rotate_left
      · (intro w hSw; (try dsimp only at hSw); go_simp; (try with_reducible rfl))
      try simp only [Act.put, List.setIfInBounds_toArray, List.set_cons_zero, List.set_cons_succ]
      refine held_op (i := 2) (by kernel_rfl) rfl (fun K hK => ?_)
      go_simp
      go_at_call 89
      (with_reducible refine (HMK.out _).mono ?_)
      rintro e6 w6 ⟨rfl, hx6⟩
      have hx56 : Ext W5 w6 := Ext.trans (ext_drew9 (Ext.refl W5)) hx6
      refine hK _ _ ?_ (fun hHeld2 => ?_)
      · exact ⟨(HB5.out.ext (Ext.trans (ext_drew9 (Ext.refl W5)) hx6)).cell 0, (HB5.out.ext (Ext.trans (ext_drew9 (Ext.refl W5)) hx6)).cell 1, (HB5.out.ext (Ext.trans (ext_drew9 (Ext.refl W5)) hx6)).cell 2, (HB5.out.ext (Ext.trans (ext_drew9 (Ext.refl W5)) hx6)).cell 3, (HB5.out.ext (Ext.trans (ext_drew9 (Ext.refl W5)) hx6)).cell 4⟩
      clear hK K hHeld1
      try simp only [Act.put, List.setIfInBounds_toArray, List.set_cons_zero, List.set_cons_succ]
      refine held_op (i := 7) (by kernel_rfl) rfl (fun K hK => ?_)
      go_simp
      refine hK _ _ ?_ (fun hHeld3 => ?_)
      · exact ⟨(HB5.out.ext (hx56.alloc hx56.size _)).cell 0, (HB5.out.ext (hx56.alloc hx56.size _)).cell 1, (HB5.out.ext (hx56.alloc hx56.size _)).cell 2, (HB5.out.ext (hx56.alloc hx56.size _)).cell 3, (HB5.out.ext (hx56.alloc hx56.size _)).cell 4⟩
      clear hK K hHeld2
      try simp only [Act.put, List.setIfInBounds_toArray, List.set_cons_zero, List.set_cons_succ]
      refine held_op (i := 8) (by kernel_rfl) rfl (fun K hK => ?_)
      have hx7 : Ext w6 (w6.alloc (.cells #[.int .i64 mk, .int .i64 n.version, .int .i64 n.job] 3)) := (Below.refl _ _).alloc (Nat.le_refl _) _
      have hr7 := (HR5.out.step hx56).step hx7
      have hlit := rds_of_rd (Rd.lit w6 #[.int .i64 mk, .int .i64 n.version, .int .i64 n.job] 3 (show 3 ≤ maxLen by decide))
      have hbs := hr7.size
      refine stepAppendK (.tmp 19) (.tmp 26) 64 rfl ?_ W1.heap.size 3 _ 1 8 Tryd.underlying64 Tryd.infoInt rfl (by decide) _ _ _ ?_ hr7.1 (.slice (some ⟨w6.heap.size, 0, none⟩) 3 3) 3 _ ?_ hlit (by intro u hu; simp at hu; rcases hu with rfl | rfl | rfl <;> rfl) ?_ ?_ hbs ?_
      · rfl
      · rfl
      · rfl
      · have := HLB.out; unfold maxLen; omega
      · have := HLB.out; omega
      intro v8 w8 hg8
      have hg9 := hr7.trans hg8.one
      refine hK _ _ ?_ (fun hHeld4 => ?_)
      · exact ⟨(((HB5.out.ext hx56).ext hx7).grown hg8.2.1 HNE.out).cell 0, (((HB5.out.ext hx56).ext hx7).grown hg8.2.1 HNE.out).cell 1, (((HB5.out.ext hx56).ext hx7).grown hg8.2.1 HNE.out).cell 2, (((HB5.out.ext hx56).ext hx7).grown hg8.2.1 HNE.out).cell 3, (((HB5.out.ext hx56).ext hx7).grown hg8.2.1 HNE.out).cell 4⟩
      clear hK K hHeld3
      try simp only [Act.put, List.setIfInBounds_toArray, List.set_cons_zero, List.set_cons_succ]
      refine held_take (i := 9) (v := ?_) rfl (by kernel_rfl) (by kernel_rfl) (by kernel_rfl) (by rfl) (by first | assumption | exact True.intro) ?_ ?_
      rotate_left
      · (intro w hSw; (try dsimp only at hSw); go_simp; (try with_reducible rfl))
      try simp only [Act.put, List.setIfInBounds_toArray, List.set_cons_zero, List.set_cons_succ]
      refine wpAnyH_done (by kernel_rfl) ?_ _
      refine NoPanic.normal ?_
      clear hHeld4
      go_wp2
      go_roundw
      case rel => exact ⟨q + 1, by go_num, HLT.out, Lib.hid (by rw [HNX.out, ← List.cons_append, List.map_append]; exact hg9)⟩
      case measure => simp [intOf]; omega
    have d1 : decide ((q : Int) < (s.nodes.length : Int)) = false := decide_eq_false (by omega)
    have d1' : decide (q < s.nodes.length) = false := decide_eq_false hlt
    obtain rfl : q = s.nodes.length := by omega
    have hgr := HR.out
    rw [List.take_length] at hgr
    obtain ⟨L1, hL1⟩ : ∃ L1 : List Int, L1 = (s.nodes.length : Int) :: s.nodes.flatMap ndL := ⟨_, rfl⟩
    rw [← hL1] at hgr
    have hl19 : L1.length ≤ 19 := by rw [hL1, List.length_cons, flatK_len ndL_len]; have := HN6.out; omega
    have HL1 := Lib.hid hL1
    have HL19 := Lib.hid hl19
    have hown := hgr.1
    have hbr := hgr.size
    have hl2 : (L1.map I).length < 17592186044416 := by rw [List.length_map]; omega
    have HGR := Lib.hid hgr
    have s1 : wr.cell? ⟨w.heap.size, 1, none⟩ = some (.slice Aj s.jobs.length cj) := (HB1.out.ext hgr.ext).cell 1
    clear hgr HR hL1 hl19 hlt hq
    go_upto_region 8 with (at_builtin; refine push_int rfl _ _ rfl W1.heap.size _ _ rfl hown _ rfl rfl hl2 hbr ?_; intro v2 w2 hg2)
    have HG2 : Hid (Grew W1.heap.size 3 (.slice none 0 0) W1 ((L1 ++ [(s.jobs.length : Int)]).map I) v2 w2) := Lib.hid (by rw [List.map_append]; exact HGR.out.trans hg2)
    have s1 : w2.cell? ⟨w.heap.size, 1, none⟩ = some (.slice Aj s.jobs.length cj) := (HB1.out.ext HG2.out.ext).cell 1
    clear hg2 hown hbr hl2 HGR
    go_wp2_with fail
    clear s1
    go_loopw [3, 38] (fun v i wr => ∃ q : Nat, i = .int .i64 q ∧ q ≤ s.jobs.length ∧ Hid (Grew W1.heap.size 3 (.slice none 0 0) W1 ((L1 ++ [(s.jobs.length : Int)] ++ (s.jobs.take q).flatMap jbL).map I) v wr)) (fun _ i _ => s.jobs.length - (intOf i).toNat)
    case atStart => exact ⟨0, rfl, Nat.zero_le _, by simpa using HG2⟩
    case round =>
      clear HG2
      obtain ⟨q, rfl, hq, HR⟩ := hrel
      have HLB : Hid (((L1 ++ [(s.jobs.length : Int)] ++ (s.jobs.take q).flatMap jbL).map I).length ≤ 308) := Lib.hid (by rw [List.length_map, List.length_append, List.length_append, flatK_len jbL_len, List.length_take, List.length_singleton]; have := HL19.out; have := HJ24.out; omega)
      by_cases hlt : q < s.jobs.length
      · have d1 : decide ((q : Int) < (s.jobs.length : Int)) = true := decide_eq_true (by omega)
        have d1' : decide (q < s.jobs.length) = true := decide_eq_true hlt
        obtain ⟨n, hnk⟩ : ∃ n, s.jobs[q]? = some n := ⟨_, List.getElem?_eq_getElem hlt⟩
        obtain ⟨b, o, rfl, hbl, hat⟩ := HJJ.out q n hnk
        have hxr := HX1.out.trans HR.out.ext
        have c0 : wr.cell? ⟨b, o + q * 12, none⟩ = some (.int .i64 n.queue) := hxr.cellOf hat.c0 hbl
        have c1 : wr.cell? ⟨b, o + q * 12 + 1, none⟩ = some (.int .i64 n.prio) := hxr.cellOf hat.c1 hbl
        have c2 : wr.cell? ⟨b, o + q * 12 + 2, none⟩ = some (.int .i64 n.least) := hxr.cellOf hat.c2 hbl
        have c3 : wr.cell? ⟨b, o + q * 12 + 3, none⟩ = some (.int .i64 n.most) := hxr.cellOf hat.c3 hbl
        have c4 : wr.cell? ⟨b, o + q * 12 + 4, none⟩ = some (.int .i64 n.work) := hxr.cellOf hat.c4 hbl
        have c5 : wr.cell? ⟨b, o + q * 12 + 5, none⟩ = some (.int .i64 n.pin) := hxr.cellOf hat.c5 hbl
        have c6 : wr.cell? ⟨b, o + q * 12 + 6, none⟩ = some (.int .i64 n.phase) := hxr.cellOf hat.c6 hbl
        have c7 : wr.cell? ⟨b, o + q * 12 + 7, none⟩ = some (.int .i64 n.inc) := hxr.cellOf hat.c7 hbl
        have c8 : wr.cell? ⟨b, o + q * 12 + 8, none⟩ = some (.int .i64 n.nodes) := hxr.cellOf hat.c8 hbl
        have c9 : wr.cell? ⟨b, o + q * 12 + 9, none⟩ = some (.int .i64 n.since) := hxr.cellOf hat.c9 hbl
        have c10 : wr.cell? ⟨b, o + q * 12 + 10, none⟩ = some (.int .i64 n.til) := hxr.cellOf hat.c10 hbl
        have c11 : wr.cell? ⟨b, o + q * 12 + 11, none⟩ = some (.int .i64 n.epoch) := hxr.cellOf hat.c11 hbl
        have x1 : (0 : Int) ≤ (q : Int) ∧ (q : Int) < (s.jobs.length : Int) := by omega
        have HNX : Hid ((s.jobs.take (q + 1)).flatMap jbL = (s.jobs.take q).flatMap jbL ++ jbL n) := Lib.hid (by rw [List.take_add_one, hnk, Option.toList_some, List.flatMap_append]; simp)
        have HLT := Lib.hid hlt
        obtain ⟨W5, hW5⟩ : ∃ W, W = wr.alloc (.cells #[.int .i64 n.queue, .int .i64 n.prio, .int .i64 n.least, .int .i64 n.most, .int .i64 n.work, .int .i64 n.pin, .int .i64 n.phase, .int .i64 n.inc, .int .i64 n.nodes, .int .i64 n.since, .int .i64 n.til, .int .i64 n.epoch] 52) := ⟨_, rfl⟩
        have HX5 : Hid (Ext wr W5) := Lib.hid (by rw [hW5]; exact (Below.refl _ _).alloc (Nat.le_refl _) _)
        have HB5 : Hid (Blk W5 wr.heap.size 52 ((jbL n).map I).toArray) := Lib.hid (by rw [hW5]; exact Blk.new _ _ _)
        have HR5 := Lib.hid (HR.out.step HX5.out)
        have HNE : Hid (∀ k, u3.ownBlock = some k → k < wr.heap.size) := Lib.hid (fun k e => (HR.out.1.lt _ e).2)
        clear hat hnk hxr
        go_upto_region 11 with (fail)
        rw [← hW5]
        clear hW5 c0 c1 c2 c3 c4 c5 c6 c7 c8 c9 c10 c11
        have HG5 : Hid (wr.heap.size < W5.heap.size) := Lib.hid HB5.out.lt
        generalize wr.heap.size = gn at *
        go_wp2_with fail
        refine (jobNumbers_any gn W5).mono ?_
        rintro e6 w6 ⟨f, rfl, hrf, hx6, hkf⟩
        have HADD := Lib.hid (add_any W1.heap.size u3 _ f gn 0 (jbL n) w6 (HR5.out.step hx6).1 hrf (fun i x hx => by rw [Nat.zero_add, (HB5.out.ext hx6).cell i]; simp [hx]) (Nat.lt_of_lt_of_le HG5.out hx6.size) (fun k hk => ⟨by have := HNE.out k hk; omega, fun e => by have h1 := HNE.out k hk; have h2 := hkf k e; have h3 := HG5.out; omega⟩) (by have := HLB.out; rw [jbL_len]; omega) (HR5.out.step hx6).size)
        have HR6 := Lib.hid (HR5.out.step hx6)
        clear hrf hkf hx6
        go_wp2_with fail
        refine HADD.out.mono ?_
        rintro e7 w7 ⟨v7, rfl, hg7⟩
        have HR7 := Lib.hid (HR6.out.trans hg7)
        clear hg7 HADD HR6 HR5
        go_wp2
        go_roundw
        case rel => exact ⟨q + 1, by go_num, HLT.out, Lib.hid (by rw [HNX.out, ← List.append_assoc, List.map_append]; exact HR7.out)⟩
        case measure => simp [intOf]; omega
      have d1 : decide ((q : Int) < (s.jobs.length : Int)) = false := decide_eq_false (by omega)
      have d1' : decide (q < s.jobs.length) = false := decide_eq_false hlt
      obtain rfl : q = s.jobs.length := by omega
      have hgr := HR.out
      have HLB2 := HLB
      rw [List.take_length] at hgr HLB2
      have HNE : Hid (∀ k, u3.ownBlock = some k → W1.heap.size ≤ k ∧ k < wr.heap.size) := Lib.hid (fun k e => hgr.1.lt _ e)
      obtain ⟨L2, hL2⟩ : ∃ L2 : List Int, L2 = L1 ++ [(s.jobs.length : Int)] ++ s.jobs.flatMap jbL := ⟨_, rfl⟩
      rw [← hL2] at hgr HLB2
      have HGR := Lib.hid hgr
      have HL2 := Lib.hid hL2
      have HBX := Lib.hid (HB1.out.ext hgr.ext)
      clear hgr hL2 HR HLB hlt hq
      go_wp2_with fail
      refine (restNumbers_any w.heap.size wr).mono ?_
      rintro e6 w6 ⟨f, rfl, hrf, hx6, hkf⟩
      have HADD := Lib.hid (add_any W1.heap.size u3 _ f w.heap.size 2 (restL s) w6 (HGR.out.step hx6).1 hrf (fun i x hx => by
        rw [(HBX.out.ext hx6).cell (2 + i)]
        rcases i with _ | _ | _ | _ | i
        · simpa [restL] using hx
        · simpa [restL] using hx
        · simpa [restL] using hx
        · simpa [restL] using hx
        · simp [restL] at hx) (Nat.lt_of_lt_of_le HBX.out.lt hx6.size) (fun k hk => ⟨by have := HNE.out k hk; have := HG.out; omega, fun e => by have h1 := HNE.out k hk; have h2 := hkf k e; omega⟩) (by have := HLB2.out; show _ + 4 < _; omega) (HGR.out.step hx6).size)
      have HR6 := Lib.hid (HGR.out.step hx6)
      clear hrf hkf hx6 HGR
      go_wp2_with fail
      refine HADD.out.mono ?_
      rintro e7 w7 ⟨v7, rfl, hg7⟩
      have HR7 := Lib.hid (HR6.out.trans hg7)
      clear hg7 HADD HR6
      go_wp2
      go_ret
      refine ⟨_, rfl, ?_⟩
      have hf := Grew.from_ext HX1.out HR7.out
      have e : (L2.map I ++ (restL s).map I) = (imgL s).map I := by rw [← List.map_append, HL2.out, HL1.out]; congr 1; simp [imgL]
      rw [e] at hf
      exact hf

end Go.Proofs.YtddhbokknbmdfaaDoor

/- Slices of bytes in this translation's numbers: what one element takes; the laws at an append. -/
namespace Go.Proofs.YtddhbokknbmdfaaDoor
open Go.RowKit

theorem Tryd.infoU8 : (Tryd.prog.info? 5).map (fun i => (i.zero, i.size, i.bytes)) = some (some (.int .u8 0), 1, 1) := by kernel_rfl

/-- 'b = append(b, x)', b a row of bytes of the call's own. -/
theorem push_u8 {w : World} {ops : Array Oper} {rest : List Oper} {o : Oper} {a : Act} {Q : Exit → Act → World → Prop} {gx : Nat} (hgd : o.guard = none) (s x : Operand)
    (ho : o.op = .call { callee := .builtin .append, args := #[s, x], argTypes := #[47, 47] })
    (base : Nat) (v : Value) (xs : List Value) (hs : a.eval s = v) (hown : w.ownsRow base 5 1 v xs.length xs) (u : Value) (h1 : u.oneCell' = true)
    (hx : a.eval x = .slice (some ⟨gx, 0, none⟩) 1 1) (hlen : xs.length < 140737488355328) (hbase : base ≤ w.heap.size)
    (h : ∀ v' w', Grew base 5 v w (xs ++ [u]) v' w' → wpList Tryd.prog ops Q rest (a.put o.dst v') w') (hgx : gx = w.heap.size := by simp) : wpList Tryd.prog ops Q (o :: rest) a (w.alloc (.cells #[u] 5)) := by
  subst hgx
  exact wpList_push hgd s x 47 ho base 5 (.int .u8 0) 1 Tryd.underlying47 Tryd.infoU8 rfl v xs hs hown u h1 hx (by unfold maxLen; omega) (by omega) hbase h

/-- 'b = append(b, c...)', c what reads as a list of bytes. -/
theorem app_u8 {w : World} {ops : Array Oper} {rest : List Oper} {o : Oper} {a : Act} {Q : Exit → Act → World → Prop} (hgd : o.guard = none) (s x : Operand)
    (ho : o.op = .call { callee := .builtin .append, args := #[s, x], argTypes := #[47, 47] })
    (base : Nat) (v : Value) (xs : List Value) (hs : a.eval s = v) (hown : w.ownsRow base 5 1 v xs.length xs) (u : Value) (ys : List UInt8) (hx : a.eval x = u) (hr : Rd w u (ys.map B))
    (hbytes : xs.length + ys.length ≤ 140737488355328) (hbase : base ≤ w.heap.size)
    (h : ∀ v' w', Grew base 5 v w (xs ++ ys.map B) v' w' → wpList Tryd.prog ops Q rest (a.put o.dst v') w') : wpList Tryd.prog ops Q (o :: rest) a w :=
  wpList_appendRd hgd s x 47 ho base 5 (.int .u8 0) 1 Tryd.underlying47 Tryd.infoU8 rfl v xs hs hown u _ hx hr (bytes_oneCell ys) (by unfold maxLen; simp; omega) (by simp; omega) hbase h

end Go.Proofs.YtddhbokknbmdfaaDoor

/- Layer 1, package code: a number's bytes. -/
namespace Go.Proofs.YtddhbokknbmdfaaDoor
open Go.RowKit

theorem isNum_yes (n : Int) (w : World) (h0 : 0 ≤ n) (h1 : n < 9007199254740992) :
    Calls Tryd.prog 88 #[.int .i64 n] w fun e w' => e = .returned (.bool true) ∧ w = w' := by
  go_enter Tryd.func88, Tryd.ntmps88
  go_wp2
  go_ret
  exact ⟨rfl, rfl⟩

theorem isNum_no (n : Int) (w : World) (h : ¬ (0 ≤ n ∧ n < 9007199254740992)) :
    Calls Tryd.prog 88 #[.int .i64 n] w fun e w' => e = .returned (.bool false) ∧ w = w' := by
  by_cases h0 : 0 ≤ n
  · have h1 : 9007199254740992 ≤ n := by omega
    have h2 : decide (n < 9007199254740992) = false := by simp; omega
    clear h
    go_enter Tryd.func88, Tryd.ntmps88
    go_wp2
    go_ret
    exact ⟨rfl, rfl⟩
  · clear h
    go_enter Tryd.func88, Tryd.ntmps88
    go_wp2
    go_ret
    exact ⟨rfl, rfl⟩

set_option maxRecDepth 100000 in
set_option maxHeartbeats 1000000 in
theorem addNum_any (base : Nat) (v : Value) (l : List UInt8) (n : Nat) (w : World) (hown : w.ownsRow base 5 1 v (l.map B).length (l.map B)) (hb : base ≤ w.heap.size)
    (hn : n < 9223372036854775808) (hl : l.length ≤ 140737488355318) :
    Calls Tryd.prog 87 #[v, .int .i64 n] w fun e w' => ∃ v', e = .returned v' ∧ Grew base 5 v w ((l ++ numB n).map B) v' w' := by
  obtain ⟨i0, hi, hz0, hz1, hz2⟩ := info_parts Tryd.infoU8
  have hlen := numB_len10 hn
  go_enter Tryd.func87, Tryd.ntmps87
  go_wp2
  go_loopw [0, 1] (fun v' n' wr => ∃ (m : Nat) (l' : List UInt8), n' = .int .i64 m ∧ m ≤ n ∧ l' ++ numB m = l ++ numB n ∧ Grew base 5 v w (l'.map B) v' wr) (fun _ n' _ => (intOf n').toNat)
  case atStart => exact ⟨n, l, rfl, Nat.le_refl _, rfl, Grew.start hown⟩
  case round =>
    obtain ⟨m, l', rfl, hmn, hmm, hg⟩ := hrel
    have hlt : (List.map B l').length < 140737488355328 := by
      have := congrArg List.length hmm
      have := numB_pos m
      simp only [List.length_append, List.length_map] at *
      omega
    have hbw : base ≤ wr.heap.size := Nat.le_trans hb hg.size
    have hML := Lib.hid hmm
    clear hmm
    by_cases h128 : m < 128
    · go_wp2_with (at_builtin; refine push_u8 rfl _ _ rfl base _ _ rfl hg.1 _ rfl rfl hlt hbw ?_; intro v' w' hg')
      go_ret
      refine ⟨_, rfl, ?_⟩
      have hgg := hg.trans hg'
      rw [← hML.out, numB_lo h128, List.map_append]
      rw [B_eq (n := (m : Int)) (u := UInt8.ofNat m) (by rw [u8_toNat]; omega)] at hgg
      exact hgg
    · have ho := or128 m
      have hO := Lib.hid ho
      clear ho
      go_wp2_with (at_builtin; refine push_u8 rfl _ _ rfl base _ _ rfl hg.1 _ rfl rfl hlt hbw ?_; intro v' w' hg')
      go_roundw
      case rel =>
        have hgg := hg.trans hg'
        rw [B_eq hO.out] at hgg
        refine ⟨m / 128, l' ++ [UInt8.ofNat (m % 128 + 128)], by go_num, by omega, ?_, by simpa using hgg⟩
        rw [← hML.out, numB_hi h128]
        simp
      case measure => simp [intOf]; omega



end Go.Proofs.YtddhbokknbmdfaaDoor

/- Layer 1, package code: a list's bytes. -/
namespace Go.Proofs.YtddhbokknbmdfaaDoor
open Go.RowKit

set_option maxRecDepth 100000 in
set_option maxHeartbeats 2000000 in
theorem List_any (l : List Int) (v : Value) (w : World) (hr : Rd w v (l.map I)) (hl : l.length * 8 ≤ 140737488351232) :
    Calls Tryd.prog 47 #[v] w (ListPost l w) := by
  obtain ⟨A, c, rfl, hlc, hcm, hcell⟩ := hr
  simp only [List.length_map] at *
  unfold maxLen at hcm
  have hlen := numB_len8 (n := l.length) (by omega)
  go_enter Tryd.func47, Tryd.ntmps47
  go_wp2_with (go_at_call 87; refine (addNum_any w.heap.size _ [] _ _ (World.ownsRow_nil _ _ _ _) (Nat.le_refl _) (by omega) (by simp)).mono ?_; rintro e w' ⟨v', rfl, hg0⟩)
  go_loopw [3, 11] (fun v' i' wr => ∃ (k : Nat), i' = .int .i64 k ∧ k ≤ l.length ∧ (l.take k).all isNumB = true ∧ Grew w.heap.size 5 (.slice none 0 0) w ((numB l.length ++ numsB (l.take k)).map B) v' wr) (fun _ i' _ => l.length - (intOf i').toNat)
  case atStart => exact ⟨0, rfl, by omega, rfl, by simpa [numsB] using hg0⟩
  case round =>
    obtain ⟨k, rfl, hk, hall, hg⟩ := hrel
    have hbnd := numsB_len _ hall
    rw [List.length_take, Nat.min_eq_left hk] at hbnd
    have hlt : (numB l.length ++ numsB (l.take k)).length ≤ 140737488355318 := by simp only [List.length_append]; omega
    have HA := Lib.hid hall
    clear hall
    by_cases hlt2 : k < l.length
    · obtain ⟨b, o, rfl, hbl, hce⟩ := hcell (by omega)
      have hc1 : wr.cell? ⟨b, o + k, none⟩ = some (I l[k]) := (hg.ext.cell (p := ⟨b, o + k, none⟩) hbl).trans (hce k _ (by simp [hlt2]))
      clear hce hcell
      by_cases hn : isNumB l[k] = true
      · have H := Lib.hid (isNumB_iff.1 hn)
        obtain ⟨m, hm, hm2⟩ := isNum_some H.out
        have HL := Lib.hid hm
        rw [hm] at hc1
        unfold I at hc1
        clear hm hn
        go_wp2_with (first | (go_at_call 88; refine (isNum_yes _ _ (by omega) (by omega)).mono ?_; rintro e w' ⟨rfl, rfl⟩) | (go_at_call 87; refine (addNum_any w.heap.size _ _ _ _ hg.1 hg.size (by omega) hlt).mono ?_; rintro e w' ⟨v', rfl, hg2⟩))
        go_roundw
        case rel =>
          refine ⟨k + 1, by go_num, by omega, all_take_snoc hlt2 HA.out (isNumB_iff.2 H.out), ?_⟩
          rw [take_snoc l k hlt2, numsB_snoc, HL.out, Int.toNat_natCast, ← List.append_assoc]
          exact hg.trans hg2
        case measure => simp [intOf]; omega
      · have H := Lib.hid (isNumB_not (Bool.eq_false_iff.2 hn))
        unfold I at hc1
        clear hn
        go_wp2_with (first | (go_at_call 88; refine (isNum_no _ _ H.out).mono ?_; rintro e w' ⟨rfl, rfl⟩))
        go_ret
        exact .inr ⟨rfl, all_false_at hlt2 (Bool.eq_false_iff.2 fun h => H.out (isNumB_iff.1 h)), hg.ext⟩
    · have hkl : k = l.length := by omega
      subst hkl
      go_wp2
      go_ret
      rw [List.take_length] at hg HA
      exact .inl ⟨_, rfl, HA.out, hg⟩

end Go.Proofs.YtddhbokknbmdfaaDoor

/- Package image: Put. -/
namespace Go.Proofs.YtddhbokknbmdfaaDoor
open Go.RowKit

theorem imgB_no {s : St} (h : ¬ (s.nodes.length ≤ 6 ∧ s.jobs.length ≤ 24)) : imgB s = [] := by unfold imgB; rw [if_neg h]
theorem imgB_yes {s : St} (h : s.nodes.length ≤ 6 ∧ s.jobs.length ≤ 24) : imgB s = if (imgL s).all isNumB = true then listB (imgL s) else [] := by unfold imgB; rw [if_pos h]

/-- What List answers of a state's numbers is its bytes. -/
theorem list_img {s : St} (h : s.nodes.length ≤ 6 ∧ s.jobs.length ≤ 24) {w w' : World} {e : Ending} (hp : ListPost (imgL s) w e w') : ∃ v, e = .returned v ∧ Rd w' v ((imgB s).map B) ∧ Ext w w' := by
  rw [imgB_yes h]
  rcases hp with ⟨v, rfl, ha, hg⟩ | ⟨rfl, ha, hx⟩
  · rw [if_pos ha]
    exact ⟨v, rfl, Rd.own hg.own, hg.ext⟩
  · rw [if_neg (by rw [ha]; simp)]
    exact ⟨_, rfl, Rd.nil _, hx⟩

set_option maxRecDepth 100000 in
set_option maxHeartbeats 4000000 in
theorem ImgPut_any (vn vj : Value) (s : St) (w : World) (h : RdSt w vn vj s) :
    Calls Tryd.prog 29 #[stV vn vj s] w fun e w' => ∃ v, e = .returned v ∧ Rd w' v ((imgB s).map B) ∧ Ext w w' := by
  obtain ⟨hx, hb⟩ := boxSt vn vj s w 30
  have HRS := Lib.hid (h.ext hx)
  obtain ⟨An, cn, rfl, hnc, hcm, -⟩ := has_cells h.nodes
  obtain ⟨Aj, cj, rfl, hjc, hjm, -⟩ := jobs_cells h.jobs
  have HX := Lib.hid hx
  have HB := Lib.hid hb
  unfold stC at HX HRS HB
  clear hx hb h
  unfold stV
  by_cases h6 : 6 < s.nodes.length
  · have d1 : decide ((6 : Int) < (s.nodes.length : Int)) = true := decide_eq_true (by omega)
    have d1' : decide (6 < s.nodes.length) = true := decide_eq_true h6
    have HNO := Lib.hid (imgB_no (s := s) (by omega))
    clear h6
    go_enter Tryd.func29, Tryd.ntmps29
    go_wp2
    go_ret
    exact ⟨_, rfl, by rw [HNO.out]; exact Rd.nil _, HX.out⟩
  have d1 : decide ((6 : Int) < (s.nodes.length : Int)) = false := decide_eq_false (by omega)
  have d1' : decide (6 < s.nodes.length) = false := decide_eq_false h6
  by_cases h24 : 24 < s.jobs.length
  · have d2 : decide ((24 : Int) < (s.jobs.length : Int)) = true := decide_eq_true (by omega)
    have d2' : decide (24 < s.jobs.length) = true := decide_eq_true h24
    have HNO := Lib.hid (imgB_no (s := s) (by omega))
    clear h6 h24
    go_enter Tryd.func29, Tryd.ntmps29
    go_wp2
    go_ret
    exact ⟨_, rfl, by rw [HNO.out]; exact Rd.nil _, HX.out⟩
  have d2 : decide ((24 : Int) < (s.jobs.length : Int)) = false := decide_eq_false (by omega)
  have d2' : decide (24 < s.jobs.length) = false := decide_eq_false h24
  have HYS : Hid (s.nodes.length ≤ 6 ∧ s.jobs.length ≤ 24) := Lib.hid (by omega)
  clear h6 h24
  go_enter Tryd.func29, Tryd.ntmps29
  obtain ⟨W1, hW1⟩ : ∃ W, W = w.alloc (.cells #[.slice An s.nodes.length cn, .slice Aj s.jobs.length cj, .int .i64 s.goal, .int .i64 s.prior, .int .i64 s.mode, .int .i64 s.term] 30) := ⟨_, rfl⟩
  rw [← hW1] at HX HB HRS
  go_upto_region 1 with (fail)
  rw [← hW1]
  clear hW1
  have s0 : W1.cell? ⟨w.heap.size, 0, none⟩ = some (.slice An s.nodes.length cn) := HB.out.cell 0
  have s1 : W1.cell? ⟨w.heap.size, 1, none⟩ = some (.slice Aj s.jobs.length cj) := HB.out.cell 1
  have s2 : W1.cell? ⟨w.heap.size, 2, none⟩ = some (.int .i64 s.goal) := HB.out.cell 2
  have s3 : W1.cell? ⟨w.heap.size, 3, none⟩ = some (.int .i64 s.prior) := HB.out.cell 3
  have s4 : W1.cell? ⟨w.heap.size, 4, none⟩ = some (.int .i64 s.mode) := HB.out.cell 4
  have s5 : W1.cell? ⟨w.heap.size, 5, none⟩ = some (.int .i64 s.term) := HB.out.cell 5
  go_wp2_with fail
  refine (imgNumbers_any (.slice An s.nodes.length cn) (.slice Aj s.jobs.length cj) s W1 HRS.out HYS.out.1 HYS.out.2).mono ?_
  rintro e2 w2 ⟨v2, rfl, hg2⟩
  have HG2 := Lib.hid hg2
  clear hg2 s0 s1 s2 s3 s4 s5
  go_wp2_with fail
  refine (List_any (imgL s) v2 w2 (Rd.own HG2.out.own) (by rw [imgL_len]; have := HYS.out; omega)).mono ?_
  intro e3 w3 hp
  obtain ⟨v3, rfl, hr3, hx3⟩ := list_img HYS.out hp
  have HR3 := Lib.hid hr3
  have HX3 := Lib.hid ((HX.out.trans HG2.out.ext).trans hx3)
  clear hp hr3 hx3 HG2
  go_wp2
  go_ret
  exact ⟨_, rfl, HR3.out, HX3.out⟩

end Go.Proofs.YtddhbokknbmdfaaDoor

/- The reference's words for 'the same bytes'. -/
namespace Go.Proofs.YtddhbokknbmdfaaDoor
open Go.RowKit

set_option maxHeartbeats 1000000 in
theorem Bytes_any (xs ys : List UInt8) (u v : Value) (w : World) (hu : Rd w u (xs.map B)) (hv : Rd w v (ys.map B)) :
    Calls Tryd.prog 30 #[u, v] w fun e w' => e = .returned (.bool (decide (xs = ys))) ∧ ∃ n, w' = w.drewN n := by
  obtain ⟨A, c, rfl, hlc, hcm, hca⟩ := hu
  obtain ⟨A', c', rfl, hlc', hcm', hcb⟩ := hv
  simp only [List.length_map] at *
  unfold maxLen at hcm hcm'
  by_cases hl : xs.length = ys.length
  · have HL := Lib.hid hl
    rw [hl] at hlc hca ⊢
    clear hl
    go_enter Tryd.func30, Tryd.ntmps30
    go_wp2
    go_loopw [5] (fun i' wr => ∃ i k : Nat, i' = .int .i64 i ∧ i ≤ ys.length ∧ xs.take i = ys.take i ∧ wr = w.drewN k) (fun i' _ => ys.length - (intOf i').toNat)
    case atStart => exact ⟨0, 0, rfl, by omega, rfl, rfl⟩
    case round =>
      obtain ⟨i, k, rfl, hi, htk, rfl⟩ := hrel
      have HT := Lib.hid htk
      clear htk
      by_cases hlt : i < ys.length
      · have hlx : i < xs.length := by have := HL.out; omega
        obtain ⟨b, o, rfl, hb, hc1⟩ := hca (by omega)
        obtain ⟨b', o', rfl, hb', hc2⟩ := hcb (by omega)
        have e1 : w.cell? ⟨b, o + i, none⟩ = some (B xs[i]) := hc1 i _ (by simp [hlx])
        have e2 : w.cell? ⟨b', o' + i, none⟩ = some (B ys[i]) := hc2 i _ (by simp [hlt])
        clear hc1 hc2 hca hcb
        generalize hx : xs[i] = x at e1
        generalize hy : ys[i] = y at e2
        have HX := Lib.hid hx
        have HY := Lib.hid hy
        clear hx hy
        simp only [B] at e1 e2
        by_cases hxy : x = y
        · subst hxy
          go_wp2
          go_quiet (fail)
          go_wp2
          go_roundw
          case rel => exact ⟨i + 1, _, by go_num, by omega, by rw [take_snoc _ _ hlx, take_snoc _ _ hlt, HT.out, HX.out, HY.out], rfl⟩
          case measure => simp [intOf]; omega
        · have hne : ((x.toNat : Int) == (y.toNat : Int)) = false := by rw [beq_eq_false_iff_ne]; intro e; exact hxy (by first | exact UInt8.toNat_inj.1 (by omega) | omega)
          have hne2 : ((x.toNat : Int) != (y.toNat : Int)) = true := by rw [bne_iff_ne]; intro e; exact hxy (by first | exact UInt8.toNat_inj.1 (by omega) | omega)
          have HN := Lib.hid hxy
          clear hxy
          go_wp2
          go_quiet (fail)
          go_wp2
          go_ret
          refine ⟨?_, _, World.drewN_drewN _ _ _⟩
          rw [decide_eq_false (fun e => HN.out (by rw [← HX.out, ← HY.out]; simp only [e]))]
          rfl
      · obtain rfl : i = ys.length := by omega
        go_wp2
        go_ret
        refine ⟨?_, _, rfl⟩
        have := HT.out
        rw [List.take_length, ← HL.out, List.take_length] at this
        rw [decide_eq_true this]
        rfl
  · have hlb : ((xs.length : Int) == (ys.length : Int)) = false := by rw [beq_eq_false_iff_ne]; omega
    have H := Lib.hid hl
    clear hl
    go_enter Tryd.func30, Tryd.ntmps30
    go_wp2
    go_ret
    exact ⟨by rw [decide_eq_false (fun e => H.out (by rw [e]))]; rfl, 0, rfl⟩

end Go.Proofs.YtddhbokknbmdfaaDoor

/- Layer 10's statements: the document's example. -/
namespace Go.Proofs.YtddhbokknbmdfaaDoor
open Go.RowKit

def exI : Cf := ⟨1, 1, 0, 1, 2, 1, 1, 0, 2000⟩
def exB : List UInt8 := [9, 1, 1, 1, 0, 0, 1, 1, 0, 0]
theorem exI_may : mayC exI = true := rfl
theorem exI_new : newSt exI = newS 1 := by rw [newSt, if_pos exI_may]; rfl
theorem exI_right : RightP exI (newS 1) := RightP.first (c := exI) exI_may
theorem exI_bytes : imgB (newS 1) = exB := by
  unfold imgB
  rw [if_pos (by decide), if_pos (by decide)]
  have e : imgL (newS 1) = [1, 1, 1, 0, 0, 1, 1, 0, 0] := rfl
  rw [e]
  simp [listB, numsB, numB_lo, exB]
theorem exI_img : IsImg exI exB (newS 1) := ⟨exI_right, exI_bytes⟩
theorem no_img_nil {c : Cf} {t : St} : ¬ IsImg c [] t := fun h => by
  have h1 := h.right.few
  rw [h.bytes] at h1
  simp at h1

set_option maxRecDepth 100000 in
set_option maxHeartbeats 8000000 in
theorem alive10_any (w : World) (hL : LaidI w) : Calls Tryd.prog 19 #[] w fun e w' => e = .returned (.bool true) ∧ Ext w w' := by
  obtain ⟨W1, hW1⟩ : ∃ W, W = w.alloc (.cells #[.int .i64 1, .int .i64 1, .int .i64 0, .int .i64 1, .int .i64 2, .int .i64 1, .int .i64 1, .int .i64 0, .int .i64 2000] 23) := ⟨_, rfl⟩
  have hx1 : Ext w W1 := by rw [hW1]; exact (Below.refl _ _).alloc (Nat.le_refl _) _
  have HBC : Hid (Blk W1 w.heap.size 23 #[.int .i64 1, .int .i64 1, .int .i64 0, .int .i64 1, .int .i64 2, .int .i64 1, .int .i64 1, .int .i64 0, .int .i64 2000]) := Lib.hid (by rw [hW1]; exact Blk.new _ _ _)
  have HL := Lib.hid hL
  have HX1 := Lib.hid hx1
  have HNW : Hid (Calls Tryd.prog 7 #[.agg #[.int .i64 1, .int .i64 1, .int .i64 0, .int .i64 1, .int .i64 2, .int .i64 1, .int .i64 1, .int .i64 0, .int .i64 2000]] W1 fun e w' => ∃ vn vj, e = .returned (.agg #[vn, vj, .int .i64 1, .int .i64 1, .int .i64 0, .int .i64 0]) ∧ RdSt w' vn vj (newS 1) ∧ Ext W1 w') := Lib.hid (by
    refine (New_any exI W1).mono ?_
    rintro e w' ⟨vn, vj, rfl, hr, hx, -⟩
    rw [exI_new] at hr ⊢
    exact ⟨vn, vj, rfl, hr, hx⟩)
  have HPT : Hid (∀ W vn vj, RdSt W vn vj (newS 1) → Calls Tryd.prog 29 #[.agg #[vn, vj, .int .i64 1, .int .i64 1, .int .i64 0, .int .i64 0]] W fun e w' => ∃ v, e = .returned v ∧ Rd w' v (exB.map B) ∧ Ext W w') := Lib.hid fun W vn vj h => by have := ImgPut_any vn vj (newS 1) W h; rw [exI_bytes] at this; exact this
  have HGT : Hid (∀ W v, Ext w W → Rd W v (exB.map B) → Calls Tryd.prog 20 #[.agg #[.int .i64 1, .int .i64 1, .int .i64 0, .int .i64 1, .int .i64 2, .int .i64 1, .int .i64 1, .int .i64 0, .int .i64 2000], v] W fun e w' => ∃ vn vj, e = .returned (.tuple #[.agg #[vn, vj, .int .i64 1, .int .i64 1, .int .i64 0, .int .i64 0], .bool true]) ∧ RdSt w' vn vj (newS 1) ∧ Ext W w') := Lib.hid fun W v hx hr => by
    refine (ImgGet_any exI exB v W hr (by decide) (HL.out.ext hx)).mono ?_
    rintro e w' ⟨vn, vj, s, ok, rfl, hs, hx, -, h1, h2⟩
    cases ok
    · exact absurd exI_img ((h2 rfl).2 _)
    · obtain rfl := (h1 rfl).one exI_img
      exact ⟨vn, vj, rfl, hs, hx⟩
  have HGN : Hid (∀ W, Ext w W → Calls Tryd.prog 20 #[.agg #[.int .i64 1, .int .i64 1, .int .i64 0, .int .i64 1, .int .i64 2, .int .i64 1, .int .i64 1, .int .i64 0, .int .i64 2000], .slice none 0 0] W fun e w' => ∃ vn vj, e = .returned (.tuple #[.agg #[vn, vj, .int .i64 0, .int .i64 0, .int .i64 0, .int .i64 0], .bool false]) ∧ RdSt w' vn vj zeroS ∧ Ext W w') := Lib.hid fun W hx => by
    refine (ImgGet_any exI [] (.slice none 0 0) W (Rd.nil W) (by decide) (HL.out.ext hx)).mono ?_
    rintro e w' ⟨vn, vj, s, ok, rfl, hs, hx, -, h1, h2⟩
    cases ok
    · obtain rfl := (h2 rfl).1
      exact ⟨vn, vj, rfl, hs, hx⟩
    · exact absurd (h1 rfl) no_img_nil
  clear hL hx1
  go_enter Tryd.func19, Tryd.ntmps19
  go_upto_region 2 with (fail)
  rw [← hW1]
  clear hW1
  have k0 : W1.cell? ⟨w.heap.size, 0, none⟩ = some (.int .i64 1) := HBC.out.cell 0
  have k1 : W1.cell? ⟨w.heap.size, 1, none⟩ = some (.int .i64 1) := HBC.out.cell 1
  have k2 : W1.cell? ⟨w.heap.size, 2, none⟩ = some (.int .i64 0) := HBC.out.cell 2
  have k3 : W1.cell? ⟨w.heap.size, 3, none⟩ = some (.int .i64 1) := HBC.out.cell 3
  have k4 : W1.cell? ⟨w.heap.size, 4, none⟩ = some (.int .i64 2) := HBC.out.cell 4
  have k5 : W1.cell? ⟨w.heap.size, 5, none⟩ = some (.int .i64 1) := HBC.out.cell 5
  have k6 : W1.cell? ⟨w.heap.size, 6, none⟩ = some (.int .i64 1) := HBC.out.cell 6
  have k7 : W1.cell? ⟨w.heap.size, 7, none⟩ = some (.int .i64 0) := HBC.out.cell 7
  have k8 : W1.cell? ⟨w.heap.size, 8, none⟩ = some (.int .i64 2000) := HBC.out.cell 8
  go_wp2_with fail
  refine HNW.out.mono ?_
  rintro e2 w2 ⟨vn, vj, rfl, hr2, hx2⟩
  obtain ⟨An, cn, rfl, -, -⟩ := hr2.nodes.slice_
  obtain ⟨Aj, cj, rfl, -, -⟩ := hr2.jobs.slice_
  have HP := Lib.hid (HPT.out w2 _ _ hr2)
  have HX2 := Lib.hid (HX1.out.trans hx2)
  have HB2 := Lib.hid (HBC.out.ext hx2)
  clear hr2 hx2 HNW HPT HX1 HBC k0 k1 k2 k3 k4 k5 k6 k7 k8
  go_wp2_with fail
  refine HP.out.mono ?_
  rintro e3 w3 ⟨v, rfl, hr3, hx3⟩
  have HX3 := Lib.hid (HX2.out.trans hx3)
  have HB3 := Lib.hid (HB2.out.ext hx3)
  have HR3 := Lib.hid hr3
  clear hr3 hx3 HP HX2 HB2
  have HG := Lib.hid (HGT.out w3 v HX3.out HR3.out)
  have k0 : w3.cell? ⟨w.heap.size, 0, none⟩ = some (.int .i64 1) := HB3.out.cell 0
  have k1 : w3.cell? ⟨w.heap.size, 1, none⟩ = some (.int .i64 1) := HB3.out.cell 1
  have k2 : w3.cell? ⟨w.heap.size, 2, none⟩ = some (.int .i64 0) := HB3.out.cell 2
  have k3 : w3.cell? ⟨w.heap.size, 3, none⟩ = some (.int .i64 1) := HB3.out.cell 3
  have k4 : w3.cell? ⟨w.heap.size, 4, none⟩ = some (.int .i64 2) := HB3.out.cell 4
  have k5 : w3.cell? ⟨w.heap.size, 5, none⟩ = some (.int .i64 1) := HB3.out.cell 5
  have k6 : w3.cell? ⟨w.heap.size, 6, none⟩ = some (.int .i64 1) := HB3.out.cell 6
  have k7 : w3.cell? ⟨w.heap.size, 7, none⟩ = some (.int .i64 0) := HB3.out.cell 7
  have k8 : w3.cell? ⟨w.heap.size, 8, none⟩ = some (.int .i64 2000) := HB3.out.cell 8
  go_wp2_with fail
  refine HG.out.mono ?_
  rintro e4 w4 ⟨un, uj, rfl, hr4, hx4⟩
  obtain ⟨Bn, dn, rfl, -, -⟩ := hr4.nodes.slice_
  obtain ⟨Bj, dj, rfl, -, -⟩ := hr4.jobs.slice_
  have e1 : (newS 1).nodes.length = 1 := rfl
  have e0 : (newS 1).jobs.length = 0 := rfl
  rw [e1, e0]
  obtain ⟨w5, hw5⟩ : ∃ W, W = w4.alloc (.cells #[.slice Bn 1 dn, .slice Bj 0 dj, .int .i64 1, .int .i64 1, .int .i64 0, .int .i64 0] 30) := ⟨_, rfl⟩
  have hx5 : Ext w4 w5 := by rw [hw5]; exact (Below.refl _ _).alloc (Nat.le_refl _) _
  have HT5 : Hid (Blk w5 w4.heap.size 30 #[.slice Bn 1 dn, .slice Bj 0 dj, .int .i64 1, .int .i64 1, .int .i64 0, .int .i64 0]) := Lib.hid (by rw [hw5]; exact Blk.new _ _ _)
  have HX5 := Lib.hid ((HX3.out.trans hx4).trans hx5)
  have HB5 := Lib.hid ((HB3.out.ext hx4).ext hx5)
  have HR5 := Lib.hid ((HR3.out.ext hx4).ext hx5)
  clear hr4 hx4 hx5 e0 e1 HG HX3 HB3 HR3 HGT k0 k1 k2 k3 k4 k5 k6 k7 k8
  go_upto_region 4 with (fail)
  rw [← hw5]
  clear hw5
  generalize w4.heap.size = g at *
  have k0 : w5.cell? ⟨w.heap.size, 0, none⟩ = some (.int .i64 1) := HB5.out.cell 0
  have k1 : w5.cell? ⟨w.heap.size, 1, none⟩ = some (.int .i64 1) := HB5.out.cell 1
  have k2 : w5.cell? ⟨w.heap.size, 2, none⟩ = some (.int .i64 0) := HB5.out.cell 2
  have k3 : w5.cell? ⟨w.heap.size, 3, none⟩ = some (.int .i64 1) := HB5.out.cell 3
  have k4 : w5.cell? ⟨w.heap.size, 4, none⟩ = some (.int .i64 2) := HB5.out.cell 4
  have k5 : w5.cell? ⟨w.heap.size, 5, none⟩ = some (.int .i64 1) := HB5.out.cell 5
  have k6 : w5.cell? ⟨w.heap.size, 6, none⟩ = some (.int .i64 1) := HB5.out.cell 6
  have k7 : w5.cell? ⟨w.heap.size, 7, none⟩ = some (.int .i64 0) := HB5.out.cell 7
  have k8 : w5.cell? ⟨w.heap.size, 8, none⟩ = some (.int .i64 2000) := HB5.out.cell 8
  have HG := Lib.hid (HGN.out w5 HX5.out)
  go_wp2_with fail
  refine HG.out.mono ?_
  rintro e6 w6 ⟨xn, xj, rfl, hr6, hx6⟩
  obtain ⟨Cn, fn_, rfl, -, -⟩ := hr6.nodes.slice_
  obtain ⟨Cj, fj_, rfl, -, -⟩ := hr6.jobs.slice_
  have e1 : zeroS.nodes.length = 0 := rfl
  have e0 : zeroS.jobs.length = 0 := rfl
  rw [e1, e0]
  obtain ⟨w7, hw7⟩ : ∃ W, W = w6.alloc (.cells #[.slice Cn 0 fn_, .slice Cj 0 fj_, .int .i64 0, .int .i64 0, .int .i64 0, .int .i64 0] 30) := ⟨_, rfl⟩
  have hx7 : Ext w6 w7 := by rw [hw7]; exact (Below.refl _ _).alloc (Nat.le_refl _) _
  have HT7 := Lib.hid ((HT5.out.ext hx6).ext hx7)
  have HX7 := Lib.hid ((HX5.out.trans hx6).trans hx7)
  have HR7 := Lib.hid ((HR5.out.ext hx6).ext hx7)
  clear hr6 hx6 hx7 e0 e1 HG HGN HX5 HB5 HR5 HT5 k0 k1 k2 k3 k4 k5 k6 k7 k8
  go_upto_region 5 with (fail)
  rw [← hw7]
  clear hw7
  obtain ⟨w8, hw8⟩ : ∃ W, W = w7.alloc (.cells #[.int .u8 9, .int .u8 1, .int .u8 1, .int .u8 1, .int .u8 0, .int .u8 0, .int .u8 1, .int .u8 1, .int .u8 0, .int .u8 0] 5) := ⟨_, rfl⟩
  have hx8 : Ext w7 w8 := by rw [hw8]; exact (Below.refl _ _).alloc (Nat.le_refl _) _
  have hl8 : Rd w8 (.slice (some ⟨w7.heap.size, 0, none⟩) 10 10) (exB.map B) := by rw [hw8]; exact Rd.litB w7 exB _ _ 10 w7.heap.size (by decide) rfl rfl rfl
  have HBY := Lib.hid (Bytes_any exB exB v _ w8 (HR7.out.ext hx8) hl8)
  have HX8 := Lib.hid (HX7.out.trans hx8)
  have HT8 := Lib.hid (HT7.out.ext hx8)
  have hdd : decide (exB = exB) = true := by simp
  rw [hdd] at HBY
  clear hx8 hl8 hdd HR7 HX7 HT7
  go_wp2_with fail
  (try rw [← hw8])
  clear hw8
  refine HBY.out.mono ?_
  rintro e9 w9 ⟨rfl, n, rfl⟩
  have hx9 : Ext w8 (w8.drewN n) := Below.drewN' (Ext.refl _) n
  have HX9 := Lib.hid (HX8.out.trans hx9)
  have hb9 := HT8.out.ext hx9
  have t0 : (w8.drewN n).cell? ⟨g, 0, none⟩ = some (.slice Bn 1 dn) := hb9.cell 0
  have t2 : (w8.drewN n).cell? ⟨g, 2, none⟩ = some (.int .i64 1) := hb9.cell 2
  clear hb9 hx9
  go_wp2
  go_ret
  exact ⟨rfl, HX9.out⟩

end Go.Proofs.YtddhbokknbmdfaaDoor

/- Layer 10's statements: what the laid variable is; the reference's and the program's words that they share. -/
namespace Go.Proofs.YtddhbokknbmdfaaDoor
open Go.ChangeShapes Go.WideShapes Go.ChangeAt Go.RowKit

theorem star_err : "*" ++ "errors.errorString" = "*errors.errorString" := by decide
theorem row_err (u : TypeId) (h : Tryd.prog.typeName? 3 u = some "*errors.errorString") : u = 122 :=
  typeName_ptr_named (nm := "errors.errorString") (by rw [star_err]; kernel_rfl) (by kernel_rfl) (by decide) u (by rw [star_err]; exact h)
theorem laidI_of {W : World} (L : List (String × DataW Unit)) (h : laidMet Tryd.prog L W) (m : ("dunnage/image.errGivenUp", Rows.laid_dunnage_image_errGivenUp) ∈ L) : LaidI W := by
  obtain ⟨r2, h2⟩ := laid_at L m h
  unfold Rows.laid_dunnage_image_errGivenUp at h2
  obtain ⟨a, s, hv, -, -, -⟩ := laid_sentinel h2 Tryd.gErr (ti := 104) (by kernel_rfl) Tryd.underlying104 row_err Tryd.underlying122 Tryd.underlying138 rfl rfl Tryd.underlying9 (by kernel_rfl) (by kernel_rfl)
  exact ⟨_, _, hv⟩

end Go.Proofs.YtddhbokknbmdfaaDoor

/- The reference of layer 10: Numbers. -/
namespace Go.Proofs.YtddhbokknbmdfaaDoor
open Go.RowKit

theorem rds_lit (w : World) (cs : Array Value) (e : TypeId) (n : Nat) (h : cs.size = n) (hn : n ≤ 4096) : RdS 1 (w.alloc (.cells cs e)) (.slice (some ⟨w.heap.size, 0, none⟩) n n) n cs.toList := by
  subst h
  exact rds_of_rd (Rd.lit w cs e (Nat.le_trans hn (by decide)))

set_option maxRecDepth 100000 in
set_option maxHeartbeats 4000000 in
theorem RefNumbers_any (vn vj : Value) (s : St) (w : World) (h : RdSt w vn vj s) (hn : s.nodes.length ≤ 6) (hj : s.jobs.length ≤ 24) :
    Calls Tryd.prog 54 #[stV vn vj s] w fun e w' => ∃ v', e = .returned v' ∧ Grew w.heap.size 3 (.slice none 0 0) w ((imgL s).map I) v' w' := by
  obtain ⟨An, cn, rfl, hnc, hcm, hNN⟩ := has_cells h.nodes
  obtain ⟨Aj, cj, rfl, hjc, hjm, hJJ⟩ := jobs_cells h.jobs
  obtain ⟨hx, hb⟩ := boxSt (.slice An s.nodes.length cn) (.slice Aj s.jobs.length cj) s w 30
  unfold stC at hx hb
  obtain ⟨W1, hW1⟩ : ∃ W, W = w.alloc (.cells #[.slice An s.nodes.length cn, .slice Aj s.jobs.length cj, .int .i64 s.goal, .int .i64 s.prior, .int .i64 s.mode, .int .i64 s.term] 30) := ⟨_, rfl⟩
  rw [← hW1] at hx hb
  have hg1 : w.heap.size + 1 = W1.heap.size := by rw [hW1]; simp
  have HX1 := Lib.hid hx
  have HB1 := Lib.hid hb
  have HNN := Lib.hid fun i n hi => hNN i n hi
  have HJJ := Lib.hid fun i n hi => hJJ i n hi
  have HG := Lib.hid hg1
  have HN6 := Lib.hid hn
  have HJ24 := Lib.hid hj
  unfold stV
  clear hx hb hNN hJJ h hg1
  obtain ⟨W2, hW2⟩ : ∃ W, W = W1.alloc (.cells #[.int .i64 (s.nodes.length : Int)] 3) := ⟨_, rfl⟩
  have hx2 : Ext W1 W2 := by rw [hW2]; exact (Below.refl _ _).alloc (Nat.le_refl _) _
  have HX2 := Lib.hid hx2
  have HG0 : Hid (Grew W1.heap.size 3 (.slice none 0 0) W1 (([(s.nodes.length : Int)]).map I) (.slice (some ⟨W1.heap.size, 0, none⟩) 1 1) W2) := Lib.hid (Grew.of_ext hx2 (by rw [hW2]; exact World.ownsRow_lit (size := 1) W1 _ 1 (Nat.le_refl _) (show 1 ≤ maxLen by decide) rfl))
  clear hx2
  have s0 : W1.cell? ⟨w.heap.size, 0, none⟩ = some (.slice An s.nodes.length cn) := HB1.out.cell 0
  have s1 : W1.cell? ⟨w.heap.size, 1, none⟩ = some (.slice Aj s.jobs.length cj) := HB1.out.cell 1
  go_enter Tryd.func54, Tryd.ntmps54
  go_upto_region 1 with (fail)
  rw [← hW1]
  clear hW1
  go_upto_region 2 with (fail)
  rw [← hW2]
  clear hW2 s0 s1
  go_wp2_with fail
  go_loopw [3, 4] (fun v i wr => ∃ q : Nat, i = .int .i64 q ∧ q ≤ s.nodes.length ∧ Hid (Grew W1.heap.size 3 (.slice none 0 0) W1 (((s.nodes.length : Int) :: (s.nodes.take q).flatMap ndL).map I) v wr)) (fun _ i _ => s.nodes.length - (intOf i).toNat)
  case atStart => exact ⟨0, rfl, Nat.zero_le _, by simpa using HG0⟩
  case round =>
    obtain ⟨q, rfl, hq, HR⟩ := hrel
    have s0 : wr.cell? ⟨w.heap.size, 0, none⟩ = some (.slice An s.nodes.length cn) := (HB1.out.ext HR.out.ext).cell 0
    by_cases hlt : q < s.nodes.length
    · have d1 : decide ((q : Int) < (s.nodes.length : Int)) = true := decide_eq_true (by omega)
      have d1' : decide (q < s.nodes.length) = true := decide_eq_true hlt
      obtain ⟨⟨up, cordon, moving, version, job⟩, hnk⟩ : ∃ n, s.nodes[q]? = some n := ⟨_, List.getElem?_eq_getElem hlt⟩
      obtain ⟨b, o, rfl, hbl, hat⟩ := HNN.out q _ hnk
      have hxr := HX1.out.trans HR.out.ext
      have c0 : wr.cell? ⟨b, o + q * 5, none⟩ = some (.bool up) := hxr.cellOf hat.c0 hbl
      have c1 : wr.cell? ⟨b, o + q * 5 + 1, none⟩ = some (.bool cordon) := hxr.cellOf hat.c1 hbl
      have c2 : wr.cell? ⟨b, o + q * 5 + 2, none⟩ = some (.bool moving) := hxr.cellOf hat.c2 hbl
      have c3 : wr.cell? ⟨b, o + q * 5 + 3, none⟩ = some (.int .i64 version) := hxr.cellOf hat.c3 hbl
      have c4 : wr.cell? ⟨b, o + q * 5 + 4, none⟩ = some (.int .i64 job) := hxr.cellOf hat.c4 hbl
      have x1 : (0 : Int) ≤ (q : Int) ∧ (q : Int) < (s.nodes.length : Int) := by omega
      have HLT := Lib.hid hlt
      obtain ⟨W5, hW5⟩ : ∃ W, W = wr.alloc (.cells #[.bool up, .bool cordon, .bool moving, .int .i64 version, .int .i64 job] 45) := ⟨_, rfl⟩
      have HX5 : Hid (Ext wr W5) := Lib.hid (by rw [hW5]; exact (Below.refl _ _).alloc (Nat.le_refl _) _)
      have HB5 : Hid (Blk W5 wr.heap.size 45 #[.bool up, .bool cordon, .bool moving, .int .i64 version, .int .i64 job]) := Lib.hid (by rw [hW5]; exact Blk.new _ _ _)
      have HRL : Hid (∀ cs, Grew W1.heap.size 3 (.slice none 0 0) W1 (((s.nodes.length : Int) :: (s.nodes.take q).flatMap ndL).map I) u3 (W5.alloc (.cells cs 3))) := Lib.hid fun cs => (HR.out.step HX5.out).step ((Below.refl _ _).alloc (Nat.le_refl _) _)
      have HNX : Hid ((s.nodes.take (q + 1)).flatMap ndL = (s.nodes.take q).flatMap ndL ++ [markN ⟨up, cordon, moving, version, job⟩, version, job]) := Lib.hid (by rw [List.take_add_one, hnk, Option.toList_some, List.flatMap_append]; rfl)
      have hlb : (((s.nodes.length : Int) :: (s.nodes.take q).flatMap ndL).map I).length ≤ 19 := by rw [List.length_map, List.length_cons, flatK_len ndL_len, List.length_take]; have := HN6.out; omega
      have HLA : Hid ((((s.nodes.length : Int) :: (s.nodes.take q).flatMap ndL).map I).length + 3 ≤ maxLen) := Lib.hid (by unfold maxLen; omega)
      have HLM : Hid (((((s.nodes.length : Int) :: (s.nodes.take q).flatMap ndL).map I).length + 3) * 8 ≤ 140737488355328) := Lib.hid (by omega)
      clear hat hnk hxr hlb
      go_upto_region 6 with (fail)
      rw [← hW5]
      clear hW5 c0 c1 c2 c3 c4 s0
      generalize wr.heap.size = gn at *
      have c0 : W5.cell? ⟨gn, 0, none⟩ = some (.bool up) := HB5.out.cell 0
      have c1 : W5.cell? ⟨gn, 1, none⟩ = some (.bool cordon) := HB5.out.cell 1
      have c2 : W5.cell? ⟨gn, 2, none⟩ = some (.bool moving) := HB5.out.cell 2
      have c3 : W5.cell? ⟨gn, 3, none⟩ = some (.int .i64 version) := HB5.out.cell 3
      have c4 : W5.cell? ⟨gn, 4, none⟩ = some (.int .i64 job) := HB5.out.cell 4
      cases up <;> cases cordon <;> cases moving
      all_goals
        go_wp2_with (at_builtin; refine wpList_appendK rfl (.tmp 37) (.tmp 43) 64 rfl W1.heap.size 3 _ 1 8 Tryd.underlying64 Tryd.infoInt rfl (by decide) _ _ _ rfl (HRL.out _).1 (.slice (some ⟨W5.heap.size, 0, none⟩) 3 3) 3 _ rfl (rds_lit W5 _ 3 3 (by rfl) (by decide)) (by simp [Value.oneCell']) HLA.out HLM.out (HRL.out _).size ?_; intro v8 w8 hg8; have hg9 := Grew.trans (HRL.out _) hg8.one)
        go_roundw
        case rel => exact ⟨q + 1, by go_num, HLT.out, Lib.hid (by rw [HNX.out, ← List.cons_append, List.map_append]; exact hg9)⟩
        case measure => simp [intOf]; omega
    have d1 : decide ((q : Int) < (s.nodes.length : Int)) = false := decide_eq_false (by omega)
    have d1' : decide (q < s.nodes.length) = false := decide_eq_false hlt
    obtain rfl : q = s.nodes.length := by omega
    have hgr := HR.out
    rw [List.take_length] at hgr
    obtain ⟨L1, hL1⟩ : ∃ L1 : List Int, L1 = (s.nodes.length : Int) :: s.nodes.flatMap ndL := ⟨_, rfl⟩
    rw [← hL1] at hgr
    have hl19 : L1.length ≤ 19 := by rw [hL1, List.length_cons, flatK_len ndL_len]; have := HN6.out; omega
    have HL1 := Lib.hid hL1
    have HL19 := Lib.hid hl19
    have hown := hgr.1
    have hbr := hgr.size
    have hl2 : (L1.map I).length < 17592186044416 := by rw [List.length_map]; omega
    have HGR := Lib.hid hgr
    have s1 : wr.cell? ⟨w.heap.size, 1, none⟩ = some (.slice Aj s.jobs.length cj) := (HB1.out.ext hgr.ext).cell 1
    clear hgr HR hL1 hl19 hlt hq
    go_upto_region 14 with (at_builtin; refine push_int rfl _ _ rfl W1.heap.size _ _ rfl hown _ rfl rfl hl2 hbr ?_; intro v2 w2 hg2)
    have HG2 : Hid (Grew W1.heap.size 3 (.slice none 0 0) W1 ((L1 ++ [(s.jobs.length : Int)]).map I) v2 w2) := Lib.hid (by rw [List.map_append]; exact HGR.out.trans hg2)
    clear hg2 hown hbr hl2 HGR s0 s1
    go_wp2_with fail
    go_loopw [3, 7] (fun v i wr => ∃ q : Nat, i = .int .i64 q ∧ q ≤ s.jobs.length ∧ Hid (Grew W1.heap.size 3 (.slice none 0 0) W1 ((L1 ++ [(s.jobs.length : Int)] ++ (s.jobs.take q).flatMap jbL).map I) v wr)) (fun _ i _ => s.jobs.length - (intOf i).toNat)
    case atStart => exact ⟨0, rfl, Nat.zero_le _, by simpa using HG2⟩
    case round =>
      clear HG2
      obtain ⟨q, rfl, hq, HR⟩ := hrel
      have hlb : ((L1 ++ [(s.jobs.length : Int)] ++ (s.jobs.take q).flatMap jbL).map I).length ≤ 308 := by rw [List.length_map, List.length_append, List.length_append, flatK_len jbL_len, List.length_take, List.length_singleton]; have := HL19.out; have := HJ24.out; omega
      have HLB := Lib.hid hlb
      have s1 : wr.cell? ⟨w.heap.size, 1, none⟩ = some (.slice Aj s.jobs.length cj) := (HB1.out.ext HR.out.ext).cell 1
      by_cases hlt : q < s.jobs.length
      · have d1 : decide ((q : Int) < (s.jobs.length : Int)) = true := decide_eq_true (by omega)
        have d1' : decide (q < s.jobs.length) = true := decide_eq_true hlt
        obtain ⟨n, hnk⟩ : ∃ n, s.jobs[q]? = some n := ⟨_, List.getElem?_eq_getElem hlt⟩
        obtain ⟨b, o, rfl, hbl, hat⟩ := HJJ.out q n hnk
        have hxr := HX1.out.trans HR.out.ext
        have c0 : wr.cell? ⟨b, o + q * 12, none⟩ = some (.int .i64 n.queue) := hxr.cellOf hat.c0 hbl
        have c1 : wr.cell? ⟨b, o + q * 12 + 1, none⟩ = some (.int .i64 n.prio) := hxr.cellOf hat.c1 hbl
        have c2 : wr.cell? ⟨b, o + q * 12 + 2, none⟩ = some (.int .i64 n.least) := hxr.cellOf hat.c2 hbl
        have c3 : wr.cell? ⟨b, o + q * 12 + 3, none⟩ = some (.int .i64 n.most) := hxr.cellOf hat.c3 hbl
        have c4 : wr.cell? ⟨b, o + q * 12 + 4, none⟩ = some (.int .i64 n.work) := hxr.cellOf hat.c4 hbl
        have c5 : wr.cell? ⟨b, o + q * 12 + 5, none⟩ = some (.int .i64 n.pin) := hxr.cellOf hat.c5 hbl
        have c6 : wr.cell? ⟨b, o + q * 12 + 6, none⟩ = some (.int .i64 n.phase) := hxr.cellOf hat.c6 hbl
        have c7 : wr.cell? ⟨b, o + q * 12 + 7, none⟩ = some (.int .i64 n.inc) := hxr.cellOf hat.c7 hbl
        have c8 : wr.cell? ⟨b, o + q * 12 + 8, none⟩ = some (.int .i64 n.nodes) := hxr.cellOf hat.c8 hbl
        have c9 : wr.cell? ⟨b, o + q * 12 + 9, none⟩ = some (.int .i64 n.since) := hxr.cellOf hat.c9 hbl
        have c10 : wr.cell? ⟨b, o + q * 12 + 10, none⟩ = some (.int .i64 n.til) := hxr.cellOf hat.c10 hbl
        have c11 : wr.cell? ⟨b, o + q * 12 + 11, none⟩ = some (.int .i64 n.epoch) := hxr.cellOf hat.c11 hbl
        have x1 : (0 : Int) ≤ (q : Int) ∧ (q : Int) < (s.jobs.length : Int) := by omega
        have HNX : Hid ((s.jobs.take (q + 1)).flatMap jbL = (s.jobs.take q).flatMap jbL ++ jbL n) := Lib.hid (by rw [List.take_add_one, hnk, Option.toList_some, List.flatMap_append]; simp)
        have HLT := Lib.hid hlt
        obtain ⟨W5, hW5⟩ : ∃ W, W = wr.alloc (.cells #[.int .i64 n.queue, .int .i64 n.prio, .int .i64 n.least, .int .i64 n.most, .int .i64 n.work, .int .i64 n.pin, .int .i64 n.phase, .int .i64 n.inc, .int .i64 n.nodes, .int .i64 n.since, .int .i64 n.til, .int .i64 n.epoch] 52) := ⟨_, rfl⟩
        have HX5 : Hid (Ext wr W5) := Lib.hid (by rw [hW5]; exact (Below.refl _ _).alloc (Nat.le_refl _) _)
        have HB5 : Hid (Blk W5 wr.heap.size 52 #[.int .i64 n.queue, .int .i64 n.prio, .int .i64 n.least, .int .i64 n.most, .int .i64 n.work, .int .i64 n.pin, .int .i64 n.phase, .int .i64 n.inc, .int .i64 n.nodes, .int .i64 n.since, .int .i64 n.til, .int .i64 n.epoch]) := Lib.hid (by rw [hW5]; exact Blk.new _ _ _)
        have HRL : Hid (∀ cs, Grew W1.heap.size 3 (.slice none 0 0) W1 ((L1 ++ [(s.jobs.length : Int)] ++ (s.jobs.take q).flatMap jbL).map I) u3 (W5.alloc (.cells cs 3))) := Lib.hid fun cs => (HR.out.step HX5.out).step ((Below.refl _ _).alloc (Nat.le_refl _) _)
        have HLA : Hid (((L1 ++ [(s.jobs.length : Int)] ++ (s.jobs.take q).flatMap jbL).map I).length + 12 ≤ maxLen) := Lib.hid (by unfold maxLen; omega)
        have HLM : Hid ((((L1 ++ [(s.jobs.length : Int)] ++ (s.jobs.take q).flatMap jbL).map I).length + 12) * 8 ≤ 140737488355328) := Lib.hid (by omega)
        clear hat hnk hxr hlb
        go_upto_region 18 with (fail)
        rw [← hW5]
        clear hW5 s1 c0 c1 c2 c3 c4 c5 c6 c7 c8 c9 c10 c11
        generalize wr.heap.size = gn at *
        have c0 : W5.cell? ⟨gn, 0, none⟩ = some (.int .i64 n.queue) := HB5.out.cell 0
        have c1 : W5.cell? ⟨gn, 1, none⟩ = some (.int .i64 n.prio) := HB5.out.cell 1
        have c2 : W5.cell? ⟨gn, 2, none⟩ = some (.int .i64 n.least) := HB5.out.cell 2
        have c3 : W5.cell? ⟨gn, 3, none⟩ = some (.int .i64 n.most) := HB5.out.cell 3
        have c4 : W5.cell? ⟨gn, 4, none⟩ = some (.int .i64 n.work) := HB5.out.cell 4
        have c5 : W5.cell? ⟨gn, 5, none⟩ = some (.int .i64 n.pin) := HB5.out.cell 5
        have c6 : W5.cell? ⟨gn, 6, none⟩ = some (.int .i64 n.phase) := HB5.out.cell 6
        have c7 : W5.cell? ⟨gn, 7, none⟩ = some (.int .i64 n.inc) := HB5.out.cell 7
        have c8 : W5.cell? ⟨gn, 8, none⟩ = some (.int .i64 n.nodes) := HB5.out.cell 8
        have c9 : W5.cell? ⟨gn, 9, none⟩ = some (.int .i64 n.since) := HB5.out.cell 9
        have c10 : W5.cell? ⟨gn, 10, none⟩ = some (.int .i64 n.til) := HB5.out.cell 10
        have c11 : W5.cell? ⟨gn, 11, none⟩ = some (.int .i64 n.epoch) := HB5.out.cell 11
        go_wp2_with (at_builtin; refine wpList_appendK rfl (.tmp 63) (.tmp 88) 64 rfl W1.heap.size 3 _ 1 8 Tryd.underlying64 Tryd.infoInt rfl (by decide) _ _ _ rfl (HRL.out _).1 (.slice (some ⟨W5.heap.size, 0, none⟩) 12 12) 12 _ rfl (rds_lit W5 _ 3 12 (by rfl) (by decide)) (by simp [Value.oneCell']) HLA.out HLM.out (HRL.out _).size ?_; intro v8 w8 hg8; have hg9 := Grew.trans (HRL.out _) hg8.one)
        go_roundw
        case rel => exact ⟨q + 1, by go_num, HLT.out, Lib.hid (by rw [HNX.out, ← List.append_assoc, List.map_append]; exact hg9)⟩
        case measure => simp [intOf]; omega
      have d1 : decide ((q : Int) < (s.jobs.length : Int)) = false := decide_eq_false (by omega)
      have d1' : decide (q < s.jobs.length) = false := decide_eq_false hlt
      obtain rfl : q = s.jobs.length := by omega
      have hgr := HR.out
      have hlb2 := HLB.out
      rw [List.take_length] at hgr hlb2
      obtain ⟨L2, hL2⟩ : ∃ L2 : List Int, L2 = L1 ++ [(s.jobs.length : Int)] ++ s.jobs.flatMap jbL := ⟨_, rfl⟩
      rw [← hL2] at hgr hlb2
      have HRL : Hid (∀ cs, Grew W1.heap.size 3 (.slice none 0 0) W1 (L2.map I) u3 (wr.alloc (.cells cs 3))) := Lib.hid fun cs => hgr.step ((Below.refl _ _).alloc (Nat.le_refl _) _)
      have HLA : Hid ((L2.map I).length + 4 ≤ maxLen) := Lib.hid (by unfold maxLen; omega)
      have HLM : Hid (((L2.map I).length + 4) * 8 ≤ 140737488355328) := Lib.hid (by omega)
      have HL2 := Lib.hid hL2
      have HBX := Lib.hid (HB1.out.ext hgr.ext)
      clear hgr hL2 hlb2 HR HLB hlb hlt hq
      have s2 : wr.cell? ⟨w.heap.size, 2, none⟩ = some (.int .i64 s.goal) := HBX.out.cell 2
      have s3 : wr.cell? ⟨w.heap.size, 3, none⟩ = some (.int .i64 s.prior) := HBX.out.cell 3
      have s4 : wr.cell? ⟨w.heap.size, 4, none⟩ = some (.int .i64 s.mode) := HBX.out.cell 4
      have s5 : wr.cell? ⟨w.heap.size, 5, none⟩ = some (.int .i64 s.term) := HBX.out.cell 5
      go_wp2_with (at_builtin; refine wpList_appendK rfl (.tmp 90) (.tmp 99) 64 rfl W1.heap.size 3 _ 1 8 Tryd.underlying64 Tryd.infoInt rfl (by decide) _ _ _ rfl (HRL.out _).1 (.slice (some ⟨wr.heap.size, 0, none⟩) 4 4) 4 _ rfl (rds_lit wr _ 3 4 (by rfl) (by decide)) (by simp [Value.oneCell']) HLA.out HLM.out (HRL.out _).size ?_; intro v8 w8 hg8; have hg9 := Grew.trans (HRL.out _) hg8.one)
      go_ret
      refine ⟨_, rfl, ?_⟩
      have hf := Grew.from_ext HX1.out hg9
      have e : (L2.map I ++ (restL s).map I) = (imgL s).map I := by rw [← List.map_append, HL2.out, HL1.out]; congr 1; simp [imgL]
      have e2 : L2.map I ++ #[Value.int .i64 s.goal, .int .i64 s.prior, .int .i64 s.mode, .int .i64 s.term].toList = (imgL s).map I := e
      rw [← e2]
      exact hf

end Go.Proofs.YtddhbokknbmdfaaDoor

/- The reference's layer 1: a number's bytes. -/
namespace Go.Proofs.YtddhbokknbmdfaaDoor
open Go.RowKit

theorem RefIs_yes (n : Int) (w : World) (h0 : 0 ≤ n) (h1 : n < 9007199254740992) :
    Calls Tryd.prog 100 #[.int .i64 n] w fun e w' => e = .returned (.bool true) ∧ w = w' := by
  go_enter Tryd.func100, Tryd.ntmps100
  go_wp2
  go_ret
  exact ⟨rfl, rfl⟩

theorem RefIs_no (n : Int) (w : World) (h : ¬ (0 ≤ n ∧ n < 9007199254740992)) :
    Calls Tryd.prog 100 #[.int .i64 n] w fun e w' => e = .returned (.bool false) ∧ w = w' := by
  by_cases h0 : 0 ≤ n
  · have h1 : 9007199254740992 ≤ n := by omega
    have h2 : decide (n < 9007199254740992) = false := by simp; omega
    clear h
    go_enter Tryd.func100, Tryd.ntmps100
    go_wp2
    go_ret
    exact ⟨rfl, rfl⟩
  · clear h
    go_enter Tryd.func100, Tryd.ntmps100
    go_wp2
    go_ret
    exact ⟨rfl, rfl⟩

theorem RefNum_no (n : Int) (w : World) (hn : ¬ (0 ≤ n ∧ n < 9007199254740992)) :
    Calls Tryd.prog 99 #[.int .i64 n] w fun e w' => e = .returned (.slice none 0 0) ∧ w = w' := by
  have H := Lib.hid hn
  clear hn
  go_enter Tryd.func99, Tryd.ntmps99
  go_wp2
  refine wp_loop_rounds 1 ?_
  rw [rounds_succ]
  go_wp2_with (first | (go_at_call 100; refine (RefIs_no _ _ H.out).mono ?_; rintro e w' ⟨rfl, rfl⟩))
  go_ret
  exact ⟨rfl, rfl⟩

def ifz : Nat → Nat
  | 0 => 1
  | _ + 1 => 0

/-- The reference's bytes while it goes: of n, l has been put, m is left; the last byte is without its bit. -/
def NumSt (n : Nat) (l : List UInt8) (m : Nat) : Prop :=
  (l = [] ∧ m = n) ∨ ∃ l0 c, l = l0 ++ [c] ∧ c.toNat < 128 ∧ ((m = 0 ∧ l = numB n) ∨ (0 < m ∧ l0 ++ (c + 128) :: numB m = numB n))

theorem u8_add128 {c : UInt8} (h : c.toNat < 128) : ((c + 128).toNat : Int) = (c.toNat : Int) + 128 := by
  rw [UInt8.toNat_add]
  have : (128 : UInt8).toNat = 128 := rfl
  omega

theorem u8_ofNat_add (m : Nat) : UInt8.ofNat (m % 128) + 128 = UInt8.ofNat (m % 128 + 128) := by
  apply UInt8.toNat_inj.1
  rw [UInt8.toNat_add, u8_toNat, u8_toNat]
  have : (128 : UInt8).toNat = 128 := rfl
  omega

theorem numB_end (m : Nat) (pre : List UInt8) : (m / 128 = 0 → pre ++ [UInt8.ofNat (m % 128)] = pre ++ numB m) ∧ (0 < m / 128 → pre ++ (UInt8.ofNat (m % 128) + 128) :: numB (m / 128) = pre ++ numB m) := by
  refine ⟨fun h => ?_, fun h => ?_⟩
  · rw [numB_lo (by omega), Nat.mod_eq_of_lt (by omega)]
  · rw [numB_hi (n := m) (by omega), u8_ofNat_add]

theorem NumSt.first (n : Nat) : NumSt n [UInt8.ofNat (n % 128)] (n / 128) := by
  have he := numB_end n []
  refine .inr ⟨[], _, rfl, by rw [u8_toNat]; omega, ?_⟩
  rcases Nat.eq_zero_or_pos (n / 128) with h | h
  · exact .inl ⟨h, by simpa using he.1 h⟩
  · exact .inr ⟨h, by simpa using he.2 h⟩

theorem NumSt.next {n m : Nat} {l0 : List UInt8} {c : UInt8} (h : l0 ++ (c + 128) :: numB m = numB n) : NumSt n ((l0 ++ [c + 128]) ++ [UInt8.ofNat (m % 128)]) (m / 128) := by
  have he := numB_end m (l0 ++ [c + 128])
  refine .inr ⟨l0 ++ [c + 128], _, rfl, by rw [u8_toNat]; omega, ?_⟩
  rcases Nat.eq_zero_or_pos (m / 128) with h0 | h0
  · refine .inl ⟨h0, ?_⟩
    rw [he.1 h0, ← h]
    simp
  · refine .inr ⟨h0, ?_⟩
    rw [he.2 h0, ← h]
    simp

set_option maxRecDepth 100000 in
set_option maxHeartbeats 2000000 in
theorem RefNum_yes (n : Nat) (w : World) (hn : n < 9007199254740992) :
    Calls Tryd.prog 99 #[.int .i64 n] w fun e w' => ∃ v', e = .returned v' ∧ Grew w.heap.size 5 (.slice none 0 0) w ((numB n).map B) v' w' := by
  go_enter Tryd.func99, Tryd.ntmps99
  go_wp2
  go_loopw [0, 3, 4] (fun n' v' i' wr => ∃ (m : Nat) (l : List UInt8), n' = .int .i64 m ∧ i' = .int .i64 l.length ∧ m < 9007199254740992 ∧ NumSt n l m ∧ Grew w.heap.size 5 (.slice none 0 0) w (l.map B) v' wr) (fun n' _ i' _ => (intOf n').toNat + ifz (intOf i').toNat)
  case atStart => exact ⟨n, [], rfl, rfl, hn, .inl ⟨rfl, rfl⟩, Grew.nil w⟩
  case round =>
    obtain ⟨m, l, rfl, rfl, hm, hst, hg⟩ := hrel
    rcases hst with ⟨rfl, rfl⟩ | ⟨l0, c, rfl, hc, hst⟩
    · have hbw := hg.size
      simp only [List.length_nil]
      go_wp2_with (first | (go_at_call 100; refine (RefIs_yes _ _ (by omega) (by omega)).mono ?_; rintro e w' ⟨rfl, rfl⟩) | (at_builtin; refine push_u8 rfl _ _ rfl w.heap.size _ _ rfl hg.1 _ rfl rfl (by simp) hbw ?_; intro v' w' hg'))
      go_roundw
      case rel =>
        have hgg := hg.trans hg'
        rw [B_eq (u := UInt8.ofNat (m % 128)) (by rw [u8_toNat]; omega)] at hgg
        exact ⟨m / 128, [UInt8.ofNat (m % 128)], by go_num, rfl, by omega, NumSt.first m, by simpa using hgg⟩
      case measure => simp [intOf, ifz]; omega
    · have hlb : l0.length < 8 := by
        have h8 := numB_len8 hn
        rcases hst with ⟨_, h⟩ | ⟨_, h⟩
        · have := congrArg List.length h
          simp only [List.length_append, List.length_singleton] at this
          omega
        · have := congrArg List.length h
          simp only [List.length_append, List.length_cons] at this
          omega
      have hib : ((l0.length : Int) + 1 == 0) = false := by rw [beq_eq_false_iff_ne]; omega
      simp only [List.length_append, List.length_singleton, Int.natCast_add, Int.natCast_one]
      rcases hst with ⟨rfl, hfin⟩ | ⟨hpos, hst⟩
      · have hF := Lib.hid hfin
        clear hfin
        simp only [Int.natCast_zero]
        go_wp2_with (first | (go_at_call 100; refine (RefIs_yes _ _ (by omega) (by omega)).mono ?_; rintro e w' ⟨rfl, rfl⟩))
        go_ret
        exact ⟨_, rfl, by rw [← hF.out]; exact hg⟩
      · have hS := Lib.hid hst
        clear hst
        obtain ⟨g, cap, rfl, hcap, hgb, hgl⟩ := hg.form (by simp)
        have hc1 : wr.cell? ⟨g, l0.length, none⟩ = some (.int .u8 (c.toNat : Int)) := by
          rw [hg.cellAt _ (by simp)]
          simp
        have hf1 := hg.frozenAt l0.length
        have hcc : (c.toNat : Int) < 128 := by omega
        have HC := Lib.hid (u8_add128 hc)
        have hg2 := hg.set l0.length (.int .u8 ((c.toNat : Int) + 128))
        have hbw := hg2.size
        rw [show ((l0 ++ [c]).map B).set l0.length (.int .u8 ((c.toNat : Int) + 128)) = (l0 ++ [c + 128]).map B by
          rw [B_eq (u := c + 128) HC.out.symm]
          simp [List.set_append_right]] at hg2
        have hlt : ((l0 ++ [c + 128]).map B).length < 140737488355328 := by simp; omega
        generalize hcn : c.toNat = cn at hc1 hcc hc hg2 hbw
        have HCN := Lib.hid hcn
        clear hcn
        rw [List.length_map, List.length_append, List.length_singleton] at hg2 ⊢
        go_wp2_with (first | (go_at_call 100; refine (RefIs_yes _ _ (by omega) (by omega)).mono ?_; rintro e w' ⟨rfl, rfl⟩) | (at_builtin; refine push_u8 rfl _ _ rfl w.heap.size _ _ rfl hg2.1 _ rfl rfl hlt hbw ?_; intro v' w' hg'))
        go_roundw
        case rel =>
          have hgg := hg2.trans hg'
          rw [B_eq (u := UInt8.ofNat (m % 128)) (by rw [u8_toNat]; omega)] at hgg
          exact ⟨m / 128, (l0 ++ [c + 128]) ++ [UInt8.ofNat (m % 128)], by go_num, by simp; omega, by omega, NumSt.next hS.out, by simpa using hgg⟩
        case measure =>
          simp only [intOf]
          rw [show ((l0.length : Int) + 1 + 1).toNat = l0.length + 1 + 1 by omega, show ((l0.length : Int) + 1).toNat = l0.length + 1 by omega, ifz, ifz]
          omega

end Go.Proofs.YtddhbokknbmdfaaDoor
