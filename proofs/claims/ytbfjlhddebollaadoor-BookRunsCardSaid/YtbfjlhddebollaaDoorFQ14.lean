/- Texts that the proof of F rests on, one behind the other. -/
import Derived.Test.YtbfjlhddebollaaDoorFQ13

/- The reference of layer 9: words for Apply. -/
namespace Go.Proofs.YtbfjlhddebollaaDoor
open Go.RowKit

/-- An op that is refused leaves the state. -/
theorem refused {c : Cf} {s : St} {o : OpN} (hz : (applyS c s o).2 ≠ 0) : (applyS c s o).1 = s := by
  have h : ErrK s (applyS c s o) := apply_err
  first | exact h hz | exact h.resolve_left hz | (unfold ErrK at h; rcases h with h | h <;> first | exact absurd h hz | exact h | simp_all)

theorem ok_job {c : Cf} {s : St} {kd a1 a2 : Int} {t : Int × Int × Int × Int} (h1 : kd ≠ 1 ∧ kd ≠ 3 ∧ kd ≠ 4 ∧ kd ≠ 5 ∧ kd ≠ 6 ∧ kd ≠ 21) (h2 : ¬ (kd = 7 ∨ kd = 8 ∨ kd = 16 ∨ kd = 17 ∨ kd = 18 ∨ kd = 19)) (hz : (applyS c s (kd, a1, a2, t)).2 = 0) :
    ∃ (k : Nat) (j : Jb), a1 = (k : Int) + 1 ∧ s.jobs[k]? = some j ∧ (jobOp c s kd k j a2).2 = 0 ∧ (applyS c s (kd, a1, a2, t)).1 = (jobOp c s kd k j a2).1 ∧ rightO (kd, a1, a2, t) = true := by
  unfold applyS at hz ⊢
  cases hr : rightO (kd, a1, a2, t)
  · rw [hr, if_pos rfl] at hz
    cases hz
  · rw [hr, if_neg (by decide)] at hz
    rw [if_neg (by decide)]
    cases hj : jobOf s a1 with
    | none =>
      rw [do_jobN hj h1 h2] at hz
      cases hz
    | some j =>
      rw [do_job hj h1 h2] at hz ⊢
      unfold jobOf at hj
      split at hj
      · exact ⟨(a1 - 1).toNat, j, by omega, hj, hz, rfl, rfl⟩
      · cases hj
theorem ok_node {c : Cf} {s : St} {kd a1 a2 : Int} {t : Int × Int × Int × Int} (h2 : kd = 7 ∨ kd = 8 ∨ kd = 16 ∨ kd = 17 ∨ kd = 18 ∨ kd = 19) (hz : (applyS c s (kd, a1, a2, t)).2 = 0) :
    ∃ (i : Nat) (n : Nd), a1 = (i : Int) ∧ s.nodes[i]? = some n ∧ (nodeOp s kd i n a2).2 = 0 ∧ (applyS c s (kd, a1, a2, t)).1 = (nodeOp s kd i n a2).1 ∧ rightO (kd, a1, a2, t) = true := by
  unfold applyS at hz ⊢
  cases hr : rightO (kd, a1, a2, t)
  · rw [hr, if_pos rfl] at hz
    cases hz
  · rw [hr, if_neg (by decide)] at hz
    rw [if_neg (by decide)]
    have h0 := (op_in hr).1.1
    dsimp only at h0
    cases hn : s.nodes[a1.toNat]? with
    | none =>
      rw [do_nodeN hn h2] at hz
      cases hz
    | some n =>
      rw [do_node hn h2] at hz ⊢
      exact ⟨a1.toNat, n, by omega, hn, hz, rfl, rfl⟩

section
variable {F : Fp} {w : World} {g b m cap : Nat} {vn vj : Value} {s : St}
theorem Sg.nodeAt' (h : Sg F w g (.slice (some ⟨b, 0, none⟩) m cap) vj s) {i : Nat} {n : Nd} (hi : s.nodes[i]? = some n) : NdAt w b (i * 5) n ∧ ∀ k, w.frozen? ⟨b, k, none⟩ = false := by
  obtain ⟨b', cap', hv, -, -, -, -, hat, hfr⟩ := h.nodeAt hi
  injection hv with h1 h2 h3
  injection h1 with h1
  injection h1 with h1
  subst h1
  exact ⟨hat, hfr⟩
theorem Sg.jobAt' (h : Sg F w g vn (.slice (some ⟨b, 0, none⟩) m cap) s) {i : Nat} {n : Jb} (hi : s.jobs[i]? = some n) : JbAt w b (i * 12) n ∧ ∀ k, w.frozen? ⟨b, k, none⟩ = false := by
  obtain ⟨b', cap', hv, -, -, -, -, hat, hfr⟩ := h.jobAt hi
  injection hv with h1 h2 h3
  injection h1 with h1
  injection h1 with h1
  subst h1
  exact ⟨hat, hfr⟩
theorem Sg.setN' (h : Sg F w g (.slice (some ⟨b, 0, none⟩) m cap) vj s) {i : Nat} {n n' : Nd} (hi : s.nodes[i]? = some n) (j : Nat) (hj : j < 5) (u : Value) (hn : n'.cells = n.cells.set j u) :
    Sg F (w.setCell ⟨b, i * 5 + j, none⟩ u) g (.slice (some ⟨b, 0, none⟩) m cap) vj (Go.Proofs.YtbfjlhddebollaaDoor.setN s i n') ∧ Chg F w (w.setCell ⟨b, i * 5 + j, none⟩ u) := by
  obtain ⟨b', cap', hv, -, -, -, -, -, -⟩ := h.nodeAt hi
  have hv2 := hv
  injection hv with h1 h2 h3
  injection h1 with h1
  injection h1 with h1
  subst h1
  exact h.setN (n' := n') hi hv2 j hj u hn
theorem Sg.setJ' (h : Sg F w g vn (.slice (some ⟨b, 0, none⟩) m cap) s) {i : Nat} {n n' : Jb} (hi : s.jobs[i]? = some n) (j : Nat) (hj : j < 12) (u : Value) (hn : n'.cells = n.cells.set j u) :
    Sg F (w.setCell ⟨b, i * 12 + j, none⟩ u) g vn (.slice (some ⟨b, 0, none⟩) m cap) (Go.Proofs.YtbfjlhddebollaaDoor.setJ s i n') ∧ Chg F w (w.setCell ⟨b, i * 12 + j, none⟩ u) := by
  obtain ⟨b', cap', hv, -, -, -, -, -, -⟩ := h.jobAt hi
  have hv2 := hv
  injection hv with h1 h2 h3
  injection h1 with h1
  injection h1 with h1
  subst h1
  exact h.setJ (n' := n') hi hv2 j hj u hn
theorem setN_get {s : St} {i : Nat} {n n' : Nd} (hi : s.nodes[i]? = some n) : (setN s i n').nodes[i]? = some n' := by
  have := (List.getElem?_eq_some_iff.1 hi).1
  simp only [setN]
  rw [List.getElem?_set_self this]
theorem setJ_get {s : St} {i : Nat} {n n' : Jb} (hi : s.jobs[i]? = some n) : (setJ s i n').jobs[i]? = some n' := by
  have := (List.getElem?_eq_some_iff.1 hi).1
  simp only [setJ]
  rw [List.getElem?_set_self this]
theorem setN_setN (s : St) (k : Nat) (a b : Nd) : setN (setN s k a) k b = setN s k b := by simp [setN]
end
/-- The rows lie in the set. -/
theorem Sg.own4 {F : Fp} {w : World} {g m : Nat} {vn vj : Value} {s : St} (h : Sg F w g vn vj s) (hF : ∀ k, F k → m + 4 ≤ k) : ∀ k, vn.ownBlock = some k ∨ vj.ownBlock = some k → m ≤ k := fun k hk => by
  have h1 : F k := by
    rcases hk with hk | hk
    · exact (ObjF.ok h ⟨45, 5, vn, s.nodes.length, nodesC s.nodes⟩ (by simp)).2 k hk
    · exact (ObjF.ok h ⟨56, 12, vj, s.jobs.length, jobsC s.jobs⟩ (by simp)).2 k hk
  have := hF k h1
  omega
theorem Sg.again {F : Fp} {w : World} {g : Nat} {vn vj : Value} {s : St} (h : Sg F w g vn vj s) :
    Sg F ((((((w.setCell ⟨g, 0, none⟩ vn).setCell ⟨g, 1, none⟩ vj).setCell ⟨g, 2, none⟩ (.int .i64 s.goal)).setCell ⟨g, 3, none⟩ (.int .i64 s.prior)).setCell ⟨g, 4, none⟩ (.int .i64 s.mode)).setCell ⟨g, 5, none⟩ (.int .i64 s.term)) g vn vj s ∧
    Chg F w ((((((w.setCell ⟨g, 0, none⟩ vn).setCell ⟨g, 1, none⟩ vj).setCell ⟨g, 2, none⟩ (.int .i64 s.goal)).setCell ⟨g, 3, none⟩ (.int .i64 s.prior)).setCell ⟨g, 4, none⟩ (.int .i64 s.mode)).setCell ⟨g, 5, none⟩ (.int .i64 s.term)) := by
  obtain ⟨h0, c0⟩ := h.setG s 0 vn rfl rfl rfl
  obtain ⟨h1, c1⟩ := h0.setG s 1 vj rfl rfl rfl
  obtain ⟨h2, c2⟩ := h1.setG s 2 (.int .i64 s.goal) rfl rfl rfl
  obtain ⟨h3, c3⟩ := h2.setG s 3 (.int .i64 s.prior) rfl rfl rfl
  obtain ⟨h4, c4⟩ := h3.setG s 4 (.int .i64 s.mode) rfl rfl rfl
  obtain ⟨h5, c5⟩ := h4.setG s 5 (.int .i64 s.term) rfl rfl rfl
  have t := fun {a b d : World} (x : Chg F a b) (y : Chg F b d) => x.trans y (fun _ _ h => h)
  exact ⟨h5, t (t (t (t (t c0 c1) c2) c3) c4) c5⟩
theorem PB.chg {w0 w : World} {g : Nat} {T : TypeId} {cs : Array Value} (h : PB w0 g T w cs) : Chg (fun x => x = g) w0 w := by
  have hb : Below g w0 w := h.below g w0 (Below.refl _ _) (Nat.le_refl _)
  exact ⟨hb.os, hb.tape, hb.output, by rw [h.size]; exact Nat.le_refl _, fun x _ hx => h.same x hx⟩

end Go.Proofs.YtbfjlhddebollaaDoor

/- The reference of layer 9: Apply, an op that is refused. -/
namespace Go.Proofs.YtbfjlhddebollaaDoor
open Go.RowKit

set_option maxRecDepth 100000 in
set_option maxHeartbeats 4000000 in
theorem RefAp_E (c : Cf) (vn vj : Value) (s : St) (kd a1 a2 a3 a4 a5 a6 : Int) (w : World) (h : RdSt w vn vj s) (hR : RightP c s) (hz : (applyS c s (kd, a1, a2, a3, a4, a5, a6)).2 ≠ 0) :
    Calls Tryd.prog 11 #[cfV c, stV vn vj s, .agg #[.int .i64 kd, .int .i64 a1, .int .i64 a2, .int .i64 a3, .int .i64 a4, .int .i64 a5, .int .i64 a6]] w fun e w' => ∃ vn' vj', e = .returned (.tuple #[stV vn' vj' (applyS c s (kd, a1, a2, a3, a4, a5, a6)).1, .int .i64 (applyS c s (kd, a1, a2, a3, a4, a5, a6)).2]) ∧ RdSt w' vn' vj' (applyS c s (kd, a1, a2, a3, a4, a5, a6)).1 ∧ Ext w w' ∧ ∀ k, vn'.ownBlock = some k ∨ vj'.ownBlock = some k → w.heap.size ≤ k := by
  have hR6 := hR.len.2
  have hj24 := hR.nj
  have he : (applyS c s (kd, a1, a2, a3, a4, a5, a6)).1 = s := refused hz
  obtain ⟨S2, hS2⟩ : ∃ S2, S2 = (applyS c s (kd, a1, a2, a3, a4, a5, a6)).1 := ⟨_, rfl⟩
  obtain ⟨er, her⟩ : ∃ er, er = (applyS c s (kd, a1, a2, a3, a4, a5, a6)).2 := ⟨_, rfl⟩
  rw [← hS2, ← her]
  have HS2 := Lib.hid (hS2.trans he)
  rw [← her] at hz
  have d_z : (er != 0) = true := by rw [bne_iff_ne]; exact hz
  have HCP := Lib.hid fun W (hx : Ext w W) => RefCopy_any vn vj s W (h.ext hx) (by omega) (by omega)
  have HWY : Hid (∀ W vn' vj', RdSt W vn' vj' s → Calls Tryd.prog 29 #[cfV c, stV vn' vj' s, .agg #[.int .i64 kd, .int .i64 a1, .int .i64 a2, .int .i64 a3, .int .i64 a4, .int .i64 a5, .int .i64 a6]] W fun e w' => e = .returned (.int .i64 er) ∧ Ext W w') := Lib.hid fun W vn' vj' hr => (RefWhy_any c vn' vj' s (kd, a1, a2, a3, a4, a5, a6) W hr hR).mono (by rintro e w' ⟨h1, h2⟩; rw [← her] at h1; exact ⟨h1, h2⟩)
  obtain ⟨An, cn, rfl, -, -⟩ := h.nodes.slice_
  obtain ⟨Aj, cj, rfl, -, -⟩ := h.jobs.slice_
  obtain ⟨W4, hW4, hx4, hb0, hb1, hb2, hb3, hs4⟩ := four_blocks w 23 30 36 30 #[.int .i64 c.nodes, .int .i64 c.queues, .int .i64 c.quota, .int .i64 c.wave, .int .i64 c.lease, .int .i64 c.retry, .int .i64 c.deadline, .int .i64 c.room, .int .i64 c.disk] #[.slice An s.nodes.length cn, .slice Aj s.jobs.length cj, .int .i64 s.goal, .int .i64 s.prior, .int .i64 s.mode, .int .i64 s.term] #[.int .i64 kd, .int .i64 a1, .int .i64 a2, .int .i64 a3, .int .i64 a4, .int .i64 a5, .int .i64 a6] #[.slice none 0 0, .slice none 0 0, .int .i64 0, .int .i64 0, .int .i64 0, .int .i64 0]
  have HX4 := Lib.hid hx4
  have HB0 := Lib.hid hb0
  have HB1 := Lib.hid hb1
  have HB2 := Lib.hid hb2
  have HB3 := Lib.hid hb3
  have HS4 := Lib.hid hs4
  unfold stV at HCP
  unfold stV cfV at HWY
  unfold stV cfV
  clear hz
  clear hx4 hb0 hb1 hb2 hb3 hs4 h hS2 her he hR6 hj24
  go_enter Tryd.func11, Tryd.ntmps11
  go_wp2_with fail
  rw [← hW4]
  clear hW4
  refine (HCP.out _ HX4.out).mono ?_
  rintro e1 w1 ⟨vn1, vj1, rfl, ho, hx1⟩
  have HRD : RdSt w1 vn1 vj1 s := ⟨RdS.own ho.nodes, RdS.own ho.jobs⟩
  obtain ⟨A1, c1, rfl, -, -⟩ := HRD.nodes.slice_
  obtain ⟨A2, c2, rfl, -, -⟩ := HRD.jobs.slice_
  clear HRD
  obtain ⟨w2, hw2⟩ : ∃ W, W = w1.alloc (.cells #[.slice A1 s.nodes.length c1, .slice A2 s.jobs.length c2, .int .i64 s.goal, .int .i64 s.prior, .int .i64 s.mode, .int .i64 s.term] 30) := ⟨_, rfl⟩
  have hx2 : Ext w1 w2 := by rw [hw2]; exact Below.alloc (Ext.refl _) (Nat.le_refl _) _
  have hsz : w2.heap.size = w1.heap.size + 1 := by rw [hw2]; simp
  obtain ⟨F, hsg, hF4⟩ : ∃ F : Fp, Sg F w2 w1.heap.size (.slice A1 s.nodes.length c1) (.slice A2 s.jobs.length c2) s ∧ ∀ k, F k → w.heap.size + 4 ≤ k := ⟨fun k => W4.heap.size ≤ k ∧ k < w2.heap.size, Sg.make (w0 := W4) (base := W4.heap.size) (by rw [hw2]; exact Blk.new _ _ _) hx1.size ⟨by rw [hw2]; exact ho.nodes.alloc _, by rw [hw2]; exact ho.jobs.alloc _, ho.off⟩ (Nat.le_refl _) (fun k hk => by
    rcases hk with hk | hk
    · have := (ho.nodes.lt k hk).2
      omega
    · have := (ho.jobs.lt k hk).2
      omega), fun k hk => by have := HS4.out; omega⟩
  have HX2 := Lib.hid (Ext.trans (Ext.trans HX4.out hx1) hx2)
  have HF4 := Lib.hid hF4
  have HSG := Lib.hid hsg
  have HC0 := Lib.hid ((HB0.out.ext hx1).ext hx2)
  have HC2 := Lib.hid ((HB2.out.ext hx1).ext hx2)
  have HC3 := Lib.hid ((HB3.out.ext hx1).ext hx2)
  clear ho hx1 hx2 hsz hsg hF4 HB0 HB1 HB2 HB3 HS4 HX4 HCP
  go_upto_region 2 with (fail)
  rw [← hw2]
  clear hw2
  have k0 : w2.cell? ⟨w.heap.size, 0, none⟩ = some (.int .i64 c.nodes) := HC0.out.cell 0
  have k1 : w2.cell? ⟨w.heap.size, 1, none⟩ = some (.int .i64 c.queues) := HC0.out.cell 1
  have k2 : w2.cell? ⟨w.heap.size, 2, none⟩ = some (.int .i64 c.quota) := HC0.out.cell 2
  have k3 : w2.cell? ⟨w.heap.size, 3, none⟩ = some (.int .i64 c.wave) := HC0.out.cell 3
  have k4 : w2.cell? ⟨w.heap.size, 4, none⟩ = some (.int .i64 c.lease) := HC0.out.cell 4
  have k5 : w2.cell? ⟨w.heap.size, 5, none⟩ = some (.int .i64 c.retry) := HC0.out.cell 5
  have k6 : w2.cell? ⟨w.heap.size, 6, none⟩ = some (.int .i64 c.deadline) := HC0.out.cell 6
  have k7 : w2.cell? ⟨w.heap.size, 7, none⟩ = some (.int .i64 c.room) := HC0.out.cell 7
  have k8 : w2.cell? ⟨w.heap.size, 8, none⟩ = some (.int .i64 c.disk) := HC0.out.cell 8
  have o0 : w2.cell? ⟨w.heap.size + 2, 0, none⟩ = some (.int .i64 kd) := HC2.out.cell 0
  have o1 : w2.cell? ⟨w.heap.size + 2, 1, none⟩ = some (.int .i64 a1) := HC2.out.cell 1
  have o2 : w2.cell? ⟨w.heap.size + 2, 2, none⟩ = some (.int .i64 a2) := HC2.out.cell 2
  have o3 : w2.cell? ⟨w.heap.size + 2, 3, none⟩ = some (.int .i64 a3) := HC2.out.cell 3
  have o4 : w2.cell? ⟨w.heap.size + 2, 4, none⟩ = some (.int .i64 a4) := HC2.out.cell 4
  have o5 : w2.cell? ⟨w.heap.size + 2, 5, none⟩ = some (.int .i64 a5) := HC2.out.cell 5
  have o6 : w2.cell? ⟨w.heap.size + 2, 6, none⟩ = some (.int .i64 a6) := HC2.out.cell 6
  have s0 : w2.cell? ⟨w1.heap.size, 0, none⟩ = some (.slice A1 s.nodes.length c1) := HSG.out.blk.cell 0
  have s1 : w2.cell? ⟨w1.heap.size, 1, none⟩ = some (.slice A2 s.jobs.length c2) := HSG.out.blk.cell 1
  have s2 : w2.cell? ⟨w1.heap.size, 2, none⟩ = some (.int .i64 s.goal) := HSG.out.blk.cell 2
  have s3 : w2.cell? ⟨w1.heap.size, 3, none⟩ = some (.int .i64 s.prior) := HSG.out.blk.cell 3
  have s4 : w2.cell? ⟨w1.heap.size, 4, none⟩ = some (.int .i64 s.mode) := HSG.out.blk.cell 4
  have s5 : w2.cell? ⟨w1.heap.size, 5, none⟩ = some (.int .i64 s.term) := HSG.out.blk.cell 5
  go_wp2_with fail
  refine (HWY.out _ _ _ HSG.out.rd).mono ?_
  rintro e3 w3 ⟨rfl, hx3⟩
  have HX3 := Lib.hid (HX2.out.trans hx3)
  have HSG3 := Lib.hid (HSG.out.ext hx3)
  have HO3 := Lib.hid (HC2.out.ext hx3)
  have HV3 := Lib.hid (HC3.out.ext hx3)
  have HBX : Hid (∀ W, Chg F w3 W → Blk W (w.heap.size + 2) 36 #[.int .i64 kd, .int .i64 a1, .int .i64 a2, .int .i64 a3, .int .i64 a4, .int .i64 a5, .int .i64 a6] ∧ Blk W (w.heap.size + 3) 30 #[.slice none 0 0, .slice none 0 0, .int .i64 0, .int .i64 0, .int .i64 0, .int .i64 0] ∧ Ext w W) := Lib.hid fun W hc => ⟨(hc.block _ HO3.out.lt (fun hf => by have := HF4.out _ hf; omega)).trans HO3.out, (hc.block _ HV3.out.lt (fun hf => by have := HF4.out _ hf; omega)).trans HV3.out, hc.ext HX3.out (fun k hf => by have := HF4.out _ hf; omega)⟩
  clear hx3 HX2 HSG HC0 HC2 HC3 HWY k0 k1 k2 k3 k4 k5 k6 k7 k8 o0 o1 o2 o3 o4 o5 o6 s0 s1 s2 s3 s4 s5
  have HSE := Lib.hid (show Sg F w3 w1.heap.size (.slice A1 s.nodes.length c1) (.slice A2 s.jobs.length c2) S2 by rw [HS2.out]; exact HSG3.out)
  have HCE : Hid (Chg F w3 w3) := Lib.hid (Chg.refl _ _)
  have HQE := Lib.hid (HBX.out _ HCE.out)
  have m0 : w3.cell? ⟨w1.heap.size, 0, none⟩ = some (.slice A1 s.nodes.length c1) := HSE.out.blk.cell 0
  have m1 : w3.cell? ⟨w1.heap.size, 1, none⟩ = some (.slice A2 s.jobs.length c2) := HSE.out.blk.cell 1
  have m2 : w3.cell? ⟨w1.heap.size, 2, none⟩ = some (.int .i64 S2.goal) := HSE.out.blk.cell 2
  have m3 : w3.cell? ⟨w1.heap.size, 3, none⟩ = some (.int .i64 S2.prior) := HSE.out.blk.cell 3
  have m4 : w3.cell? ⟨w1.heap.size, 4, none⟩ = some (.int .i64 S2.mode) := HSE.out.blk.cell 4
  have m5 : w3.cell? ⟨w1.heap.size, 5, none⟩ = some (.int .i64 S2.term) := HSE.out.blk.cell 5
  have r0 : w3.cell? ⟨w.heap.size + 3, 0, none⟩ = some (.slice none 0 0) := HQE.out.2.1.cell 0
  have g0 : w3.frozen? ⟨w.heap.size + 3, 0, none⟩ = false := HQE.out.2.1.frozen 0
  have r1 : w3.cell? ⟨w.heap.size + 3, 1, none⟩ = some (.slice none 0 0) := HQE.out.2.1.cell 1
  have g1 : w3.frozen? ⟨w.heap.size + 3, 1, none⟩ = false := HQE.out.2.1.frozen 1
  have r2 : w3.cell? ⟨w.heap.size + 3, 2, none⟩ = some (.int .i64 0) := HQE.out.2.1.cell 2
  have g2 : w3.frozen? ⟨w.heap.size + 3, 2, none⟩ = false := HQE.out.2.1.frozen 2
  have r3 : w3.cell? ⟨w.heap.size + 3, 3, none⟩ = some (.int .i64 0) := HQE.out.2.1.cell 3
  have g3 : w3.frozen? ⟨w.heap.size + 3, 3, none⟩ = false := HQE.out.2.1.frozen 3
  have r4 : w3.cell? ⟨w.heap.size + 3, 4, none⟩ = some (.int .i64 0) := HQE.out.2.1.cell 4
  have g4 : w3.frozen? ⟨w.heap.size + 3, 4, none⟩ = false := HQE.out.2.1.frozen 4
  have r5 : w3.cell? ⟨w.heap.size + 3, 5, none⟩ = some (.int .i64 0) := HQE.out.2.1.cell 5
  have g5 : w3.frozen? ⟨w.heap.size + 3, 5, none⟩ = false := HQE.out.2.1.frozen 5
  go_wp2
  have hq := (((((PB.start HQE.out.2.1).set 0 (.slice A1 s.nodes.length c1)).set 1 (.slice A2 s.jobs.length c2)).set 2 (.int .i64 S2.goal)).set 3 (.int .i64 S2.prior)).set 4 (.int .i64 S2.mode)
  replace hq := hq.set 5 (.int .i64 S2.term)
  simp only [List.setIfInBounds_toArray, List.set_cons_zero, List.set_cons_succ] at hq
  obtain ⟨wf, hwf⟩ : ∃ W, W = ((((((w3.setCell ⟨w.heap.size + 3, 0, none⟩ (.slice A1 s.nodes.length c1)).setCell ⟨w.heap.size + 3, 1, none⟩ (.slice A2 s.jobs.length c2)).setCell ⟨w.heap.size + 3, 2, none⟩ (.int .i64 S2.goal)).setCell ⟨w.heap.size + 3, 3, none⟩ (.int .i64 S2.prior)).setCell ⟨w.heap.size + 3, 4, none⟩ (.int .i64 S2.mode)).setCell ⟨w.heap.size + 3, 5, none⟩ (.int .i64 S2.term)) := ⟨_, rfl⟩
  rw [← hwf] at hq
  have hc1 : Chg (fun x => x = w.heap.size + 3) w3 wf := hq.chg
  have hsf : Sg F wf w1.heap.size (.slice A1 s.nodes.length c1) (.slice A2 s.jobs.length c2) S2 := ObjF.chg HSE.out hc1 (fun x hx e => by have := HF4.out x hx; have e : x = w.heap.size + 3 := e; omega)
  have hxf := hq.below _ _ HQE.out.2.2 (by omega)
  rw [hwf] at hq hsf hxf
  exact bodyPost_ret (results_cell_tmp_row rfl _ _ (w.heap.size + 3) 30 _ (0, 0) _ rfl hq.blk rfl rfl (by kernel_rfl)) rfl ⟨.slice A1 s.nodes.length c1, .slice A2 s.jobs.length c2, rfl, hsf.rd, hxf, hsf.own4 HF4.out⟩

end Go.Proofs.YtbfjlhddebollaaDoor

/- The reference of layer 9: one job more in a state's variable. -/
namespace Go.Proofs.YtbfjlhddebollaaDoor
open Go.RowKit

/-- One job more. -/
theorem Sg.snoc {F : Fp} {w w' : World} {g : Nat} {vn vj v' : Value} {s : St} (h : Sg F w g vn vj s) (j : Jb)
    (hg : GrewK 0 56 12 vj w (s.jobs.length + 1) (jobsC s.jobs ++ j.cells) v' w') :
    Sg (F.since w (w'.setCell ⟨g, 1, none⟩ v')) (w'.setCell ⟨g, 1, none⟩ v') g vn v' { s with jobs := s.jobs ++ [j] } ∧ Chg F w (w'.setCell ⟨g, 1, none⟩ v') := by
  have hj : jobsC (s.jobs ++ [j]) = jobsC s.jobs ++ j.cells := by unfold jobsC; rw [List.flatMap_append]; simp
  have hl : (s.jobs ++ [j]).length = s.jobs.length + 1 := by simp
  have ht := ObjF.turn (w' := w') h 1 (by simp) ⟨56, 12, v', (s.jobs ++ [j]).length, jobsC (s.jobs ++ [j])⟩ (by rw [hj, hl]; exact hg.1) (Chg.of_grown hg.2.1 fun k hk => hk) (fun k hk => by
    rcases hg.2.2 with h2 | h2
    · exact .inl (by show vj.ownBlock = some k; rw [← h2]; exact hk)
    · exact .inr (h2 k hk))
  obtain ⟨h1, h2⟩ := ht
  obtain ⟨h3, h4⟩ := h1.setCell 1 v'
  have hs : (w'.setCell ⟨g, 1, none⟩ v').heap.size = w'.heap.size := by simp
  have h5 := ObjF.mono (G := Fp.since F w (w'.setCell ⟨g, 1, none⟩ v')) h3 (fun k hk => by
    rcases hk with hk | hk
    · exact .inl hk
    · exact .inr ⟨hk.1, by rw [hs]; exact hk.2⟩) (h.isIn.since (by rw [hs]; exact h2.size))
  exact ⟨h5, h2.trans h4 (fun x hx hF => by
    rcases hF with hF | hF
    · exact hF
    · omega)⟩

end Go.Proofs.YtbfjlhddebollaaDoor

/- The reference of layer 9: Apply, kind 1. -/
namespace Go.Proofs.YtbfjlhddebollaaDoor
open Go.RowKit

set_option maxRecDepth 100000 in
set_option maxHeartbeats 4000000 in
theorem RefAp_1 (c : Cf) (vn vj : Value) (s : St) (a1 a2 a3 a4 a5 a6 : Int) (w : World) (h : RdSt w vn vj s) (hR : RightP c s) (hz : (applyS c s (1, a1, a2, a3, a4, a5, a6)).2 = 0) :
    Calls Tryd.prog 11 #[cfV c, stV vn vj s, .agg #[.int .i64 1, .int .i64 a1, .int .i64 a2, .int .i64 a3, .int .i64 a4, .int .i64 a5, .int .i64 a6]] w fun e w' => ∃ vn' vj', e = .returned (.tuple #[stV vn' vj' (applyS c s (1, a1, a2, a3, a4, a5, a6)).1, .int .i64 (applyS c s (1, a1, a2, a3, a4, a5, a6)).2]) ∧ RdSt w' vn' vj' (applyS c s (1, a1, a2, a3, a4, a5, a6)).1 ∧ Ext w w' ∧ ∀ k, vn'.ownBlock = some k ∨ vj'.ownBlock = some k → w.heap.size ≤ k := by
  have hR6 := hR.len.2
  have hj24 := hR.nj
  have he : (applyS c s (1, a1, a2, a3, a4, a5, a6)).1 = { s with jobs := s.jobs ++ [newJ (1, a1, a2, a3, a4, a5, a6)] } := by
    revert hz
    unfold applyS
    split
    · intro hz
      cases hz
    · unfold doS
      show (submitS c s _).2 = 0 → (submitS c s _).1 = _
      unfold submitS
      repeat' split
      all_goals first | (intro; rfl) | (intro hz; cases hz)
  have HJ24 := Lib.hid hR.nj
  obtain ⟨S2, hS2⟩ : ∃ S2, S2 = (applyS c s (1, a1, a2, a3, a4, a5, a6)).1 := ⟨_, rfl⟩
  obtain ⟨er, her⟩ : ∃ er, er = (applyS c s (1, a1, a2, a3, a4, a5, a6)).2 := ⟨_, rfl⟩
  rw [← hS2, ← her]
  have HS2 := Lib.hid (hS2.trans he)
  rw [← her] at hz
  subst hz
  have HCP := Lib.hid fun W (hx : Ext w W) => RefCopy_any vn vj s W (h.ext hx) (by omega) (by omega)
  have HWY : Hid (∀ W vn' vj', RdSt W vn' vj' s → Calls Tryd.prog 29 #[cfV c, stV vn' vj' s, .agg #[.int .i64 1, .int .i64 a1, .int .i64 a2, .int .i64 a3, .int .i64 a4, .int .i64 a5, .int .i64 a6]] W fun e w' => e = .returned (.int .i64 0) ∧ Ext W w') := Lib.hid fun W vn' vj' hr => (RefWhy_any c vn' vj' s (1, a1, a2, a3, a4, a5, a6) W hr hR).mono (by rintro e w' ⟨h1, h2⟩; rw [← her] at h1; exact ⟨h1, h2⟩)
  obtain ⟨An, cn, rfl, -, -⟩ := h.nodes.slice_
  obtain ⟨Aj, cj, rfl, -, -⟩ := h.jobs.slice_
  obtain ⟨W4, hW4, hx4, hb0, hb1, hb2, hb3, hs4⟩ := four_blocks w 23 30 36 30 #[.int .i64 c.nodes, .int .i64 c.queues, .int .i64 c.quota, .int .i64 c.wave, .int .i64 c.lease, .int .i64 c.retry, .int .i64 c.deadline, .int .i64 c.room, .int .i64 c.disk] #[.slice An s.nodes.length cn, .slice Aj s.jobs.length cj, .int .i64 s.goal, .int .i64 s.prior, .int .i64 s.mode, .int .i64 s.term] #[.int .i64 1, .int .i64 a1, .int .i64 a2, .int .i64 a3, .int .i64 a4, .int .i64 a5, .int .i64 a6] #[.slice none 0 0, .slice none 0 0, .int .i64 0, .int .i64 0, .int .i64 0, .int .i64 0]
  have HX4 := Lib.hid hx4
  have HB0 := Lib.hid hb0
  have HB1 := Lib.hid hb1
  have HB2 := Lib.hid hb2
  have HB3 := Lib.hid hb3
  have HS4 := Lib.hid hs4
  unfold stV at HCP
  unfold stV cfV at HWY
  unfold stV cfV
  clear hx4 hb0 hb1 hb2 hb3 hs4 h hS2 her he hR6 hj24
  go_enter Tryd.func11, Tryd.ntmps11
  go_wp2_with fail
  rw [← hW4]
  clear hW4
  refine (HCP.out _ HX4.out).mono ?_
  rintro e1 w1 ⟨vn1, vj1, rfl, ho, hx1⟩
  have HRD : RdSt w1 vn1 vj1 s := ⟨RdS.own ho.nodes, RdS.own ho.jobs⟩
  obtain ⟨A1, c1, rfl, -, -⟩ := HRD.nodes.slice_
  obtain ⟨A2, c2, rfl, -, -⟩ := HRD.jobs.slice_
  clear HRD
  obtain ⟨w2, hw2⟩ : ∃ W, W = w1.alloc (.cells #[.slice A1 s.nodes.length c1, .slice A2 s.jobs.length c2, .int .i64 s.goal, .int .i64 s.prior, .int .i64 s.mode, .int .i64 s.term] 30) := ⟨_, rfl⟩
  have hx2 : Ext w1 w2 := by rw [hw2]; exact Below.alloc (Ext.refl _) (Nat.le_refl _) _
  have hsz : w2.heap.size = w1.heap.size + 1 := by rw [hw2]; simp
  obtain ⟨F, hsg, hF4⟩ : ∃ F : Fp, Sg F w2 w1.heap.size (.slice A1 s.nodes.length c1) (.slice A2 s.jobs.length c2) s ∧ ∀ k, F k → w.heap.size + 4 ≤ k := ⟨fun k => W4.heap.size ≤ k ∧ k < w2.heap.size, Sg.make (w0 := W4) (base := W4.heap.size) (by rw [hw2]; exact Blk.new _ _ _) hx1.size ⟨by rw [hw2]; exact ho.nodes.alloc _, by rw [hw2]; exact ho.jobs.alloc _, ho.off⟩ (Nat.le_refl _) (fun k hk => by
    rcases hk with hk | hk
    · have := (ho.nodes.lt k hk).2
      omega
    · have := (ho.jobs.lt k hk).2
      omega), fun k hk => by have := HS4.out; omega⟩
  have HX2 := Lib.hid (Ext.trans (Ext.trans HX4.out hx1) hx2)
  have HF4 := Lib.hid hF4
  have HSG := Lib.hid hsg
  have HC0 := Lib.hid ((HB0.out.ext hx1).ext hx2)
  have HC2 := Lib.hid ((HB2.out.ext hx1).ext hx2)
  have HC3 := Lib.hid ((HB3.out.ext hx1).ext hx2)
  clear ho hx1 hx2 hsz hsg hF4 HB0 HB1 HB2 HB3 HS4 HX4 HCP
  go_upto_region 2 with (fail)
  rw [← hw2]
  clear hw2
  have k0 : w2.cell? ⟨w.heap.size, 0, none⟩ = some (.int .i64 c.nodes) := HC0.out.cell 0
  have k1 : w2.cell? ⟨w.heap.size, 1, none⟩ = some (.int .i64 c.queues) := HC0.out.cell 1
  have k2 : w2.cell? ⟨w.heap.size, 2, none⟩ = some (.int .i64 c.quota) := HC0.out.cell 2
  have k3 : w2.cell? ⟨w.heap.size, 3, none⟩ = some (.int .i64 c.wave) := HC0.out.cell 3
  have k4 : w2.cell? ⟨w.heap.size, 4, none⟩ = some (.int .i64 c.lease) := HC0.out.cell 4
  have k5 : w2.cell? ⟨w.heap.size, 5, none⟩ = some (.int .i64 c.retry) := HC0.out.cell 5
  have k6 : w2.cell? ⟨w.heap.size, 6, none⟩ = some (.int .i64 c.deadline) := HC0.out.cell 6
  have k7 : w2.cell? ⟨w.heap.size, 7, none⟩ = some (.int .i64 c.room) := HC0.out.cell 7
  have k8 : w2.cell? ⟨w.heap.size, 8, none⟩ = some (.int .i64 c.disk) := HC0.out.cell 8
  have o0 : w2.cell? ⟨w.heap.size + 2, 0, none⟩ = some (.int .i64 1) := HC2.out.cell 0
  have o1 : w2.cell? ⟨w.heap.size + 2, 1, none⟩ = some (.int .i64 a1) := HC2.out.cell 1
  have o2 : w2.cell? ⟨w.heap.size + 2, 2, none⟩ = some (.int .i64 a2) := HC2.out.cell 2
  have o3 : w2.cell? ⟨w.heap.size + 2, 3, none⟩ = some (.int .i64 a3) := HC2.out.cell 3
  have o4 : w2.cell? ⟨w.heap.size + 2, 4, none⟩ = some (.int .i64 a4) := HC2.out.cell 4
  have o5 : w2.cell? ⟨w.heap.size + 2, 5, none⟩ = some (.int .i64 a5) := HC2.out.cell 5
  have o6 : w2.cell? ⟨w.heap.size + 2, 6, none⟩ = some (.int .i64 a6) := HC2.out.cell 6
  have s0 : w2.cell? ⟨w1.heap.size, 0, none⟩ = some (.slice A1 s.nodes.length c1) := HSG.out.blk.cell 0
  have s1 : w2.cell? ⟨w1.heap.size, 1, none⟩ = some (.slice A2 s.jobs.length c2) := HSG.out.blk.cell 1
  have s2 : w2.cell? ⟨w1.heap.size, 2, none⟩ = some (.int .i64 s.goal) := HSG.out.blk.cell 2
  have s3 : w2.cell? ⟨w1.heap.size, 3, none⟩ = some (.int .i64 s.prior) := HSG.out.blk.cell 3
  have s4 : w2.cell? ⟨w1.heap.size, 4, none⟩ = some (.int .i64 s.mode) := HSG.out.blk.cell 4
  have s5 : w2.cell? ⟨w1.heap.size, 5, none⟩ = some (.int .i64 s.term) := HSG.out.blk.cell 5
  go_wp2_with fail
  refine (HWY.out _ _ _ HSG.out.rd).mono ?_
  rintro e3 w3 ⟨rfl, hx3⟩
  have HX3 := Lib.hid (HX2.out.trans hx3)
  have HSG3 := Lib.hid (HSG.out.ext hx3)
  have HO3 := Lib.hid (HC2.out.ext hx3)
  have HV3 := Lib.hid (HC3.out.ext hx3)
  have HBX : Hid (∀ W, Chg F w3 W → Blk W (w.heap.size + 2) 36 #[.int .i64 1, .int .i64 a1, .int .i64 a2, .int .i64 a3, .int .i64 a4, .int .i64 a5, .int .i64 a6] ∧ Blk W (w.heap.size + 3) 30 #[.slice none 0 0, .slice none 0 0, .int .i64 0, .int .i64 0, .int .i64 0, .int .i64 0] ∧ Ext w W) := Lib.hid fun W hc => ⟨(hc.block _ HO3.out.lt (fun hf => by have := HF4.out _ hf; omega)).trans HO3.out, (hc.block _ HV3.out.lt (fun hf => by have := HF4.out _ hf; omega)).trans HV3.out, hc.ext HX3.out (fun k hf => by have := HF4.out _ hf; omega)⟩
  clear hx3 HX2 HSG HC0 HC2 HC3 HWY k0 k1 k2 k3 k4 k5 k6 k7 k8 o0 o1 o2 o3 o4 o5 o6 s0 s1 s2 s3 s4 s5
  have o0 : w3.cell? ⟨w.heap.size + 2, 0, none⟩ = some (.int .i64 1) := (HBX.out _ (Chg.refl F w3)).1.cell 0
  have o1 : w3.cell? ⟨w.heap.size + 2, 1, none⟩ = some (.int .i64 a1) := (HBX.out _ (Chg.refl F w3)).1.cell 1
  have o2 : w3.cell? ⟨w.heap.size + 2, 2, none⟩ = some (.int .i64 a2) := (HBX.out _ (Chg.refl F w3)).1.cell 2
  have o3 : w3.cell? ⟨w.heap.size + 2, 3, none⟩ = some (.int .i64 a3) := (HBX.out _ (Chg.refl F w3)).1.cell 3
  have o4 : w3.cell? ⟨w.heap.size + 2, 4, none⟩ = some (.int .i64 a4) := (HBX.out _ (Chg.refl F w3)).1.cell 4
  have o5 : w3.cell? ⟨w.heap.size + 2, 5, none⟩ = some (.int .i64 a5) := (HBX.out _ (Chg.refl F w3)).1.cell 5
  have o6 : w3.cell? ⟨w.heap.size + 2, 6, none⟩ = some (.int .i64 a6) := (HBX.out _ (Chg.refl F w3)).1.cell 6
  have s0 : w3.cell? ⟨w1.heap.size, 0, none⟩ = some (.slice A1 s.nodes.length c1) := HSG3.out.blk.cell 0
  have s1 : w3.cell? ⟨w1.heap.size, 1, none⟩ = some (.slice A2 s.jobs.length c2) := HSG3.out.blk.cell 1
  have s2 : w3.cell? ⟨w1.heap.size, 2, none⟩ = some (.int .i64 s.goal) := HSG3.out.blk.cell 2
  have s3 : w3.cell? ⟨w1.heap.size, 3, none⟩ = some (.int .i64 s.prior) := HSG3.out.blk.cell 3
  have s4 : w3.cell? ⟨w1.heap.size, 4, none⟩ = some (.int .i64 s.mode) := HSG3.out.blk.cell 4
  have s5 : w3.cell? ⟨w1.heap.size, 5, none⟩ = some (.int .i64 s.term) := HSG3.out.blk.cell 5
  have f1 := HSG3.out.fr 1
  have HROW : Hid (∀ W, Ext w3 W → W.ownsRow 0 56 12 (.slice A2 s.jobs.length c2) s.jobs.length (jobsC s.jobs)) := Lib.hid fun W hx => (HSG3.out.ext hx).rowJ
  have HONE : Hid (∀ u ∈ (newJ (1, a1, a2, a3, a4, a5, a6)).cells, u.oneCell' = true) := Lib.hid (by simp [newJ, Jb.cells, Value.oneCell'])
  have HLIT := Lib.hid (RdS.lit 12 w3 #[.int .i64 a1, .int .i64 a2, .int .i64 a3, .int .i64 a4, .int .i64 a5, .int .i64 a6, .int .i64 0, .int .i64 0, .int .i64 0, .int .i64 0, .int .i64 0, .int .i64 0] 56 w3.heap.size rfl rfl)
  have HKEEP : Hid (∀ W W', Ext w3 W → W.grownBy W' (Value.ownBlock (.slice A2 s.jobs.length c2)) → Blk W' w1.heap.size 30 (vsC (.slice A1 s.nodes.length c1) (.slice A2 s.jobs.length c2) s)) := Lib.hid fun W W' hx hg => by
    have hp := HSG3.out.ext hx
    refine (hg.block _ hp.lt fun e => ?_).trans hp.blk
    exact ObjF.off hp ⟨56, 12, .slice A2 s.jobs.length c2, s.jobs.length, jobsC s.jobs⟩ (by simp) e.symm
  have hl25 : s.jobs.length + 1 ≤ maxLen := by have := HJ24.out; unfold maxLen; omega
  have hl26 : (s.jobs.length + 1) * 96 ≤ 140737488355328 := by have := HJ24.out; omega
  go_upto_region 70 with (refine wpList_appendK rfl (.tmp 28) (.tmp 42) 28 rfl 0 56 _ 12 96 Tryd.underlying28 Tryd.infoJob rfl (by decide) (.slice A2 s.jobs.length c2) s.jobs.length (jobsC s.jobs) rfl (HROW.out _ (Below.alloc (Ext.refl _) (Nat.le_refl _) _)) (.slice (some ⟨w3.heap.size, 0, none⟩) 1 1) 1 (newJ (1, a1, a2, a3, a4, a5, a6)).cells rfl HLIT.out HONE.out hl25 hl26 (Nat.zero_le _) ?_; intro v' w' hg; have hb' := HKEEP.out _ w' (Below.alloc (Ext.refl _) (Nat.le_refl _) _) hg.2.1; have c1' := hb'.cell 1; have f1' : w'.frozen? ⟨w1.heap.size, 1, none⟩ = false := hb'.frozen 1; obtain ⟨A', cap', rfl⟩ := own_slice hg.1; have HGG := Lib.hid hg; clear hg hb')
  obtain ⟨v6, hw⟩ : ∃ W, W = w'.setCell ⟨w1.heap.size, 1, none⟩ (.slice A' (s.jobs.length + 1) cap') := ⟨_, rfl⟩
  rw [← hw]
  have hs := (HSG3.out.ext (Below.alloc (Ext.refl _) (Nat.le_refl _) _)).snoc (w' := w') (newJ (1, a1, a2, a3, a4, a5, a6)) HGG.out
  rw [← hw] at hs
  obtain ⟨F5, hs5, hF5⟩ : ∃ F5 : Fp, Sg F5 v6 w1.heap.size (.slice A1 s.nodes.length c1) (.slice A' (s.jobs.length + 1) cap') S2 ∧ ∀ k, F5 k → w.heap.size + 4 ≤ k := ⟨_, by rw [HS2.out]; exact hs.1, fun k hk => by
    rcases hk with hk | hk
    · exact HF4.out k hk
    · have h1 := hk.1
      have h2 := HV3.out.lt
      simp at h1
      omega⟩
  have HF5 := Lib.hid hF5
  have hcf : Chg F w3 v6 := (Chg.of_ext (F := F) (Below.alloc (Ext.refl _) (Nat.le_refl _) _)).trans hs.2 (fun _ _ h => h)
  have HS5 := Lib.hid hs5
  have HC6 := Lib.hid hcf
  clear hs hs5 hF5 hcf hw c1' f1' f1 hl25 hl26 o0 o1 o2 o3 o4 o5 o6 s0 s1 s2 s3 s4 s5
  have HSE := Lib.hid HS5.out
  have HCE : Hid (Chg F w3 v6) := Lib.hid HC6.out
  have HQE := Lib.hid (HBX.out _ HCE.out)
  have m0 : v6.cell? ⟨w1.heap.size, 0, none⟩ = some (.slice A1 s.nodes.length c1) := HSE.out.blk.cell 0
  have m1 : v6.cell? ⟨w1.heap.size, 1, none⟩ = some (.slice A' (s.jobs.length + 1) cap') := HSE.out.blk.cell 1
  have m2 : v6.cell? ⟨w1.heap.size, 2, none⟩ = some (.int .i64 S2.goal) := HSE.out.blk.cell 2
  have m3 : v6.cell? ⟨w1.heap.size, 3, none⟩ = some (.int .i64 S2.prior) := HSE.out.blk.cell 3
  have m4 : v6.cell? ⟨w1.heap.size, 4, none⟩ = some (.int .i64 S2.mode) := HSE.out.blk.cell 4
  have m5 : v6.cell? ⟨w1.heap.size, 5, none⟩ = some (.int .i64 S2.term) := HSE.out.blk.cell 5
  have r0 : v6.cell? ⟨w.heap.size + 3, 0, none⟩ = some (.slice none 0 0) := HQE.out.2.1.cell 0
  have g0 : v6.frozen? ⟨w.heap.size + 3, 0, none⟩ = false := HQE.out.2.1.frozen 0
  have r1 : v6.cell? ⟨w.heap.size + 3, 1, none⟩ = some (.slice none 0 0) := HQE.out.2.1.cell 1
  have g1 : v6.frozen? ⟨w.heap.size + 3, 1, none⟩ = false := HQE.out.2.1.frozen 1
  have r2 : v6.cell? ⟨w.heap.size + 3, 2, none⟩ = some (.int .i64 0) := HQE.out.2.1.cell 2
  have g2 : v6.frozen? ⟨w.heap.size + 3, 2, none⟩ = false := HQE.out.2.1.frozen 2
  have r3 : v6.cell? ⟨w.heap.size + 3, 3, none⟩ = some (.int .i64 0) := HQE.out.2.1.cell 3
  have g3 : v6.frozen? ⟨w.heap.size + 3, 3, none⟩ = false := HQE.out.2.1.frozen 3
  have r4 : v6.cell? ⟨w.heap.size + 3, 4, none⟩ = some (.int .i64 0) := HQE.out.2.1.cell 4
  have g4 : v6.frozen? ⟨w.heap.size + 3, 4, none⟩ = false := HQE.out.2.1.frozen 4
  have r5 : v6.cell? ⟨w.heap.size + 3, 5, none⟩ = some (.int .i64 0) := HQE.out.2.1.cell 5
  have g5 : v6.frozen? ⟨w.heap.size + 3, 5, none⟩ = false := HQE.out.2.1.frozen 5
  go_wp2
  have hq := (((((PB.start HQE.out.2.1).set 0 (.slice A1 s.nodes.length c1)).set 1 (.slice A' (s.jobs.length + 1) cap')).set 2 (.int .i64 S2.goal)).set 3 (.int .i64 S2.prior)).set 4 (.int .i64 S2.mode)
  replace hq := hq.set 5 (.int .i64 S2.term)
  simp only [List.setIfInBounds_toArray, List.set_cons_zero, List.set_cons_succ] at hq
  obtain ⟨wf, hwf⟩ : ∃ W, W = ((((((v6.setCell ⟨w.heap.size + 3, 0, none⟩ (.slice A1 s.nodes.length c1)).setCell ⟨w.heap.size + 3, 1, none⟩ (.slice A' (s.jobs.length + 1) cap')).setCell ⟨w.heap.size + 3, 2, none⟩ (.int .i64 S2.goal)).setCell ⟨w.heap.size + 3, 3, none⟩ (.int .i64 S2.prior)).setCell ⟨w.heap.size + 3, 4, none⟩ (.int .i64 S2.mode)).setCell ⟨w.heap.size + 3, 5, none⟩ (.int .i64 S2.term)) := ⟨_, rfl⟩
  rw [← hwf] at hq
  have hc1 : Chg (fun x => x = w.heap.size + 3) v6 wf := hq.chg
  have hsf : Sg F5 wf w1.heap.size (.slice A1 s.nodes.length c1) (.slice A' (s.jobs.length + 1) cap') S2 := ObjF.chg HSE.out hc1 (fun x hx e => by have := HF5.out x hx; have e : x = w.heap.size + 3 := e; omega)
  have hxf := hq.below _ _ HQE.out.2.2 (by omega)
  rw [hwf] at hq hsf hxf
  exact bodyPost_ret (results_cell_tmp_row rfl _ _ (w.heap.size + 3) 30 _ (0, 0) _ rfl hq.blk rfl rfl (by kernel_rfl)) rfl ⟨.slice A1 s.nodes.length c1, .slice A' (s.jobs.length + 1) cap', rfl, hsf.rd, hxf, hsf.own4 HF5.out⟩

end Go.Proofs.YtbfjlhddebollaaDoor

/- The reference of layer 9: Apply, kind 2. -/
namespace Go.Proofs.YtbfjlhddebollaaDoor
open Go.RowKit

set_option maxRecDepth 100000 in
set_option maxHeartbeats 4000000 in
theorem RefAp_2 (c : Cf) (vn vj : Value) (s : St) (a1 a2 a3 a4 a5 a6 : Int) (w : World) (h : RdSt w vn vj s) (hR : RightP c s) (hz : (applyS c s (2, a1, a2, a3, a4, a5, a6)).2 = 0) :
    Calls Tryd.prog 11 #[cfV c, stV vn vj s, .agg #[.int .i64 2, .int .i64 a1, .int .i64 a2, .int .i64 a3, .int .i64 a4, .int .i64 a5, .int .i64 a6]] w fun e w' => ∃ vn' vj', e = .returned (.tuple #[stV vn' vj' (applyS c s (2, a1, a2, a3, a4, a5, a6)).1, .int .i64 (applyS c s (2, a1, a2, a3, a4, a5, a6)).2]) ∧ RdSt w' vn' vj' (applyS c s (2, a1, a2, a3, a4, a5, a6)).1 ∧ Ext w w' ∧ ∀ k, vn'.ownBlock = some k ∨ vj'.ownBlock = some k → w.heap.size ≤ k := by
  have hR6 := hR.len.2
  have hj24 := hR.nj
  obtain ⟨k, j, ha, hjk, hz1, he1, hro⟩ := ok_job (by decide) (by decide) hz
  have he : (applyS c s (2, a1, a2, a3, a4, a5, a6)).1 = letGoS s k j 4 := by
    rw [he1]
    change (cancelS s k j).2 = 0 at hz1
    change (cancelS s k j).1 = _
    revert hz1
    unfold cancelS
    repeat' split
    all_goals first | (intro; rfl) | (intro hz; cases hz)
  have HLG : Hid (∀ (F : Fp) W g vn' vj', Sg F W g vn' vj' s → Calls Tryd.prog 30 #[.agg #[vn', vj', .int .i64 s.goal, .int .i64 s.prior, .int .i64 s.mode, .int .i64 s.term], .int .i64 a1, .int .i64 4] W fun e w' => e = .returned (.agg #[vn', vj', .int .i64 s.goal, .int .i64 s.prior, .int .i64 s.mode, .int .i64 s.term]) ∧ Sg F w' g vn' vj' (letGoS s k j 4) ∧ Chg F W w') := Lib.hid fun F W g vn' vj' h => by
    rw [ha]
    exact RefLetGo_any F W g k vn' vj' s j 4 h hjk (hR.job k j hjk).own hR.len.2 hR.nj
  clear hjk hz1 he1 hro ha
  obtain ⟨S2, hS2⟩ : ∃ S2, S2 = (applyS c s (2, a1, a2, a3, a4, a5, a6)).1 := ⟨_, rfl⟩
  obtain ⟨er, her⟩ : ∃ er, er = (applyS c s (2, a1, a2, a3, a4, a5, a6)).2 := ⟨_, rfl⟩
  rw [← hS2, ← her]
  have HS2 := Lib.hid (hS2.trans he)
  rw [← her] at hz
  subst hz
  have HCP := Lib.hid fun W (hx : Ext w W) => RefCopy_any vn vj s W (h.ext hx) (by omega) (by omega)
  have HWY : Hid (∀ W vn' vj', RdSt W vn' vj' s → Calls Tryd.prog 29 #[cfV c, stV vn' vj' s, .agg #[.int .i64 2, .int .i64 a1, .int .i64 a2, .int .i64 a3, .int .i64 a4, .int .i64 a5, .int .i64 a6]] W fun e w' => e = .returned (.int .i64 0) ∧ Ext W w') := Lib.hid fun W vn' vj' hr => (RefWhy_any c vn' vj' s (2, a1, a2, a3, a4, a5, a6) W hr hR).mono (by rintro e w' ⟨h1, h2⟩; rw [← her] at h1; exact ⟨h1, h2⟩)
  obtain ⟨An, cn, rfl, -, -⟩ := h.nodes.slice_
  obtain ⟨Aj, cj, rfl, -, -⟩ := h.jobs.slice_
  obtain ⟨W4, hW4, hx4, hb0, hb1, hb2, hb3, hs4⟩ := four_blocks w 23 30 36 30 #[.int .i64 c.nodes, .int .i64 c.queues, .int .i64 c.quota, .int .i64 c.wave, .int .i64 c.lease, .int .i64 c.retry, .int .i64 c.deadline, .int .i64 c.room, .int .i64 c.disk] #[.slice An s.nodes.length cn, .slice Aj s.jobs.length cj, .int .i64 s.goal, .int .i64 s.prior, .int .i64 s.mode, .int .i64 s.term] #[.int .i64 2, .int .i64 a1, .int .i64 a2, .int .i64 a3, .int .i64 a4, .int .i64 a5, .int .i64 a6] #[.slice none 0 0, .slice none 0 0, .int .i64 0, .int .i64 0, .int .i64 0, .int .i64 0]
  have HX4 := Lib.hid hx4
  have HB0 := Lib.hid hb0
  have HB1 := Lib.hid hb1
  have HB2 := Lib.hid hb2
  have HB3 := Lib.hid hb3
  have HS4 := Lib.hid hs4
  unfold stV at HCP
  unfold stV cfV at HWY
  unfold stV cfV
  clear hx4 hb0 hb1 hb2 hb3 hs4 h hS2 her he hR6 hj24
  go_enter Tryd.func11, Tryd.ntmps11
  go_wp2_with fail
  rw [← hW4]
  clear hW4
  refine (HCP.out _ HX4.out).mono ?_
  rintro e1 w1 ⟨vn1, vj1, rfl, ho, hx1⟩
  have HRD : RdSt w1 vn1 vj1 s := ⟨RdS.own ho.nodes, RdS.own ho.jobs⟩
  obtain ⟨A1, c1, rfl, -, -⟩ := HRD.nodes.slice_
  obtain ⟨A2, c2, rfl, -, -⟩ := HRD.jobs.slice_
  clear HRD
  obtain ⟨w2, hw2⟩ : ∃ W, W = w1.alloc (.cells #[.slice A1 s.nodes.length c1, .slice A2 s.jobs.length c2, .int .i64 s.goal, .int .i64 s.prior, .int .i64 s.mode, .int .i64 s.term] 30) := ⟨_, rfl⟩
  have hx2 : Ext w1 w2 := by rw [hw2]; exact Below.alloc (Ext.refl _) (Nat.le_refl _) _
  have hsz : w2.heap.size = w1.heap.size + 1 := by rw [hw2]; simp
  obtain ⟨F, hsg, hF4⟩ : ∃ F : Fp, Sg F w2 w1.heap.size (.slice A1 s.nodes.length c1) (.slice A2 s.jobs.length c2) s ∧ ∀ k, F k → w.heap.size + 4 ≤ k := ⟨fun k => W4.heap.size ≤ k ∧ k < w2.heap.size, Sg.make (w0 := W4) (base := W4.heap.size) (by rw [hw2]; exact Blk.new _ _ _) hx1.size ⟨by rw [hw2]; exact ho.nodes.alloc _, by rw [hw2]; exact ho.jobs.alloc _, ho.off⟩ (Nat.le_refl _) (fun k hk => by
    rcases hk with hk | hk
    · have := (ho.nodes.lt k hk).2
      omega
    · have := (ho.jobs.lt k hk).2
      omega), fun k hk => by have := HS4.out; omega⟩
  have HX2 := Lib.hid (Ext.trans (Ext.trans HX4.out hx1) hx2)
  have HF4 := Lib.hid hF4
  have HSG := Lib.hid hsg
  have HC0 := Lib.hid ((HB0.out.ext hx1).ext hx2)
  have HC2 := Lib.hid ((HB2.out.ext hx1).ext hx2)
  have HC3 := Lib.hid ((HB3.out.ext hx1).ext hx2)
  clear ho hx1 hx2 hsz hsg hF4 HB0 HB1 HB2 HB3 HS4 HX4 HCP
  go_upto_region 2 with (fail)
  rw [← hw2]
  clear hw2
  have k0 : w2.cell? ⟨w.heap.size, 0, none⟩ = some (.int .i64 c.nodes) := HC0.out.cell 0
  have k1 : w2.cell? ⟨w.heap.size, 1, none⟩ = some (.int .i64 c.queues) := HC0.out.cell 1
  have k2 : w2.cell? ⟨w.heap.size, 2, none⟩ = some (.int .i64 c.quota) := HC0.out.cell 2
  have k3 : w2.cell? ⟨w.heap.size, 3, none⟩ = some (.int .i64 c.wave) := HC0.out.cell 3
  have k4 : w2.cell? ⟨w.heap.size, 4, none⟩ = some (.int .i64 c.lease) := HC0.out.cell 4
  have k5 : w2.cell? ⟨w.heap.size, 5, none⟩ = some (.int .i64 c.retry) := HC0.out.cell 5
  have k6 : w2.cell? ⟨w.heap.size, 6, none⟩ = some (.int .i64 c.deadline) := HC0.out.cell 6
  have k7 : w2.cell? ⟨w.heap.size, 7, none⟩ = some (.int .i64 c.room) := HC0.out.cell 7
  have k8 : w2.cell? ⟨w.heap.size, 8, none⟩ = some (.int .i64 c.disk) := HC0.out.cell 8
  have o0 : w2.cell? ⟨w.heap.size + 2, 0, none⟩ = some (.int .i64 2) := HC2.out.cell 0
  have o1 : w2.cell? ⟨w.heap.size + 2, 1, none⟩ = some (.int .i64 a1) := HC2.out.cell 1
  have o2 : w2.cell? ⟨w.heap.size + 2, 2, none⟩ = some (.int .i64 a2) := HC2.out.cell 2
  have o3 : w2.cell? ⟨w.heap.size + 2, 3, none⟩ = some (.int .i64 a3) := HC2.out.cell 3
  have o4 : w2.cell? ⟨w.heap.size + 2, 4, none⟩ = some (.int .i64 a4) := HC2.out.cell 4
  have o5 : w2.cell? ⟨w.heap.size + 2, 5, none⟩ = some (.int .i64 a5) := HC2.out.cell 5
  have o6 : w2.cell? ⟨w.heap.size + 2, 6, none⟩ = some (.int .i64 a6) := HC2.out.cell 6
  have s0 : w2.cell? ⟨w1.heap.size, 0, none⟩ = some (.slice A1 s.nodes.length c1) := HSG.out.blk.cell 0
  have s1 : w2.cell? ⟨w1.heap.size, 1, none⟩ = some (.slice A2 s.jobs.length c2) := HSG.out.blk.cell 1
  have s2 : w2.cell? ⟨w1.heap.size, 2, none⟩ = some (.int .i64 s.goal) := HSG.out.blk.cell 2
  have s3 : w2.cell? ⟨w1.heap.size, 3, none⟩ = some (.int .i64 s.prior) := HSG.out.blk.cell 3
  have s4 : w2.cell? ⟨w1.heap.size, 4, none⟩ = some (.int .i64 s.mode) := HSG.out.blk.cell 4
  have s5 : w2.cell? ⟨w1.heap.size, 5, none⟩ = some (.int .i64 s.term) := HSG.out.blk.cell 5
  go_wp2_with fail
  refine (HWY.out _ _ _ HSG.out.rd).mono ?_
  rintro e3 w3 ⟨rfl, hx3⟩
  have HX3 := Lib.hid (HX2.out.trans hx3)
  have HSG3 := Lib.hid (HSG.out.ext hx3)
  have HO3 := Lib.hid (HC2.out.ext hx3)
  have HV3 := Lib.hid (HC3.out.ext hx3)
  have HBX : Hid (∀ W, Chg F w3 W → Blk W (w.heap.size + 2) 36 #[.int .i64 2, .int .i64 a1, .int .i64 a2, .int .i64 a3, .int .i64 a4, .int .i64 a5, .int .i64 a6] ∧ Blk W (w.heap.size + 3) 30 #[.slice none 0 0, .slice none 0 0, .int .i64 0, .int .i64 0, .int .i64 0, .int .i64 0] ∧ Ext w W) := Lib.hid fun W hc => ⟨(hc.block _ HO3.out.lt (fun hf => by have := HF4.out _ hf; omega)).trans HO3.out, (hc.block _ HV3.out.lt (fun hf => by have := HF4.out _ hf; omega)).trans HV3.out, hc.ext HX3.out (fun k hf => by have := HF4.out _ hf; omega)⟩
  clear hx3 HX2 HSG HC0 HC2 HC3 HWY k0 k1 k2 k3 k4 k5 k6 k7 k8 o0 o1 o2 o3 o4 o5 o6 s0 s1 s2 s3 s4 s5
  have o0 : w3.cell? ⟨w.heap.size + 2, 0, none⟩ = some (.int .i64 2) := (HBX.out _ (Chg.refl F w3)).1.cell 0
  have o1 : w3.cell? ⟨w.heap.size + 2, 1, none⟩ = some (.int .i64 a1) := (HBX.out _ (Chg.refl F w3)).1.cell 1
  have o2 : w3.cell? ⟨w.heap.size + 2, 2, none⟩ = some (.int .i64 a2) := (HBX.out _ (Chg.refl F w3)).1.cell 2
  have o3 : w3.cell? ⟨w.heap.size + 2, 3, none⟩ = some (.int .i64 a3) := (HBX.out _ (Chg.refl F w3)).1.cell 3
  have s0 : w3.cell? ⟨w1.heap.size, 0, none⟩ = some (.slice A1 s.nodes.length c1) := HSG3.out.blk.cell 0
  have s1 : w3.cell? ⟨w1.heap.size, 1, none⟩ = some (.slice A2 s.jobs.length c2) := HSG3.out.blk.cell 1
  have s2 : w3.cell? ⟨w1.heap.size, 2, none⟩ = some (.int .i64 s.goal) := HSG3.out.blk.cell 2
  have s3 : w3.cell? ⟨w1.heap.size, 3, none⟩ = some (.int .i64 s.prior) := HSG3.out.blk.cell 3
  have s4 : w3.cell? ⟨w1.heap.size, 4, none⟩ = some (.int .i64 s.mode) := HSG3.out.blk.cell 4
  have s5 : w3.cell? ⟨w1.heap.size, 5, none⟩ = some (.int .i64 s.term) := HSG3.out.blk.cell 5
  go_wp2_with fail
  refine (HLG.out _ _ _ _ _ HSG3.out).mono ?_
  rintro e5 w5 ⟨rfl, hs5, hc5⟩
  have HSG5 := Lib.hid hs5
  have HCH5 : Hid (Chg F w3 w5) := Lib.hid hc5
  clear hs5 hc5 HLG
  clear o0 o1 o2 o3 s0 s1 s2 s3 s4 s5
  have o0 : w5.cell? ⟨w.heap.size + 2, 0, none⟩ = some (.int .i64 2) := (HBX.out _ HCH5.out).1.cell 0
  have o1 : w5.cell? ⟨w.heap.size + 2, 1, none⟩ = some (.int .i64 a1) := (HBX.out _ HCH5.out).1.cell 1
  have o2 : w5.cell? ⟨w.heap.size + 2, 2, none⟩ = some (.int .i64 a2) := (HBX.out _ HCH5.out).1.cell 2
  have o3 : w5.cell? ⟨w.heap.size + 2, 3, none⟩ = some (.int .i64 a3) := (HBX.out _ HCH5.out).1.cell 3
  have s0 : w5.cell? ⟨w1.heap.size, 0, none⟩ = some (.slice A1 s.nodes.length c1) := HSG5.out.blk.cell 0
  have s1 : w5.cell? ⟨w1.heap.size, 1, none⟩ = some (.slice A2 s.jobs.length c2) := HSG5.out.blk.cell 1
  have s2 : w5.cell? ⟨w1.heap.size, 2, none⟩ = some (.int .i64 s.goal) := HSG5.out.blk.cell 2
  have s3 : w5.cell? ⟨w1.heap.size, 3, none⟩ = some (.int .i64 s.prior) := HSG5.out.blk.cell 3
  have s4 : w5.cell? ⟨w1.heap.size, 4, none⟩ = some (.int .i64 s.mode) := HSG5.out.blk.cell 4
  have s5 : w5.cell? ⟨w1.heap.size, 5, none⟩ = some (.int .i64 s.term) := HSG5.out.blk.cell 5
  have f0 : w5.frozen? ⟨w1.heap.size, 0, none⟩ = false := HSG5.out.fr 0
  have f1 : w5.frozen? ⟨w1.heap.size, 1, none⟩ = false := HSG5.out.fr 1
  have f2 : w5.frozen? ⟨w1.heap.size, 2, none⟩ = false := HSG5.out.fr 2
  have f3 : w5.frozen? ⟨w1.heap.size, 3, none⟩ = false := HSG5.out.fr 3
  have f4 : w5.frozen? ⟨w1.heap.size, 4, none⟩ = false := HSG5.out.fr 4
  have f5 : w5.frozen? ⟨w1.heap.size, 5, none⟩ = false := HSG5.out.fr 5
  obtain ⟨v6, hw⟩ : ∃ W, W = ((((((w5.setCell ⟨w1.heap.size, 0, none⟩ (.slice A1 s.nodes.length c1)).setCell ⟨w1.heap.size, 1, none⟩ (.slice A2 s.jobs.length c2)).setCell ⟨w1.heap.size, 2, none⟩ (.int .i64 s.goal)).setCell ⟨w1.heap.size, 3, none⟩ (.int .i64 s.prior)).setCell ⟨w1.heap.size, 4, none⟩ (.int .i64 s.mode)).setCell ⟨w1.heap.size, 5, none⟩ (.int .i64 s.term)) := ⟨_, rfl⟩
  have hs : Sg F v6 w1.heap.size (.slice A1 s.nodes.length c1) (.slice A2 s.jobs.length c2) (letGoS s k j 4) ∧ Chg F w5 v6 := by rw [hw]; exact HSG5.out.again
  have HSV6 := Lib.hid hs.1
  have HCV6 : Hid (Chg F w3 v6) := Lib.hid (Chg.trans HCH5.out hs.2 (fun _ _ h => h))
  clear hs
  go_upto_region 70 with (fail)
  rw [← hw]
  clear hw f0 f1 f2 f3 f4 f5 o0 o1 o2 o3 s0 s1 s2 s3 s4 s5
  have HSE := Lib.hid (show Sg F v6 w1.heap.size (.slice A1 s.nodes.length c1) (.slice A2 s.jobs.length c2) S2 by rw [HS2.out]; exact HSV6.out)
  have HCE : Hid (Chg F w3 v6) := Lib.hid HCV6.out
  have HQE := Lib.hid (HBX.out _ HCE.out)
  have m0 : v6.cell? ⟨w1.heap.size, 0, none⟩ = some (.slice A1 s.nodes.length c1) := HSE.out.blk.cell 0
  have m1 : v6.cell? ⟨w1.heap.size, 1, none⟩ = some (.slice A2 s.jobs.length c2) := HSE.out.blk.cell 1
  have m2 : v6.cell? ⟨w1.heap.size, 2, none⟩ = some (.int .i64 S2.goal) := HSE.out.blk.cell 2
  have m3 : v6.cell? ⟨w1.heap.size, 3, none⟩ = some (.int .i64 S2.prior) := HSE.out.blk.cell 3
  have m4 : v6.cell? ⟨w1.heap.size, 4, none⟩ = some (.int .i64 S2.mode) := HSE.out.blk.cell 4
  have m5 : v6.cell? ⟨w1.heap.size, 5, none⟩ = some (.int .i64 S2.term) := HSE.out.blk.cell 5
  have r0 : v6.cell? ⟨w.heap.size + 3, 0, none⟩ = some (.slice none 0 0) := HQE.out.2.1.cell 0
  have g0 : v6.frozen? ⟨w.heap.size + 3, 0, none⟩ = false := HQE.out.2.1.frozen 0
  have r1 : v6.cell? ⟨w.heap.size + 3, 1, none⟩ = some (.slice none 0 0) := HQE.out.2.1.cell 1
  have g1 : v6.frozen? ⟨w.heap.size + 3, 1, none⟩ = false := HQE.out.2.1.frozen 1
  have r2 : v6.cell? ⟨w.heap.size + 3, 2, none⟩ = some (.int .i64 0) := HQE.out.2.1.cell 2
  have g2 : v6.frozen? ⟨w.heap.size + 3, 2, none⟩ = false := HQE.out.2.1.frozen 2
  have r3 : v6.cell? ⟨w.heap.size + 3, 3, none⟩ = some (.int .i64 0) := HQE.out.2.1.cell 3
  have g3 : v6.frozen? ⟨w.heap.size + 3, 3, none⟩ = false := HQE.out.2.1.frozen 3
  have r4 : v6.cell? ⟨w.heap.size + 3, 4, none⟩ = some (.int .i64 0) := HQE.out.2.1.cell 4
  have g4 : v6.frozen? ⟨w.heap.size + 3, 4, none⟩ = false := HQE.out.2.1.frozen 4
  have r5 : v6.cell? ⟨w.heap.size + 3, 5, none⟩ = some (.int .i64 0) := HQE.out.2.1.cell 5
  have g5 : v6.frozen? ⟨w.heap.size + 3, 5, none⟩ = false := HQE.out.2.1.frozen 5
  go_wp2
  have hq := (((((PB.start HQE.out.2.1).set 0 (.slice A1 s.nodes.length c1)).set 1 (.slice A2 s.jobs.length c2)).set 2 (.int .i64 S2.goal)).set 3 (.int .i64 S2.prior)).set 4 (.int .i64 S2.mode)
  replace hq := hq.set 5 (.int .i64 S2.term)
  simp only [List.setIfInBounds_toArray, List.set_cons_zero, List.set_cons_succ] at hq
  obtain ⟨wf, hwf⟩ : ∃ W, W = ((((((v6.setCell ⟨w.heap.size + 3, 0, none⟩ (.slice A1 s.nodes.length c1)).setCell ⟨w.heap.size + 3, 1, none⟩ (.slice A2 s.jobs.length c2)).setCell ⟨w.heap.size + 3, 2, none⟩ (.int .i64 S2.goal)).setCell ⟨w.heap.size + 3, 3, none⟩ (.int .i64 S2.prior)).setCell ⟨w.heap.size + 3, 4, none⟩ (.int .i64 S2.mode)).setCell ⟨w.heap.size + 3, 5, none⟩ (.int .i64 S2.term)) := ⟨_, rfl⟩
  rw [← hwf] at hq
  have hc1 : Chg (fun x => x = w.heap.size + 3) v6 wf := hq.chg
  have hsf : Sg F wf w1.heap.size (.slice A1 s.nodes.length c1) (.slice A2 s.jobs.length c2) S2 := ObjF.chg HSE.out hc1 (fun x hx e => by have := HF4.out x hx; have e : x = w.heap.size + 3 := e; omega)
  have hxf := hq.below _ _ HQE.out.2.2 (by omega)
  rw [hwf] at hq hsf hxf
  exact bodyPost_ret (results_cell_tmp_row rfl _ _ (w.heap.size + 3) 30 _ (0, 0) _ rfl hq.blk rfl rfl (by kernel_rfl)) rfl ⟨.slice A1 s.nodes.length c1, .slice A2 s.jobs.length c2, rfl, hsf.rd, hxf, hsf.own4 HF4.out⟩

end Go.Proofs.YtbfjlhddebollaaDoor

/- The reference of layer 9: Apply, kind 3. -/
namespace Go.Proofs.YtbfjlhddebollaaDoor
open Go.RowKit

set_option maxRecDepth 100000 in
set_option maxHeartbeats 4000000 in
theorem RefAp_3 (c : Cf) (vn vj : Value) (s : St) (a1 a2 a3 a4 a5 a6 : Int) (w : World) (h : RdSt w vn vj s) (hR : RightP c s) (hz : (applyS c s (3, a1, a2, a3, a4, a5, a6)).2 = 0) :
    Calls Tryd.prog 11 #[cfV c, stV vn vj s, .agg #[.int .i64 3, .int .i64 a1, .int .i64 a2, .int .i64 a3, .int .i64 a4, .int .i64 a5, .int .i64 a6]] w fun e w' => ∃ vn' vj', e = .returned (.tuple #[stV vn' vj' (applyS c s (3, a1, a2, a3, a4, a5, a6)).1, .int .i64 (applyS c s (3, a1, a2, a3, a4, a5, a6)).2]) ∧ RdSt w' vn' vj' (applyS c s (3, a1, a2, a3, a4, a5, a6)).1 ∧ Ext w w' ∧ ∀ k, vn'.ownBlock = some k ∨ vj'.ownBlock = some k → w.heap.size ≤ k := by
  have hR6 := hR.len.2
  have hj24 := hR.nj
  obtain ⟨M, hM⟩ : ∃ M, M = meantS s := ⟨_, rfl⟩
  have he : (applyS c s (3, a1, a2, a3, a4, a5, a6)).1 = { s with prior := M, goal := a1, mode := 0 } := by
    rw [hM]
    revert hz
    unfold applyS
    split
    · intro hz
      cases hz
    · unfold doS
      show (targetS s a1).2 = 0 → (targetS s a1).1 = _
      unfold targetS
      split <;> intro hz <;> first | rfl | (cases hz)
  have HMT : Hid (∀ W vn' vj', Calls Tryd.prog 14 #[.agg #[vn', vj', .int .i64 s.goal, .int .i64 s.prior, .int .i64 s.mode, .int .i64 s.term]] W fun e w' => e = .returned (.int .i64 M) ∧ Ext W w') := Lib.hid fun W vn' vj' => by rw [hM]; exact RefMeant_any vn' vj' s W
  clear hM
  obtain ⟨S2, hS2⟩ : ∃ S2, S2 = (applyS c s (3, a1, a2, a3, a4, a5, a6)).1 := ⟨_, rfl⟩
  obtain ⟨er, her⟩ : ∃ er, er = (applyS c s (3, a1, a2, a3, a4, a5, a6)).2 := ⟨_, rfl⟩
  rw [← hS2, ← her]
  have HS2 := Lib.hid (hS2.trans he)
  rw [← her] at hz
  subst hz
  have HCP := Lib.hid fun W (hx : Ext w W) => RefCopy_any vn vj s W (h.ext hx) (by omega) (by omega)
  have HWY : Hid (∀ W vn' vj', RdSt W vn' vj' s → Calls Tryd.prog 29 #[cfV c, stV vn' vj' s, .agg #[.int .i64 3, .int .i64 a1, .int .i64 a2, .int .i64 a3, .int .i64 a4, .int .i64 a5, .int .i64 a6]] W fun e w' => e = .returned (.int .i64 0) ∧ Ext W w') := Lib.hid fun W vn' vj' hr => (RefWhy_any c vn' vj' s (3, a1, a2, a3, a4, a5, a6) W hr hR).mono (by rintro e w' ⟨h1, h2⟩; rw [← her] at h1; exact ⟨h1, h2⟩)
  obtain ⟨An, cn, rfl, -, -⟩ := h.nodes.slice_
  obtain ⟨Aj, cj, rfl, -, -⟩ := h.jobs.slice_
  obtain ⟨W4, hW4, hx4, hb0, hb1, hb2, hb3, hs4⟩ := four_blocks w 23 30 36 30 #[.int .i64 c.nodes, .int .i64 c.queues, .int .i64 c.quota, .int .i64 c.wave, .int .i64 c.lease, .int .i64 c.retry, .int .i64 c.deadline, .int .i64 c.room, .int .i64 c.disk] #[.slice An s.nodes.length cn, .slice Aj s.jobs.length cj, .int .i64 s.goal, .int .i64 s.prior, .int .i64 s.mode, .int .i64 s.term] #[.int .i64 3, .int .i64 a1, .int .i64 a2, .int .i64 a3, .int .i64 a4, .int .i64 a5, .int .i64 a6] #[.slice none 0 0, .slice none 0 0, .int .i64 0, .int .i64 0, .int .i64 0, .int .i64 0]
  have HX4 := Lib.hid hx4
  have HB0 := Lib.hid hb0
  have HB1 := Lib.hid hb1
  have HB2 := Lib.hid hb2
  have HB3 := Lib.hid hb3
  have HS4 := Lib.hid hs4
  unfold stV at HCP
  unfold stV cfV at HWY
  unfold stV cfV
  clear hx4 hb0 hb1 hb2 hb3 hs4 h hS2 her he hR6 hj24
  go_enter Tryd.func11, Tryd.ntmps11
  go_wp2_with fail
  rw [← hW4]
  clear hW4
  refine (HCP.out _ HX4.out).mono ?_
  rintro e1 w1 ⟨vn1, vj1, rfl, ho, hx1⟩
  have HRD : RdSt w1 vn1 vj1 s := ⟨RdS.own ho.nodes, RdS.own ho.jobs⟩
  obtain ⟨A1, c1, rfl, -, -⟩ := HRD.nodes.slice_
  obtain ⟨A2, c2, rfl, -, -⟩ := HRD.jobs.slice_
  clear HRD
  obtain ⟨w2, hw2⟩ : ∃ W, W = w1.alloc (.cells #[.slice A1 s.nodes.length c1, .slice A2 s.jobs.length c2, .int .i64 s.goal, .int .i64 s.prior, .int .i64 s.mode, .int .i64 s.term] 30) := ⟨_, rfl⟩
  have hx2 : Ext w1 w2 := by rw [hw2]; exact Below.alloc (Ext.refl _) (Nat.le_refl _) _
  have hsz : w2.heap.size = w1.heap.size + 1 := by rw [hw2]; simp
  obtain ⟨F, hsg, hF4⟩ : ∃ F : Fp, Sg F w2 w1.heap.size (.slice A1 s.nodes.length c1) (.slice A2 s.jobs.length c2) s ∧ ∀ k, F k → w.heap.size + 4 ≤ k := ⟨fun k => W4.heap.size ≤ k ∧ k < w2.heap.size, Sg.make (w0 := W4) (base := W4.heap.size) (by rw [hw2]; exact Blk.new _ _ _) hx1.size ⟨by rw [hw2]; exact ho.nodes.alloc _, by rw [hw2]; exact ho.jobs.alloc _, ho.off⟩ (Nat.le_refl _) (fun k hk => by
    rcases hk with hk | hk
    · have := (ho.nodes.lt k hk).2
      omega
    · have := (ho.jobs.lt k hk).2
      omega), fun k hk => by have := HS4.out; omega⟩
  have HX2 := Lib.hid (Ext.trans (Ext.trans HX4.out hx1) hx2)
  have HF4 := Lib.hid hF4
  have HSG := Lib.hid hsg
  have HC0 := Lib.hid ((HB0.out.ext hx1).ext hx2)
  have HC2 := Lib.hid ((HB2.out.ext hx1).ext hx2)
  have HC3 := Lib.hid ((HB3.out.ext hx1).ext hx2)
  clear ho hx1 hx2 hsz hsg hF4 HB0 HB1 HB2 HB3 HS4 HX4 HCP
  go_upto_region 2 with (fail)
  rw [← hw2]
  clear hw2
  have k0 : w2.cell? ⟨w.heap.size, 0, none⟩ = some (.int .i64 c.nodes) := HC0.out.cell 0
  have k1 : w2.cell? ⟨w.heap.size, 1, none⟩ = some (.int .i64 c.queues) := HC0.out.cell 1
  have k2 : w2.cell? ⟨w.heap.size, 2, none⟩ = some (.int .i64 c.quota) := HC0.out.cell 2
  have k3 : w2.cell? ⟨w.heap.size, 3, none⟩ = some (.int .i64 c.wave) := HC0.out.cell 3
  have k4 : w2.cell? ⟨w.heap.size, 4, none⟩ = some (.int .i64 c.lease) := HC0.out.cell 4
  have k5 : w2.cell? ⟨w.heap.size, 5, none⟩ = some (.int .i64 c.retry) := HC0.out.cell 5
  have k6 : w2.cell? ⟨w.heap.size, 6, none⟩ = some (.int .i64 c.deadline) := HC0.out.cell 6
  have k7 : w2.cell? ⟨w.heap.size, 7, none⟩ = some (.int .i64 c.room) := HC0.out.cell 7
  have k8 : w2.cell? ⟨w.heap.size, 8, none⟩ = some (.int .i64 c.disk) := HC0.out.cell 8
  have o0 : w2.cell? ⟨w.heap.size + 2, 0, none⟩ = some (.int .i64 3) := HC2.out.cell 0
  have o1 : w2.cell? ⟨w.heap.size + 2, 1, none⟩ = some (.int .i64 a1) := HC2.out.cell 1
  have o2 : w2.cell? ⟨w.heap.size + 2, 2, none⟩ = some (.int .i64 a2) := HC2.out.cell 2
  have o3 : w2.cell? ⟨w.heap.size + 2, 3, none⟩ = some (.int .i64 a3) := HC2.out.cell 3
  have o4 : w2.cell? ⟨w.heap.size + 2, 4, none⟩ = some (.int .i64 a4) := HC2.out.cell 4
  have o5 : w2.cell? ⟨w.heap.size + 2, 5, none⟩ = some (.int .i64 a5) := HC2.out.cell 5
  have o6 : w2.cell? ⟨w.heap.size + 2, 6, none⟩ = some (.int .i64 a6) := HC2.out.cell 6
  have s0 : w2.cell? ⟨w1.heap.size, 0, none⟩ = some (.slice A1 s.nodes.length c1) := HSG.out.blk.cell 0
  have s1 : w2.cell? ⟨w1.heap.size, 1, none⟩ = some (.slice A2 s.jobs.length c2) := HSG.out.blk.cell 1
  have s2 : w2.cell? ⟨w1.heap.size, 2, none⟩ = some (.int .i64 s.goal) := HSG.out.blk.cell 2
  have s3 : w2.cell? ⟨w1.heap.size, 3, none⟩ = some (.int .i64 s.prior) := HSG.out.blk.cell 3
  have s4 : w2.cell? ⟨w1.heap.size, 4, none⟩ = some (.int .i64 s.mode) := HSG.out.blk.cell 4
  have s5 : w2.cell? ⟨w1.heap.size, 5, none⟩ = some (.int .i64 s.term) := HSG.out.blk.cell 5
  go_wp2_with fail
  refine (HWY.out _ _ _ HSG.out.rd).mono ?_
  rintro e3 w3 ⟨rfl, hx3⟩
  have HX3 := Lib.hid (HX2.out.trans hx3)
  have HSG3 := Lib.hid (HSG.out.ext hx3)
  have HO3 := Lib.hid (HC2.out.ext hx3)
  have HV3 := Lib.hid (HC3.out.ext hx3)
  have HBX : Hid (∀ W, Chg F w3 W → Blk W (w.heap.size + 2) 36 #[.int .i64 3, .int .i64 a1, .int .i64 a2, .int .i64 a3, .int .i64 a4, .int .i64 a5, .int .i64 a6] ∧ Blk W (w.heap.size + 3) 30 #[.slice none 0 0, .slice none 0 0, .int .i64 0, .int .i64 0, .int .i64 0, .int .i64 0] ∧ Ext w W) := Lib.hid fun W hc => ⟨(hc.block _ HO3.out.lt (fun hf => by have := HF4.out _ hf; omega)).trans HO3.out, (hc.block _ HV3.out.lt (fun hf => by have := HF4.out _ hf; omega)).trans HV3.out, hc.ext HX3.out (fun k hf => by have := HF4.out _ hf; omega)⟩
  clear hx3 HX2 HSG HC0 HC2 HC3 HWY k0 k1 k2 k3 k4 k5 k6 k7 k8 o0 o1 o2 o3 o4 o5 o6 s0 s1 s2 s3 s4 s5
  have o0 : w3.cell? ⟨w.heap.size + 2, 0, none⟩ = some (.int .i64 3) := (HBX.out _ (Chg.refl F w3)).1.cell 0
  have o1 : w3.cell? ⟨w.heap.size + 2, 1, none⟩ = some (.int .i64 a1) := (HBX.out _ (Chg.refl F w3)).1.cell 1
  have o2 : w3.cell? ⟨w.heap.size + 2, 2, none⟩ = some (.int .i64 a2) := (HBX.out _ (Chg.refl F w3)).1.cell 2
  have o3 : w3.cell? ⟨w.heap.size + 2, 3, none⟩ = some (.int .i64 a3) := (HBX.out _ (Chg.refl F w3)).1.cell 3
  have s0 : w3.cell? ⟨w1.heap.size, 0, none⟩ = some (.slice A1 s.nodes.length c1) := HSG3.out.blk.cell 0
  have s1 : w3.cell? ⟨w1.heap.size, 1, none⟩ = some (.slice A2 s.jobs.length c2) := HSG3.out.blk.cell 1
  have s2 : w3.cell? ⟨w1.heap.size, 2, none⟩ = some (.int .i64 s.goal) := HSG3.out.blk.cell 2
  have s3 : w3.cell? ⟨w1.heap.size, 3, none⟩ = some (.int .i64 s.prior) := HSG3.out.blk.cell 3
  have s4 : w3.cell? ⟨w1.heap.size, 4, none⟩ = some (.int .i64 s.mode) := HSG3.out.blk.cell 4
  have s5 : w3.cell? ⟨w1.heap.size, 5, none⟩ = some (.int .i64 s.term) := HSG3.out.blk.cell 5
  go_wp2_with fail
  refine (HMT.out _ _ _).mono ?_
  rintro e5 w5 ⟨rfl, hx5⟩
  have HSG5 := Lib.hid (HSG3.out.ext hx5)
  have HCH5 : Hid (Chg F w3 w5) := Lib.hid (Chg.of_ext hx5)
  clear hx5 HMT
  clear o0 o1 o2 o3 s0 s1 s2 s3 s4 s5
  have o0 : w5.cell? ⟨w.heap.size + 2, 0, none⟩ = some (.int .i64 3) := (HBX.out _ HCH5.out).1.cell 0
  have o1 : w5.cell? ⟨w.heap.size + 2, 1, none⟩ = some (.int .i64 a1) := (HBX.out _ HCH5.out).1.cell 1
  have o2 : w5.cell? ⟨w.heap.size + 2, 2, none⟩ = some (.int .i64 a2) := (HBX.out _ HCH5.out).1.cell 2
  have o3 : w5.cell? ⟨w.heap.size + 2, 3, none⟩ = some (.int .i64 a3) := (HBX.out _ HCH5.out).1.cell 3
  have s0 : w5.cell? ⟨w1.heap.size, 0, none⟩ = some (.slice A1 s.nodes.length c1) := HSG5.out.blk.cell 0
  have s1 : w5.cell? ⟨w1.heap.size, 1, none⟩ = some (.slice A2 s.jobs.length c2) := HSG5.out.blk.cell 1
  have s2 : w5.cell? ⟨w1.heap.size, 2, none⟩ = some (.int .i64 s.goal) := HSG5.out.blk.cell 2
  have s3 : w5.cell? ⟨w1.heap.size, 3, none⟩ = some (.int .i64 s.prior) := HSG5.out.blk.cell 3
  have s4 : w5.cell? ⟨w1.heap.size, 4, none⟩ = some (.int .i64 s.mode) := HSG5.out.blk.cell 4
  have s5 : w5.cell? ⟨w1.heap.size, 5, none⟩ = some (.int .i64 s.term) := HSG5.out.blk.cell 5
  have f0 := HSG5.out.fr 3
  have hs := HSG5.out.setG ({ s with prior := M }) 3 (.int .i64 M) rfl rfl rfl
  obtain ⟨v4, hw⟩ : ∃ W, W = w5.setCell ⟨w1.heap.size, 3, none⟩ (.int .i64 M) := ⟨_, rfl⟩
  rw [← hw] at hs
  have HSV4 := Lib.hid hs.1
  have HCV4 : Hid (Chg F w3 v4) := Lib.hid (Chg.trans HCH5.out hs.2 (fun _ _ h => h))
  clear hs
  go_upto_region 13 with (fail)
  rw [← hw]
  clear hw f0 o0 o1 o2 o3 s0 s1 s2 s3 s4 s5
  have o0 : v4.cell? ⟨w.heap.size + 2, 0, none⟩ = some (.int .i64 3) := (HBX.out _ HCV4.out).1.cell 0
  have o1 : v4.cell? ⟨w.heap.size + 2, 1, none⟩ = some (.int .i64 a1) := (HBX.out _ HCV4.out).1.cell 1
  have o2 : v4.cell? ⟨w.heap.size + 2, 2, none⟩ = some (.int .i64 a2) := (HBX.out _ HCV4.out).1.cell 2
  have o3 : v4.cell? ⟨w.heap.size + 2, 3, none⟩ = some (.int .i64 a3) := (HBX.out _ HCV4.out).1.cell 3
  have s0 : v4.cell? ⟨w1.heap.size, 0, none⟩ = some (.slice A1 s.nodes.length c1) := HSV4.out.blk.cell 0
  have s1 : v4.cell? ⟨w1.heap.size, 1, none⟩ = some (.slice A2 s.jobs.length c2) := HSV4.out.blk.cell 1
  have s2 : v4.cell? ⟨w1.heap.size, 2, none⟩ = some (.int .i64 s.goal) := HSV4.out.blk.cell 2
  have s3 : v4.cell? ⟨w1.heap.size, 3, none⟩ = some (.int .i64 M) := HSV4.out.blk.cell 3
  have s4 : v4.cell? ⟨w1.heap.size, 4, none⟩ = some (.int .i64 s.mode) := HSV4.out.blk.cell 4
  have s5 : v4.cell? ⟨w1.heap.size, 5, none⟩ = some (.int .i64 s.term) := HSV4.out.blk.cell 5
  have f0 := HSV4.out.fr 2
  have hs := HSV4.out.setG ({ s with prior := M, goal := a1 }) 2 (.int .i64 a1) rfl rfl rfl
  obtain ⟨v5, hw⟩ : ∃ W, W = v4.setCell ⟨w1.heap.size, 2, none⟩ (.int .i64 a1) := ⟨_, rfl⟩
  rw [← hw] at hs
  have HSV5 := Lib.hid hs.1
  have HCV5 : Hid (Chg F w3 v5) := Lib.hid (Chg.trans HCV4.out hs.2 (fun _ _ h => h))
  clear hs
  go_upto_region 14 with (fail)
  rw [← hw]
  clear hw f0 o0 o1 o2 o3 s0 s1 s2 s3 s4 s5
  have o0 : v5.cell? ⟨w.heap.size + 2, 0, none⟩ = some (.int .i64 3) := (HBX.out _ HCV5.out).1.cell 0
  have o1 : v5.cell? ⟨w.heap.size + 2, 1, none⟩ = some (.int .i64 a1) := (HBX.out _ HCV5.out).1.cell 1
  have o2 : v5.cell? ⟨w.heap.size + 2, 2, none⟩ = some (.int .i64 a2) := (HBX.out _ HCV5.out).1.cell 2
  have o3 : v5.cell? ⟨w.heap.size + 2, 3, none⟩ = some (.int .i64 a3) := (HBX.out _ HCV5.out).1.cell 3
  have s0 : v5.cell? ⟨w1.heap.size, 0, none⟩ = some (.slice A1 s.nodes.length c1) := HSV5.out.blk.cell 0
  have s1 : v5.cell? ⟨w1.heap.size, 1, none⟩ = some (.slice A2 s.jobs.length c2) := HSV5.out.blk.cell 1
  have s2 : v5.cell? ⟨w1.heap.size, 2, none⟩ = some (.int .i64 a1) := HSV5.out.blk.cell 2
  have s3 : v5.cell? ⟨w1.heap.size, 3, none⟩ = some (.int .i64 M) := HSV5.out.blk.cell 3
  have s4 : v5.cell? ⟨w1.heap.size, 4, none⟩ = some (.int .i64 s.mode) := HSV5.out.blk.cell 4
  have s5 : v5.cell? ⟨w1.heap.size, 5, none⟩ = some (.int .i64 s.term) := HSV5.out.blk.cell 5
  have f0 := HSV5.out.fr 4
  have hs := HSV5.out.setG ({ s with prior := M, goal := a1, mode := 0 }) 4 (.int .i64 0) rfl rfl rfl
  obtain ⟨v6, hw⟩ : ∃ W, W = v5.setCell ⟨w1.heap.size, 4, none⟩ (.int .i64 0) := ⟨_, rfl⟩
  rw [← hw] at hs
  have HSV6 := Lib.hid hs.1
  have HCV6 : Hid (Chg F w3 v6) := Lib.hid (Chg.trans HCV5.out hs.2 (fun _ _ h => h))
  clear hs
  go_upto_region 70 with (fail)
  rw [← hw]
  clear hw f0 o0 o1 o2 o3 s0 s1 s2 s3 s4 s5
  have HSE := Lib.hid (show Sg F v6 w1.heap.size (.slice A1 s.nodes.length c1) (.slice A2 s.jobs.length c2) S2 by rw [HS2.out]; exact HSV6.out)
  have HCE : Hid (Chg F w3 v6) := Lib.hid HCV6.out
  have HQE := Lib.hid (HBX.out _ HCE.out)
  have m0 : v6.cell? ⟨w1.heap.size, 0, none⟩ = some (.slice A1 s.nodes.length c1) := HSE.out.blk.cell 0
  have m1 : v6.cell? ⟨w1.heap.size, 1, none⟩ = some (.slice A2 s.jobs.length c2) := HSE.out.blk.cell 1
  have m2 : v6.cell? ⟨w1.heap.size, 2, none⟩ = some (.int .i64 S2.goal) := HSE.out.blk.cell 2
  have m3 : v6.cell? ⟨w1.heap.size, 3, none⟩ = some (.int .i64 S2.prior) := HSE.out.blk.cell 3
  have m4 : v6.cell? ⟨w1.heap.size, 4, none⟩ = some (.int .i64 S2.mode) := HSE.out.blk.cell 4
  have m5 : v6.cell? ⟨w1.heap.size, 5, none⟩ = some (.int .i64 S2.term) := HSE.out.blk.cell 5
  have r0 : v6.cell? ⟨w.heap.size + 3, 0, none⟩ = some (.slice none 0 0) := HQE.out.2.1.cell 0
  have g0 : v6.frozen? ⟨w.heap.size + 3, 0, none⟩ = false := HQE.out.2.1.frozen 0
  have r1 : v6.cell? ⟨w.heap.size + 3, 1, none⟩ = some (.slice none 0 0) := HQE.out.2.1.cell 1
  have g1 : v6.frozen? ⟨w.heap.size + 3, 1, none⟩ = false := HQE.out.2.1.frozen 1
  have r2 : v6.cell? ⟨w.heap.size + 3, 2, none⟩ = some (.int .i64 0) := HQE.out.2.1.cell 2
  have g2 : v6.frozen? ⟨w.heap.size + 3, 2, none⟩ = false := HQE.out.2.1.frozen 2
  have r3 : v6.cell? ⟨w.heap.size + 3, 3, none⟩ = some (.int .i64 0) := HQE.out.2.1.cell 3
  have g3 : v6.frozen? ⟨w.heap.size + 3, 3, none⟩ = false := HQE.out.2.1.frozen 3
  have r4 : v6.cell? ⟨w.heap.size + 3, 4, none⟩ = some (.int .i64 0) := HQE.out.2.1.cell 4
  have g4 : v6.frozen? ⟨w.heap.size + 3, 4, none⟩ = false := HQE.out.2.1.frozen 4
  have r5 : v6.cell? ⟨w.heap.size + 3, 5, none⟩ = some (.int .i64 0) := HQE.out.2.1.cell 5
  have g5 : v6.frozen? ⟨w.heap.size + 3, 5, none⟩ = false := HQE.out.2.1.frozen 5
  go_wp2
  have hq := (((((PB.start HQE.out.2.1).set 0 (.slice A1 s.nodes.length c1)).set 1 (.slice A2 s.jobs.length c2)).set 2 (.int .i64 S2.goal)).set 3 (.int .i64 S2.prior)).set 4 (.int .i64 S2.mode)
  replace hq := hq.set 5 (.int .i64 S2.term)
  simp only [List.setIfInBounds_toArray, List.set_cons_zero, List.set_cons_succ] at hq
  obtain ⟨wf, hwf⟩ : ∃ W, W = ((((((v6.setCell ⟨w.heap.size + 3, 0, none⟩ (.slice A1 s.nodes.length c1)).setCell ⟨w.heap.size + 3, 1, none⟩ (.slice A2 s.jobs.length c2)).setCell ⟨w.heap.size + 3, 2, none⟩ (.int .i64 S2.goal)).setCell ⟨w.heap.size + 3, 3, none⟩ (.int .i64 S2.prior)).setCell ⟨w.heap.size + 3, 4, none⟩ (.int .i64 S2.mode)).setCell ⟨w.heap.size + 3, 5, none⟩ (.int .i64 S2.term)) := ⟨_, rfl⟩
  rw [← hwf] at hq
  have hc1 : Chg (fun x => x = w.heap.size + 3) v6 wf := hq.chg
  have hsf : Sg F wf w1.heap.size (.slice A1 s.nodes.length c1) (.slice A2 s.jobs.length c2) S2 := ObjF.chg HSE.out hc1 (fun x hx e => by have := HF4.out x hx; have e : x = w.heap.size + 3 := e; omega)
  have hxf := hq.below _ _ HQE.out.2.2 (by omega)
  rw [hwf] at hq hsf hxf
  exact bodyPost_ret (results_cell_tmp_row rfl _ _ (w.heap.size + 3) 30 _ (0, 0) _ rfl hq.blk rfl rfl (by kernel_rfl)) rfl ⟨.slice A1 s.nodes.length c1, .slice A2 s.jobs.length c2, rfl, hsf.rd, hxf, hsf.own4 HF4.out⟩

end Go.Proofs.YtbfjlhddebollaaDoor

/- The reference of layer 9: Apply, kind 4. -/
namespace Go.Proofs.YtbfjlhddebollaaDoor
open Go.RowKit

set_option maxRecDepth 100000 in
set_option maxHeartbeats 4000000 in
theorem RefAp_4 (c : Cf) (vn vj : Value) (s : St) (a1 a2 a3 a4 a5 a6 : Int) (w : World) (h : RdSt w vn vj s) (hR : RightP c s) (hz : (applyS c s (4, a1, a2, a3, a4, a5, a6)).2 = 0) :
    Calls Tryd.prog 11 #[cfV c, stV vn vj s, .agg #[.int .i64 4, .int .i64 a1, .int .i64 a2, .int .i64 a3, .int .i64 a4, .int .i64 a5, .int .i64 a6]] w fun e w' => ∃ vn' vj', e = .returned (.tuple #[stV vn' vj' (applyS c s (4, a1, a2, a3, a4, a5, a6)).1, .int .i64 (applyS c s (4, a1, a2, a3, a4, a5, a6)).2]) ∧ RdSt w' vn' vj' (applyS c s (4, a1, a2, a3, a4, a5, a6)).1 ∧ Ext w w' ∧ ∀ k, vn'.ownBlock = some k ∨ vj'.ownBlock = some k → w.heap.size ≤ k := by
  have hR6 := hR.len.2
  have hj24 := hR.nj
  have he : (applyS c s (4, a1, a2, a3, a4, a5, a6)).1 = { s with mode := 1 } := by
    revert hz
    unfold applyS
    split
    · intro hz
      cases hz
    · unfold doS
      show (pauseS s).2 = 0 → (pauseS s).1 = _
      unfold pauseS
      split <;> intro hz <;> first | rfl | (cases hz)
  obtain ⟨S2, hS2⟩ : ∃ S2, S2 = (applyS c s (4, a1, a2, a3, a4, a5, a6)).1 := ⟨_, rfl⟩
  obtain ⟨er, her⟩ : ∃ er, er = (applyS c s (4, a1, a2, a3, a4, a5, a6)).2 := ⟨_, rfl⟩
  rw [← hS2, ← her]
  have HS2 := Lib.hid (hS2.trans he)
  rw [← her] at hz
  subst hz
  have HCP := Lib.hid fun W (hx : Ext w W) => RefCopy_any vn vj s W (h.ext hx) (by omega) (by omega)
  have HWY : Hid (∀ W vn' vj', RdSt W vn' vj' s → Calls Tryd.prog 29 #[cfV c, stV vn' vj' s, .agg #[.int .i64 4, .int .i64 a1, .int .i64 a2, .int .i64 a3, .int .i64 a4, .int .i64 a5, .int .i64 a6]] W fun e w' => e = .returned (.int .i64 0) ∧ Ext W w') := Lib.hid fun W vn' vj' hr => (RefWhy_any c vn' vj' s (4, a1, a2, a3, a4, a5, a6) W hr hR).mono (by rintro e w' ⟨h1, h2⟩; rw [← her] at h1; exact ⟨h1, h2⟩)
  obtain ⟨An, cn, rfl, -, -⟩ := h.nodes.slice_
  obtain ⟨Aj, cj, rfl, -, -⟩ := h.jobs.slice_
  obtain ⟨W4, hW4, hx4, hb0, hb1, hb2, hb3, hs4⟩ := four_blocks w 23 30 36 30 #[.int .i64 c.nodes, .int .i64 c.queues, .int .i64 c.quota, .int .i64 c.wave, .int .i64 c.lease, .int .i64 c.retry, .int .i64 c.deadline, .int .i64 c.room, .int .i64 c.disk] #[.slice An s.nodes.length cn, .slice Aj s.jobs.length cj, .int .i64 s.goal, .int .i64 s.prior, .int .i64 s.mode, .int .i64 s.term] #[.int .i64 4, .int .i64 a1, .int .i64 a2, .int .i64 a3, .int .i64 a4, .int .i64 a5, .int .i64 a6] #[.slice none 0 0, .slice none 0 0, .int .i64 0, .int .i64 0, .int .i64 0, .int .i64 0]
  have HX4 := Lib.hid hx4
  have HB0 := Lib.hid hb0
  have HB1 := Lib.hid hb1
  have HB2 := Lib.hid hb2
  have HB3 := Lib.hid hb3
  have HS4 := Lib.hid hs4
  unfold stV at HCP
  unfold stV cfV at HWY
  unfold stV cfV
  clear hx4 hb0 hb1 hb2 hb3 hs4 h hS2 her he hR6 hj24
  go_enter Tryd.func11, Tryd.ntmps11
  go_wp2_with fail
  rw [← hW4]
  clear hW4
  refine (HCP.out _ HX4.out).mono ?_
  rintro e1 w1 ⟨vn1, vj1, rfl, ho, hx1⟩
  have HRD : RdSt w1 vn1 vj1 s := ⟨RdS.own ho.nodes, RdS.own ho.jobs⟩
  obtain ⟨A1, c1, rfl, -, -⟩ := HRD.nodes.slice_
  obtain ⟨A2, c2, rfl, -, -⟩ := HRD.jobs.slice_
  clear HRD
  obtain ⟨w2, hw2⟩ : ∃ W, W = w1.alloc (.cells #[.slice A1 s.nodes.length c1, .slice A2 s.jobs.length c2, .int .i64 s.goal, .int .i64 s.prior, .int .i64 s.mode, .int .i64 s.term] 30) := ⟨_, rfl⟩
  have hx2 : Ext w1 w2 := by rw [hw2]; exact Below.alloc (Ext.refl _) (Nat.le_refl _) _
  have hsz : w2.heap.size = w1.heap.size + 1 := by rw [hw2]; simp
  obtain ⟨F, hsg, hF4⟩ : ∃ F : Fp, Sg F w2 w1.heap.size (.slice A1 s.nodes.length c1) (.slice A2 s.jobs.length c2) s ∧ ∀ k, F k → w.heap.size + 4 ≤ k := ⟨fun k => W4.heap.size ≤ k ∧ k < w2.heap.size, Sg.make (w0 := W4) (base := W4.heap.size) (by rw [hw2]; exact Blk.new _ _ _) hx1.size ⟨by rw [hw2]; exact ho.nodes.alloc _, by rw [hw2]; exact ho.jobs.alloc _, ho.off⟩ (Nat.le_refl _) (fun k hk => by
    rcases hk with hk | hk
    · have := (ho.nodes.lt k hk).2
      omega
    · have := (ho.jobs.lt k hk).2
      omega), fun k hk => by have := HS4.out; omega⟩
  have HX2 := Lib.hid (Ext.trans (Ext.trans HX4.out hx1) hx2)
  have HF4 := Lib.hid hF4
  have HSG := Lib.hid hsg
  have HC0 := Lib.hid ((HB0.out.ext hx1).ext hx2)
  have HC2 := Lib.hid ((HB2.out.ext hx1).ext hx2)
  have HC3 := Lib.hid ((HB3.out.ext hx1).ext hx2)
  clear ho hx1 hx2 hsz hsg hF4 HB0 HB1 HB2 HB3 HS4 HX4 HCP
  go_upto_region 2 with (fail)
  rw [← hw2]
  clear hw2
  have k0 : w2.cell? ⟨w.heap.size, 0, none⟩ = some (.int .i64 c.nodes) := HC0.out.cell 0
  have k1 : w2.cell? ⟨w.heap.size, 1, none⟩ = some (.int .i64 c.queues) := HC0.out.cell 1
  have k2 : w2.cell? ⟨w.heap.size, 2, none⟩ = some (.int .i64 c.quota) := HC0.out.cell 2
  have k3 : w2.cell? ⟨w.heap.size, 3, none⟩ = some (.int .i64 c.wave) := HC0.out.cell 3
  have k4 : w2.cell? ⟨w.heap.size, 4, none⟩ = some (.int .i64 c.lease) := HC0.out.cell 4
  have k5 : w2.cell? ⟨w.heap.size, 5, none⟩ = some (.int .i64 c.retry) := HC0.out.cell 5
  have k6 : w2.cell? ⟨w.heap.size, 6, none⟩ = some (.int .i64 c.deadline) := HC0.out.cell 6
  have k7 : w2.cell? ⟨w.heap.size, 7, none⟩ = some (.int .i64 c.room) := HC0.out.cell 7
  have k8 : w2.cell? ⟨w.heap.size, 8, none⟩ = some (.int .i64 c.disk) := HC0.out.cell 8
  have o0 : w2.cell? ⟨w.heap.size + 2, 0, none⟩ = some (.int .i64 4) := HC2.out.cell 0
  have o1 : w2.cell? ⟨w.heap.size + 2, 1, none⟩ = some (.int .i64 a1) := HC2.out.cell 1
  have o2 : w2.cell? ⟨w.heap.size + 2, 2, none⟩ = some (.int .i64 a2) := HC2.out.cell 2
  have o3 : w2.cell? ⟨w.heap.size + 2, 3, none⟩ = some (.int .i64 a3) := HC2.out.cell 3
  have o4 : w2.cell? ⟨w.heap.size + 2, 4, none⟩ = some (.int .i64 a4) := HC2.out.cell 4
  have o5 : w2.cell? ⟨w.heap.size + 2, 5, none⟩ = some (.int .i64 a5) := HC2.out.cell 5
  have o6 : w2.cell? ⟨w.heap.size + 2, 6, none⟩ = some (.int .i64 a6) := HC2.out.cell 6
  have s0 : w2.cell? ⟨w1.heap.size, 0, none⟩ = some (.slice A1 s.nodes.length c1) := HSG.out.blk.cell 0
  have s1 : w2.cell? ⟨w1.heap.size, 1, none⟩ = some (.slice A2 s.jobs.length c2) := HSG.out.blk.cell 1
  have s2 : w2.cell? ⟨w1.heap.size, 2, none⟩ = some (.int .i64 s.goal) := HSG.out.blk.cell 2
  have s3 : w2.cell? ⟨w1.heap.size, 3, none⟩ = some (.int .i64 s.prior) := HSG.out.blk.cell 3
  have s4 : w2.cell? ⟨w1.heap.size, 4, none⟩ = some (.int .i64 s.mode) := HSG.out.blk.cell 4
  have s5 : w2.cell? ⟨w1.heap.size, 5, none⟩ = some (.int .i64 s.term) := HSG.out.blk.cell 5
  go_wp2_with fail
  refine (HWY.out _ _ _ HSG.out.rd).mono ?_
  rintro e3 w3 ⟨rfl, hx3⟩
  have HX3 := Lib.hid (HX2.out.trans hx3)
  have HSG3 := Lib.hid (HSG.out.ext hx3)
  have HO3 := Lib.hid (HC2.out.ext hx3)
  have HV3 := Lib.hid (HC3.out.ext hx3)
  have HBX : Hid (∀ W, Chg F w3 W → Blk W (w.heap.size + 2) 36 #[.int .i64 4, .int .i64 a1, .int .i64 a2, .int .i64 a3, .int .i64 a4, .int .i64 a5, .int .i64 a6] ∧ Blk W (w.heap.size + 3) 30 #[.slice none 0 0, .slice none 0 0, .int .i64 0, .int .i64 0, .int .i64 0, .int .i64 0] ∧ Ext w W) := Lib.hid fun W hc => ⟨(hc.block _ HO3.out.lt (fun hf => by have := HF4.out _ hf; omega)).trans HO3.out, (hc.block _ HV3.out.lt (fun hf => by have := HF4.out _ hf; omega)).trans HV3.out, hc.ext HX3.out (fun k hf => by have := HF4.out _ hf; omega)⟩
  clear hx3 HX2 HSG HC0 HC2 HC3 HWY k0 k1 k2 k3 k4 k5 k6 k7 k8 o0 o1 o2 o3 o4 o5 o6 s0 s1 s2 s3 s4 s5
  have o0 : w3.cell? ⟨w.heap.size + 2, 0, none⟩ = some (.int .i64 4) := (HBX.out _ (Chg.refl F w3)).1.cell 0
  have o1 : w3.cell? ⟨w.heap.size + 2, 1, none⟩ = some (.int .i64 a1) := (HBX.out _ (Chg.refl F w3)).1.cell 1
  have o2 : w3.cell? ⟨w.heap.size + 2, 2, none⟩ = some (.int .i64 a2) := (HBX.out _ (Chg.refl F w3)).1.cell 2
  have o3 : w3.cell? ⟨w.heap.size + 2, 3, none⟩ = some (.int .i64 a3) := (HBX.out _ (Chg.refl F w3)).1.cell 3
  have s0 : w3.cell? ⟨w1.heap.size, 0, none⟩ = some (.slice A1 s.nodes.length c1) := HSG3.out.blk.cell 0
  have s1 : w3.cell? ⟨w1.heap.size, 1, none⟩ = some (.slice A2 s.jobs.length c2) := HSG3.out.blk.cell 1
  have s2 : w3.cell? ⟨w1.heap.size, 2, none⟩ = some (.int .i64 s.goal) := HSG3.out.blk.cell 2
  have s3 : w3.cell? ⟨w1.heap.size, 3, none⟩ = some (.int .i64 s.prior) := HSG3.out.blk.cell 3
  have s4 : w3.cell? ⟨w1.heap.size, 4, none⟩ = some (.int .i64 s.mode) := HSG3.out.blk.cell 4
  have s5 : w3.cell? ⟨w1.heap.size, 5, none⟩ = some (.int .i64 s.term) := HSG3.out.blk.cell 5
  have f0 := HSG3.out.fr 4
  have hs := HSG3.out.setG ({ s with mode := 1 }) 4 (.int .i64 1) rfl rfl rfl
  obtain ⟨v4, hw⟩ : ∃ W, W = w3.setCell ⟨w1.heap.size, 4, none⟩ (.int .i64 1) := ⟨_, rfl⟩
  rw [← hw] at hs
  have HSV4 := Lib.hid hs.1
  have HCV4 : Hid (Chg F w3 v4) := Lib.hid (Chg.trans (Chg.refl F w3) hs.2 (fun _ _ h => h))
  clear hs
  go_upto_region 70 with (fail)
  rw [← hw]
  clear hw f0 o0 o1 o2 o3 s0 s1 s2 s3 s4 s5
  have HSE := Lib.hid (show Sg F v4 w1.heap.size (.slice A1 s.nodes.length c1) (.slice A2 s.jobs.length c2) S2 by rw [HS2.out]; exact HSV4.out)
  have HCE : Hid (Chg F w3 v4) := Lib.hid HCV4.out
  have HQE := Lib.hid (HBX.out _ HCE.out)
  have m0 : v4.cell? ⟨w1.heap.size, 0, none⟩ = some (.slice A1 s.nodes.length c1) := HSE.out.blk.cell 0
  have m1 : v4.cell? ⟨w1.heap.size, 1, none⟩ = some (.slice A2 s.jobs.length c2) := HSE.out.blk.cell 1
  have m2 : v4.cell? ⟨w1.heap.size, 2, none⟩ = some (.int .i64 S2.goal) := HSE.out.blk.cell 2
  have m3 : v4.cell? ⟨w1.heap.size, 3, none⟩ = some (.int .i64 S2.prior) := HSE.out.blk.cell 3
  have m4 : v4.cell? ⟨w1.heap.size, 4, none⟩ = some (.int .i64 S2.mode) := HSE.out.blk.cell 4
  have m5 : v4.cell? ⟨w1.heap.size, 5, none⟩ = some (.int .i64 S2.term) := HSE.out.blk.cell 5
  have r0 : v4.cell? ⟨w.heap.size + 3, 0, none⟩ = some (.slice none 0 0) := HQE.out.2.1.cell 0
  have g0 : v4.frozen? ⟨w.heap.size + 3, 0, none⟩ = false := HQE.out.2.1.frozen 0
  have r1 : v4.cell? ⟨w.heap.size + 3, 1, none⟩ = some (.slice none 0 0) := HQE.out.2.1.cell 1
  have g1 : v4.frozen? ⟨w.heap.size + 3, 1, none⟩ = false := HQE.out.2.1.frozen 1
  have r2 : v4.cell? ⟨w.heap.size + 3, 2, none⟩ = some (.int .i64 0) := HQE.out.2.1.cell 2
  have g2 : v4.frozen? ⟨w.heap.size + 3, 2, none⟩ = false := HQE.out.2.1.frozen 2
  have r3 : v4.cell? ⟨w.heap.size + 3, 3, none⟩ = some (.int .i64 0) := HQE.out.2.1.cell 3
  have g3 : v4.frozen? ⟨w.heap.size + 3, 3, none⟩ = false := HQE.out.2.1.frozen 3
  have r4 : v4.cell? ⟨w.heap.size + 3, 4, none⟩ = some (.int .i64 0) := HQE.out.2.1.cell 4
  have g4 : v4.frozen? ⟨w.heap.size + 3, 4, none⟩ = false := HQE.out.2.1.frozen 4
  have r5 : v4.cell? ⟨w.heap.size + 3, 5, none⟩ = some (.int .i64 0) := HQE.out.2.1.cell 5
  have g5 : v4.frozen? ⟨w.heap.size + 3, 5, none⟩ = false := HQE.out.2.1.frozen 5
  go_wp2
  have hq := (((((PB.start HQE.out.2.1).set 0 (.slice A1 s.nodes.length c1)).set 1 (.slice A2 s.jobs.length c2)).set 2 (.int .i64 S2.goal)).set 3 (.int .i64 S2.prior)).set 4 (.int .i64 S2.mode)
  replace hq := hq.set 5 (.int .i64 S2.term)
  simp only [List.setIfInBounds_toArray, List.set_cons_zero, List.set_cons_succ] at hq
  obtain ⟨wf, hwf⟩ : ∃ W, W = ((((((v4.setCell ⟨w.heap.size + 3, 0, none⟩ (.slice A1 s.nodes.length c1)).setCell ⟨w.heap.size + 3, 1, none⟩ (.slice A2 s.jobs.length c2)).setCell ⟨w.heap.size + 3, 2, none⟩ (.int .i64 S2.goal)).setCell ⟨w.heap.size + 3, 3, none⟩ (.int .i64 S2.prior)).setCell ⟨w.heap.size + 3, 4, none⟩ (.int .i64 S2.mode)).setCell ⟨w.heap.size + 3, 5, none⟩ (.int .i64 S2.term)) := ⟨_, rfl⟩
  rw [← hwf] at hq
  have hc1 : Chg (fun x => x = w.heap.size + 3) v4 wf := hq.chg
  have hsf : Sg F wf w1.heap.size (.slice A1 s.nodes.length c1) (.slice A2 s.jobs.length c2) S2 := ObjF.chg HSE.out hc1 (fun x hx e => by have := HF4.out x hx; have e : x = w.heap.size + 3 := e; omega)
  have hxf := hq.below _ _ HQE.out.2.2 (by omega)
  rw [hwf] at hq hsf hxf
  exact bodyPost_ret (results_cell_tmp_row rfl _ _ (w.heap.size + 3) 30 _ (0, 0) _ rfl hq.blk rfl rfl (by kernel_rfl)) rfl ⟨.slice A1 s.nodes.length c1, .slice A2 s.jobs.length c2, rfl, hsf.rd, hxf, hsf.own4 HF4.out⟩

end Go.Proofs.YtbfjlhddebollaaDoor
