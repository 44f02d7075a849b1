/- Texts that the proof of F rests on, one behind the other. -/
import Derived.Test.YtbfjlhddebollaaDoorFQ17

/- What is left of a set when one is taken out, summed; an op Shrink that is done. -/
namespace Go.Proofs.YtbfjlhddebollaaDoor
open Go.RowKit

/-- What is left of the set without i, of the first q. -/
def leftK (set : Int) (i : Nat) : Nat → Int
  | 0 => 0
  | q + 1 => leftK set i q + if hasS set q = true ∧ q ≠ i then 2 ^ q else 0
theorem leftK_all : ∀ m : Nat, m < 64 → ∀ i : Nat, i < 6 → hasS (m : Int) i = true → leftK (m : Int) i 6 = (m : Int) - 2 ^ i := by decide +kernel
theorem leftK_in (set : Int) (i : Nat) : ∀ q, 0 ≤ leftK set i q ∧ leftK set i q < 2 ^ q
  | 0 => by simp [leftK]
  | q + 1 => by
    have h := leftK_in set i q
    have hp : (2 : Int) ^ (q + 1) = 2 ^ q + 2 ^ q := by rw [Int.pow_succ]; omega
    have hq : (0 : Int) < 2 ^ q := Int.pow_pos (by decide)
    unfold leftK
    rw [hp]
    split <;> omega
theorem leftK_go {set : Int} {i q : Nat} (h : hasS set q = true) (hi : q ≠ i) : leftK set i (q + 1) = leftK set i q + 2 ^ q := by
  rw [leftK, if_pos ⟨h, hi⟩]
theorem leftK_skip {set : Int} {i q : Nat} (h : ¬ (hasS set q = true ∧ q ≠ i)) : leftK set i (q + 1) = leftK set i q := by
  rw [leftK, if_neg h, Int.add_zero]
theorem leftK_64 {set : Int} {i q : Nat} (h : q ≤ 6) : 0 ≤ leftK set i q ∧ leftK set i q < 64 := by
  have h1 := leftK_in set i q
  have h2 : (2 : Int) ^ q ≤ 2 ^ 6 := by
    have : 2 ^ q ≤ 2 ^ 6 := Nat.pow_le_pow_right (by decide) h
    have e : ((2 ^ q : Nat) : Int) = (2 : Int) ^ q := by simp
    omega
  omega
theorem pow_64 {q : Nat} (h : q < 6) : (0 : Int) < 2 ^ q ∧ (2 : Int) ^ q ≤ 32 := by
  have : q = 0 ∨ q = 1 ∨ q = 2 ∨ q = 3 ∨ q = 4 ∨ q = 5 := by omega
  rcases this with rfl | rfl | rfl | rfl | rfl | rfl <;> decide

theorem ok_shrink {c : Cf} {s : St} {a1 a2 : Int} {t : Int × Int × Int × Int} (hR : RightP c s) (hz : (applyS c s (20, a1, a2, t)).2 = 0) :
    ∃ (k : Nat) (j : Jb) (i : Nat) (n : Nd), a1 = (k : Int) + 1 ∧ s.jobs[k]? = some j ∧ a2 = (i : Int) ∧ s.nodes[i]? = some n ∧ leftK j.nodes i 6 = lessS j.nodes i ∧ (applyS c s (20, a1, a2, t)).1 = setN (setJ s k { j with nodes := lessS j.nodes i }) i { n with job := 0 } := by
  obtain ⟨k, j, ha, hj, hz1, he1, hro⟩ := ok_job (by decide) (by decide) hz
  have hb := (op_in hro).2.1
  dsimp only at hb
  rw [he1]
  change (match s.nodes[a2.toNat]? with | some n => shrinkS s k j a2.toNat n | none => (s, 4)).2 = 0 at hz1
  change ∃ (k' : Nat) (j' : Jb) (i : Nat) (n : Nd), a1 = (k' : Int) + 1 ∧ s.jobs[k']? = some j' ∧ a2 = (i : Int) ∧ s.nodes[i]? = some n ∧ leftK j'.nodes i 6 = lessS j'.nodes i ∧ (match s.nodes[a2.toNat]? with | some n => shrinkS s k j a2.toNat n | none => (s, 4)).1 = setN (setJ s k' { j' with nodes := lessS j'.nodes i }) i { n with job := 0 }
  cases hn : s.nodes[a2.toNat]? with
  | none =>
    rw [hn] at hz1
    cases hz1
  | some n =>
    rw [hn] at hz1
    dsimp only at hz1
    refine ⟨k, j, a2.toNat, n, ha, hj, by omega, hn, ?_, ?_⟩
    · unfold shrinkS at hz1
      split at hz1
      · split at hz1
        · rename_i h1
          have h6 := hR.len.2
          have hil := (List.getElem?_eq_some_iff.1 hn).1
          have h64 := (hR.job k j hj).lt64 h6
          obtain ⟨m, hm⟩ : ∃ m : Nat, j.nodes = (m : Int) := ⟨j.nodes.toNat, by omega⟩
          rw [hm] at h1 ⊢
          exact leftK_all m (by omega) _ (by omega) h1.1
        · cases hz1
      · cases hz1
    · show (shrinkS s k j a2.toNat n).1 = _
      revert hz1
      unfold shrinkS
      split
      · split
        · intro _; rfl
        · intro h; cases h
      · intro h; cases h

end Go.Proofs.YtbfjlhddebollaaDoor

/- The reference of layer 9: Apply, kind 20. -/
namespace Go.Proofs.YtbfjlhddebollaaDoor
open Go.RowKit

set_option maxRecDepth 100000 in
set_option maxHeartbeats 4000000 in
theorem RefAp_20 (c : Cf) (vn vj : Value) (s : St) (a1 a2 a3 a4 a5 a6 : Int) (w : World) (h : RdSt w vn vj s) (hR : RightP c s) (hz : (applyS c s (20, a1, a2, a3, a4, a5, a6)).2 = 0) :
    Calls Tryd.prog 11 #[cfV c, stV vn vj s, .agg #[.int .i64 20, .int .i64 a1, .int .i64 a2, .int .i64 a3, .int .i64 a4, .int .i64 a5, .int .i64 a6]] w fun e w' => ∃ vn' vj', e = .returned (.tuple #[stV vn' vj' (applyS c s (20, a1, a2, a3, a4, a5, a6)).1, .int .i64 (applyS c s (20, a1, a2, a3, a4, a5, a6)).2]) ∧ RdSt w' vn' vj' (applyS c s (20, a1, a2, a3, a4, a5, a6)).1 ∧ Ext w w' ∧ ∀ k, vn'.ownBlock = some k ∨ vj'.ownBlock = some k → w.heap.size ≤ k := by
  have hR6 := hR.len.2
  have hj24 := hR.nj
  obtain ⟨k, j, i, n, ha, hjk, hb, hnk, hLK, he⟩ := ok_shrink hR hz
  subst hb
  obtain ⟨LL, hLL⟩ : ∃ LL, LL = lessS j.nodes i := ⟨_, rfl⟩
  rw [← hLL] at he hLK
  clear hLL
  have HLK := Lib.hid hLK
  have HJK := Lib.hid hjk
  have HNK := Lib.hid hnk
  have hkl := (List.getElem?_eq_some_iff.1 hjk).1
  have hil := (List.getElem?_eq_some_iff.1 hnk).1
  have x1 : (0 : Int) ≤ (k : Int) ∧ (k : Int) < (s.jobs.length : Int) := by omega
  have x2 : (0 : Int) ≤ (i : Int) ∧ (i : Int) < (s.nodes.length : Int) := by omega
  have hwk : IntKind.i64.wrap (a1 - 1) = (k : Int) := by rw [ha, Int.add_sub_cancel]; exact IntWalk.i64_in _ (by omega)
  have hwk' : wrap64 (a1 - 1) = (k : Int) := by rw [ha, Int.add_sub_cancel]; exact IntWalk.wrap64_in _ (by omega)
  have HHS := Lib.hid fun q hq W => RefHas_any j.nodes q hq W
  clear hjk hnk hLK hkl hil ha
  obtain ⟨S2, hS2⟩ : ∃ S2, S2 = (applyS c s (20, a1, (i : Int), a3, a4, a5, a6)).1 := ⟨_, rfl⟩
  obtain ⟨er, her⟩ : ∃ er, er = (applyS c s (20, a1, (i : Int), a3, a4, a5, a6)).2 := ⟨_, rfl⟩
  rw [← hS2, ← her]
  have HS2 := Lib.hid (hS2.trans he)
  rw [← her] at hz
  subst hz
  have HCP := Lib.hid fun W (hx : Ext w W) => RefCopy_any vn vj s W (h.ext hx) (by omega) (by omega)
  have HWY : Hid (∀ W vn' vj', RdSt W vn' vj' s → Calls Tryd.prog 29 #[cfV c, stV vn' vj' s, .agg #[.int .i64 20, .int .i64 a1, .int .i64 (i : Int), .int .i64 a3, .int .i64 a4, .int .i64 a5, .int .i64 a6]] W fun e w' => e = .returned (.int .i64 0) ∧ Ext W w') := Lib.hid fun W vn' vj' hr => (RefWhy_any c vn' vj' s (20, a1, (i : Int), a3, a4, a5, a6) W hr hR).mono (by rintro e w' ⟨h1, h2⟩; rw [← her] at h1; exact ⟨h1, h2⟩)
  obtain ⟨An, cn, rfl, -, -⟩ := h.nodes.slice_
  obtain ⟨Aj, cj, rfl, -, -⟩ := h.jobs.slice_
  obtain ⟨W4, hW4, hx4, hb0, hb1, hb2, hb3, hs4⟩ := four_blocks w 23 30 36 30 #[.int .i64 c.nodes, .int .i64 c.queues, .int .i64 c.quota, .int .i64 c.wave, .int .i64 c.lease, .int .i64 c.retry, .int .i64 c.deadline, .int .i64 c.room, .int .i64 c.disk] #[.slice An s.nodes.length cn, .slice Aj s.jobs.length cj, .int .i64 s.goal, .int .i64 s.prior, .int .i64 s.mode, .int .i64 s.term] #[.int .i64 20, .int .i64 a1, .int .i64 (i : Int), .int .i64 a3, .int .i64 a4, .int .i64 a5, .int .i64 a6] #[.slice none 0 0, .slice none 0 0, .int .i64 0, .int .i64 0, .int .i64 0, .int .i64 0]
  have HX4 := Lib.hid hx4
  have HB0 := Lib.hid hb0
  have HB1 := Lib.hid hb1
  have HB2 := Lib.hid hb2
  have HB3 := Lib.hid hb3
  have HS4 := Lib.hid hs4
  unfold stV at HCP
  unfold stV cfV at HWY
  unfold stV cfV
  clear hx4 hb0 hb1 hb2 hb3 hs4 h hS2 her he hR6 hj24
  go_enter Tryd.func11, Tryd.ntmps11
  go_wp2_with fail
  rw [← hW4]
  clear hW4
  refine (HCP.out _ HX4.out).mono ?_
  rintro e1 w1 ⟨vn1, vj1, rfl, ho, hx1⟩
  have HRD : RdSt w1 vn1 vj1 s := ⟨RdS.own ho.nodes, RdS.own ho.jobs⟩
  obtain ⟨A1, c1, rfl, -, -⟩ := HRD.nodes.slice_
  obtain ⟨A2, c2, rfl, -, -⟩ := HRD.jobs.slice_
  clear HRD
  obtain ⟨w2, hw2⟩ : ∃ W, W = w1.alloc (.cells #[.slice A1 s.nodes.length c1, .slice A2 s.jobs.length c2, .int .i64 s.goal, .int .i64 s.prior, .int .i64 s.mode, .int .i64 s.term] 30) := ⟨_, rfl⟩
  have hx2 : Ext w1 w2 := by rw [hw2]; exact Below.alloc (Ext.refl _) (Nat.le_refl _) _
  have hsz : w2.heap.size = w1.heap.size + 1 := by rw [hw2]; simp
  obtain ⟨F, hsg, hF4⟩ : ∃ F : Fp, Sg F w2 w1.heap.size (.slice A1 s.nodes.length c1) (.slice A2 s.jobs.length c2) s ∧ ∀ k, F k → w.heap.size + 4 ≤ k := ⟨fun k => W4.heap.size ≤ k ∧ k < w2.heap.size, Sg.make (w0 := W4) (base := W4.heap.size) (by rw [hw2]; exact Blk.new _ _ _) hx1.size ⟨by rw [hw2]; exact ho.nodes.alloc _, by rw [hw2]; exact ho.jobs.alloc _, ho.off⟩ (Nat.le_refl _) (fun k hk => by
    rcases hk with hk | hk
    · have := (ho.nodes.lt k hk).2
      omega
    · have := (ho.jobs.lt k hk).2
      omega), fun k hk => by have := HS4.out; omega⟩
  have HX2 := Lib.hid (Ext.trans (Ext.trans HX4.out hx1) hx2)
  have HF4 := Lib.hid hF4
  have HSG := Lib.hid hsg
  have HC0 := Lib.hid ((HB0.out.ext hx1).ext hx2)
  have HC2 := Lib.hid ((HB2.out.ext hx1).ext hx2)
  have HC3 := Lib.hid ((HB3.out.ext hx1).ext hx2)
  clear ho hx1 hx2 hsz hsg hF4 HB0 HB1 HB2 HB3 HS4 HX4 HCP
  go_upto_region 2 with (fail)
  rw [← hw2]
  clear hw2
  have k0 : w2.cell? ⟨w.heap.size, 0, none⟩ = some (.int .i64 c.nodes) := HC0.out.cell 0
  have k1 : w2.cell? ⟨w.heap.size, 1, none⟩ = some (.int .i64 c.queues) := HC0.out.cell 1
  have k2 : w2.cell? ⟨w.heap.size, 2, none⟩ = some (.int .i64 c.quota) := HC0.out.cell 2
  have k3 : w2.cell? ⟨w.heap.size, 3, none⟩ = some (.int .i64 c.wave) := HC0.out.cell 3
  have k4 : w2.cell? ⟨w.heap.size, 4, none⟩ = some (.int .i64 c.lease) := HC0.out.cell 4
  have k5 : w2.cell? ⟨w.heap.size, 5, none⟩ = some (.int .i64 c.retry) := HC0.out.cell 5
  have k6 : w2.cell? ⟨w.heap.size, 6, none⟩ = some (.int .i64 c.deadline) := HC0.out.cell 6
  have k7 : w2.cell? ⟨w.heap.size, 7, none⟩ = some (.int .i64 c.room) := HC0.out.cell 7
  have k8 : w2.cell? ⟨w.heap.size, 8, none⟩ = some (.int .i64 c.disk) := HC0.out.cell 8
  have o0 : w2.cell? ⟨w.heap.size + 2, 0, none⟩ = some (.int .i64 20) := HC2.out.cell 0
  have o1 : w2.cell? ⟨w.heap.size + 2, 1, none⟩ = some (.int .i64 a1) := HC2.out.cell 1
  have o2 : w2.cell? ⟨w.heap.size + 2, 2, none⟩ = some (.int .i64 (i : Int)) := HC2.out.cell 2
  have o3 : w2.cell? ⟨w.heap.size + 2, 3, none⟩ = some (.int .i64 a3) := HC2.out.cell 3
  have o4 : w2.cell? ⟨w.heap.size + 2, 4, none⟩ = some (.int .i64 a4) := HC2.out.cell 4
  have o5 : w2.cell? ⟨w.heap.size + 2, 5, none⟩ = some (.int .i64 a5) := HC2.out.cell 5
  have o6 : w2.cell? ⟨w.heap.size + 2, 6, none⟩ = some (.int .i64 a6) := HC2.out.cell 6
  have s0 : w2.cell? ⟨w1.heap.size, 0, none⟩ = some (.slice A1 s.nodes.length c1) := HSG.out.blk.cell 0
  have s1 : w2.cell? ⟨w1.heap.size, 1, none⟩ = some (.slice A2 s.jobs.length c2) := HSG.out.blk.cell 1
  have s2 : w2.cell? ⟨w1.heap.size, 2, none⟩ = some (.int .i64 s.goal) := HSG.out.blk.cell 2
  have s3 : w2.cell? ⟨w1.heap.size, 3, none⟩ = some (.int .i64 s.prior) := HSG.out.blk.cell 3
  have s4 : w2.cell? ⟨w1.heap.size, 4, none⟩ = some (.int .i64 s.mode) := HSG.out.blk.cell 4
  have s5 : w2.cell? ⟨w1.heap.size, 5, none⟩ = some (.int .i64 s.term) := HSG.out.blk.cell 5
  go_wp2_with fail
  refine (HWY.out _ _ _ HSG.out.rd).mono ?_
  rintro e3 w3 ⟨rfl, hx3⟩
  have HX3 := Lib.hid (HX2.out.trans hx3)
  have HSG3 := Lib.hid (HSG.out.ext hx3)
  have HO3 := Lib.hid (HC2.out.ext hx3)
  have HV3 := Lib.hid (HC3.out.ext hx3)
  have HBX : Hid (∀ W, Chg F w3 W → Blk W (w.heap.size + 2) 36 #[.int .i64 20, .int .i64 a1, .int .i64 (i : Int), .int .i64 a3, .int .i64 a4, .int .i64 a5, .int .i64 a6] ∧ Blk W (w.heap.size + 3) 30 #[.slice none 0 0, .slice none 0 0, .int .i64 0, .int .i64 0, .int .i64 0, .int .i64 0] ∧ Ext w W) := Lib.hid fun W hc => ⟨(hc.block _ HO3.out.lt (fun hf => by have := HF4.out _ hf; omega)).trans HO3.out, (hc.block _ HV3.out.lt (fun hf => by have := HF4.out _ hf; omega)).trans HV3.out, hc.ext HX3.out (fun k hf => by have := HF4.out _ hf; omega)⟩
  clear hx3 HX2 HSG HC0 HC2 HC3 HWY k0 k1 k2 k3 k4 k5 k6 k7 k8 o0 o1 o2 o3 o4 o5 o6 s0 s1 s2 s3 s4 s5
  obtain ⟨b, cap, hv, -, -, -, -, -, -⟩ := HSG3.out.jobAt HJK.out
  injection hv with hA _ hC
  subst hA hC
  obtain ⟨bn, cap, hv, -, -, -, -, -, -⟩ := HSG3.out.nodeAt HNK.out
  injection hv with hA _ hC
  subst hA hC
  have o0 : w3.cell? ⟨w.heap.size + 2, 0, none⟩ = some (.int .i64 20) := (HBX.out _ (Chg.refl F w3)).1.cell 0
  have o1 : w3.cell? ⟨w.heap.size + 2, 1, none⟩ = some (.int .i64 a1) := (HBX.out _ (Chg.refl F w3)).1.cell 1
  have o2 : w3.cell? ⟨w.heap.size + 2, 2, none⟩ = some (.int .i64 (i : Int)) := (HBX.out _ (Chg.refl F w3)).1.cell 2
  have o3 : w3.cell? ⟨w.heap.size + 2, 3, none⟩ = some (.int .i64 a3) := (HBX.out _ (Chg.refl F w3)).1.cell 3
  have s0 : w3.cell? ⟨w1.heap.size, 0, none⟩ = some (.slice (some ⟨bn, 0, none⟩) s.nodes.length c1) := HSG3.out.blk.cell 0
  have s1 : w3.cell? ⟨w1.heap.size, 1, none⟩ = some (.slice (some ⟨b, 0, none⟩) s.jobs.length c2) := HSG3.out.blk.cell 1
  have s2 : w3.cell? ⟨w1.heap.size, 2, none⟩ = some (.int .i64 s.goal) := HSG3.out.blk.cell 2
  have s3 : w3.cell? ⟨w1.heap.size, 3, none⟩ = some (.int .i64 s.prior) := HSG3.out.blk.cell 3
  have s4 : w3.cell? ⟨w1.heap.size, 4, none⟩ = some (.int .i64 s.mode) := HSG3.out.blk.cell 4
  have s5 : w3.cell? ⟨w1.heap.size, 5, none⟩ = some (.int .i64 s.term) := HSG3.out.blk.cell 5
  go_wp2_with fail
  clear o0 o1 o2 o3 s0 s1 s2 s3 s4 s5
  go_loopg [11, 12] 6 (fun gg x y wr => ∃ (q : Nat) (z : Int), x = .int .i64 z ∧ y = .int .i64 q ∧ q ≤ 6 ∧ gg = 6 - q ∧ Hid (z = leftK j.nodes i q ∧ Sg F wr w1.heap.size (.slice (some ⟨bn, 0, none⟩) s.nodes.length c1) (.slice (some ⟨b, 0, none⟩) s.jobs.length c2) s ∧ Chg F w3 wr))
  case atStart => exact ⟨0, 0, rfl, rfl, by omega, by omega, Lib.hid ⟨rfl, HSG3.out, Chg.refl F w3⟩⟩
  case round =>
    obtain ⟨q, z, rfl, rfl, hq, rfl, HR⟩ := hrel
    have o1 : wr.cell? ⟨w.heap.size + 2, 1, none⟩ = some (.int .i64 a1) := (HBX.out _ HR.out.2.2).1.cell 1
    have o2 : wr.cell? ⟨w.heap.size + 2, 2, none⟩ = some (.int .i64 (i : Int)) := (HBX.out _ HR.out.2.2).1.cell 2
    have s0 : wr.cell? ⟨w1.heap.size, 0, none⟩ = some (.slice (some ⟨bn, 0, none⟩) s.nodes.length c1) := HR.out.2.1.blk.cell 0
    have s1 : wr.cell? ⟨w1.heap.size, 1, none⟩ = some (.slice (some ⟨b, 0, none⟩) s.jobs.length c2) := HR.out.2.1.blk.cell 1
    obtain ⟨hat, hfr⟩ := HR.out.2.1.jobAt' HJK.out
    have p8 : wr.cell? ⟨b, k * 12 + 8, none⟩ = some (.int .i64 j.nodes) := hat.c8
    have f8 := hfr (k * 12 + 8)
    clear hat hfr
    have hz64 : 0 ≤ z ∧ z < 64 := by rw [HR.out.1]; exact leftK_64 hq
    by_cases hlt : q < 6
    · have d1 : decide ((q : Int) < 6) = true := decide_eq_true (by omega)
      have d1' : decide (q < 6) = true := decide_eq_true hlt
      have HLT := Lib.hid hlt
      have hq64 : q < 64 := by omega
      have HP := Lib.hid (pow_64 hlt)
      go_wp2_with fail
      refine (HHS.out q hq64 _).mono ?_
      rintro e7 w7 ⟨rfl, rfl⟩
      cases hs : hasS j.nodes q
      · have HR2 : Hid (z = leftK j.nodes i (q + 1) ∧ Sg F wr w1.heap.size (.slice (some ⟨bn, 0, none⟩) s.nodes.length c1) (.slice (some ⟨b, 0, none⟩) s.jobs.length c2) s ∧ Chg F w3 wr) := Lib.hid ⟨by rw [leftK_skip (by rw [hs]; simp)]; exact HR.out.1, HR.out.2⟩
        clear hs
        clear hlt hq hz64 HR
        go_wp2
        go_roundg (6 - (q + 1))
        case measure => have := HLT.out; omega
        case rel => exact ⟨q + 1, z, rfl, by first | go_num | (rw [IntWalk.wrap64_in _ (by have := HLT.out; omega)]; first | rfl | simp), HLT.out, rfl, HR2⟩
      · by_cases hqi : q = i
        · have HR2 : Hid (z = leftK j.nodes i (q + 1) ∧ Sg F wr w1.heap.size (.slice (some ⟨bn, 0, none⟩) s.nodes.length c1) (.slice (some ⟨b, 0, none⟩) s.jobs.length c2) s ∧ Chg F w3 wr) := Lib.hid ⟨by rw [leftK_skip (by intro h; exact h.2 hqi)]; exact HR.out.1, HR.out.2⟩
          have d2 : ((q : Int) != (i : Int)) = false := by rw [bne_eq_false_iff_eq]; omega
          clear hs hqi
          clear hlt hq hz64 HR
          go_wp2
          go_roundg (6 - (q + 1))
          case measure => have := HLT.out; omega
          case rel => exact ⟨q + 1, z, rfl, by first | go_num | (rw [IntWalk.wrap64_in _ (by have := HLT.out; omega)]; first | rfl | simp), HLT.out, rfl, HR2⟩
        · obtain ⟨z2, hz2⟩ : ∃ z2 : Int, z2 = z + 2 ^ q := ⟨_, rfl⟩
          have HR2 : Hid (z2 = leftK j.nodes i (q + 1) ∧ Sg F wr w1.heap.size (.slice (some ⟨bn, 0, none⟩) s.nodes.length c1) (.slice (some ⟨b, 0, none⟩) s.jobs.length c2) s ∧ Chg F w3 wr) := Lib.hid ⟨by rw [leftK_go hs hqi, hz2, HR.out.1], HR.out.2⟩
          have d2 : ((q : Int) != (i : Int)) = true := by rw [bne_iff_ne]; omega
          have HZ2 := Lib.hid hz2
          have hz3 : 0 ≤ z2 ∧ z2 < 128 := by have := HP.out; omega
          clear hs hqi hz2
          clear hlt hq hz64 HR
          go_wp2
          go_roundg (6 - (q + 1))
          case measure => have := HLT.out; omega
          case rel => exact ⟨q + 1, z2, by rw [IntWalk.wrap64_in (2 ^ q) (by have := HP.out; omega), ← HZ2.out, IntWalk.wrap64_in z2 (by omega)], by first | go_num | (rw [IntWalk.wrap64_in _ (by have := HLT.out; omega)]; first | rfl | simp), HLT.out, rfl, HR2⟩
    · have d1 : decide ((q : Int) < 6) = false := decide_eq_false (by omega)
      have d1' : decide (q < 6) = false := decide_eq_false hlt
      obtain rfl : q = 6 := by omega
      obtain rfl : z = LL := HR.out.1.trans HLK.out
      have HSW := Lib.hid HR.out.2.1
      have HCW := Lib.hid HR.out.2.2
      have hs := HSW.out.setJ' (n' := { j with nodes := z }) HJK.out 8 (by omega) (.int .i64 z) rfl
      obtain ⟨v4, hw⟩ : ∃ W, W = wr.setCell ⟨b, k * 12 + 8, none⟩ (.int .i64 z) := ⟨_, rfl⟩
      rw [← hw] at hs
      have HSV4 := Lib.hid hs.1
      have HCV4 : Hid (Chg F w3 v4) := Lib.hid (Chg.trans HCW.out hs.2 (fun _ _ h => h))
      clear hs hlt hq hz64 HR
      go_upto_region 67 with (fail)
      rw [← hw]
      clear hw o1 o2 s0 s1 p8 f8
      have o0 : v4.cell? ⟨w.heap.size + 2, 0, none⟩ = some (.int .i64 20) := (HBX.out _ HCV4.out).1.cell 0
      have o1 : v4.cell? ⟨w.heap.size + 2, 1, none⟩ = some (.int .i64 a1) := (HBX.out _ HCV4.out).1.cell 1
      have o2 : v4.cell? ⟨w.heap.size + 2, 2, none⟩ = some (.int .i64 (i : Int)) := (HBX.out _ HCV4.out).1.cell 2
      have o3 : v4.cell? ⟨w.heap.size + 2, 3, none⟩ = some (.int .i64 a3) := (HBX.out _ HCV4.out).1.cell 3
      have s0 : v4.cell? ⟨w1.heap.size, 0, none⟩ = some (.slice (some ⟨bn, 0, none⟩) s.nodes.length c1) := HSV4.out.blk.cell 0
      have s1 : v4.cell? ⟨w1.heap.size, 1, none⟩ = some (.slice (some ⟨b, 0, none⟩) s.jobs.length c2) := HSV4.out.blk.cell 1
      have s2 : v4.cell? ⟨w1.heap.size, 2, none⟩ = some (.int .i64 s.goal) := HSV4.out.blk.cell 2
      have s3 : v4.cell? ⟨w1.heap.size, 3, none⟩ = some (.int .i64 s.prior) := HSV4.out.blk.cell 3
      have s4 : v4.cell? ⟨w1.heap.size, 4, none⟩ = some (.int .i64 s.mode) := HSV4.out.blk.cell 4
      have s5 : v4.cell? ⟨w1.heap.size, 5, none⟩ = some (.int .i64 s.term) := HSV4.out.blk.cell 5
      obtain ⟨hat, hfr⟩ := HSV4.out.nodeAt' (n := n) HNK.out
      have p4 : v4.cell? ⟨bn, i * 5 + 4, none⟩ = some (.int .i64 n.job) := hat.c4
      have f4 := hfr (i * 5 + 4)
      clear hat hfr
      have hs := HSV4.out.setN' (n := n) (n' := { n with job := 0 }) HNK.out 4 (by omega) (.int .i64 0) rfl
      obtain ⟨v5, hw⟩ : ∃ W, W = v4.setCell ⟨bn, i * 5 + 4, none⟩ (.int .i64 0) := ⟨_, rfl⟩
      rw [← hw] at hs
      have HSV5 := Lib.hid hs.1
      have HCV5 : Hid (Chg F w3 v5) := Lib.hid (Chg.trans HCV4.out hs.2 (fun _ _ h => h))
      clear hs
      go_upto_region 70 with (fail)
      rw [← hw]
      clear hw f4 p4 o0 o1 o2 o3 s0 s1 s2 s3 s4 s5
      have HSE := Lib.hid (show Sg F v5 w1.heap.size (.slice (some ⟨bn, 0, none⟩) s.nodes.length c1) (.slice (some ⟨b, 0, none⟩) s.jobs.length c2) S2 by rw [HS2.out]; exact HSV5.out)
      have HCE : Hid (Chg F w3 v5) := Lib.hid HCV5.out
      have HQE := Lib.hid (HBX.out _ HCE.out)
      have m0 : v5.cell? ⟨w1.heap.size, 0, none⟩ = some (.slice (some ⟨bn, 0, none⟩) s.nodes.length c1) := HSE.out.blk.cell 0
      have m1 : v5.cell? ⟨w1.heap.size, 1, none⟩ = some (.slice (some ⟨b, 0, none⟩) s.jobs.length c2) := HSE.out.blk.cell 1
      have m2 : v5.cell? ⟨w1.heap.size, 2, none⟩ = some (.int .i64 S2.goal) := HSE.out.blk.cell 2
      have m3 : v5.cell? ⟨w1.heap.size, 3, none⟩ = some (.int .i64 S2.prior) := HSE.out.blk.cell 3
      have m4 : v5.cell? ⟨w1.heap.size, 4, none⟩ = some (.int .i64 S2.mode) := HSE.out.blk.cell 4
      have m5 : v5.cell? ⟨w1.heap.size, 5, none⟩ = some (.int .i64 S2.term) := HSE.out.blk.cell 5
      have r0 : v5.cell? ⟨w.heap.size + 3, 0, none⟩ = some (.slice none 0 0) := HQE.out.2.1.cell 0
      have g0 : v5.frozen? ⟨w.heap.size + 3, 0, none⟩ = false := HQE.out.2.1.frozen 0
      have r1 : v5.cell? ⟨w.heap.size + 3, 1, none⟩ = some (.slice none 0 0) := HQE.out.2.1.cell 1
      have g1 : v5.frozen? ⟨w.heap.size + 3, 1, none⟩ = false := HQE.out.2.1.frozen 1
      have r2 : v5.cell? ⟨w.heap.size + 3, 2, none⟩ = some (.int .i64 0) := HQE.out.2.1.cell 2
      have g2 : v5.frozen? ⟨w.heap.size + 3, 2, none⟩ = false := HQE.out.2.1.frozen 2
      have r3 : v5.cell? ⟨w.heap.size + 3, 3, none⟩ = some (.int .i64 0) := HQE.out.2.1.cell 3
      have g3 : v5.frozen? ⟨w.heap.size + 3, 3, none⟩ = false := HQE.out.2.1.frozen 3
      have r4 : v5.cell? ⟨w.heap.size + 3, 4, none⟩ = some (.int .i64 0) := HQE.out.2.1.cell 4
      have g4 : v5.frozen? ⟨w.heap.size + 3, 4, none⟩ = false := HQE.out.2.1.frozen 4
      have r5 : v5.cell? ⟨w.heap.size + 3, 5, none⟩ = some (.int .i64 0) := HQE.out.2.1.cell 5
      have g5 : v5.frozen? ⟨w.heap.size + 3, 5, none⟩ = false := HQE.out.2.1.frozen 5
      go_wp2
      have hq := (((((PB.start HQE.out.2.1).set 0 (.slice (some ⟨bn, 0, none⟩) s.nodes.length c1)).set 1 (.slice (some ⟨b, 0, none⟩) s.jobs.length c2)).set 2 (.int .i64 S2.goal)).set 3 (.int .i64 S2.prior)).set 4 (.int .i64 S2.mode)
      replace hq := hq.set 5 (.int .i64 S2.term)
      simp only [List.setIfInBounds_toArray, List.set_cons_zero, List.set_cons_succ] at hq
      obtain ⟨wf, hwf⟩ : ∃ W, W = ((((((v5.setCell ⟨w.heap.size + 3, 0, none⟩ (.slice (some ⟨bn, 0, none⟩) s.nodes.length c1)).setCell ⟨w.heap.size + 3, 1, none⟩ (.slice (some ⟨b, 0, none⟩) s.jobs.length c2)).setCell ⟨w.heap.size + 3, 2, none⟩ (.int .i64 S2.goal)).setCell ⟨w.heap.size + 3, 3, none⟩ (.int .i64 S2.prior)).setCell ⟨w.heap.size + 3, 4, none⟩ (.int .i64 S2.mode)).setCell ⟨w.heap.size + 3, 5, none⟩ (.int .i64 S2.term)) := ⟨_, rfl⟩
      rw [← hwf] at hq
      have hc1 : Chg (fun x => x = w.heap.size + 3) v5 wf := hq.chg
      have hsf : Sg F wf w1.heap.size (.slice (some ⟨bn, 0, none⟩) s.nodes.length c1) (.slice (some ⟨b, 0, none⟩) s.jobs.length c2) S2 := ObjF.chg HSE.out hc1 (fun x hx e => by have := HF4.out x hx; have e : x = w.heap.size + 3 := e; omega)
      have hxf := hq.below _ _ HQE.out.2.2 (by omega)
      rw [hwf] at hq hsf hxf
      exact bodyPost_ret (results_cell_tmp_row rfl _ _ (w.heap.size + 3) 30 _ (0, 0) _ rfl hq.blk rfl rfl (by kernel_rfl)) rfl ⟨.slice (some ⟨bn, 0, none⟩) s.nodes.length c1, .slice (some ⟨b, 0, none⟩) s.jobs.length c2, rfl, hsf.rd, hxf, hsf.own4 HF4.out⟩

end Go.Proofs.YtbfjlhddebollaaDoor

/- The reference of layer 9: Apply, kind 21. -/
namespace Go.Proofs.YtbfjlhddebollaaDoor
open Go.RowKit

set_option maxRecDepth 100000 in
set_option maxHeartbeats 4000000 in
theorem RefAp_21 (c : Cf) (vn vj : Value) (s : St) (a1 a2 a3 a4 a5 a6 : Int) (w : World) (h : RdSt w vn vj s) (hR : RightP c s) (hz : (applyS c s (21, a1, a2, a3, a4, a5, a6)).2 = 0) :
    Calls Tryd.prog 11 #[cfV c, stV vn vj s, .agg #[.int .i64 21, .int .i64 a1, .int .i64 a2, .int .i64 a3, .int .i64 a4, .int .i64 a5, .int .i64 a6]] w fun e w' => ∃ vn' vj', e = .returned (.tuple #[stV vn' vj' (applyS c s (21, a1, a2, a3, a4, a5, a6)).1, .int .i64 (applyS c s (21, a1, a2, a3, a4, a5, a6)).2]) ∧ RdSt w' vn' vj' (applyS c s (21, a1, a2, a3, a4, a5, a6)).1 ∧ Ext w w' ∧ ∀ k, vn'.ownBlock = some k ∨ vj'.ownBlock = some k → w.heap.size ≤ k := by
  have hR6 := hR.len.2
  have hj24 := hR.nj
  have he : (applyS c s (21, a1, a2, a3, a4, a5, a6)).1 = { s with term := s.term + 1 } := by
    revert hz
    unfold applyS
    split
    · intro hz
      cases hz
    · unfold doS
      show (newtermS s).2 = 0 → (newtermS s).1 = _
      unfold newtermS
      split <;> intro hz <;> first | rfl | (cases hz)
  have hwt : IntKind.i64.wrap (s.term + 1) = s.term + 1 := IntWalk.i64_in _ (by have := hR.t0; have := hR.t9; omega)
  have hwt' : wrap64 (s.term + 1) = s.term + 1 := IntWalk.wrap64_in _ (by have := hR.t0; have := hR.t9; omega)
  obtain ⟨S2, hS2⟩ : ∃ S2, S2 = (applyS c s (21, a1, a2, a3, a4, a5, a6)).1 := ⟨_, rfl⟩
  obtain ⟨er, her⟩ : ∃ er, er = (applyS c s (21, a1, a2, a3, a4, a5, a6)).2 := ⟨_, rfl⟩
  rw [← hS2, ← her]
  have HS2 := Lib.hid (hS2.trans he)
  rw [← her] at hz
  subst hz
  have HCP := Lib.hid fun W (hx : Ext w W) => RefCopy_any vn vj s W (h.ext hx) (by omega) (by omega)
  have HWY : Hid (∀ W vn' vj', RdSt W vn' vj' s → Calls Tryd.prog 29 #[cfV c, stV vn' vj' s, .agg #[.int .i64 21, .int .i64 a1, .int .i64 a2, .int .i64 a3, .int .i64 a4, .int .i64 a5, .int .i64 a6]] W fun e w' => e = .returned (.int .i64 0) ∧ Ext W w') := Lib.hid fun W vn' vj' hr => (RefWhy_any c vn' vj' s (21, a1, a2, a3, a4, a5, a6) W hr hR).mono (by rintro e w' ⟨h1, h2⟩; rw [← her] at h1; exact ⟨h1, h2⟩)
  obtain ⟨An, cn, rfl, -, -⟩ := h.nodes.slice_
  obtain ⟨Aj, cj, rfl, -, -⟩ := h.jobs.slice_
  obtain ⟨W4, hW4, hx4, hb0, hb1, hb2, hb3, hs4⟩ := four_blocks w 23 30 36 30 #[.int .i64 c.nodes, .int .i64 c.queues, .int .i64 c.quota, .int .i64 c.wave, .int .i64 c.lease, .int .i64 c.retry, .int .i64 c.deadline, .int .i64 c.room, .int .i64 c.disk] #[.slice An s.nodes.length cn, .slice Aj s.jobs.length cj, .int .i64 s.goal, .int .i64 s.prior, .int .i64 s.mode, .int .i64 s.term] #[.int .i64 21, .int .i64 a1, .int .i64 a2, .int .i64 a3, .int .i64 a4, .int .i64 a5, .int .i64 a6] #[.slice none 0 0, .slice none 0 0, .int .i64 0, .int .i64 0, .int .i64 0, .int .i64 0]
  have HX4 := Lib.hid hx4
  have HB0 := Lib.hid hb0
  have HB1 := Lib.hid hb1
  have HB2 := Lib.hid hb2
  have HB3 := Lib.hid hb3
  have HS4 := Lib.hid hs4
  unfold stV at HCP
  unfold stV cfV at HWY
  unfold stV cfV
  clear hx4 hb0 hb1 hb2 hb3 hs4 h hS2 her he hR6 hj24
  go_enter Tryd.func11, Tryd.ntmps11
  go_wp2_with fail
  rw [← hW4]
  clear hW4
  refine (HCP.out _ HX4.out).mono ?_
  rintro e1 w1 ⟨vn1, vj1, rfl, ho, hx1⟩
  have HRD : RdSt w1 vn1 vj1 s := ⟨RdS.own ho.nodes, RdS.own ho.jobs⟩
  obtain ⟨A1, c1, rfl, -, -⟩ := HRD.nodes.slice_
  obtain ⟨A2, c2, rfl, -, -⟩ := HRD.jobs.slice_
  clear HRD
  obtain ⟨w2, hw2⟩ : ∃ W, W = w1.alloc (.cells #[.slice A1 s.nodes.length c1, .slice A2 s.jobs.length c2, .int .i64 s.goal, .int .i64 s.prior, .int .i64 s.mode, .int .i64 s.term] 30) := ⟨_, rfl⟩
  have hx2 : Ext w1 w2 := by rw [hw2]; exact Below.alloc (Ext.refl _) (Nat.le_refl _) _
  have hsz : w2.heap.size = w1.heap.size + 1 := by rw [hw2]; simp
  obtain ⟨F, hsg, hF4⟩ : ∃ F : Fp, Sg F w2 w1.heap.size (.slice A1 s.nodes.length c1) (.slice A2 s.jobs.length c2) s ∧ ∀ k, F k → w.heap.size + 4 ≤ k := ⟨fun k => W4.heap.size ≤ k ∧ k < w2.heap.size, Sg.make (w0 := W4) (base := W4.heap.size) (by rw [hw2]; exact Blk.new _ _ _) hx1.size ⟨by rw [hw2]; exact ho.nodes.alloc _, by rw [hw2]; exact ho.jobs.alloc _, ho.off⟩ (Nat.le_refl _) (fun k hk => by
    rcases hk with hk | hk
    · have := (ho.nodes.lt k hk).2
      omega
    · have := (ho.jobs.lt k hk).2
      omega), fun k hk => by have := HS4.out; omega⟩
  have HX2 := Lib.hid (Ext.trans (Ext.trans HX4.out hx1) hx2)
  have HF4 := Lib.hid hF4
  have HSG := Lib.hid hsg
  have HC0 := Lib.hid ((HB0.out.ext hx1).ext hx2)
  have HC2 := Lib.hid ((HB2.out.ext hx1).ext hx2)
  have HC3 := Lib.hid ((HB3.out.ext hx1).ext hx2)
  clear ho hx1 hx2 hsz hsg hF4 HB0 HB1 HB2 HB3 HS4 HX4 HCP
  go_upto_region 2 with (fail)
  rw [← hw2]
  clear hw2
  have k0 : w2.cell? ⟨w.heap.size, 0, none⟩ = some (.int .i64 c.nodes) := HC0.out.cell 0
  have k1 : w2.cell? ⟨w.heap.size, 1, none⟩ = some (.int .i64 c.queues) := HC0.out.cell 1
  have k2 : w2.cell? ⟨w.heap.size, 2, none⟩ = some (.int .i64 c.quota) := HC0.out.cell 2
  have k3 : w2.cell? ⟨w.heap.size, 3, none⟩ = some (.int .i64 c.wave) := HC0.out.cell 3
  have k4 : w2.cell? ⟨w.heap.size, 4, none⟩ = some (.int .i64 c.lease) := HC0.out.cell 4
  have k5 : w2.cell? ⟨w.heap.size, 5, none⟩ = some (.int .i64 c.retry) := HC0.out.cell 5
  have k6 : w2.cell? ⟨w.heap.size, 6, none⟩ = some (.int .i64 c.deadline) := HC0.out.cell 6
  have k7 : w2.cell? ⟨w.heap.size, 7, none⟩ = some (.int .i64 c.room) := HC0.out.cell 7
  have k8 : w2.cell? ⟨w.heap.size, 8, none⟩ = some (.int .i64 c.disk) := HC0.out.cell 8
  have o0 : w2.cell? ⟨w.heap.size + 2, 0, none⟩ = some (.int .i64 21) := HC2.out.cell 0
  have o1 : w2.cell? ⟨w.heap.size + 2, 1, none⟩ = some (.int .i64 a1) := HC2.out.cell 1
  have o2 : w2.cell? ⟨w.heap.size + 2, 2, none⟩ = some (.int .i64 a2) := HC2.out.cell 2
  have o3 : w2.cell? ⟨w.heap.size + 2, 3, none⟩ = some (.int .i64 a3) := HC2.out.cell 3
  have o4 : w2.cell? ⟨w.heap.size + 2, 4, none⟩ = some (.int .i64 a4) := HC2.out.cell 4
  have o5 : w2.cell? ⟨w.heap.size + 2, 5, none⟩ = some (.int .i64 a5) := HC2.out.cell 5
  have o6 : w2.cell? ⟨w.heap.size + 2, 6, none⟩ = some (.int .i64 a6) := HC2.out.cell 6
  have s0 : w2.cell? ⟨w1.heap.size, 0, none⟩ = some (.slice A1 s.nodes.length c1) := HSG.out.blk.cell 0
  have s1 : w2.cell? ⟨w1.heap.size, 1, none⟩ = some (.slice A2 s.jobs.length c2) := HSG.out.blk.cell 1
  have s2 : w2.cell? ⟨w1.heap.size, 2, none⟩ = some (.int .i64 s.goal) := HSG.out.blk.cell 2
  have s3 : w2.cell? ⟨w1.heap.size, 3, none⟩ = some (.int .i64 s.prior) := HSG.out.blk.cell 3
  have s4 : w2.cell? ⟨w1.heap.size, 4, none⟩ = some (.int .i64 s.mode) := HSG.out.blk.cell 4
  have s5 : w2.cell? ⟨w1.heap.size, 5, none⟩ = some (.int .i64 s.term) := HSG.out.blk.cell 5
  go_wp2_with fail
  refine (HWY.out _ _ _ HSG.out.rd).mono ?_
  rintro e3 w3 ⟨rfl, hx3⟩
  have HX3 := Lib.hid (HX2.out.trans hx3)
  have HSG3 := Lib.hid (HSG.out.ext hx3)
  have HO3 := Lib.hid (HC2.out.ext hx3)
  have HV3 := Lib.hid (HC3.out.ext hx3)
  have HBX : Hid (∀ W, Chg F w3 W → Blk W (w.heap.size + 2) 36 #[.int .i64 21, .int .i64 a1, .int .i64 a2, .int .i64 a3, .int .i64 a4, .int .i64 a5, .int .i64 a6] ∧ Blk W (w.heap.size + 3) 30 #[.slice none 0 0, .slice none 0 0, .int .i64 0, .int .i64 0, .int .i64 0, .int .i64 0] ∧ Ext w W) := Lib.hid fun W hc => ⟨(hc.block _ HO3.out.lt (fun hf => by have := HF4.out _ hf; omega)).trans HO3.out, (hc.block _ HV3.out.lt (fun hf => by have := HF4.out _ hf; omega)).trans HV3.out, hc.ext HX3.out (fun k hf => by have := HF4.out _ hf; omega)⟩
  clear hx3 HX2 HSG HC0 HC2 HC3 HWY k0 k1 k2 k3 k4 k5 k6 k7 k8 o0 o1 o2 o3 o4 o5 o6 s0 s1 s2 s3 s4 s5
  have o0 : w3.cell? ⟨w.heap.size + 2, 0, none⟩ = some (.int .i64 21) := (HBX.out _ (Chg.refl F w3)).1.cell 0
  have o1 : w3.cell? ⟨w.heap.size + 2, 1, none⟩ = some (.int .i64 a1) := (HBX.out _ (Chg.refl F w3)).1.cell 1
  have o2 : w3.cell? ⟨w.heap.size + 2, 2, none⟩ = some (.int .i64 a2) := (HBX.out _ (Chg.refl F w3)).1.cell 2
  have o3 : w3.cell? ⟨w.heap.size + 2, 3, none⟩ = some (.int .i64 a3) := (HBX.out _ (Chg.refl F w3)).1.cell 3
  have s0 : w3.cell? ⟨w1.heap.size, 0, none⟩ = some (.slice A1 s.nodes.length c1) := HSG3.out.blk.cell 0
  have s1 : w3.cell? ⟨w1.heap.size, 1, none⟩ = some (.slice A2 s.jobs.length c2) := HSG3.out.blk.cell 1
  have s2 : w3.cell? ⟨w1.heap.size, 2, none⟩ = some (.int .i64 s.goal) := HSG3.out.blk.cell 2
  have s3 : w3.cell? ⟨w1.heap.size, 3, none⟩ = some (.int .i64 s.prior) := HSG3.out.blk.cell 3
  have s4 : w3.cell? ⟨w1.heap.size, 4, none⟩ = some (.int .i64 s.mode) := HSG3.out.blk.cell 4
  have s5 : w3.cell? ⟨w1.heap.size, 5, none⟩ = some (.int .i64 s.term) := HSG3.out.blk.cell 5
  have f0 := HSG3.out.fr 5
  have hs := HSG3.out.setG ({ s with term := s.term + 1 }) 5 (.int .i64 (s.term + 1)) rfl rfl rfl
  obtain ⟨v4, hw⟩ : ∃ W, W = w3.setCell ⟨w1.heap.size, 5, none⟩ (.int .i64 (s.term + 1)) := ⟨_, rfl⟩
  rw [← hw] at hs
  have HSV4 := Lib.hid hs.1
  have HCV4 : Hid (Chg F w3 v4) := Lib.hid (Chg.trans (Chg.refl F w3) hs.2 (fun _ _ h => h))
  clear hs
  go_upto_region 70 with (fail)
  rw [← hw]
  clear hw f0 o0 o1 o2 o3 s0 s1 s2 s3 s4 s5
  have HSE := Lib.hid (show Sg F v4 w1.heap.size (.slice A1 s.nodes.length c1) (.slice A2 s.jobs.length c2) S2 by rw [HS2.out]; exact HSV4.out)
  have HCE : Hid (Chg F w3 v4) := Lib.hid HCV4.out
  have HQE := Lib.hid (HBX.out _ HCE.out)
  have m0 : v4.cell? ⟨w1.heap.size, 0, none⟩ = some (.slice A1 s.nodes.length c1) := HSE.out.blk.cell 0
  have m1 : v4.cell? ⟨w1.heap.size, 1, none⟩ = some (.slice A2 s.jobs.length c2) := HSE.out.blk.cell 1
  have m2 : v4.cell? ⟨w1.heap.size, 2, none⟩ = some (.int .i64 S2.goal) := HSE.out.blk.cell 2
  have m3 : v4.cell? ⟨w1.heap.size, 3, none⟩ = some (.int .i64 S2.prior) := HSE.out.blk.cell 3
  have m4 : v4.cell? ⟨w1.heap.size, 4, none⟩ = some (.int .i64 S2.mode) := HSE.out.blk.cell 4
  have m5 : v4.cell? ⟨w1.heap.size, 5, none⟩ = some (.int .i64 S2.term) := HSE.out.blk.cell 5
  have r0 : v4.cell? ⟨w.heap.size + 3, 0, none⟩ = some (.slice none 0 0) := HQE.out.2.1.cell 0
  have g0 : v4.frozen? ⟨w.heap.size + 3, 0, none⟩ = false := HQE.out.2.1.frozen 0
  have r1 : v4.cell? ⟨w.heap.size + 3, 1, none⟩ = some (.slice none 0 0) := HQE.out.2.1.cell 1
  have g1 : v4.frozen? ⟨w.heap.size + 3, 1, none⟩ = false := HQE.out.2.1.frozen 1
  have r2 : v4.cell? ⟨w.heap.size + 3, 2, none⟩ = some (.int .i64 0) := HQE.out.2.1.cell 2
  have g2 : v4.frozen? ⟨w.heap.size + 3, 2, none⟩ = false := HQE.out.2.1.frozen 2
  have r3 : v4.cell? ⟨w.heap.size + 3, 3, none⟩ = some (.int .i64 0) := HQE.out.2.1.cell 3
  have g3 : v4.frozen? ⟨w.heap.size + 3, 3, none⟩ = false := HQE.out.2.1.frozen 3
  have r4 : v4.cell? ⟨w.heap.size + 3, 4, none⟩ = some (.int .i64 0) := HQE.out.2.1.cell 4
  have g4 : v4.frozen? ⟨w.heap.size + 3, 4, none⟩ = false := HQE.out.2.1.frozen 4
  have r5 : v4.cell? ⟨w.heap.size + 3, 5, none⟩ = some (.int .i64 0) := HQE.out.2.1.cell 5
  have g5 : v4.frozen? ⟨w.heap.size + 3, 5, none⟩ = false := HQE.out.2.1.frozen 5
  go_wp2
  have hq := (((((PB.start HQE.out.2.1).set 0 (.slice A1 s.nodes.length c1)).set 1 (.slice A2 s.jobs.length c2)).set 2 (.int .i64 S2.goal)).set 3 (.int .i64 S2.prior)).set 4 (.int .i64 S2.mode)
  replace hq := hq.set 5 (.int .i64 S2.term)
  simp only [List.setIfInBounds_toArray, List.set_cons_zero, List.set_cons_succ] at hq
  obtain ⟨wf, hwf⟩ : ∃ W, W = ((((((v4.setCell ⟨w.heap.size + 3, 0, none⟩ (.slice A1 s.nodes.length c1)).setCell ⟨w.heap.size + 3, 1, none⟩ (.slice A2 s.jobs.length c2)).setCell ⟨w.heap.size + 3, 2, none⟩ (.int .i64 S2.goal)).setCell ⟨w.heap.size + 3, 3, none⟩ (.int .i64 S2.prior)).setCell ⟨w.heap.size + 3, 4, none⟩ (.int .i64 S2.mode)).setCell ⟨w.heap.size + 3, 5, none⟩ (.int .i64 S2.term)) := ⟨_, rfl⟩
  rw [← hwf] at hq
  have hc1 : Chg (fun x => x = w.heap.size + 3) v4 wf := hq.chg
  have hsf : Sg F wf w1.heap.size (.slice A1 s.nodes.length c1) (.slice A2 s.jobs.length c2) S2 := ObjF.chg HSE.out hc1 (fun x hx e => by have := HF4.out x hx; have e : x = w.heap.size + 3 := e; omega)
  have hxf := hq.below _ _ HQE.out.2.2 (by omega)
  rw [hwf] at hq hsf hxf
  exact bodyPost_ret (results_cell_tmp_row rfl _ _ (w.heap.size + 3) 30 _ (0, 0) _ rfl hq.blk rfl rfl (by kernel_rfl)) rfl ⟨.slice A1 s.nodes.length c1, .slice A2 s.jobs.length c2, rfl, hsf.rd, hxf, hsf.own4 HF4.out⟩

end Go.Proofs.YtbfjlhddebollaaDoor

/- The reference of layer 9: Apply, of a state that may be. -/
namespace Go.Proofs.YtbfjlhddebollaaDoor
open Go.RowKit

theorem RefApply_own (c : Cf) (vn vj : Value) (s : St) (o : OpN) (w : World) (h : RdSt w vn vj s) (hR : RightP c s) :
    Calls Tryd.prog 11 #[cfV c, stV vn vj s, opV o] w fun e w' => ∃ vn' vj', e = .returned (.tuple #[stV vn' vj' (applyS c s o).1, .int .i64 (applyS c s o).2]) ∧ RdSt w' vn' vj' (applyS c s o).1 ∧ Ext w w' ∧ ∀ k, vn'.ownBlock = some k ∨ vj'.ownBlock = some k → w.heap.size ≤ k := by
  obtain ⟨kd, a1, a2, a3, a4, a5, a6⟩ := o
  by_cases hz : (applyS c s (kd, a1, a2, a3, a4, a5, a6)).2 = 0
  · have hr : rightO (kd, a1, a2, a3, a4, a5, a6) = true := by
      cases hr : rightO (kd, a1, a2, a3, a4, a5, a6)
      · unfold applyS at hz
        rw [hr, if_pos rfl] at hz
        cases hz
      · rfl
    have hk := (rightO_iff.1 hr).1
    dsimp only at hk
    have hk2 : kd = 1 ∨ kd = 2 ∨ kd = 3 ∨ kd = 4 ∨ kd = 5 ∨ kd = 6 ∨ kd = 7 ∨ kd = 8 ∨ kd = 9 ∨ kd = 10 ∨ kd = 11 ∨ kd = 12 ∨ kd = 13 ∨ kd = 14 ∨ kd = 15 ∨ kd = 16 ∨ kd = 17 ∨ kd = 18 ∨ kd = 19 ∨ kd = 20 ∨ kd = 21 := by omega
    rcases hk2 with rfl | rfl | rfl | rfl | rfl | rfl | rfl | rfl | rfl | rfl | rfl | rfl | rfl | rfl | rfl | rfl | rfl | rfl | rfl | rfl | rfl
    · exact RefAp_1 c vn vj s a1 a2 a3 a4 a5 a6 w h hR hz
    · exact RefAp_2 c vn vj s a1 a2 a3 a4 a5 a6 w h hR hz
    · exact RefAp_3 c vn vj s a1 a2 a3 a4 a5 a6 w h hR hz
    · exact RefAp_4 c vn vj s a1 a2 a3 a4 a5 a6 w h hR hz
    · exact RefAp_5 c vn vj s a1 a2 a3 a4 a5 a6 w h hR hz
    · exact RefAp_6 c vn vj s a1 a2 a3 a4 a5 a6 w h hR hz
    · obtain ⟨i, n, ha, hi, -, -, -⟩ := ok_node (by decide) hz
      subst ha
      rcases hR.job_of hi with h0 | ⟨k, j, hj0, hj, -⟩
      · exact RefAp_7a c vn vj s a2 a3 a4 a5 a6 i n hi h0 w h hR hz
      · exact RefAp_7b c vn vj s a2 a3 a4 a5 a6 i k n j hi hj hj0 w h hR hz
    · exact RefAp_8 c vn vj s a1 a2 a3 a4 a5 a6 w h hR hz
    · exact RefAp_9 c vn vj s a1 a2 a3 a4 a5 a6 w h hR hz
    · exact RefAp_10 c vn vj s a1 a2 a3 a4 a5 a6 w h hR hz
    · exact RefAp_11 c vn vj s a1 a2 a3 a4 a5 a6 w h hR hz
    · exact RefAp_12 c vn vj s a1 a2 a3 a4 a5 a6 w h hR hz
    · exact RefAp_13 c vn vj s a1 a2 a3 a4 a5 a6 w h hR hz
    · exact RefAp_14 c vn vj s a1 a2 a3 a4 a5 a6 w h hR hz
    · exact RefAp_15 c vn vj s a1 a2 a3 a4 a5 a6 w h hR hz
    · exact RefAp_16 c vn vj s a1 a2 a3 a4 a5 a6 w h hR hz
    · exact RefAp_17 c vn vj s a1 a2 a3 a4 a5 a6 w h hR hz
    · exact RefAp_18 c vn vj s a1 a2 a3 a4 a5 a6 w h hR hz
    · exact RefAp_19 c vn vj s a1 a2 a3 a4 a5 a6 w h hR hz
    · exact RefAp_20 c vn vj s a1 a2 a3 a4 a5 a6 w h hR hz
    · exact RefAp_21 c vn vj s a1 a2 a3 a4 a5 a6 w h hR hz
  · exact RefAp_E c vn vj s kd a1 a2 a3 a4 a5 a6 w h hR hz
theorem RefApply_any (c : Cf) (vn vj : Value) (s : St) (o : OpN) (w : World) (h : RdSt w vn vj s) (hR : RightP c s) :
    Calls Tryd.prog 11 #[cfV c, stV vn vj s, opV o] w fun e w' => ∃ vn' vj', e = .returned (.tuple #[stV vn' vj' (applyS c s o).1, .int .i64 (applyS c s o).2]) ∧ RdSt w' vn' vj' (applyS c s o).1 ∧ Ext w w' :=
  (RefApply_own c vn vj s o w h hR).mono (by rintro e w' ⟨vn', vj', rfl, hr, hx, -⟩; exact ⟨vn', vj', rfl, hr, hx⟩)

end Go.Proofs.YtbfjlhddebollaaDoor
