/- Texts that the proof of E rests on, one behind the other. -/
import Derived.Test.YtnnilalnkkbdoaaDoorEQ17
import Derived.Deep.Cut
import Derived.Deep.DeepCutAuto
import Derived.Deep.CutBlock

/- What is left of a set when one is taken out, summed; an op Shrink that is done. -/
namespace Go.Proofs.YtnnilalnkkbdoaaDoor
open Go.RowKit

/-- What is left of the set without i, of the first q. -/
def leftK (set : Int) (i : Nat) : Nat → Int
  | 0 => 0
  | q + 1 => leftK set i q + if hasS set q = true ∧ q ≠ i then 2 ^ q else 0
theorem leftK_all : ∀ m : Nat, m < 64 → ∀ i : Nat, i < 6 → hasS (m : Int) i = true → leftK (m : Int) i 6 = (m : Int) - 2 ^ i := by decide +kernel
theorem leftK_in (set : Int) (i : Nat) : ∀ q, 0 ≤ leftK set i q ∧ leftK set i q < 2 ^ q
  | 0 => by simp [leftK]
  | q + 1 => by
    have h := leftK_in set i q
    have hp : (2 : Int) ^ (q + 1) = 2 ^ q + 2 ^ q := by rw [Int.pow_succ]; omega
    have hq : (0 : Int) < 2 ^ q := Int.pow_pos (by decide)
    unfold leftK
    rw [hp]
    split <;> omega
theorem leftK_go {set : Int} {i q : Nat} (h : hasS set q = true) (hi : q ≠ i) : leftK set i (q + 1) = leftK set i q + 2 ^ q := by
  rw [leftK, if_pos ⟨h, hi⟩]
theorem leftK_skip {set : Int} {i q : Nat} (h : ¬ (hasS set q = true ∧ q ≠ i)) : leftK set i (q + 1) = leftK set i q := by
  rw [leftK, if_neg h, Int.add_zero]
theorem leftK_64 {set : Int} {i q : Nat} (h : q ≤ 6) : 0 ≤ leftK set i q ∧ leftK set i q < 64 := by
  have h1 := leftK_in set i q
  have h2 : (2 : Int) ^ q ≤ 2 ^ 6 := by
    have : 2 ^ q ≤ 2 ^ 6 := Nat.pow_le_pow_right (by decide) h
    have e : ((2 ^ q : Nat) : Int) = (2 : Int) ^ q := by simp
    omega
  omega
theorem pow_64 {q : Nat} (h : q < 6) : (0 : Int) < 2 ^ q ∧ (2 : Int) ^ q ≤ 32 := by
  have : q = 0 ∨ q = 1 ∨ q = 2 ∨ q = 3 ∨ q = 4 ∨ q = 5 := by omega
  rcases this with rfl | rfl | rfl | rfl | rfl | rfl <;> decide

theorem ok_shrink {c : Cf} {s : St} {a1 a2 : Int} {t : Int × Int × Int × Int} (hR : RightP c s) (hz : (applyS c s (20, a1, a2, t)).2 = 0) :
    ∃ (k : Nat) (j : Jb) (i : Nat) (n : Nd), a1 = (k : Int) + 1 ∧ s.jobs[k]? = some j ∧ a2 = (i : Int) ∧ s.nodes[i]? = some n ∧ leftK j.nodes i 6 = lessS j.nodes i ∧ (applyS c s (20, a1, a2, t)).1 = setN (setJ s k { j with nodes := lessS j.nodes i }) i { n with job := 0 } := by
  obtain ⟨k, j, ha, hj, hz1, he1, hro⟩ := ok_job (by decide) (by decide) hz
  have hb := (op_in hro).2.1
  dsimp only at hb
  rw [he1]
  change (match s.nodes[a2.toNat]? with | some n => shrinkS s k j a2.toNat n | none => (s, 4)).2 = 0 at hz1
  change ∃ (k' : Nat) (j' : Jb) (i : Nat) (n : Nd), a1 = (k' : Int) + 1 ∧ s.jobs[k']? = some j' ∧ a2 = (i : Int) ∧ s.nodes[i]? = some n ∧ leftK j'.nodes i 6 = lessS j'.nodes i ∧ (match s.nodes[a2.toNat]? with | some n => shrinkS s k j a2.toNat n | none => (s, 4)).1 = setN (setJ s k' { j' with nodes := lessS j'.nodes i }) i { n with job := 0 }
  cases hn : s.nodes[a2.toNat]? with
  | none =>
    rw [hn] at hz1
    cases hz1
  | some n =>
    rw [hn] at hz1
    dsimp only at hz1
    refine ⟨k, j, a2.toNat, n, ha, hj, by omega, hn, ?_, ?_⟩
    · unfold shrinkS at hz1
      split at hz1
      · split at hz1
        · rename_i h1
          have h6 := hR.len.2
          have hil := (List.getElem?_eq_some_iff.1 hn).1
          have h64 := (hR.job k j hj).lt64 h6
          obtain ⟨m, hm⟩ : ∃ m : Nat, j.nodes = (m : Int) := ⟨j.nodes.toNat, by omega⟩
          rw [hm] at h1 ⊢
          exact leftK_all m (by omega) _ (by omega) h1.1
        · cases hz1
      · cases hz1
    · show (shrinkS s k j a2.toNat n).1 = _
      revert hz1
      unfold shrinkS
      split
      · split
        · intro _; rfl
        · intro h; cases h
      · intro h; cases h

end Go.Proofs.YtnnilalnkkbdoaaDoor

/- The reference of layer 9: Apply, kind 20. -/
namespace Go.Proofs.YtnnilalnkkbdoaaDoor
open Go.RowKit

set_option maxRecDepth 100000 in
set_option maxHeartbeats 4000000 in
theorem RefAp_20 (c : Cf) (vn vj : Value) (s : St) (a1 a2 a3 a4 a5 a6 : Int) (w : World) (h : RdSt w vn vj s) (hR : RightP c s) (hz : (applyS c s (20, a1, a2, a3, a4, a5, a6)).2 = 0) :
    Calls Tryd.prog 15 #[cfV c, stV vn vj s, .agg #[.int .i64 20, .int .i64 a1, .int .i64 a2, .int .i64 a3, .int .i64 a4, .int .i64 a5, .int .i64 a6]] w fun e w' => ∃ vn' vj', e = .returned (.tuple #[stV vn' vj' (applyS c s (20, a1, a2, a3, a4, a5, a6)).1, .int .i64 (applyS c s (20, a1, a2, a3, a4, a5, a6)).2]) ∧ RdSt w' vn' vj' (applyS c s (20, a1, a2, a3, a4, a5, a6)).1 ∧ Ext w w' ∧ ∀ k, vn'.ownBlock = some k ∨ vj'.ownBlock = some k → w.heap.size ≤ k := by
  have hR6 := hR.len.2
  have hj24 := hR.nj
  obtain ⟨k, j, i, n, ha, hjk, hb, hnk, hLK, he⟩ := ok_shrink hR hz
  subst hb
  obtain ⟨LL, hLL⟩ : ∃ LL, LL = lessS j.nodes i := ⟨_, rfl⟩
  rw [← hLL] at he hLK
  clear hLL
  have HLK := Lib.hid hLK
  have HJK := Lib.hid hjk
  have HNK := Lib.hid hnk
  have hkl := (List.getElem?_eq_some_iff.1 hjk).1
  have hil := (List.getElem?_eq_some_iff.1 hnk).1
  have x1 : (0 : Int) ≤ (k : Int) ∧ (k : Int) < (s.jobs.length : Int) := by omega
  have x2 : (0 : Int) ≤ (i : Int) ∧ (i : Int) < (s.nodes.length : Int) := by omega
  have hwk : IntKind.i64.wrap (a1 - 1) = (k : Int) := by rw [ha, Int.add_sub_cancel]; exact IntWalk.i64_in _ (by omega)
  have hwk' : wrap64 (a1 - 1) = (k : Int) := by rw [ha, Int.add_sub_cancel]; exact IntWalk.wrap64_in _ (by omega)
  have HHS := Lib.hid fun q hq W => RefHas_any j.nodes q hq W
  clear hjk hnk hLK hkl hil ha
  obtain ⟨S2, hS2⟩ : ∃ S2, S2 = (applyS c s (20, a1, (i : Int), a3, a4, a5, a6)).1 := ⟨_, rfl⟩
  obtain ⟨er, her⟩ : ∃ er, er = (applyS c s (20, a1, (i : Int), a3, a4, a5, a6)).2 := ⟨_, rfl⟩
  rw [← hS2, ← her]
  have HS2 := Lib.hid (hS2.trans he)
  rw [← her] at hz
  subst hz
  have HCP := Lib.hid fun W (hx : Ext w W) => RefCopy_any vn vj s W (h.ext hx) (by omega) (by omega)
  have HWY : Hid (∀ W vn' vj', RdSt W vn' vj' s → Calls Tryd.prog 40 #[cfV c, stV vn' vj' s, .agg #[.int .i64 20, .int .i64 a1, .int .i64 (i : Int), .int .i64 a3, .int .i64 a4, .int .i64 a5, .int .i64 a6]] W fun e w' => e = .returned (.int .i64 0) ∧ Ext W w') := Lib.hid fun W vn' vj' hr => (RefWhy_any c vn' vj' s (20, a1, (i : Int), a3, a4, a5, a6) W hr hR).mono (by rintro e w' ⟨h1, h2⟩; rw [← her] at h1; exact ⟨h1, h2⟩)
  obtain ⟨An, cn, rfl, -, -⟩ := h.nodes.slice_
  obtain ⟨Aj, cj, rfl, -, -⟩ := h.jobs.slice_
  obtain ⟨W4, hW4, hx4, hb0, hb1, hb2, hb3, hs4⟩ := four_blocks w 23 27 29 27 #[.int .i64 c.nodes, .int .i64 c.queues, .int .i64 c.quota, .int .i64 c.wave, .int .i64 c.lease, .int .i64 c.retry, .int .i64 c.deadline, .int .i64 c.room, .int .i64 c.disk] #[.slice An s.nodes.length cn, .slice Aj s.jobs.length cj, .int .i64 s.goal, .int .i64 s.prior, .int .i64 s.mode, .int .i64 s.term] #[.int .i64 20, .int .i64 a1, .int .i64 (i : Int), .int .i64 a3, .int .i64 a4, .int .i64 a5, .int .i64 a6] #[.slice none 0 0, .slice none 0 0, .int .i64 0, .int .i64 0, .int .i64 0, .int .i64 0]
  have HX4 := Lib.hid hx4
  have HB0 := Lib.hid hb0
  have HB1 := Lib.hid hb1
  have HB2 := Lib.hid hb2
  have HB3 := Lib.hid hb3
  have HS4 := Lib.hid hs4
  unfold stV at HCP
  unfold stV cfV at HWY
  unfold stV cfV
  clear hx4 hb0 hb1 hb2 hb3 hs4 h hS2 her he hR6 hj24
  go_enter Tryd.func15, Tryd.ntmps15
  go_wp2_with fail
  rw [← hW4]
  clear hW4
  refine (HCP.out _ HX4.out).mono ?_
  rintro e1 w1 ⟨vn1, vj1, rfl, ho, hx1⟩
  have HRD : RdSt w1 vn1 vj1 s := ⟨RdS.own ho.nodes, RdS.own ho.jobs⟩
  obtain ⟨A1, c1, rfl, -, -⟩ := HRD.nodes.slice_
  obtain ⟨A2, c2, rfl, -, -⟩ := HRD.jobs.slice_
  clear HRD
  obtain ⟨w2, hw2⟩ : ∃ W, W = w1.alloc (.cells #[.slice A1 s.nodes.length c1, .slice A2 s.jobs.length c2, .int .i64 s.goal, .int .i64 s.prior, .int .i64 s.mode, .int .i64 s.term] 27) := ⟨_, rfl⟩
  have hx2 : Ext w1 w2 := by rw [hw2]; exact Below.alloc (Ext.refl _) (Nat.le_refl _) _
  have hsz : w2.heap.size = w1.heap.size + 1 := by rw [hw2]; simp
  obtain ⟨F, hsg, hF4⟩ : ∃ F : Fp, Sg F w2 w1.heap.size (.slice A1 s.nodes.length c1) (.slice A2 s.jobs.length c2) s ∧ ∀ k, F k → w.heap.size + 4 ≤ k := ⟨fun k => W4.heap.size ≤ k ∧ k < w2.heap.size, Sg.make (w0 := W4) (base := W4.heap.size) (by rw [hw2]; exact Blk.new _ _ _) hx1.size ⟨by rw [hw2]; exact ho.nodes.alloc _, by rw [hw2]; exact ho.jobs.alloc _, ho.off⟩ (Nat.le_refl _) (fun k hk => by
    rcases hk with hk | hk
    · have := (ho.nodes.lt k hk).2
      omega
    · have := (ho.jobs.lt k hk).2
      omega), fun k hk => by have := HS4.out; omega⟩
  have HX2 := Lib.hid (Ext.trans (Ext.trans HX4.out hx1) hx2)
  have HF4 := Lib.hid hF4
  have HSG := Lib.hid hsg
  have HC0 := Lib.hid ((HB0.out.ext hx1).ext hx2)
  have HC2 := Lib.hid ((HB2.out.ext hx1).ext hx2)
  have HC3 := Lib.hid ((HB3.out.ext hx1).ext hx2)
  clear ho hx1 hx2 hsz hsg hF4 HB0 HB1 HB2 HB3 HS4 HX4 HCP
  go_upto_region 2 with (fail)
  rw [← hw2]
  clear hw2
  have k0 : w2.cell? ⟨w.heap.size, 0, none⟩ = some (.int .i64 c.nodes) := HC0.out.cell 0
  have k1 : w2.cell? ⟨w.heap.size, 1, none⟩ = some (.int .i64 c.queues) := HC0.out.cell 1
  have k2 : w2.cell? ⟨w.heap.size, 2, none⟩ = some (.int .i64 c.quota) := HC0.out.cell 2
  have k3 : w2.cell? ⟨w.heap.size, 3, none⟩ = some (.int .i64 c.wave) := HC0.out.cell 3
  have k4 : w2.cell? ⟨w.heap.size, 4, none⟩ = some (.int .i64 c.lease) := HC0.out.cell 4
  have k5 : w2.cell? ⟨w.heap.size, 5, none⟩ = some (.int .i64 c.retry) := HC0.out.cell 5
  have k6 : w2.cell? ⟨w.heap.size, 6, none⟩ = some (.int .i64 c.deadline) := HC0.out.cell 6
  have k7 : w2.cell? ⟨w.heap.size, 7, none⟩ = some (.int .i64 c.room) := HC0.out.cell 7
  have k8 : w2.cell? ⟨w.heap.size, 8, none⟩ = some (.int .i64 c.disk) := HC0.out.cell 8
  have o0 : w2.cell? ⟨w.heap.size + 2, 0, none⟩ = some (.int .i64 20) := HC2.out.cell 0
  have o1 : w2.cell? ⟨w.heap.size + 2, 1, none⟩ = some (.int .i64 a1) := HC2.out.cell 1
  have o2 : w2.cell? ⟨w.heap.size + 2, 2, none⟩ = some (.int .i64 (i : Int)) := HC2.out.cell 2
  have o3 : w2.cell? ⟨w.heap.size + 2, 3, none⟩ = some (.int .i64 a3) := HC2.out.cell 3
  have o4 : w2.cell? ⟨w.heap.size + 2, 4, none⟩ = some (.int .i64 a4) := HC2.out.cell 4
  have o5 : w2.cell? ⟨w.heap.size + 2, 5, none⟩ = some (.int .i64 a5) := HC2.out.cell 5
  have o6 : w2.cell? ⟨w.heap.size + 2, 6, none⟩ = some (.int .i64 a6) := HC2.out.cell 6
  have s0 : w2.cell? ⟨w1.heap.size, 0, none⟩ = some (.slice A1 s.nodes.length c1) := HSG.out.blk.cell 0
  have s1 : w2.cell? ⟨w1.heap.size, 1, none⟩ = some (.slice A2 s.jobs.length c2) := HSG.out.blk.cell 1
  have s2 : w2.cell? ⟨w1.heap.size, 2, none⟩ = some (.int .i64 s.goal) := HSG.out.blk.cell 2
  have s3 : w2.cell? ⟨w1.heap.size, 3, none⟩ = some (.int .i64 s.prior) := HSG.out.blk.cell 3
  have s4 : w2.cell? ⟨w1.heap.size, 4, none⟩ = some (.int .i64 s.mode) := HSG.out.blk.cell 4
  have s5 : w2.cell? ⟨w1.heap.size, 5, none⟩ = some (.int .i64 s.term) := HSG.out.blk.cell 5
  go_wp2_with fail
  refine (HWY.out _ _ _ HSG.out.rd).mono ?_
  rintro e3 w3 ⟨rfl, hx3⟩
  have HX3 := Lib.hid (HX2.out.trans hx3)
  have HSG3 := Lib.hid (HSG.out.ext hx3)
  have HO3 := Lib.hid (HC2.out.ext hx3)
  have HV3 := Lib.hid (HC3.out.ext hx3)
  have HBX : Hid (∀ W, Chg F w3 W → Blk W (w.heap.size + 2) 29 #[.int .i64 20, .int .i64 a1, .int .i64 (i : Int), .int .i64 a3, .int .i64 a4, .int .i64 a5, .int .i64 a6] ∧ Blk W (w.heap.size + 3) 27 #[.slice none 0 0, .slice none 0 0, .int .i64 0, .int .i64 0, .int .i64 0, .int .i64 0] ∧ Ext w W) := Lib.hid fun W hc => ⟨(hc.block _ HO3.out.lt (fun hf => by have := HF4.out _ hf; omega)).trans HO3.out, (hc.block _ HV3.out.lt (fun hf => by have := HF4.out _ hf; omega)).trans HV3.out, hc.ext HX3.out (fun k hf => by have := HF4.out _ hf; omega)⟩
  clear hx3 HX2 HSG HC0 HC2 HC3 HWY k0 k1 k2 k3 k4 k5 k6 k7 k8 o0 o1 o2 o3 o4 o5 o6 s0 s1 s2 s3 s4 s5
  obtain ⟨b, cap, hv, -, -, -, -, -, -⟩ := HSG3.out.jobAt HJK.out
  injection hv with hA _ hC
  subst hA hC
  obtain ⟨bn, cap, hv, -, -, -, -, -, -⟩ := HSG3.out.nodeAt HNK.out
  injection hv with hA _ hC
  subst hA hC
  have o0 : w3.cell? ⟨w.heap.size + 2, 0, none⟩ = some (.int .i64 20) := (HBX.out _ (Chg.refl F w3)).1.cell 0
  have o1 : w3.cell? ⟨w.heap.size + 2, 1, none⟩ = some (.int .i64 a1) := (HBX.out _ (Chg.refl F w3)).1.cell 1
  have o2 : w3.cell? ⟨w.heap.size + 2, 2, none⟩ = some (.int .i64 (i : Int)) := (HBX.out _ (Chg.refl F w3)).1.cell 2
  have o3 : w3.cell? ⟨w.heap.size + 2, 3, none⟩ = some (.int .i64 a3) := (HBX.out _ (Chg.refl F w3)).1.cell 3
  have s0 : w3.cell? ⟨w1.heap.size, 0, none⟩ = some (.slice (some ⟨bn, 0, none⟩) s.nodes.length c1) := HSG3.out.blk.cell 0
  have s1 : w3.cell? ⟨w1.heap.size, 1, none⟩ = some (.slice (some ⟨b, 0, none⟩) s.jobs.length c2) := HSG3.out.blk.cell 1
  have s2 : w3.cell? ⟨w1.heap.size, 2, none⟩ = some (.int .i64 s.goal) := HSG3.out.blk.cell 2
  have s3 : w3.cell? ⟨w1.heap.size, 3, none⟩ = some (.int .i64 s.prior) := HSG3.out.blk.cell 3
  have s4 : w3.cell? ⟨w1.heap.size, 4, none⟩ = some (.int .i64 s.mode) := HSG3.out.blk.cell 4
  have s5 : w3.cell? ⟨w1.heap.size, 5, none⟩ = some (.int .i64 s.term) := HSG3.out.blk.cell 5
  go_wp2_with fail
  clear o0 o1 o2 o3 s0 s1 s2 s3 s4 s5
  go_loopg [11, 12] 6 (fun gg x y wr => ∃ (q : Nat) (z : Int), x = .int .i64 z ∧ y = .int .i64 q ∧ q ≤ 6 ∧ gg = 6 - q ∧ Hid (z = leftK j.nodes i q ∧ Sg F wr w1.heap.size (.slice (some ⟨bn, 0, none⟩) s.nodes.length c1) (.slice (some ⟨b, 0, none⟩) s.jobs.length c2) s ∧ Chg F w3 wr))
  case atStart => exact ⟨0, 0, rfl, rfl, by omega, by omega, Lib.hid ⟨rfl, HSG3.out, Chg.refl F w3⟩⟩
  case round =>
    obtain ⟨q, z, rfl, rfl, hq, rfl, HR⟩ := hrel
    have o1 : wr.cell? ⟨w.heap.size + 2, 1, none⟩ = some (.int .i64 a1) := (HBX.out _ HR.out.2.2).1.cell 1
    have o2 : wr.cell? ⟨w.heap.size + 2, 2, none⟩ = some (.int .i64 (i : Int)) := (HBX.out _ HR.out.2.2).1.cell 2
    have s0 : wr.cell? ⟨w1.heap.size, 0, none⟩ = some (.slice (some ⟨bn, 0, none⟩) s.nodes.length c1) := HR.out.2.1.blk.cell 0
    have s1 : wr.cell? ⟨w1.heap.size, 1, none⟩ = some (.slice (some ⟨b, 0, none⟩) s.jobs.length c2) := HR.out.2.1.blk.cell 1
    obtain ⟨hat, hfr⟩ := HR.out.2.1.jobAt' HJK.out
    have p8 : wr.cell? ⟨b, k * 12 + 8, none⟩ = some (.int .i64 j.nodes) := hat.c8
    have f8 := hfr (k * 12 + 8)
    clear hat hfr
    have hz64 : 0 ≤ z ∧ z < 64 := by rw [HR.out.1]; exact leftK_64 hq
    by_cases hlt : q < 6
    · have d1 : decide ((q : Int) < 6) = true := decide_eq_true (by omega)
      have d1' : decide (q < 6) = true := decide_eq_true hlt
      have HLT := Lib.hid hlt
      have hq64 : q < 64 := by omega
      have HP := Lib.hid (pow_64 hlt)
      go_wp2_with fail
      refine (HHS.out q hq64 _).mono ?_
      rintro e7 w7 ⟨rfl, rfl⟩
      cases hs : hasS j.nodes q
      · have HR2 : Hid (z = leftK j.nodes i (q + 1) ∧ Sg F wr w1.heap.size (.slice (some ⟨bn, 0, none⟩) s.nodes.length c1) (.slice (some ⟨b, 0, none⟩) s.jobs.length c2) s ∧ Chg F w3 wr) := Lib.hid ⟨by rw [leftK_skip (by rw [hs]; simp)]; exact HR.out.1, HR.out.2⟩
        clear hs
        clear hlt hq hz64 HR
        go_wp2
        go_roundg (6 - (q + 1))
        case measure => have := HLT.out; omega
        case rel => exact ⟨q + 1, z, rfl, by first | go_num | (rw [IntWalk.wrap64_in _ (by have := HLT.out; omega)]; first | rfl | simp), HLT.out, rfl, HR2⟩
      · by_cases hqi : q = i
        · have HR2 : Hid (z = leftK j.nodes i (q + 1) ∧ Sg F wr w1.heap.size (.slice (some ⟨bn, 0, none⟩) s.nodes.length c1) (.slice (some ⟨b, 0, none⟩) s.jobs.length c2) s ∧ Chg F w3 wr) := Lib.hid ⟨by rw [leftK_skip (by intro h; exact h.2 hqi)]; exact HR.out.1, HR.out.2⟩
          have d2 : ((q : Int) != (i : Int)) = false := by rw [bne_eq_false_iff_eq]; omega
          clear hs hqi
          clear hlt hq hz64 HR
          go_wp2
          go_roundg (6 - (q + 1))
          case measure => have := HLT.out; omega
          case rel => exact ⟨q + 1, z, rfl, by first | go_num | (rw [IntWalk.wrap64_in _ (by have := HLT.out; omega)]; first | rfl | simp), HLT.out, rfl, HR2⟩
        · obtain ⟨z2, hz2⟩ : ∃ z2 : Int, z2 = z + 2 ^ q := ⟨_, rfl⟩
          have HR2 : Hid (z2 = leftK j.nodes i (q + 1) ∧ Sg F wr w1.heap.size (.slice (some ⟨bn, 0, none⟩) s.nodes.length c1) (.slice (some ⟨b, 0, none⟩) s.jobs.length c2) s ∧ Chg F w3 wr) := Lib.hid ⟨by rw [leftK_go hs hqi, hz2, HR.out.1], HR.out.2⟩
          have d2 : ((q : Int) != (i : Int)) = true := by rw [bne_iff_ne]; omega
          have HZ2 := Lib.hid hz2
          have hz3 : 0 ≤ z2 ∧ z2 < 128 := by have := HP.out; omega
          clear hs hqi hz2
          clear hlt hq hz64 HR
          go_wp2
          go_roundg (6 - (q + 1))
          case measure => have := HLT.out; omega
          case rel => exact ⟨q + 1, z2, by rw [IntWalk.wrap64_in (2 ^ q) (by have := HP.out; omega), ← HZ2.out, IntWalk.wrap64_in z2 (by omega)], by first | go_num | (rw [IntWalk.wrap64_in _ (by have := HLT.out; omega)]; first | rfl | simp), HLT.out, rfl, HR2⟩
    · have d1 : decide ((q : Int) < 6) = false := decide_eq_false (by omega)
      have d1' : decide (q < 6) = false := decide_eq_false hlt
      obtain rfl : q = 6 := by omega
      obtain rfl : z = LL := HR.out.1.trans HLK.out
      have HSW := Lib.hid HR.out.2.1
      have HCW := Lib.hid HR.out.2.2
      have hs := HSW.out.setJ' (n' := { j with nodes := z }) HJK.out 8 (by omega) (.int .i64 z) rfl
      obtain ⟨v4, hw⟩ : ∃ W, W = wr.setCell ⟨b, k * 12 + 8, none⟩ (.int .i64 z) := ⟨_, rfl⟩
      rw [← hw] at hs
      have HSV4 := Lib.hid hs.1
      have HCV4 : Hid (Chg F w3 v4) := Lib.hid (Chg.trans HCW.out hs.2 (fun _ _ h => h))
      clear hs hlt hq hz64 HR
      go_upto_region 67 with (fail)
      rw [← hw]
      clear hw o1 o2 s0 s1 p8 f8
      have o0 : v4.cell? ⟨w.heap.size + 2, 0, none⟩ = some (.int .i64 20) := (HBX.out _ HCV4.out).1.cell 0
      have o1 : v4.cell? ⟨w.heap.size + 2, 1, none⟩ = some (.int .i64 a1) := (HBX.out _ HCV4.out).1.cell 1
      have o2 : v4.cell? ⟨w.heap.size + 2, 2, none⟩ = some (.int .i64 (i : Int)) := (HBX.out _ HCV4.out).1.cell 2
      have o3 : v4.cell? ⟨w.heap.size + 2, 3, none⟩ = some (.int .i64 a3) := (HBX.out _ HCV4.out).1.cell 3
      have s0 : v4.cell? ⟨w1.heap.size, 0, none⟩ = some (.slice (some ⟨bn, 0, none⟩) s.nodes.length c1) := HSV4.out.blk.cell 0
      have s1 : v4.cell? ⟨w1.heap.size, 1, none⟩ = some (.slice (some ⟨b, 0, none⟩) s.jobs.length c2) := HSV4.out.blk.cell 1
      have s2 : v4.cell? ⟨w1.heap.size, 2, none⟩ = some (.int .i64 s.goal) := HSV4.out.blk.cell 2
      have s3 : v4.cell? ⟨w1.heap.size, 3, none⟩ = some (.int .i64 s.prior) := HSV4.out.blk.cell 3
      have s4 : v4.cell? ⟨w1.heap.size, 4, none⟩ = some (.int .i64 s.mode) := HSV4.out.blk.cell 4
      have s5 : v4.cell? ⟨w1.heap.size, 5, none⟩ = some (.int .i64 s.term) := HSV4.out.blk.cell 5
      obtain ⟨hat, hfr⟩ := HSV4.out.nodeAt' (n := n) HNK.out
      have p4 : v4.cell? ⟨bn, i * 5 + 4, none⟩ = some (.int .i64 n.job) := hat.c4
      have f4 := hfr (i * 5 + 4)
      clear hat hfr
      have hs := HSV4.out.setN' (n := n) (n' := { n with job := 0 }) HNK.out 4 (by omega) (.int .i64 0) rfl
      obtain ⟨v5, hw⟩ : ∃ W, W = v4.setCell ⟨bn, i * 5 + 4, none⟩ (.int .i64 0) := ⟨_, rfl⟩
      rw [← hw] at hs
      have HSV5 := Lib.hid hs.1
      have HCV5 : Hid (Chg F w3 v5) := Lib.hid (Chg.trans HCV4.out hs.2 (fun _ _ h => h))
      clear hs
      go_upto_region 70 with (fail)
      rw [← hw]
      clear hw f4 p4 o0 o1 o2 o3 s0 s1 s2 s3 s4 s5
      have HSE := Lib.hid (show Sg F v5 w1.heap.size (.slice (some ⟨bn, 0, none⟩) s.nodes.length c1) (.slice (some ⟨b, 0, none⟩) s.jobs.length c2) S2 by rw [HS2.out]; exact HSV5.out)
      have HCE : Hid (Chg F w3 v5) := Lib.hid HCV5.out
      have HQE := Lib.hid (HBX.out _ HCE.out)
      have m0 : v5.cell? ⟨w1.heap.size, 0, none⟩ = some (.slice (some ⟨bn, 0, none⟩) s.nodes.length c1) := HSE.out.blk.cell 0
      have m1 : v5.cell? ⟨w1.heap.size, 1, none⟩ = some (.slice (some ⟨b, 0, none⟩) s.jobs.length c2) := HSE.out.blk.cell 1
      have m2 : v5.cell? ⟨w1.heap.size, 2, none⟩ = some (.int .i64 S2.goal) := HSE.out.blk.cell 2
      have m3 : v5.cell? ⟨w1.heap.size, 3, none⟩ = some (.int .i64 S2.prior) := HSE.out.blk.cell 3
      have m4 : v5.cell? ⟨w1.heap.size, 4, none⟩ = some (.int .i64 S2.mode) := HSE.out.blk.cell 4
      have m5 : v5.cell? ⟨w1.heap.size, 5, none⟩ = some (.int .i64 S2.term) := HSE.out.blk.cell 5
      have r0 : v5.cell? ⟨w.heap.size + 3, 0, none⟩ = some (.slice none 0 0) := HQE.out.2.1.cell 0
      have g0 : v5.frozen? ⟨w.heap.size + 3, 0, none⟩ = false := HQE.out.2.1.frozen 0
      have r1 : v5.cell? ⟨w.heap.size + 3, 1, none⟩ = some (.slice none 0 0) := HQE.out.2.1.cell 1
      have g1 : v5.frozen? ⟨w.heap.size + 3, 1, none⟩ = false := HQE.out.2.1.frozen 1
      have r2 : v5.cell? ⟨w.heap.size + 3, 2, none⟩ = some (.int .i64 0) := HQE.out.2.1.cell 2
      have g2 : v5.frozen? ⟨w.heap.size + 3, 2, none⟩ = false := HQE.out.2.1.frozen 2
      have r3 : v5.cell? ⟨w.heap.size + 3, 3, none⟩ = some (.int .i64 0) := HQE.out.2.1.cell 3
      have g3 : v5.frozen? ⟨w.heap.size + 3, 3, none⟩ = false := HQE.out.2.1.frozen 3
      have r4 : v5.cell? ⟨w.heap.size + 3, 4, none⟩ = some (.int .i64 0) := HQE.out.2.1.cell 4
      have g4 : v5.frozen? ⟨w.heap.size + 3, 4, none⟩ = false := HQE.out.2.1.frozen 4
      have r5 : v5.cell? ⟨w.heap.size + 3, 5, none⟩ = some (.int .i64 0) := HQE.out.2.1.cell 5
      have g5 : v5.frozen? ⟨w.heap.size + 3, 5, none⟩ = false := HQE.out.2.1.frozen 5
      go_wp2
      have hq := (((((PB.start HQE.out.2.1).set 0 (.slice (some ⟨bn, 0, none⟩) s.nodes.length c1)).set 1 (.slice (some ⟨b, 0, none⟩) s.jobs.length c2)).set 2 (.int .i64 S2.goal)).set 3 (.int .i64 S2.prior)).set 4 (.int .i64 S2.mode)
      replace hq := hq.set 5 (.int .i64 S2.term)
      simp only [List.setIfInBounds_toArray, List.set_cons_zero, List.set_cons_succ] at hq
      obtain ⟨wf, hwf⟩ : ∃ W, W = ((((((v5.setCell ⟨w.heap.size + 3, 0, none⟩ (.slice (some ⟨bn, 0, none⟩) s.nodes.length c1)).setCell ⟨w.heap.size + 3, 1, none⟩ (.slice (some ⟨b, 0, none⟩) s.jobs.length c2)).setCell ⟨w.heap.size + 3, 2, none⟩ (.int .i64 S2.goal)).setCell ⟨w.heap.size + 3, 3, none⟩ (.int .i64 S2.prior)).setCell ⟨w.heap.size + 3, 4, none⟩ (.int .i64 S2.mode)).setCell ⟨w.heap.size + 3, 5, none⟩ (.int .i64 S2.term)) := ⟨_, rfl⟩
      rw [← hwf] at hq
      have hc1 : Chg (fun x => x = w.heap.size + 3) v5 wf := hq.chg
      have hsf : Sg F wf w1.heap.size (.slice (some ⟨bn, 0, none⟩) s.nodes.length c1) (.slice (some ⟨b, 0, none⟩) s.jobs.length c2) S2 := ObjF.chg HSE.out hc1 (fun x hx e => by have := HF4.out x hx; have e : x = w.heap.size + 3 := e; omega)
      have hxf := hq.below _ _ HQE.out.2.2 (by omega)
      rw [hwf] at hq hsf hxf
      exact bodyPost_ret (results_cell_tmp_row rfl _ _ (w.heap.size + 3) 27 _ (0, 0) _ rfl hq.blk rfl rfl (by kernel_rfl)) rfl ⟨.slice (some ⟨bn, 0, none⟩) s.nodes.length c1, .slice (some ⟨b, 0, none⟩) s.jobs.length c2, rfl, hsf.rd, hxf, hsf.own4 HF4.out⟩

end Go.Proofs.YtnnilalnkkbdoaaDoor

/- The reference of layer 9: Apply, kind 21. -/
namespace Go.Proofs.YtnnilalnkkbdoaaDoor
open Go.RowKit

set_option maxRecDepth 100000 in
set_option maxHeartbeats 4000000 in
theorem RefAp_21 (c : Cf) (vn vj : Value) (s : St) (a1 a2 a3 a4 a5 a6 : Int) (w : World) (h : RdSt w vn vj s) (hR : RightP c s) (hz : (applyS c s (21, a1, a2, a3, a4, a5, a6)).2 = 0) :
    Calls Tryd.prog 15 #[cfV c, stV vn vj s, .agg #[.int .i64 21, .int .i64 a1, .int .i64 a2, .int .i64 a3, .int .i64 a4, .int .i64 a5, .int .i64 a6]] w fun e w' => ∃ vn' vj', e = .returned (.tuple #[stV vn' vj' (applyS c s (21, a1, a2, a3, a4, a5, a6)).1, .int .i64 (applyS c s (21, a1, a2, a3, a4, a5, a6)).2]) ∧ RdSt w' vn' vj' (applyS c s (21, a1, a2, a3, a4, a5, a6)).1 ∧ Ext w w' ∧ ∀ k, vn'.ownBlock = some k ∨ vj'.ownBlock = some k → w.heap.size ≤ k := by
  have hR6 := hR.len.2
  have hj24 := hR.nj
  have he : (applyS c s (21, a1, a2, a3, a4, a5, a6)).1 = { s with term := s.term + 1 } := by
    revert hz
    unfold applyS
    split
    · intro hz
      cases hz
    · unfold doS
      show (newtermS s).2 = 0 → (newtermS s).1 = _
      unfold newtermS
      split <;> intro hz <;> first | rfl | (cases hz)
  have hwt : IntKind.i64.wrap (s.term + 1) = s.term + 1 := IntWalk.i64_in _ (by have := hR.t0; have := hR.t9; omega)
  have hwt' : wrap64 (s.term + 1) = s.term + 1 := IntWalk.wrap64_in _ (by have := hR.t0; have := hR.t9; omega)
  obtain ⟨S2, hS2⟩ : ∃ S2, S2 = (applyS c s (21, a1, a2, a3, a4, a5, a6)).1 := ⟨_, rfl⟩
  obtain ⟨er, her⟩ : ∃ er, er = (applyS c s (21, a1, a2, a3, a4, a5, a6)).2 := ⟨_, rfl⟩
  rw [← hS2, ← her]
  have HS2 := Lib.hid (hS2.trans he)
  rw [← her] at hz
  subst hz
  have HCP := Lib.hid fun W (hx : Ext w W) => RefCopy_any vn vj s W (h.ext hx) (by omega) (by omega)
  have HWY : Hid (∀ W vn' vj', RdSt W vn' vj' s → Calls Tryd.prog 40 #[cfV c, stV vn' vj' s, .agg #[.int .i64 21, .int .i64 a1, .int .i64 a2, .int .i64 a3, .int .i64 a4, .int .i64 a5, .int .i64 a6]] W fun e w' => e = .returned (.int .i64 0) ∧ Ext W w') := Lib.hid fun W vn' vj' hr => (RefWhy_any c vn' vj' s (21, a1, a2, a3, a4, a5, a6) W hr hR).mono (by rintro e w' ⟨h1, h2⟩; rw [← her] at h1; exact ⟨h1, h2⟩)
  obtain ⟨An, cn, rfl, -, -⟩ := h.nodes.slice_
  obtain ⟨Aj, cj, rfl, -, -⟩ := h.jobs.slice_
  obtain ⟨W4, hW4, hx4, hb0, hb1, hb2, hb3, hs4⟩ := four_blocks w 23 27 29 27 #[.int .i64 c.nodes, .int .i64 c.queues, .int .i64 c.quota, .int .i64 c.wave, .int .i64 c.lease, .int .i64 c.retry, .int .i64 c.deadline, .int .i64 c.room, .int .i64 c.disk] #[.slice An s.nodes.length cn, .slice Aj s.jobs.length cj, .int .i64 s.goal, .int .i64 s.prior, .int .i64 s.mode, .int .i64 s.term] #[.int .i64 21, .int .i64 a1, .int .i64 a2, .int .i64 a3, .int .i64 a4, .int .i64 a5, .int .i64 a6] #[.slice none 0 0, .slice none 0 0, .int .i64 0, .int .i64 0, .int .i64 0, .int .i64 0]
  have HX4 := Lib.hid hx4
  have HB0 := Lib.hid hb0
  have HB1 := Lib.hid hb1
  have HB2 := Lib.hid hb2
  have HB3 := Lib.hid hb3
  have HS4 := Lib.hid hs4
  unfold stV at HCP
  unfold stV cfV at HWY
  unfold stV cfV
  clear hx4 hb0 hb1 hb2 hb3 hs4 h hS2 her he hR6 hj24
  go_enter Tryd.func15, Tryd.ntmps15
  go_wp2_with fail
  rw [← hW4]
  clear hW4
  refine (HCP.out _ HX4.out).mono ?_
  rintro e1 w1 ⟨vn1, vj1, rfl, ho, hx1⟩
  have HRD : RdSt w1 vn1 vj1 s := ⟨RdS.own ho.nodes, RdS.own ho.jobs⟩
  obtain ⟨A1, c1, rfl, -, -⟩ := HRD.nodes.slice_
  obtain ⟨A2, c2, rfl, -, -⟩ := HRD.jobs.slice_
  clear HRD
  obtain ⟨w2, hw2⟩ : ∃ W, W = w1.alloc (.cells #[.slice A1 s.nodes.length c1, .slice A2 s.jobs.length c2, .int .i64 s.goal, .int .i64 s.prior, .int .i64 s.mode, .int .i64 s.term] 27) := ⟨_, rfl⟩
  have hx2 : Ext w1 w2 := by rw [hw2]; exact Below.alloc (Ext.refl _) (Nat.le_refl _) _
  have hsz : w2.heap.size = w1.heap.size + 1 := by rw [hw2]; simp
  obtain ⟨F, hsg, hF4⟩ : ∃ F : Fp, Sg F w2 w1.heap.size (.slice A1 s.nodes.length c1) (.slice A2 s.jobs.length c2) s ∧ ∀ k, F k → w.heap.size + 4 ≤ k := ⟨fun k => W4.heap.size ≤ k ∧ k < w2.heap.size, Sg.make (w0 := W4) (base := W4.heap.size) (by rw [hw2]; exact Blk.new _ _ _) hx1.size ⟨by rw [hw2]; exact ho.nodes.alloc _, by rw [hw2]; exact ho.jobs.alloc _, ho.off⟩ (Nat.le_refl _) (fun k hk => by
    rcases hk with hk | hk
    · have := (ho.nodes.lt k hk).2
      omega
    · have := (ho.jobs.lt k hk).2
      omega), fun k hk => by have := HS4.out; omega⟩
  have HX2 := Lib.hid (Ext.trans (Ext.trans HX4.out hx1) hx2)
  have HF4 := Lib.hid hF4
  have HSG := Lib.hid hsg
  have HC0 := Lib.hid ((HB0.out.ext hx1).ext hx2)
  have HC2 := Lib.hid ((HB2.out.ext hx1).ext hx2)
  have HC3 := Lib.hid ((HB3.out.ext hx1).ext hx2)
  clear ho hx1 hx2 hsz hsg hF4 HB0 HB1 HB2 HB3 HS4 HX4 HCP
  go_upto_region 2 with (fail)
  rw [← hw2]
  clear hw2
  have k0 : w2.cell? ⟨w.heap.size, 0, none⟩ = some (.int .i64 c.nodes) := HC0.out.cell 0
  have k1 : w2.cell? ⟨w.heap.size, 1, none⟩ = some (.int .i64 c.queues) := HC0.out.cell 1
  have k2 : w2.cell? ⟨w.heap.size, 2, none⟩ = some (.int .i64 c.quota) := HC0.out.cell 2
  have k3 : w2.cell? ⟨w.heap.size, 3, none⟩ = some (.int .i64 c.wave) := HC0.out.cell 3
  have k4 : w2.cell? ⟨w.heap.size, 4, none⟩ = some (.int .i64 c.lease) := HC0.out.cell 4
  have k5 : w2.cell? ⟨w.heap.size, 5, none⟩ = some (.int .i64 c.retry) := HC0.out.cell 5
  have k6 : w2.cell? ⟨w.heap.size, 6, none⟩ = some (.int .i64 c.deadline) := HC0.out.cell 6
  have k7 : w2.cell? ⟨w.heap.size, 7, none⟩ = some (.int .i64 c.room) := HC0.out.cell 7
  have k8 : w2.cell? ⟨w.heap.size, 8, none⟩ = some (.int .i64 c.disk) := HC0.out.cell 8
  have o0 : w2.cell? ⟨w.heap.size + 2, 0, none⟩ = some (.int .i64 21) := HC2.out.cell 0
  have o1 : w2.cell? ⟨w.heap.size + 2, 1, none⟩ = some (.int .i64 a1) := HC2.out.cell 1
  have o2 : w2.cell? ⟨w.heap.size + 2, 2, none⟩ = some (.int .i64 a2) := HC2.out.cell 2
  have o3 : w2.cell? ⟨w.heap.size + 2, 3, none⟩ = some (.int .i64 a3) := HC2.out.cell 3
  have o4 : w2.cell? ⟨w.heap.size + 2, 4, none⟩ = some (.int .i64 a4) := HC2.out.cell 4
  have o5 : w2.cell? ⟨w.heap.size + 2, 5, none⟩ = some (.int .i64 a5) := HC2.out.cell 5
  have o6 : w2.cell? ⟨w.heap.size + 2, 6, none⟩ = some (.int .i64 a6) := HC2.out.cell 6
  have s0 : w2.cell? ⟨w1.heap.size, 0, none⟩ = some (.slice A1 s.nodes.length c1) := HSG.out.blk.cell 0
  have s1 : w2.cell? ⟨w1.heap.size, 1, none⟩ = some (.slice A2 s.jobs.length c2) := HSG.out.blk.cell 1
  have s2 : w2.cell? ⟨w1.heap.size, 2, none⟩ = some (.int .i64 s.goal) := HSG.out.blk.cell 2
  have s3 : w2.cell? ⟨w1.heap.size, 3, none⟩ = some (.int .i64 s.prior) := HSG.out.blk.cell 3
  have s4 : w2.cell? ⟨w1.heap.size, 4, none⟩ = some (.int .i64 s.mode) := HSG.out.blk.cell 4
  have s5 : w2.cell? ⟨w1.heap.size, 5, none⟩ = some (.int .i64 s.term) := HSG.out.blk.cell 5
  go_wp2_with fail
  refine (HWY.out _ _ _ HSG.out.rd).mono ?_
  rintro e3 w3 ⟨rfl, hx3⟩
  have HX3 := Lib.hid (HX2.out.trans hx3)
  have HSG3 := Lib.hid (HSG.out.ext hx3)
  have HO3 := Lib.hid (HC2.out.ext hx3)
  have HV3 := Lib.hid (HC3.out.ext hx3)
  have HBX : Hid (∀ W, Chg F w3 W → Blk W (w.heap.size + 2) 29 #[.int .i64 21, .int .i64 a1, .int .i64 a2, .int .i64 a3, .int .i64 a4, .int .i64 a5, .int .i64 a6] ∧ Blk W (w.heap.size + 3) 27 #[.slice none 0 0, .slice none 0 0, .int .i64 0, .int .i64 0, .int .i64 0, .int .i64 0] ∧ Ext w W) := Lib.hid fun W hc => ⟨(hc.block _ HO3.out.lt (fun hf => by have := HF4.out _ hf; omega)).trans HO3.out, (hc.block _ HV3.out.lt (fun hf => by have := HF4.out _ hf; omega)).trans HV3.out, hc.ext HX3.out (fun k hf => by have := HF4.out _ hf; omega)⟩
  clear hx3 HX2 HSG HC0 HC2 HC3 HWY k0 k1 k2 k3 k4 k5 k6 k7 k8 o0 o1 o2 o3 o4 o5 o6 s0 s1 s2 s3 s4 s5
  have o0 : w3.cell? ⟨w.heap.size + 2, 0, none⟩ = some (.int .i64 21) := (HBX.out _ (Chg.refl F w3)).1.cell 0
  have o1 : w3.cell? ⟨w.heap.size + 2, 1, none⟩ = some (.int .i64 a1) := (HBX.out _ (Chg.refl F w3)).1.cell 1
  have o2 : w3.cell? ⟨w.heap.size + 2, 2, none⟩ = some (.int .i64 a2) := (HBX.out _ (Chg.refl F w3)).1.cell 2
  have o3 : w3.cell? ⟨w.heap.size + 2, 3, none⟩ = some (.int .i64 a3) := (HBX.out _ (Chg.refl F w3)).1.cell 3
  have s0 : w3.cell? ⟨w1.heap.size, 0, none⟩ = some (.slice A1 s.nodes.length c1) := HSG3.out.blk.cell 0
  have s1 : w3.cell? ⟨w1.heap.size, 1, none⟩ = some (.slice A2 s.jobs.length c2) := HSG3.out.blk.cell 1
  have s2 : w3.cell? ⟨w1.heap.size, 2, none⟩ = some (.int .i64 s.goal) := HSG3.out.blk.cell 2
  have s3 : w3.cell? ⟨w1.heap.size, 3, none⟩ = some (.int .i64 s.prior) := HSG3.out.blk.cell 3
  have s4 : w3.cell? ⟨w1.heap.size, 4, none⟩ = some (.int .i64 s.mode) := HSG3.out.blk.cell 4
  have s5 : w3.cell? ⟨w1.heap.size, 5, none⟩ = some (.int .i64 s.term) := HSG3.out.blk.cell 5
  have f0 := HSG3.out.fr 5
  have hs := HSG3.out.setG ({ s with term := s.term + 1 }) 5 (.int .i64 (s.term + 1)) rfl rfl rfl
  obtain ⟨v4, hw⟩ : ∃ W, W = w3.setCell ⟨w1.heap.size, 5, none⟩ (.int .i64 (s.term + 1)) := ⟨_, rfl⟩
  rw [← hw] at hs
  have HSV4 := Lib.hid hs.1
  have HCV4 : Hid (Chg F w3 v4) := Lib.hid (Chg.trans (Chg.refl F w3) hs.2 (fun _ _ h => h))
  clear hs
  go_upto_region 70 with (fail)
  rw [← hw]
  clear hw f0 o0 o1 o2 o3 s0 s1 s2 s3 s4 s5
  have HSE := Lib.hid (show Sg F v4 w1.heap.size (.slice A1 s.nodes.length c1) (.slice A2 s.jobs.length c2) S2 by rw [HS2.out]; exact HSV4.out)
  have HCE : Hid (Chg F w3 v4) := Lib.hid HCV4.out
  have HQE := Lib.hid (HBX.out _ HCE.out)
  have m0 : v4.cell? ⟨w1.heap.size, 0, none⟩ = some (.slice A1 s.nodes.length c1) := HSE.out.blk.cell 0
  have m1 : v4.cell? ⟨w1.heap.size, 1, none⟩ = some (.slice A2 s.jobs.length c2) := HSE.out.blk.cell 1
  have m2 : v4.cell? ⟨w1.heap.size, 2, none⟩ = some (.int .i64 S2.goal) := HSE.out.blk.cell 2
  have m3 : v4.cell? ⟨w1.heap.size, 3, none⟩ = some (.int .i64 S2.prior) := HSE.out.blk.cell 3
  have m4 : v4.cell? ⟨w1.heap.size, 4, none⟩ = some (.int .i64 S2.mode) := HSE.out.blk.cell 4
  have m5 : v4.cell? ⟨w1.heap.size, 5, none⟩ = some (.int .i64 S2.term) := HSE.out.blk.cell 5
  have r0 : v4.cell? ⟨w.heap.size + 3, 0, none⟩ = some (.slice none 0 0) := HQE.out.2.1.cell 0
  have g0 : v4.frozen? ⟨w.heap.size + 3, 0, none⟩ = false := HQE.out.2.1.frozen 0
  have r1 : v4.cell? ⟨w.heap.size + 3, 1, none⟩ = some (.slice none 0 0) := HQE.out.2.1.cell 1
  have g1 : v4.frozen? ⟨w.heap.size + 3, 1, none⟩ = false := HQE.out.2.1.frozen 1
  have r2 : v4.cell? ⟨w.heap.size + 3, 2, none⟩ = some (.int .i64 0) := HQE.out.2.1.cell 2
  have g2 : v4.frozen? ⟨w.heap.size + 3, 2, none⟩ = false := HQE.out.2.1.frozen 2
  have r3 : v4.cell? ⟨w.heap.size + 3, 3, none⟩ = some (.int .i64 0) := HQE.out.2.1.cell 3
  have g3 : v4.frozen? ⟨w.heap.size + 3, 3, none⟩ = false := HQE.out.2.1.frozen 3
  have r4 : v4.cell? ⟨w.heap.size + 3, 4, none⟩ = some (.int .i64 0) := HQE.out.2.1.cell 4
  have g4 : v4.frozen? ⟨w.heap.size + 3, 4, none⟩ = false := HQE.out.2.1.frozen 4
  have r5 : v4.cell? ⟨w.heap.size + 3, 5, none⟩ = some (.int .i64 0) := HQE.out.2.1.cell 5
  have g5 : v4.frozen? ⟨w.heap.size + 3, 5, none⟩ = false := HQE.out.2.1.frozen 5
  go_wp2
  have hq := (((((PB.start HQE.out.2.1).set 0 (.slice A1 s.nodes.length c1)).set 1 (.slice A2 s.jobs.length c2)).set 2 (.int .i64 S2.goal)).set 3 (.int .i64 S2.prior)).set 4 (.int .i64 S2.mode)
  replace hq := hq.set 5 (.int .i64 S2.term)
  simp only [List.setIfInBounds_toArray, List.set_cons_zero, List.set_cons_succ] at hq
  obtain ⟨wf, hwf⟩ : ∃ W, W = ((((((v4.setCell ⟨w.heap.size + 3, 0, none⟩ (.slice A1 s.nodes.length c1)).setCell ⟨w.heap.size + 3, 1, none⟩ (.slice A2 s.jobs.length c2)).setCell ⟨w.heap.size + 3, 2, none⟩ (.int .i64 S2.goal)).setCell ⟨w.heap.size + 3, 3, none⟩ (.int .i64 S2.prior)).setCell ⟨w.heap.size + 3, 4, none⟩ (.int .i64 S2.mode)).setCell ⟨w.heap.size + 3, 5, none⟩ (.int .i64 S2.term)) := ⟨_, rfl⟩
  rw [← hwf] at hq
  have hc1 : Chg (fun x => x = w.heap.size + 3) v4 wf := hq.chg
  have hsf : Sg F wf w1.heap.size (.slice A1 s.nodes.length c1) (.slice A2 s.jobs.length c2) S2 := ObjF.chg HSE.out hc1 (fun x hx e => by have := HF4.out x hx; have e : x = w.heap.size + 3 := e; omega)
  have hxf := hq.below _ _ HQE.out.2.2 (by omega)
  rw [hwf] at hq hsf hxf
  exact bodyPost_ret (results_cell_tmp_row rfl _ _ (w.heap.size + 3) 27 _ (0, 0) _ rfl hq.blk rfl rfl (by kernel_rfl)) rfl ⟨.slice A1 s.nodes.length c1, .slice A2 s.jobs.length c2, rfl, hsf.rd, hxf, hsf.own4 HF4.out⟩

end Go.Proofs.YtnnilalnkkbdoaaDoor

/- The reference of layer 9: Apply, of a state that may be. -/
namespace Go.Proofs.YtnnilalnkkbdoaaDoor
open Go.RowKit

theorem RefApply_own (c : Cf) (vn vj : Value) (s : St) (o : OpN) (w : World) (h : RdSt w vn vj s) (hR : RightP c s) :
    Calls Tryd.prog 15 #[cfV c, stV vn vj s, opV o] w fun e w' => ∃ vn' vj', e = .returned (.tuple #[stV vn' vj' (applyS c s o).1, .int .i64 (applyS c s o).2]) ∧ RdSt w' vn' vj' (applyS c s o).1 ∧ Ext w w' ∧ ∀ k, vn'.ownBlock = some k ∨ vj'.ownBlock = some k → w.heap.size ≤ k := by
  obtain ⟨kd, a1, a2, a3, a4, a5, a6⟩ := o
  by_cases hz : (applyS c s (kd, a1, a2, a3, a4, a5, a6)).2 = 0
  · have hr : rightO (kd, a1, a2, a3, a4, a5, a6) = true := by
      cases hr : rightO (kd, a1, a2, a3, a4, a5, a6)
      · unfold applyS at hz
        rw [hr, if_pos rfl] at hz
        cases hz
      · rfl
    have hk := (rightO_iff.1 hr).1
    dsimp only at hk
    have hk2 : kd = 1 ∨ kd = 2 ∨ kd = 3 ∨ kd = 4 ∨ kd = 5 ∨ kd = 6 ∨ kd = 7 ∨ kd = 8 ∨ kd = 9 ∨ kd = 10 ∨ kd = 11 ∨ kd = 12 ∨ kd = 13 ∨ kd = 14 ∨ kd = 15 ∨ kd = 16 ∨ kd = 17 ∨ kd = 18 ∨ kd = 19 ∨ kd = 20 ∨ kd = 21 := by omega
    rcases hk2 with rfl | rfl | rfl | rfl | rfl | rfl | rfl | rfl | rfl | rfl | rfl | rfl | rfl | rfl | rfl | rfl | rfl | rfl | rfl | rfl | rfl
    · exact RefAp_1 c vn vj s a1 a2 a3 a4 a5 a6 w h hR hz
    · exact RefAp_2 c vn vj s a1 a2 a3 a4 a5 a6 w h hR hz
    · exact RefAp_3 c vn vj s a1 a2 a3 a4 a5 a6 w h hR hz
    · exact RefAp_4 c vn vj s a1 a2 a3 a4 a5 a6 w h hR hz
    · exact RefAp_5 c vn vj s a1 a2 a3 a4 a5 a6 w h hR hz
    · exact RefAp_6 c vn vj s a1 a2 a3 a4 a5 a6 w h hR hz
    · obtain ⟨i, n, ha, hi, -, -, -⟩ := ok_node (by decide) hz
      subst ha
      rcases hR.job_of hi with h0 | ⟨k, j, hj0, hj, -⟩
      · exact RefAp_7a c vn vj s a2 a3 a4 a5 a6 i n hi h0 w h hR hz
      · exact RefAp_7b c vn vj s a2 a3 a4 a5 a6 i k n j hi hj hj0 w h hR hz
    · exact RefAp_8 c vn vj s a1 a2 a3 a4 a5 a6 w h hR hz
    · exact RefAp_9 c vn vj s a1 a2 a3 a4 a5 a6 w h hR hz
    · exact RefAp_10 c vn vj s a1 a2 a3 a4 a5 a6 w h hR hz
    · exact RefAp_11 c vn vj s a1 a2 a3 a4 a5 a6 w h hR hz
    · exact RefAp_12 c vn vj s a1 a2 a3 a4 a5 a6 w h hR hz
    · exact RefAp_13 c vn vj s a1 a2 a3 a4 a5 a6 w h hR hz
    · exact RefAp_14 c vn vj s a1 a2 a3 a4 a5 a6 w h hR hz
    · exact RefAp_15 c vn vj s a1 a2 a3 a4 a5 a6 w h hR hz
    · exact RefAp_16 c vn vj s a1 a2 a3 a4 a5 a6 w h hR hz
    · exact RefAp_17 c vn vj s a1 a2 a3 a4 a5 a6 w h hR hz
    · exact RefAp_18 c vn vj s a1 a2 a3 a4 a5 a6 w h hR hz
    · exact RefAp_19 c vn vj s a1 a2 a3 a4 a5 a6 w h hR hz
    · exact RefAp_20 c vn vj s a1 a2 a3 a4 a5 a6 w h hR hz
    · exact RefAp_21 c vn vj s a1 a2 a3 a4 a5 a6 w h hR hz
  · exact RefAp_E c vn vj s kd a1 a2 a3 a4 a5 a6 w h hR hz
theorem RefApply_any (c : Cf) (vn vj : Value) (s : St) (o : OpN) (w : World) (h : RdSt w vn vj s) (hR : RightP c s) :
    Calls Tryd.prog 15 #[cfV c, stV vn vj s, opV o] w fun e w' => ∃ vn' vj', e = .returned (.tuple #[stV vn' vj' (applyS c s o).1, .int .i64 (applyS c s o).2]) ∧ RdSt w' vn' vj' (applyS c s o).1 ∧ Ext w w' :=
  (RefApply_own c vn vj s o w h hR).mono (by rintro e w' ⟨vn', vj', rfl, hr, hx, -⟩; exact ⟨vn', vj', rfl, hr, hx⟩)

end Go.Proofs.YtnnilalnkkbdoaaDoor

/- The reference of layer 9: may a state be. -/
namespace Go.Proofs.YtnnilalnkkbdoaaDoor
open Go.RowKit

/-- What is asked of a node of a job, beside another. -/
def OwnP (k : Nat) (j : Jb) (i : Nat) (n : Nd) : Prop := (n.job = (k : Int) + 1 ↔ hasS j.nodes i = true) ∧ (n.job = (k : Int) + 1 → n.up = true ∧ n.moving = false)

/-- Behind the job's nodes were asked as its phase has it. -/
structure RrCut (w4 : World) (s : St) (j : Jb) (gj : Nat) (wx : World) : Prop where
  ext : Ext w4 wx
  blk : Blk wx gj 59 #[.int .i64 j.queue, .int .i64 j.prio, .int .i64 j.least, .int .i64 j.most, .int .i64 j.work, .int .i64 j.pin, .int .i64 j.phase, .int .i64 j.inc, .int .i64 j.nodes, .int .i64 j.since, .int .i64 j.til, .int .i64 j.epoch]
  fits : (1 ≤ j.phase → j.phase ≤ 3 → FitsP s j j.nodes) ∧ (¬ (1 ≤ j.phase ∧ j.phase ≤ 3) → j.nodes = 0)

set_option maxRecDepth 100000 in
set_option maxHeartbeats 16000000 in
theorem RefRight_any (c : Cf) (vn vj : Value) (s : St) (w : World) (hr : RdNd w vn s.nodes) (hrj : RdJb w vj s.jobs) :
    Calls Tryd.prog 13 #[cfV c, stV vn vj s] w fun e w' => ∃ b, e = .returned (.bool b) ∧ (b = true ↔ RightP c s) ∧ Ext w w' := by
  have HM := Lib.hid fun w' => RefMay_any c w'
  have HNB := Lib.hid fun n w' => RefNumber_any n w'
  have HHS := Lib.hid fun set i hi W => RefHas_any set i hi W
  have HAS := Lib.hid fun j W => RefAsked_any c j W
  have HFT : Hid (∀ j set W, s.nodes.length ≤ 6 → (∀ (i : Nat) (n : Nd), s.nodes[i]? = some n → 1 ≤ n.version) → Ext w W → Calls Tryd.prog 37 #[stV vn vj s, jbV j, .int .i64 set] W fun e w' => ∃ b, e = .returned (.bool b) ∧ (b = true ↔ FitsP s j set) ∧ Ext W w') := Lib.hid fun j set W h1 h2 hx => RefFits_any vn vj s j set W (hr.ext hx) h1 h2
  have HD : Hid (∀ w' q, Ext w w' → Calls Tryd.prog 22 #[stV vn vj s, .int .i64 q] w' fun e w'' => e = .returned (.int .i64 (drainsS s q : Int)) ∧ Ext w' w'') := Lib.hid fun w' q hx => RefDrains_any vn vj s q w' (hrj.ext hx)
  obtain ⟨An, cn, rfl, hnc, hcm, hNN⟩ := has_cells hr
  obtain ⟨Aj, cj, rfl, hjc, hjm, hJJ⟩ := jobs_cells hrj
  have HNN := Lib.hid hNN
  have HJJ := Lib.hid hJJ
  obtain ⟨W2, hW2⟩ : ∃ W2, W2 = (w.alloc (.cells #[.int .i64 c.nodes, .int .i64 c.queues, .int .i64 c.quota, .int .i64 c.wave, .int .i64 c.lease, .int .i64 c.retry, .int .i64 c.deadline, .int .i64 c.room, .int .i64 c.disk] 23)).alloc (.cells #[.slice An s.nodes.length cn, .slice Aj s.jobs.length cj, .int .i64 s.goal, .int .i64 s.prior, .int .i64 s.mode, .int .i64 s.term] 27) := ⟨_, rfl⟩
  have hx2 : Ext w W2 := by rw [hW2]; exact ext2 w _ _ _ _
  have hbc : Blk W2 w.heap.size 23 #[.int .i64 c.nodes, .int .i64 c.queues, .int .i64 c.quota, .int .i64 c.wave, .int .i64 c.lease, .int .i64 c.retry, .int .i64 c.deadline, .int .i64 c.room, .int .i64 c.disk] := by rw [hW2]; exact (Blk.new w _ _).alloc _
  have hbs : Blk W2 (w.heap.size + 1) 27 #[.slice An s.nodes.length cn, .slice Aj s.jobs.length cj, .int .i64 s.goal, .int .i64 s.prior, .int .i64 s.mode, .int .i64 s.term] := by
    have := Blk.new (w.alloc (.cells #[.int .i64 c.nodes, .int .i64 c.queues, .int .i64 c.quota, .int .i64 c.wave, .int .i64 c.lease, .int .i64 c.retry, .int .i64 c.deadline, .int .i64 c.room, .int .i64 c.disk] 23)) 27 #[.slice An s.nodes.length cn, .slice Aj s.jobs.length cj, .int .i64 s.goal, .int .i64 s.prior, .int .i64 s.mode, .int .i64 s.term]
    rw [hW2]
    simpa using this
  have HX2 := Lib.hid hx2
  have HBS := Lib.hid hbs
  have HBC := Lib.hid hbc
  unfold stV at HFT HD
  unfold cfV at HM HAS
  unfold jbV at HFT HAS
  unfold stV cfV
  clear hr hrj hx2 hbs hbc hNN hJJ
  go_enter Tryd.func13, Tryd.ntmps13
  go_wp2_with fail
  rw [← hW2]
  clear hW2
  refine (HM.out _).mono ?_
  rintro e1 w1 ⟨rfl, hx1⟩
  have HX1 := Lib.hid (HX2.out.trans hx1)
  have HS1 := Lib.hid (HBS.out.ext hx1)
  have HC1 := Lib.hid (HBC.out.ext hx1)
  clear hx1 HX2 HBS HBC HM
  have s0 : w1.cell? ⟨w.heap.size + 1, 0, none⟩ = some (.slice An s.nodes.length cn) := HS1.out.cell 0
  have s1 : w1.cell? ⟨w.heap.size + 1, 1, none⟩ = some (.slice Aj s.jobs.length cj) := HS1.out.cell 1
  have s2 : w1.cell? ⟨w.heap.size + 1, 2, none⟩ = some (.int .i64 s.goal) := HS1.out.cell 2
  have s3 : w1.cell? ⟨w.heap.size + 1, 3, none⟩ = some (.int .i64 s.prior) := HS1.out.cell 3
  have s4 : w1.cell? ⟨w.heap.size + 1, 4, none⟩ = some (.int .i64 s.mode) := HS1.out.cell 4
  have s5 : w1.cell? ⟨w.heap.size + 1, 5, none⟩ = some (.int .i64 s.term) := HS1.out.cell 5
  have k0 : w1.cell? ⟨w.heap.size, 0, none⟩ = some (.int .i64 c.nodes) := HC1.out.cell 0
  cases hm : mayC c
  · have HNO : Hid (¬ RightP c s) := Lib.hid fun h => by
      have := h.may
      rw [hm] at this
      cases this
    go_wp2
    go_ret
    first | exact ⟨false, rfl, ⟨(fun h => by cases h), fun h => absurd h HNO.out⟩, HX1.out⟩ | exact .inl ⟨rfl, HNO.out, HX1.out⟩
  by_cases h_n : ¬ (s.nodes.length : Int) = c.nodes
  · have HNO : Hid (¬ RightP c s) := Lib.hid fun h => by exact h_n h.nn
    have e1 : ((s.nodes.length : Int) != c.nodes) = true := by rw [bne_iff_ne]; exact h_n
    clear h_n
    go_wp2
    go_ret
    first | exact ⟨false, rfl, ⟨(fun h => by cases h), fun h => absurd h HNO.out⟩, HX1.out⟩ | exact .inl ⟨rfl, HNO.out, HX1.out⟩
  have hnn := Classical.not_not.1 h_n
  have e1 : ((s.nodes.length : Int) != c.nodes) = false := by rw [hnn]; exact bne_self_eq_false _
  by_cases h_j : 24 < s.jobs.length
  · have HNO : Hid (¬ RightP c s) := Lib.hid fun h => by have := h.nj; omega
    have e2 : decide ((24 : Int) < (s.jobs.length : Int)) = true := decide_eq_true (by omega)
    have e2' : decide (24 < s.jobs.length) = true := decide_eq_true h_j
    clear h_j
    go_wp2
    go_ret
    first | exact ⟨false, rfl, ⟨(fun h => by cases h), fun h => absurd h HNO.out⟩, HX1.out⟩ | exact .inl ⟨rfl, HNO.out, HX1.out⟩
  have e2 : decide ((24 : Int) < (s.jobs.length : Int)) = false := decide_eq_false (by omega)
  have e2' : decide (24 < s.jobs.length) = false := decide_eq_false h_j
  by_cases h_g1 : s.goal < 1
  · have HNO : Hid (¬ RightP c s) := Lib.hid fun h => by have := h.g1; omega
    have d_g1 : decide (s.goal < 1) = true := decide_eq_true h_g1
    clear h_g1
    go_wp2
    go_ret
    first | exact ⟨false, rfl, ⟨(fun h => by cases h), fun h => absurd h HNO.out⟩, HX1.out⟩ | exact .inl ⟨rfl, HNO.out, HX1.out⟩
  have d_g1 : decide (s.goal < 1) = false := decide_eq_false h_g1
  by_cases h_g9 : 9 < s.goal
  · have HNO : Hid (¬ RightP c s) := Lib.hid fun h => by have := h.g9; omega
    have d_g9 : decide (9 < s.goal) = true := decide_eq_true h_g9
    clear h_g9
    go_wp2
    go_ret
    first | exact ⟨false, rfl, ⟨(fun h => by cases h), fun h => absurd h HNO.out⟩, HX1.out⟩ | exact .inl ⟨rfl, HNO.out, HX1.out⟩
  have d_g9 : decide (9 < s.goal) = false := decide_eq_false h_g9
  by_cases h_p1 : s.prior < 1
  · have HNO : Hid (¬ RightP c s) := Lib.hid fun h => by have := h.p1; omega
    have d_p1 : decide (s.prior < 1) = true := decide_eq_true h_p1
    clear h_p1
    go_wp2
    go_ret
    first | exact ⟨false, rfl, ⟨(fun h => by cases h), fun h => absurd h HNO.out⟩, HX1.out⟩ | exact .inl ⟨rfl, HNO.out, HX1.out⟩
  have d_p1 : decide (s.prior < 1) = false := decide_eq_false h_p1
  by_cases h_p9 : 9 < s.prior
  · have HNO : Hid (¬ RightP c s) := Lib.hid fun h => by have := h.p9; omega
    have d_p9 : decide (9 < s.prior) = true := decide_eq_true h_p9
    clear h_p9
    go_wp2
    go_ret
    first | exact ⟨false, rfl, ⟨(fun h => by cases h), fun h => absurd h HNO.out⟩, HX1.out⟩ | exact .inl ⟨rfl, HNO.out, HX1.out⟩
  have d_p9 : decide (9 < s.prior) = false := decide_eq_false h_p9
  by_cases h_m0 : s.mode < 0
  · have HNO : Hid (¬ RightP c s) := Lib.hid fun h => by have := h.m0; omega
    have d_m0 : decide (s.mode < 0) = true := decide_eq_true h_m0
    clear h_m0
    go_wp2
    go_ret
    first | exact ⟨false, rfl, ⟨(fun h => by cases h), fun h => absurd h HNO.out⟩, HX1.out⟩ | exact .inl ⟨rfl, HNO.out, HX1.out⟩
  have d_m0 : decide (s.mode < 0) = false := decide_eq_false h_m0
  by_cases h_m2 : 2 < s.mode
  · have HNO : Hid (¬ RightP c s) := Lib.hid fun h => by have := h.m2; omega
    have d_m2 : decide (2 < s.mode) = true := decide_eq_true h_m2
    clear h_m2
    go_wp2
    go_ret
    first | exact ⟨false, rfl, ⟨(fun h => by cases h), fun h => absurd h HNO.out⟩, HX1.out⟩ | exact .inl ⟨rfl, HNO.out, HX1.out⟩
  have d_m2 : decide (2 < s.mode) = false := decide_eq_false h_m2
  have HG : Hid ((1 ≤ s.goal ∧ s.goal ≤ 9) ∧ (1 ≤ s.prior ∧ s.prior ≤ 9) ∧ (0 ≤ s.mode ∧ s.mode ≤ 2)) := Lib.hid (by omega)
  clear h_g1 h_g9 h_p1 h_p9 h_m0 h_m2
  have hm2 : (1 ≤ c.nodes ∧ c.nodes ≤ 6) ∧ (1 ≤ c.queues ∧ c.queues ≤ 3) := by
    simp only [mayC, Bool.and_eq_true, inR_iff] at hm
    exact ⟨by omega, by omega⟩
  have hn6 : s.nodes.length ≤ 6 := by omega
  have hj24 : s.jobs.length ≤ 24 := by omega
  have HN6 := Lib.hid hn6
  have HJ24 := Lib.hid hj24
  have HM1 := Lib.hid hm
  have HNNN := Lib.hid hnn
  have HM2 := Lib.hid hm2.2
  clear hm hnn hm2 h_n h_j
  go_wp2_with fail
  refine (HNB.out _ _).mono ?_
  rintro e_ w_ ⟨rfl, rfl⟩
  cases h4 : inR s.term 0 1000000
  · have HNO : Hid (¬ RightP c s) := Lib.hid fun h => by
      have := inR_iff.2 ⟨h.t0, h.t9⟩
      rw [h4] at this
      cases this
    go_wp2
    go_ret
    first | exact ⟨false, rfl, ⟨(fun h => by cases h), fun h => absurd h HNO.out⟩, HX1.out⟩ | exact .inl ⟨rfl, HNO.out, HX1.out⟩
  have H4 := Lib.hid (inR_iff.1 h4)
  clear h4 e1 e2 e2' d_g1 d_g9 d_p1 d_p9 d_m0 d_m2 s2 s3 s4 s5 k0
  go_wp2_with fail
  clear s0 s1
  go_loopg [5] s.nodes.length (fun gg i wr => ∃ (q : Nat), i = .int .i64 q ∧ q ≤ s.nodes.length ∧ gg = s.nodes.length - q ∧ Hid (Ext w1 wr ∧ ∀ (i : Nat) n, i < q → s.nodes[i]? = some n → NodeP s n))
  case atStart => exact ⟨0, rfl, Nat.zero_le _, by omega, Lib.hid ⟨Ext.refl _, fun i n h => absurd h (Nat.not_lt_zero i)⟩⟩
  case round =>
    obtain ⟨q, rfl, hq, rfl, HR⟩ := hrel
    have s0 : wr.cell? ⟨w.heap.size + 1, 0, none⟩ = some (.slice An s.nodes.length cn) := (HS1.out.ext HR.out.1).cell 0
    have s1 : wr.cell? ⟨w.heap.size + 1, 1, none⟩ = some (.slice Aj s.jobs.length cj) := (HS1.out.ext HR.out.1).cell 1
    by_cases hlt : q < s.nodes.length
    · have d1 : decide ((q : Int) < (s.nodes.length : Int)) = true := decide_eq_true (by omega)
      have d1' : decide (q < s.nodes.length) = true := decide_eq_true hlt
      obtain ⟨⟨up, cd, mv, ver, job⟩, hnk⟩ : ∃ n, s.nodes[q]? = some n := ⟨_, List.getElem?_eq_getElem hlt⟩
      obtain ⟨bk, o, rfl, hb, hat⟩ := HNN.out q _ hnk
      obtain ⟨c0, c1, c2, c3, c4⟩ := hat.ext (HX1.out.trans HR.out.1) hb
      dsimp only at c0 c1 c2 c3 c4
      have x1 : (0 : Int) ≤ (q : Int) ∧ (q : Int) < (s.nodes.length : Int) := by omega
      have hlw : w.heap.size + 1 < wr.heap.size := (HS1.out.ext HR.out.1).lt
      have HNK := Lib.hid hnk
      have HLT := Lib.hid hlt
      have HXR := Lib.hid HR.out.1
      have HXE := Lib.hid (HX1.out.trans HR.out.1)
      have HNX : Hid (NodeP s ⟨up, cd, mv, ver, job⟩ → ∀ (i : Nat) n, i < q + 1 → s.nodes[i]? = some n → NodeP s n) := Lib.hid fun hp i m hi hm => by
        rcases Nat.lt_or_ge i q with h' | h'
        · exact HR.out.2 i m h' hm
        · obtain rfl : i = q := by omega
          rw [HNK.out] at hm
          cases hm
          exact hp
      clear hnk hlt hat hb HR
      by_cases h_v1 : ver < 1
      · have HNO : Hid (¬ RightP c s) := Lib.hid fun h => by have := (h.node q _ HNK.out).v1; (try dsimp only at this); omega
        have d_v1 : decide (ver < 1) = true := decide_eq_true h_v1
        clear h_v1
        go_wp2
        go_ret
        first | exact ⟨false, rfl, ⟨(fun h => by cases h), fun h => absurd h HNO.out⟩, Below.alloc HXE.out HXE.out.size _⟩ | exact .inl ⟨rfl, HNO.out, Below.alloc HXE.out HXE.out.size _⟩
      have d_v1 : decide (ver < 1) = false := decide_eq_false h_v1
      by_cases h_v9 : 9 < ver
      · have HNO : Hid (¬ RightP c s) := Lib.hid fun h => by have := (h.node q _ HNK.out).v9; (try dsimp only at this); omega
        have d_v9 : decide (9 < ver) = true := decide_eq_true h_v9
        clear h_v9
        go_wp2
        go_ret
        first | exact ⟨false, rfl, ⟨(fun h => by cases h), fun h => absurd h HNO.out⟩, Below.alloc HXE.out HXE.out.size _⟩ | exact .inl ⟨rfl, HNO.out, Below.alloc HXE.out HXE.out.size _⟩
      have d_v9 : decide (9 < ver) = false := decide_eq_false h_v9
      by_cases h_j0 : job < 0
      · have HNO : Hid (¬ RightP c s) := Lib.hid fun h => by have := (h.node q _ HNK.out).j0; (try dsimp only at this); omega
        have d_j0 : decide (job < 0) = true := decide_eq_true h_j0
        clear h_j0
        go_wp2
        go_ret
        first | exact ⟨false, rfl, ⟨(fun h => by cases h), fun h => absurd h HNO.out⟩, Below.alloc HXE.out HXE.out.size _⟩ | exact .inl ⟨rfl, HNO.out, Below.alloc HXE.out HXE.out.size _⟩
      have d_j0 : decide (job < 0) = false := decide_eq_false h_j0
      by_cases h_jl : (s.jobs.length : Int) < job
      · have HNO : Hid (¬ RightP c s) := Lib.hid fun h => by have := (h.node q _ HNK.out).jl; (try dsimp only at this); omega
        have d_jl : decide ((s.jobs.length : Int) < job) = true := decide_eq_true h_jl
        clear h_jl
        go_wp2
        go_ret
        first | exact ⟨false, rfl, ⟨(fun h => by cases h), fun h => absurd h HNO.out⟩, Below.alloc HXE.out HXE.out.size _⟩ | exact .inl ⟨rfl, HNO.out, Below.alloc HXE.out HXE.out.size _⟩
      have d_jl : decide ((s.jobs.length : Int) < job) = false := decide_eq_false h_jl
      cases mv
      · have HNX2 := Lib.hid (HNX.out ⟨by show 1 ≤ ver; omega, by show ver ≤ 9; omega, by show 0 ≤ job; omega, by show job ≤ _; omega, fun h => by cases h⟩)
        clear h_v1 h_v9 h_j0 h_jl HNX
        go_wp2_with fail
        go_roundg (s.nodes.length - (q + 1))
        case measure => have := HLT.out; omega
        case rel => exact ⟨q + 1, by go_num, HLT.out, rfl, Lib.hid ⟨Below.alloc HXR.out HXR.out.size _, HNX2.out⟩⟩
      cases up
      · have HNO : Hid (¬ RightP c s) := Lib.hid fun h => by have := (h.node q _ HNK.out).mv rfl; cases this.1
        clear h_v1 h_v9 h_j0 h_jl HNX
        go_wp2
        go_ret
        first | exact ⟨false, rfl, ⟨(fun h => by cases h), fun h => absurd h HNO.out⟩, Below.alloc HXE.out HXE.out.size _⟩ | exact .inl ⟨rfl, HNO.out, Below.alloc HXE.out HXE.out.size _⟩
      cases cd
      · have HNO : Hid (¬ RightP c s) := Lib.hid fun h => by have := (h.node q _ HNK.out).mv rfl; cases this.2.1
        clear h_v1 h_v9 h_j0 h_jl HNX
        go_wp2
        go_ret
        first | exact ⟨false, rfl, ⟨(fun h => by cases h), fun h => absurd h HNO.out⟩, Below.alloc HXE.out HXE.out.size _⟩ | exact .inl ⟨rfl, HNO.out, Below.alloc HXE.out HXE.out.size _⟩
      by_cases hj0 : job = 0
      · have e0 : (job == 0) = true := by rw [beq_iff_eq]; exact hj0
        have HNX2 := Lib.hid (HNX.out ⟨by show 1 ≤ ver; omega, by show ver ≤ 9; omega, by show 0 ≤ job; omega, by show job ≤ _; omega, fun _ => ⟨rfl, rfl, hj0⟩⟩)
        clear hj0 h_v1 h_v9 h_j0 h_jl HNX
        go_wp2_with fail
        go_roundg (s.nodes.length - (q + 1))
        case measure => have := HLT.out; omega
        case rel => exact ⟨q + 1, by go_num, HLT.out, rfl, Lib.hid ⟨Below.alloc HXR.out HXR.out.size _, HNX2.out⟩⟩
      · have e0 : (job == 0) = false := by rw [beq_eq_false_iff_ne]; exact hj0
        have HNO : Hid (¬ RightP c s) := Lib.hid fun h => by have := (h.node q _ HNK.out).mv rfl; exact hj0 this.2.2
        clear hj0 h_v1 h_v9 h_j0 h_jl HNX
        go_wp2
        go_ret
        first | exact ⟨false, rfl, ⟨(fun h => by cases h), fun h => absurd h HNO.out⟩, Below.alloc HXE.out HXE.out.size _⟩ | exact .inl ⟨rfl, HNO.out, Below.alloc HXE.out HXE.out.size _⟩
    · have d1 : decide ((q : Int) < (s.nodes.length : Int)) = false := decide_eq_false (by omega)
      have d1' : decide (q < s.nodes.length) = false := decide_eq_false hlt
      obtain rfl : q = s.nodes.length := by omega
      have HND : Hid (∀ (i : Nat) n, s.nodes[i]? = some n → NodeP s n) := Lib.hid fun i n hi => HR.out.2 i n (List.getElem?_eq_some_iff.1 hi).1 hi
      have HXr := Lib.hid HR.out.1
      have HVR : Hid (∀ (i : Nat) (n : Nd), s.nodes[i]? = some n → 1 ≤ n.version) := Lib.hid fun i n hi => (HND.out i n hi).v1
      clear HR hlt
      obtain ⟨wz, hwz⟩ : ∃ wz, wz = wr := ⟨_, rfl⟩
      go_wp2_with fail
      rw [← hwz]
      rw [← hwz] at HXr
      clear s0 s1 hwz
      obtain ⟨qn, hqn⟩ : ∃ qn : Nat, c.queues = (qn : Int) := ⟨c.queues.toNat, by have := HM2.out; omega⟩
      have HQN := Lib.hid hqn
      clear hqn d1 d1'
      go_loopg [7] qn (fun gg i wr => ∃ (q : Nat), i = .int .i64 q ∧ q ≤ qn ∧ gg = qn - q ∧ Hid (Ext w1 wr ∧ ∀ i : Nat, i < q → (drainsS s (i : Int) : Int) ≤ c.quota))
      case atStart => exact ⟨0, rfl, Nat.zero_le _, by omega, Lib.hid ⟨HXr.out, fun i h => absurd h (Nat.not_lt_zero i)⟩⟩
      case round =>
        obtain ⟨q, rfl, hq, rfl, HR⟩ := hrel
        have k1 : wr.cell? ⟨w.heap.size, 1, none⟩ = some (.int .i64 qn) := by rw [← HQN.out]; exact (HC1.out.ext HR.out.1).cell 1
        by_cases hlt : q < qn
        · have d1 : decide ((q : Int) < (qn : Int)) = true := decide_eq_true (by omega)
          have d1' : decide (q < qn) = true := decide_eq_true hlt
          have HLT := Lib.hid hlt
          have HXR := Lib.hid (HX1.out.trans HR.out.1)
          have hw1 : wrap64 ((q : Int) + 1) = (q : Int) + 1 := IntWalk.wrap64_in _ (by have := HM2.out; have := HQN.out; omega)
          have s0 : wr.cell? ⟨w.heap.size + 1, 0, none⟩ = some (.slice An s.nodes.length cn) := (HS1.out.ext HR.out.1).cell 0
          have s1 : wr.cell? ⟨w.heap.size + 1, 1, none⟩ = some (.slice Aj s.jobs.length cj) := (HS1.out.ext HR.out.1).cell 1
          have s2 : wr.cell? ⟨w.heap.size + 1, 2, none⟩ = some (.int .i64 s.goal) := (HS1.out.ext HR.out.1).cell 2
          have s3 : wr.cell? ⟨w.heap.size + 1, 3, none⟩ = some (.int .i64 s.prior) := (HS1.out.ext HR.out.1).cell 3
          have s4 : wr.cell? ⟨w.heap.size + 1, 4, none⟩ = some (.int .i64 s.mode) := (HS1.out.ext HR.out.1).cell 4
          have s5 : wr.cell? ⟨w.heap.size + 1, 5, none⟩ = some (.int .i64 s.term) := (HS1.out.ext HR.out.1).cell 5
          have k2 : wr.cell? ⟨w.heap.size, 2, none⟩ = some (.int .i64 c.quota) := (HC1.out.ext HR.out.1).cell 2
          have HK2 : Hid (∀ w', Ext wr w' → w'.cell? ⟨w.heap.size, 2, none⟩ = some (.int .i64 c.quota)) := Lib.hid fun w' h => (HC1.out.ext (HR.out.1.trans h)).cell 2
          generalize hD : (drainsS s (q : Int) : Int) = D at *
          have HDQ : Hid (∀ w', Ext w w' → Calls Tryd.prog 22 #[.agg #[.slice An s.nodes.length cn, .slice Aj s.jobs.length cj, .int .i64 s.goal, .int .i64 s.prior, .int .i64 s.mode, .int .i64 s.term], .int .i64 (q : Int)] w' fun e w'' => e = .returned (.int .i64 D) ∧ Ext w' w'') := Lib.hid (by rw [← hD]; exact fun w' h => HD.out w' (q : Int) h)
          go_wp2_with fail
          by_cases hov : c.quota < D
          · have d2 : decide (c.quota < D) = true := decide_eq_true hov
            have HNO : Hid (¬ RightP c s) := Lib.hid fun h => by
              have := h.drains q (by have := HQN.out; have := HLT.out; omega)
              omega
            clear hov
            go_region_with ((go_at_call 22); (first | (refine (HDQ.out _ HXR.out).mono ?_) | (refine (HDQ.out _ (ext_drew9 HXR.out)).mono ?_)); (rintro e9 w9 ⟨rfl, hx9⟩); (have hx9' : Ext wr w9 := Ext.of_drew hx9); (have k9 := HK2.out w9 hx9'))
            all_goals
              have HX9 := Lib.hid (HXR.out.trans hx9')
              clear hx9 hx9' k9
              go_wp2
              go_ret
              first | exact ⟨false, rfl, ⟨(fun h => by cases h), fun h => absurd h HNO.out⟩, HX9.out⟩ | exact .inl ⟨rfl, HNO.out, HX9.out⟩
          · have d2 : decide (c.quota < D) = false := decide_eq_false hov
            have HLE : Hid (∀ i : Nat, i < q + 1 → (drainsS s (i : Int) : Int) ≤ c.quota) := Lib.hid fun i hi => by
              rcases Nat.lt_or_ge i q with h' | h'
              · exact HR.out.2 i h'
              · obtain rfl : i = q := by omega
                omega
            clear hov
            go_region_with ((go_at_call 22); (first | (refine (HDQ.out _ HXR.out).mono ?_) | (refine (HDQ.out _ (ext_drew9 HXR.out)).mono ?_)); (rintro e9 w9 ⟨rfl, hx9⟩); (have hx9' : Ext wr w9 := Ext.of_drew hx9); (have k9 := HK2.out w9 hx9'))
            all_goals
              have HX9 := Lib.hid (HR.out.1.trans hx9')
              clear hx9 hx9' k9
              go_wp2
              go_roundg (qn - (q + 1))
              case measure => have := HLT.out; omega
              case rel => exact ⟨q + 1, by go_num, HLT.out, rfl, Lib.hid ⟨HX9.out, HLE.out⟩⟩
        · have d1 : decide ((q : Int) < (qn : Int)) = false := decide_eq_false (by omega)
          have d1' : decide (q < qn) = false := decide_eq_false hlt
          obtain rfl : q = qn := by omega
          have HDR : Hid (∀ i : Nat, (i : Int) < c.queues → (drainsS s (i : Int) : Int) ≤ c.quota) := Lib.hid fun i hi => HR.out.2 i (by have := HQN.out; omega)
          have HXq := Lib.hid HR.out.1
          clear HR hlt
          obtain ⟨wz, hwz⟩ : ∃ wz, wz = wr := ⟨_, rfl⟩
          go_wp2_with fail
          rw [← hwz]
          rw [← hwz] at HXq
          clear k1 hwz d1 d1'
          go_loopg [8] s.jobs.length (fun gg i wr => ∃ (q : Nat), i = .int .i64 q ∧ q ≤ s.jobs.length ∧ gg = s.jobs.length - q ∧ Hid (Ext w1 wr ∧ ∀ (i : Nat) j, i < q → s.jobs[i]? = some j → JobP c s i j))
          case atStart => exact ⟨0, rfl, Nat.zero_le _, by omega, Lib.hid ⟨HXq.out, fun i n h => absurd h (Nat.not_lt_zero i)⟩⟩
          case round =>
            obtain ⟨q, rfl, hq, rfl, HR⟩ := hrel
            have s1 : wr.cell? ⟨w.heap.size + 1, 1, none⟩ = some (.slice Aj s.jobs.length cj) := (HS1.out.ext HR.out.1).cell 1
            by_cases hlt : q < s.jobs.length
            · have d1 : decide ((q : Int) < (s.jobs.length : Int)) = true := decide_eq_true (by omega)
              have d1' : decide (q < s.jobs.length) = true := decide_eq_true hlt
              obtain ⟨j, hj⟩ : ∃ j, s.jobs[q]? = some j := ⟨_, List.getElem?_eq_getElem hlt⟩
              obtain ⟨bk, o, rfl, hb, hat⟩ := HJJ.out q j hj
              obtain ⟨c0, c1, c2, c3, c4, c5, c6, c7, c8, c9, c10, c11⟩ := hat.ext (HX1.out.trans HR.out.1) hb
              have x1 : (0 : Int) ≤ (q : Int) ∧ (q : Int) < (s.jobs.length : Int) := by omega
              have hlw : w.heap.size + 1 < wr.heap.size := (HS1.out.ext HR.out.1).lt
              have HJK := Lib.hid hj
              have HLT := Lib.hid hlt
              have HNX : Hid (JobP c s q j → ∀ (i : Nat) n, i < q + 1 → s.jobs[i]? = some n → JobP c s i n) := Lib.hid fun hp i m hi hm => by
                rcases Nat.lt_or_ge i q with h' | h'
                · exact HR.out.2 i m h' hm
                · obtain rfl : i = q := by omega
                  rw [HJK.out] at hm
                  cases hm
                  exact hp
              obtain ⟨w3, hw3⟩ : ∃ W, W = wr.alloc (.cells #[.int .i64 j.queue, .int .i64 j.prio, .int .i64 j.least, .int .i64 j.most, .int .i64 j.work, .int .i64 j.pin, .int .i64 j.phase, .int .i64 j.inc, .int .i64 j.nodes, .int .i64 j.since, .int .i64 j.til, .int .i64 j.epoch] 59) := ⟨_, rfl⟩
              have hx3 : Ext wr w3 := by rw [hw3]; exact (Below.refl _ _).alloc (Nat.le_refl _) _
              obtain ⟨gj, hgj⟩ : ∃ g, g = wr.heap.size := ⟨_, rfl⟩
              have HBJ : Hid (Blk w3 gj 59 #[.int .i64 j.queue, .int .i64 j.prio, .int .i64 j.least, .int .i64 j.most, .int .i64 j.work, .int .i64 j.pin, .int .i64 j.phase, .int .i64 j.inc, .int .i64 j.nodes, .int .i64 j.since, .int .i64 j.til, .int .i64 j.epoch]) := Lib.hid (by rw [hw3, hgj]; exact Blk.new _ _ _)
              have HX3 := Lib.hid (HR.out.1.trans hx3)
              clear hj hat hb HR hx3 hlt
              go_upto_region 18 with (fail)
              rw [← hw3, ← hgj]
              clear hw3 hgj hlw c0 c1 c2 c3 c4 c5 c6 c7 c8 c9 c10 c11 s1
              have b0 : w3.cell? ⟨gj, 0, none⟩ = some (.int .i64 j.queue) := HBJ.out.cell 0
              have b1 : w3.cell? ⟨gj, 1, none⟩ = some (.int .i64 j.prio) := HBJ.out.cell 1
              have b2 : w3.cell? ⟨gj, 2, none⟩ = some (.int .i64 j.least) := HBJ.out.cell 2
              have b3 : w3.cell? ⟨gj, 3, none⟩ = some (.int .i64 j.most) := HBJ.out.cell 3
              have b4 : w3.cell? ⟨gj, 4, none⟩ = some (.int .i64 j.work) := HBJ.out.cell 4
              have b5 : w3.cell? ⟨gj, 5, none⟩ = some (.int .i64 j.pin) := HBJ.out.cell 5
              have b6 : w3.cell? ⟨gj, 6, none⟩ = some (.int .i64 j.phase) := HBJ.out.cell 6
              have b7 : w3.cell? ⟨gj, 7, none⟩ = some (.int .i64 j.inc) := HBJ.out.cell 7
              have b8 : w3.cell? ⟨gj, 8, none⟩ = some (.int .i64 j.nodes) := HBJ.out.cell 8
              have b9 : w3.cell? ⟨gj, 9, none⟩ = some (.int .i64 j.since) := HBJ.out.cell 9
              have b10 : w3.cell? ⟨gj, 10, none⟩ = some (.int .i64 j.til) := HBJ.out.cell 10
              have b11 : w3.cell? ⟨gj, 11, none⟩ = some (.int .i64 j.epoch) := HBJ.out.cell 11
              have k0 : w3.cell? ⟨w.heap.size, 0, none⟩ = some (.int .i64 c.nodes) := (HC1.out.ext HX3.out).cell 0
              have k1 : w3.cell? ⟨w.heap.size, 1, none⟩ = some (.int .i64 c.queues) := (HC1.out.ext HX3.out).cell 1
              have k2 : w3.cell? ⟨w.heap.size, 2, none⟩ = some (.int .i64 c.quota) := (HC1.out.ext HX3.out).cell 2
              have k3 : w3.cell? ⟨w.heap.size, 3, none⟩ = some (.int .i64 c.wave) := (HC1.out.ext HX3.out).cell 3
              have k4 : w3.cell? ⟨w.heap.size, 4, none⟩ = some (.int .i64 c.lease) := (HC1.out.ext HX3.out).cell 4
              have k5 : w3.cell? ⟨w.heap.size, 5, none⟩ = some (.int .i64 c.retry) := (HC1.out.ext HX3.out).cell 5
              have k6 : w3.cell? ⟨w.heap.size, 6, none⟩ = some (.int .i64 c.deadline) := (HC1.out.ext HX3.out).cell 6
              have k7 : w3.cell? ⟨w.heap.size, 7, none⟩ = some (.int .i64 c.room) := (HC1.out.ext HX3.out).cell 7
              have k8 : w3.cell? ⟨w.heap.size, 8, none⟩ = some (.int .i64 c.disk) := (HC1.out.ext HX3.out).cell 8
              go_wp2_with fail
              refine (HAS.out j _).mono ?_
              rintro e4 w4 ⟨rfl, hx4⟩
              have HX4 := Lib.hid (HX3.out.trans hx4)
              have HB4 := Lib.hid (HBJ.out.ext hx4)
              have HXE := Lib.hid (Ext.trans HX1.out HX4.out)
              clear hx4 HX3 HBJ b0 b1 b2 b3 b4 b5 b6 b7 b8 b9 b10 b11 k0 k1 k2 k3 k4 k5 k6 k7 k8
              have b6 : w4.cell? ⟨gj, 6, none⟩ = some (.int .i64 j.phase) := HB4.out.cell 6
              have b7 : w4.cell? ⟨gj, 7, none⟩ = some (.int .i64 j.inc) := HB4.out.cell 7
              have b8 : w4.cell? ⟨gj, 8, none⟩ = some (.int .i64 j.nodes) := HB4.out.cell 8
              have b9 : w4.cell? ⟨gj, 9, none⟩ = some (.int .i64 j.since) := HB4.out.cell 9
              have b10 : w4.cell? ⟨gj, 10, none⟩ = some (.int .i64 j.til) := HB4.out.cell 10
              have b11 : w4.cell? ⟨gj, 11, none⟩ = some (.int .i64 j.epoch) := HB4.out.cell 11
              cases ha : askedJ c j
              · have HNO : Hid (¬ RightP c s) := Lib.hid fun h => by
                  have := (h.job q j HJK.out).asked
                  rw [ha] at this
                  cases this
                go_wp2
                go_ret
                first | exact ⟨false, rfl, ⟨(fun h => by cases h), fun h => absurd h HNO.out⟩, HXE.out⟩ | exact .inl ⟨rfl, HNO.out, HXE.out⟩
              by_cases h_p0 : j.phase < 0
              · have HNO : Hid (¬ RightP c s) := Lib.hid fun h => by have := (h.job q j HJK.out).p0; omega
                have d_p0 : decide (j.phase < 0) = true := decide_eq_true h_p0
                clear h_p0
                go_wp2
                go_ret
                first | exact ⟨false, rfl, ⟨(fun h => by cases h), fun h => absurd h HNO.out⟩, HXE.out⟩ | exact .inl ⟨rfl, HNO.out, HXE.out⟩
              have d_p0 : decide (j.phase < 0) = false := decide_eq_false h_p0
              by_cases h_p4 : 4 < j.phase
              · have HNO : Hid (¬ RightP c s) := Lib.hid fun h => by have := (h.job q j HJK.out).p4; omega
                have d_p4 : decide (4 < j.phase) = true := decide_eq_true h_p4
                clear h_p4
                go_wp2
                go_ret
                first | exact ⟨false, rfl, ⟨(fun h => by cases h), fun h => absurd h HNO.out⟩, HXE.out⟩ | exact .inl ⟨rfl, HNO.out, HXE.out⟩
              have d_p4 : decide (4 < j.phase) = false := decide_eq_false h_p4
              go_wp2_with fail
              refine (HNB.out _ _).mono ?_
              rintro e_ w_ ⟨rfl, rfl⟩
              cases n_inc : inR j.inc 0 1000000
              · have HNO : Hid (¬ RightP c s) := Lib.hid fun h => by
                  have := inR_iff.2 ⟨(h.job q j HJK.out).i0, (h.job q j HJK.out).i9⟩
                  rw [n_inc] at this
                  cases this
                go_wp2
                go_ret
                first | exact ⟨false, rfl, ⟨(fun h => by cases h), fun h => absurd h HNO.out⟩, HXE.out⟩ | exact .inl ⟨rfl, HNO.out, HXE.out⟩
              go_wp2_with fail
              refine (HNB.out _ _).mono ?_
              rintro e_ w_ ⟨rfl, rfl⟩
              cases n_since : inR j.since 0 1000000
              · have HNO : Hid (¬ RightP c s) := Lib.hid fun h => by
                  have := inR_iff.2 ⟨(h.job q j HJK.out).s0, (h.job q j HJK.out).s9⟩
                  rw [n_since] at this
                  cases this
                go_wp2
                go_ret
                first | exact ⟨false, rfl, ⟨(fun h => by cases h), fun h => absurd h HNO.out⟩, HXE.out⟩ | exact .inl ⟨rfl, HNO.out, HXE.out⟩
              go_wp2_with fail
              refine (HNB.out _ _).mono ?_
              rintro e_ w_ ⟨rfl, rfl⟩
              cases n_til : inR j.til 0 1000000
              · have HNO : Hid (¬ RightP c s) := Lib.hid fun h => by
                  have := inR_iff.2 ⟨(h.job q j HJK.out).t0, (h.job q j HJK.out).t9⟩
                  rw [n_til] at this
                  cases this
                go_wp2
                go_ret
                first | exact ⟨false, rfl, ⟨(fun h => by cases h), fun h => absurd h HNO.out⟩, HXE.out⟩ | exact .inl ⟨rfl, HNO.out, HXE.out⟩
              by_cases h_e0 : j.epoch < 0
              · have HNO : Hid (¬ RightP c s) := Lib.hid fun h => by have := (h.job q j HJK.out).e0; omega
                have d_e0 : decide (j.epoch < 0) = true := decide_eq_true h_e0
                clear h_e0
                go_wp2
                go_ret
                first | exact ⟨false, rfl, ⟨(fun h => by cases h), fun h => absurd h HNO.out⟩, HXE.out⟩ | exact .inl ⟨rfl, HNO.out, HXE.out⟩
              have d_e0 : decide (j.epoch < 0) = false := decide_eq_false h_e0
              by_cases h_e9 : j.inc < j.epoch
              · have HNO : Hid (¬ RightP c s) := Lib.hid fun h => by have := (h.job q j HJK.out).e9; omega
                have d_e9 : decide (j.inc < j.epoch) = true := decide_eq_true h_e9
                clear h_e9
                go_wp2
                go_ret
                first | exact ⟨false, rfl, ⟨(fun h => by cases h), fun h => absurd h HNO.out⟩, HXE.out⟩ | exact .inl ⟨rfl, HNO.out, HXE.out⟩
              have d_e9 : decide (j.inc < j.epoch) = false := decide_eq_false h_e9
              have HJQ : Hid (askedJ c j = true ∧ (0 ≤ j.phase ∧ j.phase ≤ 4) ∧ (0 ≤ j.inc ∧ j.inc ≤ 1000000) ∧ (0 ≤ j.since ∧ j.since ≤ 1000000) ∧ (0 ≤ j.til ∧ j.til ≤ 1000000) ∧ (0 ≤ j.epoch ∧ j.epoch ≤ j.inc)) := Lib.hid ⟨ha, by omega, inR_iff.1 n_inc, inR_iff.1 n_since, inR_iff.1 n_til, by omega⟩
              clear ha n_inc n_since n_til h_p0 h_p4 h_e0 h_e9
              go_upto_region 20 with (fail)
              obtain ⟨bp, hbp⟩ : ∃ bp : Bool, bp = (decide (1 ≤ j.phase) && decide (j.phase ≤ 3)) := ⟨_, rfl⟩
              have HBP := Lib.hid hbp
              have HCT1 := Lib.hid (And.intro (congrArg Value.bool hbp.symm) (rfl : w4 = w4))
              clear hbp
              go_cut [191] (fun t wx => t = .bool bp ∧ wx = w4)
              case first =>
                by_cases h1 : 1 ≤ j.phase
                · have d3 : decide (1 ≤ j.phase) = true := decide_eq_true h1
                  by_cases h3 : j.phase ≤ 3
                  · have d4 : decide (j.phase ≤ 3) = true := decide_eq_true h3
                    have HB1 : Hid (Value.bool true = .bool bp) := Lib.hid (by rw [HBP.out, d3, d4]; rfl)
                    clear h1 h3 HCT1
                    go_wp2_with fail
                    go_meet
                    exact ⟨HB1.out, rfl⟩
                  · have d4 : decide (j.phase ≤ 3) = false := decide_eq_false h3
                    have HB1 : Hid (Value.bool false = .bool bp) := Lib.hid (by rw [HBP.out, d3, d4]; rfl)
                    clear h1 h3 HCT1
                    go_wp2_with fail
                    go_meet
                    exact ⟨HB1.out, rfl⟩
                · have d3 : decide (1 ≤ j.phase) = false := decide_eq_false h1
                  have HB1 : Hid (Value.bool false = .bool bp) := Lib.hid (by rw [HBP.out, d3]; rfl)
                  clear h1 HCT1
                  go_wp2_with fail
                  go_meet
                  exact ⟨HB1.out, rfl⟩
              case rest =>
                obtain ⟨rfl, rfl⟩ := hcut
                clear HCT1
                go_upto_if 191 with (fail)
                go_cut [] (fun wx => RrCut wc s j gj wx)
                case first =>
                  cases bp
                  · have hnp : ¬ (1 ≤ j.phase ∧ j.phase ≤ 3) := fun h => by have := HBP.out; simp [h.1, h.2] at this
                    have HNP := Lib.hid hnp
                    clear hnp
                    by_cases hz : j.nodes = 0
                    · have ez : (j.nodes != 0) = false := by rw [hz]; rfl
                      have HCT : Hid (RrCut wc s j gj wc) := Lib.hid ⟨Ext.refl _, HB4.out, ⟨fun h1 h3 => absurd (And.intro h1 h3) (by exact HNP.out), fun _ => hz⟩⟩
                      clear hz
                      go_wp2_with fail
                      go_meet
                      exact HCT.out
                    · have ez : (j.nodes != 0) = true := by rw [bne_iff_ne]; exact hz
                      have HNO : Hid (¬ RightP c s) := Lib.hid fun h => hz ((h.job q j HJK.out).none_ (by exact HNP.out))
                      clear hz
                      go_wp2
                      go_ret
                      first | exact ⟨false, rfl, ⟨(fun h => by cases h), fun h => absurd h HNO.out⟩, HXE.out⟩ | exact .inl ⟨rfl, HNO.out, HXE.out⟩
                  · have hp : 1 ≤ j.phase ∧ j.phase ≤ 3 := by have := HBP.out; simpa using this.symm
                    have HP1 := Lib.hid hp.1
                    have HP3 := Lib.hid hp.2
                    clear hp
                    have s0 : wc.cell? ⟨w.heap.size + 1, 0, none⟩ = some (.slice An s.nodes.length cn) := (HS1.out.ext HX4.out).cell 0
                    have s1 : wc.cell? ⟨w.heap.size + 1, 1, none⟩ = some (.slice (some ⟨bk, o, none⟩) s.jobs.length cj) := (HS1.out.ext HX4.out).cell 1
                    have s2 : wc.cell? ⟨w.heap.size + 1, 2, none⟩ = some (.int .i64 s.goal) := (HS1.out.ext HX4.out).cell 2
                    have s3 : wc.cell? ⟨w.heap.size + 1, 3, none⟩ = some (.int .i64 s.prior) := (HS1.out.ext HX4.out).cell 3
                    have s4 : wc.cell? ⟨w.heap.size + 1, 4, none⟩ = some (.int .i64 s.mode) := (HS1.out.ext HX4.out).cell 4
                    have s5 : wc.cell? ⟨w.heap.size + 1, 5, none⟩ = some (.int .i64 s.term) := (HS1.out.ext HX4.out).cell 5
                    have b0 : wc.cell? ⟨gj, 0, none⟩ = some (.int .i64 j.queue) := HB4.out.cell 0
                    have b1 : wc.cell? ⟨gj, 1, none⟩ = some (.int .i64 j.prio) := HB4.out.cell 1
                    have b2 : wc.cell? ⟨gj, 2, none⟩ = some (.int .i64 j.least) := HB4.out.cell 2
                    have b3 : wc.cell? ⟨gj, 3, none⟩ = some (.int .i64 j.most) := HB4.out.cell 3
                    have b4 : wc.cell? ⟨gj, 4, none⟩ = some (.int .i64 j.work) := HB4.out.cell 4
                    have b5 : wc.cell? ⟨gj, 5, none⟩ = some (.int .i64 j.pin) := HB4.out.cell 5
                    go_wp2_with fail
                    refine (HFT.out j j.nodes _ HN6.out HVR.out HXE.out).mono ?_
                    rintro e5 w5 ⟨bf, rfl, hbf, hx5⟩
                    have HX5 := Lib.hid hx5
                    have HB5 := Lib.hid (HB4.out.ext hx5)
                    have HXE5 := Lib.hid (Ext.trans HXE.out hx5)
                    have HBF := Lib.hid hbf
                    clear hbf hx5 s0 s1 s2 s3 s4 s5 b0 b1 b2 b3 b4 b5
                    cases bf
                    · have HNO : Hid (¬ RightP c s) := Lib.hid fun h => by have := HBF.out.2 ((h.job q j HJK.out).fits HP1.out HP3.out); cases this
                      go_wp2
                      go_ret
                      first | exact ⟨false, rfl, ⟨(fun h => by cases h), fun h => absurd h HNO.out⟩, HXE5.out⟩ | exact .inl ⟨rfl, HNO.out, HXE5.out⟩
                    have HCT : Hid (RrCut wc s j gj w5) := Lib.hid ⟨HX5.out, HB5.out, ⟨fun _ _ => HBF.out.1 rfl, fun h => absurd ⟨HP1.out, HP3.out⟩ h⟩⟩
                    go_wp2_with fail
                    go_meet
                    exact HCT.out
                case rest =>
                  have HX5 := Lib.hid (HX4.out.trans hcut.ext)
                  have HB5 := Lib.hid hcut.blk
                  have HFN := Lib.hid hcut.fits
                  clear hcut b6 b7 b8 b9 b10 b11
                  obtain ⟨w5, hw5⟩ : ∃ W, W = wc := ⟨_, rfl⟩
                  rw [← hw5] at HX5 HB5
                  go_wp2_with fail
                  rw [← hw5]
                  clear hw5
                  go_loopg [10] s.nodes.length (fun gg i wr => ∃ (q2 : Nat), i = .int .i64 q2 ∧ q2 ≤ s.nodes.length ∧ gg = s.nodes.length - q2 ∧ Hid (Ext w5 wr ∧ ∀ (i : Nat) n, i < q2 → s.nodes[i]? = some n → OwnP q j i n))
                  case atStart => exact ⟨0, rfl, Nat.zero_le _, by omega, Lib.hid ⟨Ext.refl _, fun i n h => absurd h (Nat.not_lt_zero i)⟩⟩
                  case round =>
                    obtain ⟨q2, rfl, hq2, rfl, HR⟩ := hrel
                    have s0 : wr.cell? ⟨w.heap.size + 1, 0, none⟩ = some (.slice An s.nodes.length cn) := (HS1.out.ext (HX5.out.trans HR.out.1)).cell 0
                    by_cases hlt2 : q2 < s.nodes.length
                    · have d2 : decide ((q2 : Int) < (s.nodes.length : Int)) = true := decide_eq_true (by omega)
                      have d2' : decide (q2 < s.nodes.length) = true := decide_eq_true hlt2
                      obtain ⟨⟨up, cd, mv, ver, job⟩, hnk⟩ : ∃ n, s.nodes[q2]? = some n := ⟨_, List.getElem?_eq_getElem hlt2⟩
                      obtain ⟨bn, on, rfl, hbn, hatn⟩ := HNN.out q2 _ hnk
                      obtain ⟨n0, n1, n2, n3, n4⟩ := hatn.ext (HX1.out.trans (HX5.out.trans HR.out.1)) hbn
                      dsimp only at n0 n1 n2 n3 n4
                      have b8 : wr.cell? ⟨gj, 8, none⟩ = some (.int .i64 j.nodes) := (HB5.out.ext HR.out.1).cell 8
                      have x2 : (0 : Int) ≤ (q2 : Int) ∧ (q2 : Int) < (s.nodes.length : Int) := by omega
                      have hw1 : wrap64 ((q : Int) + 1) = (q : Int) + 1 := IntWalk.wrap64_in _ (by have := HJ24.out; have := HLT.out; omega)
                      have HNK := Lib.hid hnk
                      have HLT2 := Lib.hid hlt2
                      have HXR := Lib.hid HR.out.1
                      have HXE2 := Lib.hid (HX1.out.trans (HX5.out.trans HR.out.1))
                      have HHX := Lib.hid fun W => HHS.out j.nodes q2 (by have := HN6.out; omega) W
                      have HOX : Hid (OwnP q j q2 ⟨up, cd, mv, ver, job⟩ → ∀ (i : Nat) n, i < q2 + 1 → s.nodes[i]? = some n → OwnP q j i n) := Lib.hid fun hp i m hi hm => by
                        rcases Nat.lt_or_ge i q2 with h' | h'
                        · exact HR.out.2 i m h' hm
                        · obtain rfl : i = q2 := by omega
                          rw [HNK.out] at hm
                          cases hm
                          exact hp
                      have HRO : Hid (RightP c s → (job = (q : Int) + 1 ↔ hasS j.nodes q2 = true) ∧ (job = (q : Int) + 1 → up = true ∧ mv = false)) := Lib.hid fun h => ⟨(h.job q j HJK.out).own q2 _ HNK.out, (h.job q j HJK.out).host q2 _ HNK.out⟩
                      clear hnk hlt2 hatn hbn HR
                      obtain ⟨hs, hhs⟩ : ∃ hs, hs = hasS j.nodes q2 := ⟨_, rfl⟩
                      rw [← hhs] at HRO HHX
                      have HHE := Lib.hid hhs
                      clear hhs
                      by_cases ho : job = (q : Int) + 1
                      · have eo : (job == (q : Int) + 1) = true := by rw [beq_iff_eq]; exact ho
                        cases hs
                        · have HNO : Hid (¬ RightP c s) := Lib.hid fun h => by have := (HRO.out h).1.1 ho; cases this
                          clear ho HOX
                          go_wp2_with fail
                          refine (HHX.out _).mono ?_
                          rintro e7 w7 ⟨rfl, rfl⟩
                          go_wp2
                          go_ret
                          first | exact ⟨false, rfl, ⟨(fun h => by cases h), fun h => absurd h HNO.out⟩, HXE2.out⟩ | exact .inl ⟨rfl, HNO.out, HXE2.out⟩
                        cases up
                        · have HNO : Hid (¬ RightP c s) := Lib.hid fun h => by have := ((HRO.out h).2 ho).1; cases this
                          clear ho HOX
                          go_wp2_with fail
                          refine (HHX.out _).mono ?_
                          rintro e7 w7 ⟨rfl, rfl⟩
                          go_wp2
                          go_ret
                          first | exact ⟨false, rfl, ⟨(fun h => by cases h), fun h => absurd h HNO.out⟩, HXE2.out⟩ | exact .inl ⟨rfl, HNO.out, HXE2.out⟩
                        cases mv
                        · have HOX2 := Lib.hid (HOX.out ⟨⟨fun _ => HHE.out.symm, fun _ => ho⟩, fun _ => ⟨rfl, rfl⟩⟩)
                          clear ho HOX
                          go_wp2_with fail
                          refine (HHX.out _).mono ?_
                          rintro e7 w7 ⟨rfl, rfl⟩
                          go_wp2_with fail
                          go_roundg (s.nodes.length - (q2 + 1))
                          case measure => have := HLT2.out; omega
                          case rel => exact ⟨q2 + 1, by go_num, HLT2.out, rfl, Lib.hid ⟨HXR.out, HOX2.out⟩⟩
                        · have HNO : Hid (¬ RightP c s) := Lib.hid fun h => by have := ((HRO.out h).2 ho).2; cases this
                          clear ho HOX
                          go_wp2_with fail
                          refine (HHX.out _).mono ?_
                          rintro e7 w7 ⟨rfl, rfl⟩
                          go_wp2
                          go_ret
                          first | exact ⟨false, rfl, ⟨(fun h => by cases h), fun h => absurd h HNO.out⟩, HXE2.out⟩ | exact .inl ⟨rfl, HNO.out, HXE2.out⟩
                      · have eo : (job == (q : Int) + 1) = false := by rw [beq_eq_false_iff_ne]; exact ho
                        cases hs
                        · have HOX2 := Lib.hid (HOX.out ⟨⟨fun h => absurd h ho, fun h => by rw [← HHE.out] at h; cases h⟩, fun h => absurd h ho⟩)
                          clear ho HOX
                          go_wp2_with fail
                          refine (HHX.out _).mono ?_
                          rintro e7 w7 ⟨rfl, rfl⟩
                          go_wp2_with fail
                          go_roundg (s.nodes.length - (q2 + 1))
                          case measure => have := HLT2.out; omega
                          case rel => exact ⟨q2 + 1, by go_num, HLT2.out, rfl, Lib.hid ⟨HXR.out, HOX2.out⟩⟩
                        · have HNO : Hid (¬ RightP c s) := Lib.hid fun h => ho ((HRO.out h).1.2 rfl)
                          clear ho HOX
                          go_wp2_with fail
                          refine (HHX.out _).mono ?_
                          rintro e7 w7 ⟨rfl, rfl⟩
                          go_wp2
                          go_ret
                          first | exact ⟨false, rfl, ⟨(fun h => by cases h), fun h => absurd h HNO.out⟩, HXE2.out⟩ | exact .inl ⟨rfl, HNO.out, HXE2.out⟩
                    · have d2 : decide ((q2 : Int) < (s.nodes.length : Int)) = false := decide_eq_false (by omega)
                      have d2' : decide (q2 < s.nodes.length) = false := decide_eq_false hlt2
                      have hw1 : wrap64 ((q : Int) + 1) = (q : Int) + 1 := IntWalk.wrap64_in _ (by have := HJ24.out; have := HLT.out; omega)
                      have HJP : Hid (JobP c s q j) := Lib.hid (by
                        have own : ∀ (i : Nat) n, s.nodes[i]? = some n → OwnP q j i n := fun i n hi => HR.out.2 i n (by have := (List.getElem?_eq_some_iff.1 hi).1; omega) hi
                        have h := HJQ.out
                        exact ⟨h.1, h.2.1.1, h.2.1.2, h.2.2.1.1, h.2.2.1.2, h.2.2.2.1.1, h.2.2.2.1.2, h.2.2.2.2.1.1, h.2.2.2.2.1.2, h.2.2.2.2.2.1, h.2.2.2.2.2.2, HFN.out.1, HFN.out.2, fun i n hi => (own i n hi).1, fun i n hi => (own i n hi).2⟩)
                      have HNX2 := Lib.hid (HNX.out HJP.out)
                      have HX6 := Lib.hid (HX5.out.trans HR.out.1)
                      clear hlt2 hq2 HR HJP HNX
                      go_wp2_with fail
                      go_roundg (s.jobs.length - (q + 1))
                      case measure => have := HLT.out; omega
                      case rel => exact ⟨q + 1, by go_num, HLT.out, rfl, Lib.hid ⟨HX6.out, HNX2.out⟩⟩
            · have d1 : decide ((q : Int) < (s.jobs.length : Int)) = false := decide_eq_false (by omega)
              have d1' : decide (q < s.jobs.length) = false := decide_eq_false hlt
              have HY : Hid (RightP c s) := Lib.hid ⟨HM1.out, HNNN.out, HJ24.out, HG.out.1.1, HG.out.1.2, HG.out.2.1.1, HG.out.2.1.2, HG.out.2.2.1, HG.out.2.2.2, H4.out.1, H4.out.2, HND.out, fun k j hj => HR.out.2 k j (by have := (List.getElem?_eq_some_iff.1 hj).1; omega) hj, HDR.out⟩
              have HX6 := Lib.hid (HX1.out.trans HR.out.1)
              clear HR hlt hq
              go_wp2
              go_ret
              first | exact ⟨true, rfl, ⟨fun _ => HY.out, fun _ => rfl⟩, HX6.out⟩ | exact .inr ⟨rfl, HY.out, HX6.out⟩

end Go.Proofs.YtnnilalnkkbdoaaDoor
