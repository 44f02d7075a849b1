/- Texts that the proof of A rests on, one behind the other. -/
import Derived.Test.YtkpcjdhnbjkaaaaAQ3
import Derived.Test.YtkpcjdhnbjkaaaaAQ4
import Derived.Test.YtkpcjdhnbjkaaaaAQ5
import Derived.Test.YtkpcjdhnbjkaaaaAQ7
import Derived.Test.YtkpcjdhnbjkaaaaAQ10
import Derived.Test.YtkpcjdhnbjkaaaaRows

/- Layer 17: what is next: the law, walked. -/
namespace Go.Proofs.Ytkpcjdhnbjkaaaa
open Go.RowKit

set_option maxRecDepth 100000 in
set_option maxHeartbeats 16000000 in
theorem WaveNext_calls (c : Cf) (vn vj : Value) (s : St) (now : Int) (w : World) (hr : RdSt w vn vj s) :
    Calls Try.prog 4 #[cfV c, stV vn vj s, .int .i64 now] w fun e w' => e = .returned (.bool true) ∧ Ext w w' := by
  have HR := Lib.hid hr
  have HAL := Lib.hid fun W => alive17_any W
  have HRI : Hid (∀ W, Ext w W → Calls Try.prog 7 #[cfV c, stV vn vj s] W fun e w' => ∃ b : Bool, e = .returned (.bool b) ∧ (b = true ↔ RightP c s) ∧ Ext W w') := Lib.hid fun W hW => RightS_any c vn vj s W (HR.out.nodes.ext hW) (HR.out.jobs.ext hW)
  have HTI := Lib.hid fun W => time17_any now W
  unfold cfV stV at HRI
  unfold cfV stV
  obtain ⟨W1, hW1⟩ : ∃ W, W = w.alloc (.cells #[.int .i64 c.nodes, .int .i64 c.queues, .int .i64 c.quota, .int .i64 c.wave, .int .i64 c.lease, .int .i64 c.retry, .int .i64 c.deadline, .int .i64 c.room, .int .i64 c.disk] 23) := ⟨_, rfl⟩
  obtain ⟨W2, hW2⟩ : ∃ W, W = W1.alloc (.cells #[vn, vj, .int .i64 s.goal, .int .i64 s.prior, .int .i64 s.mode, .int .i64 s.term] 27) := ⟨_, rfl⟩
  have s1 : W1.heap.size = w.heap.size + 1 := by rw [hW1]; simp
  have x1 : Ext w W1 := by rw [hW1]; exact (Below.refl _ _).alloc (Nat.le_refl _) _
  have x2 : Ext W1 W2 := by rw [hW2]; exact (Below.refl _ _).alloc (Nat.le_refl _) _
  have HX2 : Hid (Ext w W2) := Lib.hid (Ext.trans x1 x2)
  have b1 : Blk W2 w.heap.size 23 #[.int .i64 c.nodes, .int .i64 c.queues, .int .i64 c.quota, .int .i64 c.wave, .int .i64 c.lease, .int .i64 c.retry, .int .i64 c.deadline, .int .i64 c.room, .int .i64 c.disk] := by
    have h : Blk W1 w.heap.size 23 #[.int .i64 c.nodes, .int .i64 c.queues, .int .i64 c.quota, .int .i64 c.wave, .int .i64 c.lease, .int .i64 c.retry, .int .i64 c.deadline, .int .i64 c.room, .int .i64 c.disk] := by rw [hW1]; exact Blk.new _ _ _
    exact h.ext x2
  have b2 : Blk W2 (w.heap.size + 1) 27 #[vn, vj, .int .i64 s.goal, .int .i64 s.prior, .int .i64 s.mode, .int .i64 s.term] := by
    have h : Blk W2 W1.heap.size 27 #[vn, vj, .int .i64 s.goal, .int .i64 s.prior, .int .i64 s.mode, .int .i64 s.term] := by rw [hW2]; exact Blk.new _ _ _
    rw [s1] at h
    exact h
  have HB1 := Lib.hid b1
  have HB2 := Lib.hid b2
  have HW2 : Hid (W2 = (w.alloc (.cells #[.int .i64 c.nodes, .int .i64 c.queues, .int .i64 c.quota, .int .i64 c.wave, .int .i64 c.lease, .int .i64 c.retry, .int .i64 c.deadline, .int .i64 c.room, .int .i64 c.disk] 23)).alloc (.cells #[vn, vj, .int .i64 s.goal, .int .i64 s.prior, .int .i64 s.mode, .int .i64 s.term] 27)) := Lib.hid (by rw [hW2, hW1])
  clear hW2 hW1 s1 x1 x2 b1 b2 hr
  go_enter Try.func4, Try.ntmps4
  go_upto_region 1 with (fail)
  rw [← HW2.out]
  obtain ⟨gc, hgc⟩ : ∃ g, g = w.heap.size := ⟨_, rfl⟩
  obtain ⟨gs, hgs⟩ : ∃ g, g = w.heap.size + 1 := ⟨_, rfl⟩
  rw [← hgs, ← hgc]
  rw [← hgs] at HB2
  rw [← hgc] at HB1
  clear HW2 hgc hgs
  have HC1 := Lib.hid (HAL.out W2)
  go_wp2_with fail
  refine HC1.out.mono ?_
  rintro e3 w3 ⟨rfl, hx3⟩
  have HX3 : Hid (Ext W2 w3) := Lib.hid hx3
  clear hx3 HC1 HAL
  simp only []
  have HC2 := Lib.hid (HRI.out w3 (Ext.trans HX2.out HX3.out))
  obtain ⟨g0, g1, g2, g3, g4, g5⟩ := Blk.six (HB2.out.ext HX3.out)
  obtain ⟨k0, k1, k2, k3, k4, k5, k6, k7, k8⟩ := Blk.nine (HB1.out.ext HX3.out)
  go_wp2_with fail
  refine HC2.out.mono ?_
  rintro e4 w4 ⟨b, rfl, hb, hx4⟩
  have HX4 : Hid (Ext W2 w4) := Lib.hid (Ext.trans HX3.out hx4)
  have HBB := Lib.hid hb
  clear hx4 hb HC2 HRI g0 g1 g2 g3 g4 g5 k0 k1 k2 k3 k4 k5 k6 k7 k8
  simp only []
  cases b with
  | false =>
    go_wp2
    go_ret
    exact ⟨rfl, Ext.trans HX2.out HX4.out⟩
  | true =>
    have hR : RightP c s := HBB.out.1 rfl
    have HC3 := Lib.hid (HTI.out w4)
    clear HBB HTI
    go_wp2_with fail
    refine HC3.out.mono ?_
    rintro e5 w5 ⟨rfl, rfl⟩
    clear HC3
    simp only []
    by_cases ht : 0 ≤ now ∧ now ≤ 1000000
    case neg =>
      have e0 : (decide (0 ≤ now) && decide (now ≤ 1000000)) = false := by
        by_cases h : 0 ≤ now
        · rw [decide_eq_false (fun h2 => ht ⟨h, h2⟩), Bool.and_false]
        · rw [decide_eq_false h, Bool.false_and]
      simp only [e0]
      clear ht e0 hR
      go_wp2
      go_ret
      exact ⟨rfl, Ext.trans HX2.out HX4.out⟩
    have e0 : (decide (0 ≤ now) && decide (now ≤ 1000000)) = true := by rw [decide_eq_true ht.1, decide_eq_true ht.2]; rfl
    simp only [e0]
    clear e0
    obtain ⟨hn0, hn1⟩ := ht
    obtain ⟨z1, z2, z3, z4, z5⟩ := hR.w17
    have HNX : Hid (∀ W, Ext w W → Calls Try.prog 18 #[cfV c, stV vn vj s, .int .i64 now] W fun e w' => e = .returned (optV (nextW c s now)) ∧ Ext W w') := Lib.hid fun W hW => WNext_any c vn vj s now W (HR.out.ext hW) hR hn0 hn1
    have HRN : Hid (∀ W, Ext w W → Calls Try.prog 19 #[cfV c, stV vn vj s, .int .i64 now] W fun e w' => e = .returned (optV (nextW c s now)) ∧ Ext W w') := Lib.hid fun W hW => RefNext17_any c vn vj s now W (HR.out.nodes.ext hW) (HR.out.jobs.ext hW) z1 z2 z3 hn0 hn1 z4 z5
    unfold cfV stV at HNX HRN
    obtain ⟨R, hRR⟩ : ∃ R, R = nextW c s now := ⟨_, rfl⟩
    rw [← hRR] at HNX HRN
    clear hRR z1 z2 z3 z4 z5 hR hn0 hn1
    cases R with
    | none =>
      unfold optV opA zeroO at HNX HRN
      have HD := Lib.hid (HNX.out w4 (Ext.trans HX2.out HX4.out))
      obtain ⟨g0, g1, g2, g3, g4, g5⟩ := Blk.six (HB2.out.ext HX4.out)
      obtain ⟨k0, k1, k2, k3, k4, k5, k6, k7, k8⟩ := Blk.nine (HB1.out.ext HX4.out)
      go_wp2_with fail
      refine HD.out.mono ?_
      rintro e9 u0 ⟨rfl, hx9⟩
      have HY0 : Hid (Ext W2 u0) := Lib.hid (Ext.trans HX4.out hx9)
      clear hx9 HD g0 g1 g2 g3 g4 g5 k0 k1 k2 k3 k4 k5 k6 k7 k8
      simp only []
      go_upto_region 6 with (fail)
      obtain ⟨z0, hz⟩ : ∃ W, W = u0.alloc (.cells #[.int .i64 0, .int .i64 0, .int .i64 0, .int .i64 0, .int .i64 0, .int .i64 0, .int .i64 0] 39) := ⟨_, rfl⟩
      have HZ0 : Hid (Ext W2 z0) := Lib.hid (by rw [hz]; exact Ext.trans HY0.out ((Below.refl _ _).alloc (Nat.le_refl _) _))
      have HO0 : Hid (Blk z0 u0.heap.size 39 #[.int .i64 0, .int .i64 0, .int .i64 0, .int .i64 0, .int .i64 0, .int .i64 0, .int .i64 0]) := Lib.hid (by rw [hz]; exact Blk.new _ _ _)
      rw [← hz]
      obtain ⟨gp, hg⟩ : ∃ g, g = u0.heap.size := ⟨_, rfl⟩
      rw [← hg] at HO0 ⊢
      clear hz hg
      have HD := Lib.hid (HRN.out z0 (Ext.trans HX2.out HZ0.out))
      obtain ⟨g0, g1, g2, g3, g4, g5⟩ := Blk.six (HB2.out.ext HZ0.out)
      obtain ⟨k0, k1, k2, k3, k4, k5, k6, k7, k8⟩ := Blk.nine (HB1.out.ext HZ0.out)
      go_wp2_with fail
      refine HD.out.mono ?_
      rintro e9 u1 ⟨rfl, hx9⟩
      have HP0 := Lib.hid (HO0.out.ext hx9)
      have HY1 : Hid (Ext W2 u1) := Lib.hid (Ext.trans HZ0.out hx9)
      clear hx9 HD g0 g1 g2 g3 g4 g5 k0 k1 k2 k3 k4 k5 k6 k7 k8
      simp only []
      go_upto_region 7 with (fail)
      obtain ⟨z1, hz⟩ : ∃ W, W = u1.alloc (.cells #[.int .i64 0, .int .i64 0, .int .i64 0, .int .i64 0, .int .i64 0, .int .i64 0, .int .i64 0] 39) := ⟨_, rfl⟩
      have HZ1 : Hid (Ext W2 z1) := Lib.hid (by rw [hz]; exact Ext.trans HY1.out ((Below.refl _ _).alloc (Nat.le_refl _) _))
      have HO1 : Hid (Blk z1 u1.heap.size 39 #[.int .i64 0, .int .i64 0, .int .i64 0, .int .i64 0, .int .i64 0, .int .i64 0, .int .i64 0]) := Lib.hid (by rw [hz]; exact Blk.new _ _ _)
      replace HP0 := Lib.hid (HP0.out.ext (show Ext u1 z1 by rw [hz]; exact (Below.refl _ _).alloc (Nat.le_refl _) _))
      rw [← hz]
      obtain ⟨gq, hg⟩ : ∃ g, g = u1.heap.size := ⟨_, rfl⟩
      rw [← hg] at HO1 ⊢
      clear hz hg
      obtain ⟨p0, p1, p2, p3, p4, p5, p6⟩ := Blk.seven HP0.out
      obtain ⟨r0, r1, r2, r3, r4, r5, r6⟩ := Blk.seven HO1.out
      go_wp2
      go_ret
      exact ⟨rfl, Ext.trans HX2.out HZ1.out⟩
    | some o1 =>
      obtain ⟨o1, o2, o3, o4, o5, o6, o7⟩ := o1
      unfold optV opA at HNX HRN
      simp only [] at HNX HRN
      have q1 : (o1 == o1) = true := by simp
      have q2 : (o2 == o2) = true := by simp
      have q3 : (o3 == o3) = true := by simp
      have q4 : (o4 == o4) = true := by simp
      have q5 : (o5 == o5) = true := by simp
      have q6 : (o6 == o6) = true := by simp
      have q7 : (o7 == o7) = true := by simp
      have HD := Lib.hid (HNX.out w4 (Ext.trans HX2.out HX4.out))
      obtain ⟨g0, g1, g2, g3, g4, g5⟩ := Blk.six (HB2.out.ext HX4.out)
      obtain ⟨k0, k1, k2, k3, k4, k5, k6, k7, k8⟩ := Blk.nine (HB1.out.ext HX4.out)
      go_wp2_with fail
      refine HD.out.mono ?_
      rintro e9 u0 ⟨rfl, hx9⟩
      have HY0 : Hid (Ext W2 u0) := Lib.hid (Ext.trans HX4.out hx9)
      clear hx9 HD g0 g1 g2 g3 g4 g5 k0 k1 k2 k3 k4 k5 k6 k7 k8
      simp only []
      go_upto_region 6 with (fail)
      obtain ⟨z0, hz⟩ : ∃ W, W = u0.alloc (.cells #[.int .i64 o1, .int .i64 o2, .int .i64 o3, .int .i64 o4, .int .i64 o5, .int .i64 o6, .int .i64 o7] 39) := ⟨_, rfl⟩
      have HZ0 : Hid (Ext W2 z0) := Lib.hid (by rw [hz]; exact Ext.trans HY0.out ((Below.refl _ _).alloc (Nat.le_refl _) _))
      have HO0 : Hid (Blk z0 u0.heap.size 39 #[.int .i64 o1, .int .i64 o2, .int .i64 o3, .int .i64 o4, .int .i64 o5, .int .i64 o6, .int .i64 o7]) := Lib.hid (by rw [hz]; exact Blk.new _ _ _)
      rw [← hz]
      obtain ⟨gp, hg⟩ : ∃ g, g = u0.heap.size := ⟨_, rfl⟩
      rw [← hg] at HO0 ⊢
      clear hz hg
      have HD := Lib.hid (HRN.out z0 (Ext.trans HX2.out HZ0.out))
      obtain ⟨g0, g1, g2, g3, g4, g5⟩ := Blk.six (HB2.out.ext HZ0.out)
      obtain ⟨k0, k1, k2, k3, k4, k5, k6, k7, k8⟩ := Blk.nine (HB1.out.ext HZ0.out)
      go_wp2_with fail
      refine HD.out.mono ?_
      rintro e9 u1 ⟨rfl, hx9⟩
      have HP0 := Lib.hid (HO0.out.ext hx9)
      have HY1 : Hid (Ext W2 u1) := Lib.hid (Ext.trans HZ0.out hx9)
      clear hx9 HD g0 g1 g2 g3 g4 g5 k0 k1 k2 k3 k4 k5 k6 k7 k8
      simp only []
      go_upto_region 7 with (fail)
      obtain ⟨z1, hz⟩ : ∃ W, W = u1.alloc (.cells #[.int .i64 o1, .int .i64 o2, .int .i64 o3, .int .i64 o4, .int .i64 o5, .int .i64 o6, .int .i64 o7] 39) := ⟨_, rfl⟩
      have HZ1 : Hid (Ext W2 z1) := Lib.hid (by rw [hz]; exact Ext.trans HY1.out ((Below.refl _ _).alloc (Nat.le_refl _) _))
      have HO1 : Hid (Blk z1 u1.heap.size 39 #[.int .i64 o1, .int .i64 o2, .int .i64 o3, .int .i64 o4, .int .i64 o5, .int .i64 o6, .int .i64 o7]) := Lib.hid (by rw [hz]; exact Blk.new _ _ _)
      replace HP0 := Lib.hid (HP0.out.ext (show Ext u1 z1 by rw [hz]; exact (Below.refl _ _).alloc (Nat.le_refl _) _))
      rw [← hz]
      obtain ⟨gq, hg⟩ : ∃ g, g = u1.heap.size := ⟨_, rfl⟩
      rw [← hg] at HO1 ⊢
      clear hz hg
      obtain ⟨p0, p1, p2, p3, p4, p5, p6⟩ := Blk.seven HP0.out
      obtain ⟨r0, r1, r2, r3, r4, r5, r6⟩ := Blk.seven HO1.out
      go_wp2
      go_ret
      exact ⟨rfl, Ext.trans HX2.out HZ1.out⟩

end Go.Proofs.Ytkpcjdhnbjkaaaa

/- A job and a node as this translation knows them. -/
namespace Go.Proofs.Ytkpcjdhnbjkaaaa
open Go.RowKit

theorem Try.infoJob : (Try.prog.info? 44).map (fun i => (i.zero, i.size, i.bytes)) = some (some (.agg #[.int .i64 0, .int .i64 0, .int .i64 0, .int .i64 0, .int .i64 0, .int .i64 0, .int .i64 0, .int .i64 0, .int .i64 0, .int .i64 0, .int .i64 0, .int .i64 0]), 12, 96) := by kernel_rfl
theorem Try.infoNode : (Try.prog.info? 46).map (fun i => (i.zero, i.size, i.bytes)) = some (some (.agg #[.bool false, .bool false, .bool false, .int .i64 0, .int .i64 0]), 5, 24) := by kernel_rfl

end Go.Proofs.Ytkpcjdhnbjkaaaa

/- Package book: Copy. -/
namespace Go.Proofs.Ytkpcjdhnbjkaaaa
open Go.RowKit

theorem blk_second (w : World) (t1 t2 : TypeId) (c1 c2 : Array Value) : Blk ((w.alloc (.cells c1 t1)).alloc (.cells c2 t2)) (w.heap.size + 1) t2 c2 := by
  have := Blk.new (w.alloc (.cells c1 t1)) t2 c2
  have e : (w.alloc (.cells c1 t1)).heap.size = w.heap.size + 1 := by simp
  rw [e] at this
  exact this
theorem own_at {w w' : World} {base K n : Nat} {e : TypeId} {v : Value} {xs : List Value} (h : w.ownsRow base e K v n xs) (hk : ∀ k, v.ownBlock = some k → w'.heap[k]? = w.heap[k]?) : w'.ownsRow base e K v n xs := by
  refine ⟨h.1, ?_⟩
  rcases h.2 with hv | ⟨b, cap, cur, hv, hg, hh, x⟩
  · exact .inl hv
  · exact .inr ⟨b, cap, cur, hv, hg, by rw [hk b (by rw [hv]; rfl)]; exact hh, x⟩

set_option maxRecDepth 100000 in
set_option maxHeartbeats 4000000 in
theorem Copy_any (vn vj : Value) (s : St) (w : World) (h : RdSt w vn vj s) (hn : s.nodes.length ≤ 1000) (hj : s.jobs.length ≤ 1000) :
    Calls Try.prog 20 #[stV vn vj s] w fun e w' => ∃ vn' vj', e = .returned (stV vn' vj' s) ∧ OwnSt w.heap.size 46 44 w' vn' vj' s ∧ Ext w w' := by
  have HR := Lib.hid h
  have HR2 := Lib.hid h
  obtain ⟨An, cn, rfl, hnc, hcm⟩ := h.nodes.slice_
  obtain ⟨Aj, cj, rfl, hjc, hjm⟩ := h.jobs.slice_
  have HON := Lib.hid (nodes_oneCell s.nodes)
  have HOJ := Lib.hid (jobs_oneCell s.jobs)
  have hl1 : 0 + s.nodes.length ≤ maxLen := by unfold maxLen; omega
  have hl2 : (0 + s.nodes.length) * 24 ≤ 140737488355328 := by omega
  have hl3 : 0 + s.jobs.length ≤ maxLen := by unfold maxLen; omega
  have hl4 : (0 + s.jobs.length) * 96 ≤ 140737488355328 := by omega
  clear h
  unfold stV
  go_enter Try.func20, Try.ntmps20
  go_wp2_with (first
    | (refine wpList_appendK rfl (.const (.slice none 0 0)) (.tmp 4) 24 rfl w.heap.size 46 _ 5 24 Try.underlying24 Try.infoNode rfl (by decide) (.slice none 0 0) 0 [] rfl (World.ownsRow_nil _ _ _ _) (.slice An s.nodes.length cn) s.nodes.length (nodesC s.nodes) rfl (HR.out.nodes.ext (ext2 w _ _ _ _)) HON.out hl1 hl2 (by simp; omega) ?_
       intro v3 w3 hg3
       (try rw [Nat.zero_add, List.nil_append] at hg3)
       have hx3 := hg3.ext
       have bb3 := ((Blk.new w 27 #[.slice An s.nodes.length cn, .slice Aj s.jobs.length cj, .int .i64 s.goal, .int .i64 s.prior, .int .i64 s.mode, .int .i64 s.term]).ext ((Below.refl _ _).alloc (Nat.le_refl _) (.cells #[.slice none 0 0, .slice none 0 0, .int .i64 0, .int .i64 0, .int .i64 0, .int .i64 0] 27))).ext hx3
       have br3 := (blk_second w 27 27 #[.slice An s.nodes.length cn, .slice Aj s.jobs.length cj, .int .i64 s.goal, .int .i64 s.prior, .int .i64 s.mode, .int .i64 s.term] #[.slice none 0 0, .slice none 0 0, .int .i64 0, .int .i64 0, .int .i64 0, .int .i64 0]).ext hx3
       have k0 : w3.cell? ⟨w.heap.size, 0, none⟩ = some (.slice An s.nodes.length cn) := bb3.cell 0
       have k1 : w3.cell? ⟨w.heap.size, 1, none⟩ = some (.slice Aj s.jobs.length cj) := bb3.cell 1
       have f0 := bb3.frozen 0
       obtain ⟨A3, c3, rfl⟩ := own_slice hg3.1)
    | (refine wpList_appendK rfl (.const (.slice none 0 0)) (.tmp 8) 25 rfl w.heap.size 44 _ 12 96 Try.underlying25 Try.infoJob rfl (by decide) (.slice none 0 0) 0 [] rfl (World.ownsRow_nil _ _ _ _) (.slice Aj s.jobs.length cj) s.jobs.length (jobsC s.jobs) rfl (HR.out.jobs.ext (Below.setCell (Ext.trans (ext2 w _ _ _ _) hx3) (Nat.le_refl _) _)) HOJ.out hl3 hl4 (by have := hx3.size; simp at this ⊢; omega) ?_
       intro v4 w4 hg4
       (try rw [Nat.zero_add, List.nil_append] at hg4)
       have hx4 := hg4.ext
       have bb4 := (bb3.set_ 0 (.slice A3 s.nodes.length c3)).ext hx4
       have br4 : Blk w4 (w.heap.size + 1) 27 #[.slice none 0 0, .slice none 0 0, .int .i64 0, .int .i64 0, .int .i64 0, .int .i64 0] := (br3.far (p := ⟨w.heap.size, 0, none⟩) (by show w.heap.size + 1 ≠ w.heap.size; omega) _).ext hx4
       have m0 : w4.cell? ⟨w.heap.size, 0, none⟩ = some (.slice A3 s.nodes.length c3) := bb4.cell 0
       have m1 : w4.cell? ⟨w.heap.size, 1, none⟩ = some (.slice Aj s.jobs.length cj) := bb4.cell 1
       have m2 : w4.cell? ⟨w.heap.size, 2, none⟩ = some (.int .i64 s.goal) := bb4.cell 2
       have m3 : w4.cell? ⟨w.heap.size, 3, none⟩ = some (.int .i64 s.prior) := bb4.cell 3
       have m4 : w4.cell? ⟨w.heap.size, 4, none⟩ = some (.int .i64 s.mode) := bb4.cell 4
       have m5 : w4.cell? ⟨w.heap.size, 5, none⟩ = some (.int .i64 s.term) := bb4.cell 5
       have f1 : w4.frozen? ⟨w.heap.size, 1, none⟩ = false := bb4.frozen 1
       have r0 : w4.cell? ⟨w.heap.size + 1, 0, none⟩ = some (.slice none 0 0) := br4.cell 0
       have g0 : w4.frozen? ⟨w.heap.size + 1, 0, none⟩ = false := br4.frozen 0
       have r1 : w4.cell? ⟨w.heap.size + 1, 1, none⟩ = some (.slice none 0 0) := br4.cell 1
       have g1 : w4.frozen? ⟨w.heap.size + 1, 1, none⟩ = false := br4.frozen 1
       have r2 : w4.cell? ⟨w.heap.size + 1, 2, none⟩ = some (.int .i64 0) := br4.cell 2
       have g2 : w4.frozen? ⟨w.heap.size + 1, 2, none⟩ = false := br4.frozen 2
       have r3 : w4.cell? ⟨w.heap.size + 1, 3, none⟩ = some (.int .i64 0) := br4.cell 3
       have g3 : w4.frozen? ⟨w.heap.size + 1, 3, none⟩ = false := br4.frozen 3
       have r4 : w4.cell? ⟨w.heap.size + 1, 4, none⟩ = some (.int .i64 0) := br4.cell 4
       have g4 : w4.frozen? ⟨w.heap.size + 1, 4, none⟩ = false := br4.frozen 4
       have r5 : w4.cell? ⟨w.heap.size + 1, 5, none⟩ = some (.int .i64 0) := br4.cell 5
       have g5 : w4.frozen? ⟨w.heap.size + 1, 5, none⟩ = false := br4.frozen 5
       obtain ⟨A4, c4, rfl⟩ := own_slice hg4.1))
  have hs2 : ((w.alloc (.cells #[.slice An s.nodes.length cn, .slice Aj s.jobs.length cj, .int .i64 s.goal, .int .i64 s.prior, .int .i64 s.mode, .int .i64 s.term] 27)).alloc (.cells #[.slice none 0 0, .slice none 0 0, .int .i64 0, .int .i64 0, .int .i64 0, .int .i64 0] 27)).heap.size = w.heap.size + 2 := by simp
  have hs3 := hx3.size
  rw [hs2] at hs3
  have hs4 := hx4.size
  have hs5 : (w3.setCell ⟨w.heap.size, 0, none⟩ (.slice A3 s.nodes.length c3)).heap.size = w3.heap.size := by simp
  rw [hs5] at hs4
  have hnb : ∀ k, (Value.slice A3 s.nodes.length c3).ownBlock = some k → w.heap.size + 2 ≤ k ∧ k < w3.heap.size := fun k hk => by
    refine ⟨?_, (hg3.1.lt k hk).2⟩
    rcases hg3.2.2 with h | h
    · rw [h] at hk
      cases hk
    · have := h k hk
      rw [hs2] at this
      exact this
  have hjb : ∀ k, (Value.slice A4 s.jobs.length c4).ownBlock = some k → w3.heap.size ≤ k ∧ k < w4.heap.size := fun k hk => by
    refine ⟨?_, (hg4.1.lt k hk).2⟩
    rcases hg4.2.2 with h | h
    · rw [h] at hk
      cases hk
    · have := h k hk
      rw [hs5] at this
      exact this
  have hrow : ∀ k, w.heap.size + 2 ≤ k → ∀ (u1 u2 u3 u4 u5 u6 u7 : Value), (((((((w4.setCell ⟨w.heap.size, 1, none⟩ u1).setCell ⟨w.heap.size + 1, 0, none⟩ u2).setCell ⟨w.heap.size + 1, 1, none⟩ u3).setCell ⟨w.heap.size + 1, 2, none⟩ u4).setCell ⟨w.heap.size + 1, 3, none⟩ u5).setCell ⟨w.heap.size + 1, 4, none⟩ u6).setCell ⟨w.heap.size + 1, 5, none⟩ u7).heap[k]? = w4.heap[k]? := fun k hk u1 u2 u3 u4 u5 u6 u7 => by
    rw [Below.heap_setCell _ _ _ _ (by show k ≠ w.heap.size + 1; omega), Below.heap_setCell _ _ _ _ (by show k ≠ w.heap.size + 1; omega), Below.heap_setCell _ _ _ _ (by show k ≠ w.heap.size + 1; omega), Below.heap_setCell _ _ _ _ (by show k ≠ w.heap.size + 1; omega), Below.heap_setCell _ _ _ _ (by show k ≠ w.heap.size + 1; omega), Below.heap_setCell _ _ _ _ (by show k ≠ w.heap.size + 1; omega), Below.heap_setCell _ _ _ _ (by show k ≠ w.heap.size; omega)]
  have hb := ((((((br4.far (p := ⟨w.heap.size, 1, none⟩) (by show w.heap.size + 1 ≠ w.heap.size; omega) (.slice A4 s.jobs.length c4)).set_ 0 (.slice A3 s.nodes.length c3)).set_ 1 (.slice A4 s.jobs.length c4)).set_ 2 (.int .i64 s.goal)).set_ 3 (.int .i64 s.prior)).set_ 4 (.int .i64 s.mode)).set_ 5 (.int .i64 s.term)
  have hxa : Ext w (w3.setCell ⟨w.heap.size, 0, none⟩ (.slice A3 s.nodes.length c3)) := Below.setCell (Ext.trans (ext2 w _ _ _ _) hx3) (Nat.le_refl _) _
  have hxf := Below.setCell (p := ⟨w.heap.size + 1, 5, none⟩) (Below.setCell (p := ⟨w.heap.size + 1, 4, none⟩) (Below.setCell (p := ⟨w.heap.size + 1, 3, none⟩) (Below.setCell (p := ⟨w.heap.size + 1, 2, none⟩) (Below.setCell (p := ⟨w.heap.size + 1, 1, none⟩) (Below.setCell (p := ⟨w.heap.size + 1, 0, none⟩) (Below.setCell (p := ⟨w.heap.size, 1, none⟩) (Ext.trans hxa hx4) (Nat.le_refl _) (.slice A4 s.jobs.length c4)) (Nat.le_succ _) (.slice A3 s.nodes.length c3)) (Nat.le_succ _) (.slice A4 s.jobs.length c4)) (Nat.le_succ _) (.int .i64 s.goal)) (Nat.le_succ _) (.int .i64 s.prior)) (Nat.le_succ _) (.int .i64 s.mode)) (Nat.le_succ _) (.int .i64 s.term)
  refine bodyPost_ret (results_cell_row rfl _ _ (w.heap.size + 1) 27 _ (0, 0) _ rfl hb rfl rfl (by kernel_rfl)) rfl ⟨_, _, rfl, ⟨own_at hg3.1 fun k hk => ?_, own_at hg4.1 fun k hk => ?_, fun k hk hk2 => ?_⟩, hxf⟩
  · have := hnb k hk
    rw [hrow k this.1, hx4.block k (by rw [hs5]; exact this.2)]
    exact Below.heap_setCell _ _ _ _ (by show k ≠ w.heap.size; omega)
  · exact hrow k (by have := hjb k hk; omega) _ _ _ _ _ _ _
  · have := hnb k hk
    have := hjb k hk2
    omega

end Go.Proofs.Ytkpcjdhnbjkaaaa

/- Layer 17: while it is paused: the law, walked. -/
namespace Go.Proofs.Ytkpcjdhnbjkaaaa
open Go.RowKit

set_option maxRecDepth 100000 in
set_option maxHeartbeats 16000000 in
theorem WavePaused_calls (c : Cf) (vn vj : Value) (s : St) (now : Int) (w : World) (hr : RdSt w vn vj s) :
    Calls Try.prog 5 #[cfV c, stV vn vj s, .int .i64 now] w fun e w' => e = .returned (.bool true) ∧ Ext w w' := by
  have HR := Lib.hid hr
  have HAL := Lib.hid fun W => alive17_any W
  have HRI : Hid (∀ W, Ext w W → Calls Try.prog 7 #[cfV c, stV vn vj s] W fun e w' => ∃ b : Bool, e = .returned (.bool b) ∧ (b = true ↔ RightP c s) ∧ Ext W w') := Lib.hid fun W hW => RightS_any c vn vj s W (HR.out.nodes.ext hW) (HR.out.jobs.ext hW)
  have HTI := Lib.hid fun W => time17_any now W
  unfold cfV stV at HRI
  unfold cfV stV
  obtain ⟨W1, hW1⟩ : ∃ W, W = w.alloc (.cells #[.int .i64 c.nodes, .int .i64 c.queues, .int .i64 c.quota, .int .i64 c.wave, .int .i64 c.lease, .int .i64 c.retry, .int .i64 c.deadline, .int .i64 c.room, .int .i64 c.disk] 23) := ⟨_, rfl⟩
  obtain ⟨W2, hW2⟩ : ∃ W, W = W1.alloc (.cells #[vn, vj, .int .i64 s.goal, .int .i64 s.prior, .int .i64 s.mode, .int .i64 s.term] 27) := ⟨_, rfl⟩
  have s1 : W1.heap.size = w.heap.size + 1 := by rw [hW1]; simp
  have x1 : Ext w W1 := by rw [hW1]; exact (Below.refl _ _).alloc (Nat.le_refl _) _
  have x2 : Ext W1 W2 := by rw [hW2]; exact (Below.refl _ _).alloc (Nat.le_refl _) _
  have HX2 : Hid (Ext w W2) := Lib.hid (Ext.trans x1 x2)
  have b1 : Blk W2 w.heap.size 23 #[.int .i64 c.nodes, .int .i64 c.queues, .int .i64 c.quota, .int .i64 c.wave, .int .i64 c.lease, .int .i64 c.retry, .int .i64 c.deadline, .int .i64 c.room, .int .i64 c.disk] := by
    have h : Blk W1 w.heap.size 23 #[.int .i64 c.nodes, .int .i64 c.queues, .int .i64 c.quota, .int .i64 c.wave, .int .i64 c.lease, .int .i64 c.retry, .int .i64 c.deadline, .int .i64 c.room, .int .i64 c.disk] := by rw [hW1]; exact Blk.new _ _ _
    exact h.ext x2
  have b2 : Blk W2 (w.heap.size + 1) 27 #[vn, vj, .int .i64 s.goal, .int .i64 s.prior, .int .i64 s.mode, .int .i64 s.term] := by
    have h : Blk W2 W1.heap.size 27 #[vn, vj, .int .i64 s.goal, .int .i64 s.prior, .int .i64 s.mode, .int .i64 s.term] := by rw [hW2]; exact Blk.new _ _ _
    rw [s1] at h
    exact h
  have HB1 := Lib.hid b1
  have HB2 := Lib.hid b2
  have HW2 : Hid (W2 = (w.alloc (.cells #[.int .i64 c.nodes, .int .i64 c.queues, .int .i64 c.quota, .int .i64 c.wave, .int .i64 c.lease, .int .i64 c.retry, .int .i64 c.deadline, .int .i64 c.room, .int .i64 c.disk] 23)).alloc (.cells #[vn, vj, .int .i64 s.goal, .int .i64 s.prior, .int .i64 s.mode, .int .i64 s.term] 27)) := Lib.hid (by rw [hW2, hW1])
  clear hW2 hW1 s1 x1 x2 b1 b2 hr
  go_enter Try.func5, Try.ntmps5
  go_upto_region 1 with (fail)
  rw [← HW2.out]
  obtain ⟨gc, hgc⟩ : ∃ g, g = w.heap.size := ⟨_, rfl⟩
  obtain ⟨gs, hgs⟩ : ∃ g, g = w.heap.size + 1 := ⟨_, rfl⟩
  rw [← hgs, ← hgc]
  rw [← hgs] at HB2
  rw [← hgc] at HB1
  clear HW2 hgc hgs
  have HC1 := Lib.hid (HAL.out W2)
  go_wp2_with fail
  refine HC1.out.mono ?_
  rintro e3 w3 ⟨rfl, hx3⟩
  have HX3 : Hid (Ext W2 w3) := Lib.hid hx3
  clear hx3 HC1 HAL
  simp only []
  have HC2 := Lib.hid (HRI.out w3 (Ext.trans HX2.out HX3.out))
  obtain ⟨g0, g1, g2, g3, g4, g5⟩ := Blk.six (HB2.out.ext HX3.out)
  obtain ⟨k0, k1, k2, k3, k4, k5, k6, k7, k8⟩ := Blk.nine (HB1.out.ext HX3.out)
  go_wp2_with fail
  refine HC2.out.mono ?_
  rintro e4 w4 ⟨b, rfl, hb, hx4⟩
  have HX4 : Hid (Ext W2 w4) := Lib.hid (Ext.trans HX3.out hx4)
  have HBB := Lib.hid hb
  clear hx4 hb HC2 HRI g0 g1 g2 g3 g4 g5 k0 k1 k2 k3 k4 k5 k6 k7 k8
  simp only []
  cases b with
  | false =>
    go_wp2
    go_ret
    exact ⟨rfl, Ext.trans HX2.out HX4.out⟩
  | true =>
    have hR : RightP c s := HBB.out.1 rfl
    have HC3 := Lib.hid (HTI.out w4)
    clear HBB HTI
    go_wp2_with fail
    refine HC3.out.mono ?_
    rintro e5 w5 ⟨rfl, rfl⟩
    clear HC3
    simp only []
    by_cases ht : 0 ≤ now ∧ now ≤ 1000000
    case neg =>
      have e0 : (decide (0 ≤ now) && decide (now ≤ 1000000)) = false := by
        by_cases h : 0 ≤ now
        · rw [decide_eq_false (fun h2 => ht ⟨h, h2⟩), Bool.and_false]
        · rw [decide_eq_false h, Bool.false_and]
      simp only [e0]
      clear ht e0 hR
      go_wp2
      go_ret
      exact ⟨rfl, Ext.trans HX2.out HX4.out⟩
    have e0 : (decide (0 ≤ now) && decide (now ≤ 1000000)) = true := by rw [decide_eq_true ht.1, decide_eq_true ht.2]; rfl
    simp only [e0]
    clear e0
    obtain ⟨hn0, hn1⟩ := ht
    have HOK : Hid (∀ o, nextW c s now = some o → OkW c s o) := Lib.hid fun o h => next_ok hR hn0 h
    have HNX : Hid (∀ W, Ext w W → Calls Try.prog 18 #[cfV c, stV vn vj s, .int .i64 now] W fun e w' => e = .returned (optV (nextW c s now)) ∧ Ext W w') := Lib.hid fun W hW => WNext_any c vn vj s now W (HR.out.ext hW) hR hn0 hn1
    have HCP : Hid (∀ W, Ext w W → Calls Try.prog 20 #[stV vn vj s] W fun e w' => ∃ vn' vj', e = .returned (.agg #[vn', vj', .int .i64 s.goal, .int .i64 s.prior, .int .i64 s.mode, .int .i64 s.term]) ∧ RdSt w' vn' vj' s ∧ Ext W w') := Lib.hid fun W hW => (Copy_any vn vj s W (HR.out.ext hW) (by have := hR.len; omega) (by have := hR.nj; omega)).mono (by rintro e w' ⟨v1, v2, h1, h2, h3⟩; exact ⟨v1, v2, h1, h2.rd, h3⟩)
    have HNP : Hid (∀ W vn' vj', RdSt W vn' vj' s → Calls Try.prog 18 #[cfV c, .agg #[vn', vj', .int .i64 s.goal, .int .i64 s.prior, .int .i64 1, .int .i64 s.term], .int .i64 now] W fun e w' => e = .returned (.tuple #[.agg #[.int .i64 0, .int .i64 0, .int .i64 0, .int .i64 0, .int .i64 0, .int .i64 0, .int .i64 0], .bool false]) ∧ Ext W w') := Lib.hid fun W vn' vj' h => by
      have hRp : RightP c { s with mode := 1 } := hR.global rfl rfl ⟨hR.g1, hR.g9⟩ ⟨hR.p1, hR.p9⟩ ⟨by show (0 : Int) ≤ 1; omega, by show (1 : Int) ≤ 2; omega⟩ ⟨hR.t0, hR.t9⟩
      have h1 := WNext_any c vn' vj' { s with mode := 1 } now W ⟨h.nodes, h.jobs⟩ hRp hn0 hn1
      have h2 : nextW c { s with mode := 1 } now = none := by unfold nextW; rw [if_pos rfl]
      rw [h2] at h1
      exact h1
    have HAO : Hid (∀ i W, Ext w W → Calls Try.prog 11 #[stV vn vj s, .int .i64 i] W fun e w' => e = .returned (.bool (aloneI s i)) ∧ Ext W w') := Lib.hid fun i W hW => WAlone_any c vn vj s i W (HR.out.ext hW) hR
    have HME : Hid (∀ W, Ext w W → Calls Try.prog 21 #[stV vn vj s] W fun e w' => e = .returned (.int .i64 (meantS s)) ∧ Ext W w') := Lib.hid fun W _ => Meant_any vn vj s W
    have HNJ : Hid (s.jobs.length ≤ 24) := Lib.hid hR.nj
    unfold cfV stV at HNX
    unfold stV at HCP HAO HME
    unfold cfV at HNP
    obtain ⟨R, hRR⟩ : ∃ R, R = nextW c s now := ⟨_, rfl⟩
    rw [← hRR] at HNX HOK
    clear hRR hR hn0 hn1
    cases R with
    | none =>
      unfold optV opA zeroO at HNX
      have HD := Lib.hid (HNX.out w4 (Ext.trans HX2.out HX4.out))
      obtain ⟨g0, g1, g2, g3, g4, g5⟩ := Blk.six (HB2.out.ext HX4.out)
      obtain ⟨k0, k1, k2, k3, k4, k5, k6, k7, k8⟩ := Blk.nine (HB1.out.ext HX4.out)
      go_wp2_with fail
      refine HD.out.mono ?_
      rintro e9 u0 ⟨rfl, hx9⟩
      have HY0 : Hid (Ext W2 u0) := Lib.hid (Ext.trans HX4.out hx9)
      clear hx9 HD g0 g1 g2 g3 g4 g5 k0 k1 k2 k3 k4 k5 k6 k7 k8
      simp only []
      go_upto_region 6 with (fail)
      obtain ⟨z0, hz⟩ : ∃ W, W = u0.alloc (.cells #[.int .i64 0, .int .i64 0, .int .i64 0, .int .i64 0, .int .i64 0, .int .i64 0, .int .i64 0] 39) := ⟨_, rfl⟩
      have HZ0 : Hid (Ext W2 z0) := Lib.hid (by rw [hz]; exact Ext.trans HY0.out ((Below.refl _ _).alloc (Nat.le_refl _) _))
      have HO0 : Hid (Blk z0 u0.heap.size 39 #[.int .i64 0, .int .i64 0, .int .i64 0, .int .i64 0, .int .i64 0, .int .i64 0, .int .i64 0]) := Lib.hid (by rw [hz]; exact Blk.new _ _ _)
      rw [← hz]
      obtain ⟨gp, hg⟩ : ∃ g, g = u0.heap.size := ⟨_, rfl⟩
      rw [← hg] at HO0 ⊢
      clear hz hg
      have HD := Lib.hid (HCP.out z0 (Ext.trans HX2.out HZ0.out))
      obtain ⟨g0, g1, g2, g3, g4, g5⟩ := Blk.six (HB2.out.ext HZ0.out)
      go_wp2_with fail
      refine HD.out.mono ?_
      rintro e9 u1 ⟨vn2, vj2, rfl, hr2, hx9⟩
      have HP0 := Lib.hid (HO0.out.ext hx9)
      obtain ⟨A8, c8, rfl, -, -⟩ := hr2.nodes.slice_
      obtain ⟨A9, c9, rfl, -, -⟩ := hr2.jobs.slice_
      have HRP := Lib.hid hr2
      clear hr2
      have HY1 : Hid (Ext W2 u1) := Lib.hid (Ext.trans HZ0.out hx9)
      clear hx9 HD g0 g1 g2 g3 g4 g5
      simp only []
      go_upto_region 7 with (fail)
      obtain ⟨z1, hz⟩ : ∃ W, W = u1.alloc (.cells #[.slice A8 s.nodes.length c8, .slice A9 s.jobs.length c9, .int .i64 s.goal, .int .i64 s.prior, .int .i64 s.mode, .int .i64 s.term] 27) := ⟨_, rfl⟩
      have HE1 : Hid (Ext u1 z1) := Lib.hid (by rw [hz]; exact (Below.refl _ _).alloc (Nat.le_refl _) _)
      have HS1 : Hid (Blk z1 u1.heap.size 27 #[.slice A8 s.nodes.length c8, .slice A9 s.jobs.length c9, .int .i64 s.goal, .int .i64 s.prior, .int .i64 s.mode, .int .i64 s.term]) := Lib.hid (by rw [hz]; exact Blk.new _ _ _)
      rw [← hz]
      obtain ⟨gq, hg⟩ : ∃ g, g = u1.heap.size := ⟨_, rfl⟩
      have HGQ : Hid (u1.heap.size ≤ gq) := Lib.hid (by omega)
      rw [← hg] at HS1 ⊢
      clear hz hg
      have f4 := HS1.out.frozen 4
      have m4 := HS1.out.cell 4
      go_upto_region 8 with (fail)
      obtain ⟨z2, hz⟩ : ∃ W, W = z1.setCell ⟨gq, 4, none⟩ (.int .i64 1) := ⟨_, rfl⟩
      have HE2 : Hid (Ext u1 z2) := Lib.hid (by rw [hz]; exact Below.setCell HE1.out HGQ.out _)
      have HS2 : Hid (Blk z2 gq 27 #[.slice A8 s.nodes.length c8, .slice A9 s.jobs.length c9, .int .i64 s.goal, .int .i64 s.prior, .int .i64 1, .int .i64 s.term]) := Lib.hid (by rw [hz]; exact HS1.out.set_ 4 (.int .i64 1))
      rw [← hz]
      clear hz f4 m4 HE1 HS1 HGQ
      have HZ2 : Hid (Ext W2 z2) := Lib.hid (Ext.trans HY1.out HE2.out)
      replace HP0 := Lib.hid (HP0.out.ext HE2.out)
      have HD := Lib.hid (HNP.out z2 _ _ (HRP.out.ext HE2.out))
      obtain ⟨g0, g1, g2, g3, g4, g5⟩ := Blk.six HS2.out
      obtain ⟨k0, k1, k2, k3, k4, k5, k6, k7, k8⟩ := Blk.nine (HB1.out.ext HZ2.out)
      go_wp2_with fail
      refine HD.out.mono ?_
      rintro e9 u3 ⟨rfl, hx9⟩
      have HY3 : Hid (Ext W2 u3) := Lib.hid (Ext.trans HZ2.out hx9)
      replace HP0 := Lib.hid (HP0.out.ext hx9)
      clear hx9 HD HNP g0 g1 g2 g3 g4 g5 k0 k1 k2 k3 k4 k5 k6 k7 k8 HE2 HS2 HRP HZ2
      simp only []
      go_upto_region 9 with (fail)
      obtain ⟨z3, hz⟩ : ∃ W, W = u3.alloc (.cells #[.int .i64 0, .int .i64 0, .int .i64 0, .int .i64 0, .int .i64 0, .int .i64 0, .int .i64 0] 39) := ⟨_, rfl⟩
      have HE3 : Hid (Ext u3 z3) := Lib.hid (by rw [hz]; exact (Below.refl _ _).alloc (Nat.le_refl _) _)
      have HZ3 : Hid (Ext W2 z3) := Lib.hid (Ext.trans HY3.out HE3.out)
      replace HP0 := Lib.hid (HP0.out.ext HE3.out)
      rw [← hz]
      clear hz
      go_wp2
      go_ret
      exact ⟨rfl, Ext.trans HX2.out HZ3.out⟩
    | some o1 =>
      obtain ⟨o1, o2, o3, o4, o5, o6, o7⟩ := o1
      have hk := (HOK.out _ rfl).kind
      simp only [] at hk
      unfold optV opA at HNX
      simp only [] at HNX
      rcases hk with hk | hk | hk | hk
      · obtain rfl : o1 = 17 := hk
        clear HAO HME HOK
        have HD := Lib.hid (HNX.out w4 (Ext.trans HX2.out HX4.out))
        obtain ⟨g0, g1, g2, g3, g4, g5⟩ := Blk.six (HB2.out.ext HX4.out)
        obtain ⟨k0, k1, k2, k3, k4, k5, k6, k7, k8⟩ := Blk.nine (HB1.out.ext HX4.out)
        go_wp2_with fail
        refine HD.out.mono ?_
        rintro e9 u0 ⟨rfl, hx9⟩
        have HY0 : Hid (Ext W2 u0) := Lib.hid (Ext.trans HX4.out hx9)
        clear hx9 HD g0 g1 g2 g3 g4 g5 k0 k1 k2 k3 k4 k5 k6 k7 k8
        simp only []
        go_upto_region 6 with (fail)
        obtain ⟨z0, hz⟩ : ∃ W, W = u0.alloc (.cells #[.int .i64 17, .int .i64 o2, .int .i64 o3, .int .i64 o4, .int .i64 o5, .int .i64 o6, .int .i64 o7] 39) := ⟨_, rfl⟩
        have HZ0 : Hid (Ext W2 z0) := Lib.hid (by rw [hz]; exact Ext.trans HY0.out ((Below.refl _ _).alloc (Nat.le_refl _) _))
        have HO0 : Hid (Blk z0 u0.heap.size 39 #[.int .i64 17, .int .i64 o2, .int .i64 o3, .int .i64 o4, .int .i64 o5, .int .i64 o6, .int .i64 o7]) := Lib.hid (by rw [hz]; exact Blk.new _ _ _)
        rw [← hz]
        obtain ⟨gp, hg⟩ : ∃ g, g = u0.heap.size := ⟨_, rfl⟩
        rw [← hg] at HO0 ⊢
        clear hz hg
        have HD := Lib.hid (HCP.out z0 (Ext.trans HX2.out HZ0.out))
        obtain ⟨g0, g1, g2, g3, g4, g5⟩ := Blk.six (HB2.out.ext HZ0.out)
        go_wp2_with fail
        refine HD.out.mono ?_
        rintro e9 u1 ⟨vn2, vj2, rfl, hr2, hx9⟩
        have HP0 := Lib.hid (HO0.out.ext hx9)
        obtain ⟨A8, c8, rfl, -, -⟩ := hr2.nodes.slice_
        obtain ⟨A9, c9, rfl, -, -⟩ := hr2.jobs.slice_
        have HRP := Lib.hid hr2
        clear hr2
        have HY1 : Hid (Ext W2 u1) := Lib.hid (Ext.trans HZ0.out hx9)
        clear hx9 HD g0 g1 g2 g3 g4 g5
        simp only []
        go_upto_region 7 with (fail)
        obtain ⟨z1, hz⟩ : ∃ W, W = u1.alloc (.cells #[.slice A8 s.nodes.length c8, .slice A9 s.jobs.length c9, .int .i64 s.goal, .int .i64 s.prior, .int .i64 s.mode, .int .i64 s.term] 27) := ⟨_, rfl⟩
        have HE1 : Hid (Ext u1 z1) := Lib.hid (by rw [hz]; exact (Below.refl _ _).alloc (Nat.le_refl _) _)
        have HS1 : Hid (Blk z1 u1.heap.size 27 #[.slice A8 s.nodes.length c8, .slice A9 s.jobs.length c9, .int .i64 s.goal, .int .i64 s.prior, .int .i64 s.mode, .int .i64 s.term]) := Lib.hid (by rw [hz]; exact Blk.new _ _ _)
        rw [← hz]
        obtain ⟨gq, hg⟩ : ∃ g, g = u1.heap.size := ⟨_, rfl⟩
        have HGQ : Hid (u1.heap.size ≤ gq) := Lib.hid (by omega)
        rw [← hg] at HS1 ⊢
        clear hz hg
        have f4 := HS1.out.frozen 4
        have m4 := HS1.out.cell 4
        go_upto_region 8 with (fail)
        obtain ⟨z2, hz⟩ : ∃ W, W = z1.setCell ⟨gq, 4, none⟩ (.int .i64 1) := ⟨_, rfl⟩
        have HE2 : Hid (Ext u1 z2) := Lib.hid (by rw [hz]; exact Below.setCell HE1.out HGQ.out _)
        have HS2 : Hid (Blk z2 gq 27 #[.slice A8 s.nodes.length c8, .slice A9 s.jobs.length c9, .int .i64 s.goal, .int .i64 s.prior, .int .i64 1, .int .i64 s.term]) := Lib.hid (by rw [hz]; exact HS1.out.set_ 4 (.int .i64 1))
        rw [← hz]
        clear hz f4 m4 HE1 HS1 HGQ
        have HZ2 : Hid (Ext W2 z2) := Lib.hid (Ext.trans HY1.out HE2.out)
        replace HP0 := Lib.hid (HP0.out.ext HE2.out)
        have HD := Lib.hid (HNP.out z2 _ _ (HRP.out.ext HE2.out))
        obtain ⟨g0, g1, g2, g3, g4, g5⟩ := Blk.six HS2.out
        obtain ⟨k0, k1, k2, k3, k4, k5, k6, k7, k8⟩ := Blk.nine (HB1.out.ext HZ2.out)
        go_wp2_with fail
        refine HD.out.mono ?_
        rintro e9 u3 ⟨rfl, hx9⟩
        have HY3 : Hid (Ext W2 u3) := Lib.hid (Ext.trans HZ2.out hx9)
        replace HP0 := Lib.hid (HP0.out.ext hx9)
        clear hx9 HD HNP g0 g1 g2 g3 g4 g5 k0 k1 k2 k3 k4 k5 k6 k7 k8 HE2 HS2 HRP HZ2
        simp only []
        go_upto_region 9 with (fail)
        obtain ⟨z3, hz⟩ : ∃ W, W = u3.alloc (.cells #[.int .i64 0, .int .i64 0, .int .i64 0, .int .i64 0, .int .i64 0, .int .i64 0, .int .i64 0] 39) := ⟨_, rfl⟩
        have HE3 : Hid (Ext u3 z3) := Lib.hid (by rw [hz]; exact (Below.refl _ _).alloc (Nat.le_refl _) _)
        have HZ3 : Hid (Ext W2 z3) := Lib.hid (Ext.trans HY3.out HE3.out)
        replace HP0 := Lib.hid (HP0.out.ext HE3.out)
        rw [← hz]
        clear hz
        obtain ⟨p0, p1, p2, p3, p4, p5, p6⟩ := Blk.seven HP0.out
        go_wp2
        go_ret
        exact ⟨rfl, Ext.trans HX2.out HZ3.out⟩
      · obtain ⟨hk, ha⟩ := hk
        rcases hk with hk | hk
        · obtain rfl : o1 = 16 := hk
          clear HME HOK
          have HAC : Hid (∀ W, Ext w W → Calls Try.prog 11 #[.agg #[vn, vj, .int .i64 s.goal, .int .i64 s.prior, .int .i64 s.mode, .int .i64 s.term], .int .i64 o2] W fun e w' => e = .returned (.bool false) ∧ Ext W w') := Lib.hid fun W hW => by rw [← ha]; exact HAO.out _ W hW
          clear ha HAO
          have HD := Lib.hid (HNX.out w4 (Ext.trans HX2.out HX4.out))
          obtain ⟨g0, g1, g2, g3, g4, g5⟩ := Blk.six (HB2.out.ext HX4.out)
          obtain ⟨k0, k1, k2, k3, k4, k5, k6, k7, k8⟩ := Blk.nine (HB1.out.ext HX4.out)
          go_wp2_with fail
          refine HD.out.mono ?_
          rintro e9 u0 ⟨rfl, hx9⟩
          have HY0 : Hid (Ext W2 u0) := Lib.hid (Ext.trans HX4.out hx9)
          clear hx9 HD g0 g1 g2 g3 g4 g5 k0 k1 k2 k3 k4 k5 k6 k7 k8
          simp only []
          go_upto_region 6 with (fail)
          obtain ⟨z0, hz⟩ : ∃ W, W = u0.alloc (.cells #[.int .i64 16, .int .i64 o2, .int .i64 o3, .int .i64 o4, .int .i64 o5, .int .i64 o6, .int .i64 o7] 39) := ⟨_, rfl⟩
          have HZ0 : Hid (Ext W2 z0) := Lib.hid (by rw [hz]; exact Ext.trans HY0.out ((Below.refl _ _).alloc (Nat.le_refl _) _))
          have HO0 : Hid (Blk z0 u0.heap.size 39 #[.int .i64 16, .int .i64 o2, .int .i64 o3, .int .i64 o4, .int .i64 o5, .int .i64 o6, .int .i64 o7]) := Lib.hid (by rw [hz]; exact Blk.new _ _ _)
          rw [← hz]
          obtain ⟨gp, hg⟩ : ∃ g, g = u0.heap.size := ⟨_, rfl⟩
          rw [← hg] at HO0 ⊢
          clear hz hg
          have HD := Lib.hid (HCP.out z0 (Ext.trans HX2.out HZ0.out))
          obtain ⟨g0, g1, g2, g3, g4, g5⟩ := Blk.six (HB2.out.ext HZ0.out)
          go_wp2_with fail
          refine HD.out.mono ?_
          rintro e9 u1 ⟨vn2, vj2, rfl, hr2, hx9⟩
          have HP0 := Lib.hid (HO0.out.ext hx9)
          obtain ⟨A8, c8, rfl, -, -⟩ := hr2.nodes.slice_
          obtain ⟨A9, c9, rfl, -, -⟩ := hr2.jobs.slice_
          have HRP := Lib.hid hr2
          clear hr2
          have HY1 : Hid (Ext W2 u1) := Lib.hid (Ext.trans HZ0.out hx9)
          clear hx9 HD g0 g1 g2 g3 g4 g5
          simp only []
          go_upto_region 7 with (fail)
          obtain ⟨z1, hz⟩ : ∃ W, W = u1.alloc (.cells #[.slice A8 s.nodes.length c8, .slice A9 s.jobs.length c9, .int .i64 s.goal, .int .i64 s.prior, .int .i64 s.mode, .int .i64 s.term] 27) := ⟨_, rfl⟩
          have HE1 : Hid (Ext u1 z1) := Lib.hid (by rw [hz]; exact (Below.refl _ _).alloc (Nat.le_refl _) _)
          have HS1 : Hid (Blk z1 u1.heap.size 27 #[.slice A8 s.nodes.length c8, .slice A9 s.jobs.length c9, .int .i64 s.goal, .int .i64 s.prior, .int .i64 s.mode, .int .i64 s.term]) := Lib.hid (by rw [hz]; exact Blk.new _ _ _)
          rw [← hz]
          obtain ⟨gq, hg⟩ : ∃ g, g = u1.heap.size := ⟨_, rfl⟩
          have HGQ : Hid (u1.heap.size ≤ gq) := Lib.hid (by omega)
          rw [← hg] at HS1 ⊢
          clear hz hg
          have f4 := HS1.out.frozen 4
          have m4 := HS1.out.cell 4
          go_upto_region 8 with (fail)
          obtain ⟨z2, hz⟩ : ∃ W, W = z1.setCell ⟨gq, 4, none⟩ (.int .i64 1) := ⟨_, rfl⟩
          have HE2 : Hid (Ext u1 z2) := Lib.hid (by rw [hz]; exact Below.setCell HE1.out HGQ.out _)
          have HS2 : Hid (Blk z2 gq 27 #[.slice A8 s.nodes.length c8, .slice A9 s.jobs.length c9, .int .i64 s.goal, .int .i64 s.prior, .int .i64 1, .int .i64 s.term]) := Lib.hid (by rw [hz]; exact HS1.out.set_ 4 (.int .i64 1))
          rw [← hz]
          clear hz f4 m4 HE1 HS1 HGQ
          have HZ2 : Hid (Ext W2 z2) := Lib.hid (Ext.trans HY1.out HE2.out)
          replace HP0 := Lib.hid (HP0.out.ext HE2.out)
          have HD := Lib.hid (HNP.out z2 _ _ (HRP.out.ext HE2.out))
          obtain ⟨g0, g1, g2, g3, g4, g5⟩ := Blk.six HS2.out
          obtain ⟨k0, k1, k2, k3, k4, k5, k6, k7, k8⟩ := Blk.nine (HB1.out.ext HZ2.out)
          go_wp2_with fail
          refine HD.out.mono ?_
          rintro e9 u3 ⟨rfl, hx9⟩
          have HY3 : Hid (Ext W2 u3) := Lib.hid (Ext.trans HZ2.out hx9)
          replace HP0 := Lib.hid (HP0.out.ext hx9)
          clear hx9 HD HNP g0 g1 g2 g3 g4 g5 k0 k1 k2 k3 k4 k5 k6 k7 k8 HE2 HS2 HRP HZ2
          simp only []
          go_upto_region 9 with (fail)
          obtain ⟨z3, hz⟩ : ∃ W, W = u3.alloc (.cells #[.int .i64 0, .int .i64 0, .int .i64 0, .int .i64 0, .int .i64 0, .int .i64 0, .int .i64 0] 39) := ⟨_, rfl⟩
          have HE3 : Hid (Ext u3 z3) := Lib.hid (by rw [hz]; exact (Below.refl _ _).alloc (Nat.le_refl _) _)
          have HZ3 : Hid (Ext W2 z3) := Lib.hid (Ext.trans HY3.out HE3.out)
          replace HP0 := Lib.hid (HP0.out.ext HE3.out)
          rw [← hz]
          clear hz
          obtain ⟨p0, p1, p2, p3, p4, p5, p6⟩ := Blk.seven HP0.out
          have HD := Lib.hid (HAC.out z3 (Ext.trans HX2.out HZ3.out))
          obtain ⟨g0, g1, g2, g3, g4, g5⟩ := Blk.six (HB2.out.ext HZ3.out)
          go_wp2_with fail
          refine HD.out.mono ?_
          rintro e9 u4 ⟨rfl, hx9⟩
          have HY4 : Hid (Ext W2 u4) := Lib.hid (Ext.trans HZ3.out hx9)
          clear hx9 HD g0 g1 g2 g3 g4 g5
          simp only []
          go_wp2
          go_ret
          exact ⟨rfl, Ext.trans HX2.out HY4.out⟩
        · obtain rfl : o1 = 18 := hk
          clear HME HOK
          have HAC : Hid (∀ W, Ext w W → Calls Try.prog 11 #[.agg #[vn, vj, .int .i64 s.goal, .int .i64 s.prior, .int .i64 s.mode, .int .i64 s.term], .int .i64 o2] W fun e w' => e = .returned (.bool false) ∧ Ext W w') := Lib.hid fun W hW => by rw [← ha]; exact HAO.out _ W hW
          clear ha HAO
          have HD := Lib.hid (HNX.out w4 (Ext.trans HX2.out HX4.out))
          obtain ⟨g0, g1, g2, g3, g4, g5⟩ := Blk.six (HB2.out.ext HX4.out)
          obtain ⟨k0, k1, k2, k3, k4, k5, k6, k7, k8⟩ := Blk.nine (HB1.out.ext HX4.out)
          go_wp2_with fail
          refine HD.out.mono ?_
          rintro e9 u0 ⟨rfl, hx9⟩
          have HY0 : Hid (Ext W2 u0) := Lib.hid (Ext.trans HX4.out hx9)
          clear hx9 HD g0 g1 g2 g3 g4 g5 k0 k1 k2 k3 k4 k5 k6 k7 k8
          simp only []
          go_upto_region 6 with (fail)
          obtain ⟨z0, hz⟩ : ∃ W, W = u0.alloc (.cells #[.int .i64 18, .int .i64 o2, .int .i64 o3, .int .i64 o4, .int .i64 o5, .int .i64 o6, .int .i64 o7] 39) := ⟨_, rfl⟩
          have HZ0 : Hid (Ext W2 z0) := Lib.hid (by rw [hz]; exact Ext.trans HY0.out ((Below.refl _ _).alloc (Nat.le_refl _) _))
          have HO0 : Hid (Blk z0 u0.heap.size 39 #[.int .i64 18, .int .i64 o2, .int .i64 o3, .int .i64 o4, .int .i64 o5, .int .i64 o6, .int .i64 o7]) := Lib.hid (by rw [hz]; exact Blk.new _ _ _)
          rw [← hz]
          obtain ⟨gp, hg⟩ : ∃ g, g = u0.heap.size := ⟨_, rfl⟩
          rw [← hg] at HO0 ⊢
          clear hz hg
          have HD := Lib.hid (HCP.out z0 (Ext.trans HX2.out HZ0.out))
          obtain ⟨g0, g1, g2, g3, g4, g5⟩ := Blk.six (HB2.out.ext HZ0.out)
          go_wp2_with fail
          refine HD.out.mono ?_
          rintro e9 u1 ⟨vn2, vj2, rfl, hr2, hx9⟩
          have HP0 := Lib.hid (HO0.out.ext hx9)
          obtain ⟨A8, c8, rfl, -, -⟩ := hr2.nodes.slice_
          obtain ⟨A9, c9, rfl, -, -⟩ := hr2.jobs.slice_
          have HRP := Lib.hid hr2
          clear hr2
          have HY1 : Hid (Ext W2 u1) := Lib.hid (Ext.trans HZ0.out hx9)
          clear hx9 HD g0 g1 g2 g3 g4 g5
          simp only []
          go_upto_region 7 with (fail)
          obtain ⟨z1, hz⟩ : ∃ W, W = u1.alloc (.cells #[.slice A8 s.nodes.length c8, .slice A9 s.jobs.length c9, .int .i64 s.goal, .int .i64 s.prior, .int .i64 s.mode, .int .i64 s.term] 27) := ⟨_, rfl⟩
          have HE1 : Hid (Ext u1 z1) := Lib.hid (by rw [hz]; exact (Below.refl _ _).alloc (Nat.le_refl _) _)
          have HS1 : Hid (Blk z1 u1.heap.size 27 #[.slice A8 s.nodes.length c8, .slice A9 s.jobs.length c9, .int .i64 s.goal, .int .i64 s.prior, .int .i64 s.mode, .int .i64 s.term]) := Lib.hid (by rw [hz]; exact Blk.new _ _ _)
          rw [← hz]
          obtain ⟨gq, hg⟩ : ∃ g, g = u1.heap.size := ⟨_, rfl⟩
          have HGQ : Hid (u1.heap.size ≤ gq) := Lib.hid (by omega)
          rw [← hg] at HS1 ⊢
          clear hz hg
          have f4 := HS1.out.frozen 4
          have m4 := HS1.out.cell 4
          go_upto_region 8 with (fail)
          obtain ⟨z2, hz⟩ : ∃ W, W = z1.setCell ⟨gq, 4, none⟩ (.int .i64 1) := ⟨_, rfl⟩
          have HE2 : Hid (Ext u1 z2) := Lib.hid (by rw [hz]; exact Below.setCell HE1.out HGQ.out _)
          have HS2 : Hid (Blk z2 gq 27 #[.slice A8 s.nodes.length c8, .slice A9 s.jobs.length c9, .int .i64 s.goal, .int .i64 s.prior, .int .i64 1, .int .i64 s.term]) := Lib.hid (by rw [hz]; exact HS1.out.set_ 4 (.int .i64 1))
          rw [← hz]
          clear hz f4 m4 HE1 HS1 HGQ
          have HZ2 : Hid (Ext W2 z2) := Lib.hid (Ext.trans HY1.out HE2.out)
          replace HP0 := Lib.hid (HP0.out.ext HE2.out)
          have HD := Lib.hid (HNP.out z2 _ _ (HRP.out.ext HE2.out))
          obtain ⟨g0, g1, g2, g3, g4, g5⟩ := Blk.six HS2.out
          obtain ⟨k0, k1, k2, k3, k4, k5, k6, k7, k8⟩ := Blk.nine (HB1.out.ext HZ2.out)
          go_wp2_with fail
          refine HD.out.mono ?_
          rintro e9 u3 ⟨rfl, hx9⟩
          have HY3 : Hid (Ext W2 u3) := Lib.hid (Ext.trans HZ2.out hx9)
          replace HP0 := Lib.hid (HP0.out.ext hx9)
          clear hx9 HD HNP g0 g1 g2 g3 g4 g5 k0 k1 k2 k3 k4 k5 k6 k7 k8 HE2 HS2 HRP HZ2
          simp only []
          go_upto_region 9 with (fail)
          obtain ⟨z3, hz⟩ : ∃ W, W = u3.alloc (.cells #[.int .i64 0, .int .i64 0, .int .i64 0, .int .i64 0, .int .i64 0, .int .i64 0, .int .i64 0] 39) := ⟨_, rfl⟩
          have HE3 : Hid (Ext u3 z3) := Lib.hid (by rw [hz]; exact (Below.refl _ _).alloc (Nat.le_refl _) _)
          have HZ3 : Hid (Ext W2 z3) := Lib.hid (Ext.trans HY3.out HE3.out)
          replace HP0 := Lib.hid (HP0.out.ext HE3.out)
          rw [← hz]
          clear hz
          obtain ⟨p0, p1, p2, p3, p4, p5, p6⟩ := Blk.seven HP0.out
          have HD := Lib.hid (HAC.out z3 (Ext.trans HX2.out HZ3.out))
          obtain ⟨g0, g1, g2, g3, g4, g5⟩ := Blk.six (HB2.out.ext HZ3.out)
          go_wp2_with fail
          refine HD.out.mono ?_
          rintro e9 u4 ⟨rfl, hx9⟩
          have HY4 : Hid (Ext W2 u4) := Lib.hid (Ext.trans HZ3.out hx9)
          clear hx9 HD g0 g1 g2 g3 g4 g5
          simp only []
          go_wp2
          go_ret
          exact ⟨rfl, Ext.trans HX2.out HY4.out⟩
      · obtain ⟨hk, ha⟩ := hk
        obtain rfl : o1 = 20 := hk
        clear HME HOK
        have HAC : Hid (∀ W, Ext w W → Calls Try.prog 11 #[.agg #[vn, vj, .int .i64 s.goal, .int .i64 s.prior, .int .i64 s.mode, .int .i64 s.term], .int .i64 o3] W fun e w' => e = .returned (.bool false) ∧ Ext W w') := Lib.hid fun W hW => by rw [← ha]; exact HAO.out _ W hW
        clear ha HAO
        have HD := Lib.hid (HNX.out w4 (Ext.trans HX2.out HX4.out))
        obtain ⟨g0, g1, g2, g3, g4, g5⟩ := Blk.six (HB2.out.ext HX4.out)
        obtain ⟨k0, k1, k2, k3, k4, k5, k6, k7, k8⟩ := Blk.nine (HB1.out.ext HX4.out)
        go_wp2_with fail
        refine HD.out.mono ?_
        rintro e9 u0 ⟨rfl, hx9⟩
        have HY0 : Hid (Ext W2 u0) := Lib.hid (Ext.trans HX4.out hx9)
        clear hx9 HD g0 g1 g2 g3 g4 g5 k0 k1 k2 k3 k4 k5 k6 k7 k8
        simp only []
        go_upto_region 6 with (fail)
        obtain ⟨z0, hz⟩ : ∃ W, W = u0.alloc (.cells #[.int .i64 20, .int .i64 o2, .int .i64 o3, .int .i64 o4, .int .i64 o5, .int .i64 o6, .int .i64 o7] 39) := ⟨_, rfl⟩
        have HZ0 : Hid (Ext W2 z0) := Lib.hid (by rw [hz]; exact Ext.trans HY0.out ((Below.refl _ _).alloc (Nat.le_refl _) _))
        have HO0 : Hid (Blk z0 u0.heap.size 39 #[.int .i64 20, .int .i64 o2, .int .i64 o3, .int .i64 o4, .int .i64 o5, .int .i64 o6, .int .i64 o7]) := Lib.hid (by rw [hz]; exact Blk.new _ _ _)
        rw [← hz]
        obtain ⟨gp, hg⟩ : ∃ g, g = u0.heap.size := ⟨_, rfl⟩
        rw [← hg] at HO0 ⊢
        clear hz hg
        have HD := Lib.hid (HCP.out z0 (Ext.trans HX2.out HZ0.out))
        obtain ⟨g0, g1, g2, g3, g4, g5⟩ := Blk.six (HB2.out.ext HZ0.out)
        go_wp2_with fail
        refine HD.out.mono ?_
        rintro e9 u1 ⟨vn2, vj2, rfl, hr2, hx9⟩
        have HP0 := Lib.hid (HO0.out.ext hx9)
        obtain ⟨A8, c8, rfl, -, -⟩ := hr2.nodes.slice_
        obtain ⟨A9, c9, rfl, -, -⟩ := hr2.jobs.slice_
        have HRP := Lib.hid hr2
        clear hr2
        have HY1 : Hid (Ext W2 u1) := Lib.hid (Ext.trans HZ0.out hx9)
        clear hx9 HD g0 g1 g2 g3 g4 g5
        simp only []
        go_upto_region 7 with (fail)
        obtain ⟨z1, hz⟩ : ∃ W, W = u1.alloc (.cells #[.slice A8 s.nodes.length c8, .slice A9 s.jobs.length c9, .int .i64 s.goal, .int .i64 s.prior, .int .i64 s.mode, .int .i64 s.term] 27) := ⟨_, rfl⟩
        have HE1 : Hid (Ext u1 z1) := Lib.hid (by rw [hz]; exact (Below.refl _ _).alloc (Nat.le_refl _) _)
        have HS1 : Hid (Blk z1 u1.heap.size 27 #[.slice A8 s.nodes.length c8, .slice A9 s.jobs.length c9, .int .i64 s.goal, .int .i64 s.prior, .int .i64 s.mode, .int .i64 s.term]) := Lib.hid (by rw [hz]; exact Blk.new _ _ _)
        rw [← hz]
        obtain ⟨gq, hg⟩ : ∃ g, g = u1.heap.size := ⟨_, rfl⟩
        have HGQ : Hid (u1.heap.size ≤ gq) := Lib.hid (by omega)
        rw [← hg] at HS1 ⊢
        clear hz hg
        have f4 := HS1.out.frozen 4
        have m4 := HS1.out.cell 4
        go_upto_region 8 with (fail)
        obtain ⟨z2, hz⟩ : ∃ W, W = z1.setCell ⟨gq, 4, none⟩ (.int .i64 1) := ⟨_, rfl⟩
        have HE2 : Hid (Ext u1 z2) := Lib.hid (by rw [hz]; exact Below.setCell HE1.out HGQ.out _)
        have HS2 : Hid (Blk z2 gq 27 #[.slice A8 s.nodes.length c8, .slice A9 s.jobs.length c9, .int .i64 s.goal, .int .i64 s.prior, .int .i64 1, .int .i64 s.term]) := Lib.hid (by rw [hz]; exact HS1.out.set_ 4 (.int .i64 1))
        rw [← hz]
        clear hz f4 m4 HE1 HS1 HGQ
        have HZ2 : Hid (Ext W2 z2) := Lib.hid (Ext.trans HY1.out HE2.out)
        replace HP0 := Lib.hid (HP0.out.ext HE2.out)
        have HD := Lib.hid (HNP.out z2 _ _ (HRP.out.ext HE2.out))
        obtain ⟨g0, g1, g2, g3, g4, g5⟩ := Blk.six HS2.out
        obtain ⟨k0, k1, k2, k3, k4, k5, k6, k7, k8⟩ := Blk.nine (HB1.out.ext HZ2.out)
        go_wp2_with fail
        refine HD.out.mono ?_
        rintro e9 u3 ⟨rfl, hx9⟩
        have HY3 : Hid (Ext W2 u3) := Lib.hid (Ext.trans HZ2.out hx9)
        replace HP0 := Lib.hid (HP0.out.ext hx9)
        clear hx9 HD HNP g0 g1 g2 g3 g4 g5 k0 k1 k2 k3 k4 k5 k6 k7 k8 HE2 HS2 HRP HZ2
        simp only []
        go_upto_region 9 with (fail)
        obtain ⟨z3, hz⟩ : ∃ W, W = u3.alloc (.cells #[.int .i64 0, .int .i64 0, .int .i64 0, .int .i64 0, .int .i64 0, .int .i64 0, .int .i64 0] 39) := ⟨_, rfl⟩
        have HE3 : Hid (Ext u3 z3) := Lib.hid (by rw [hz]; exact (Below.refl _ _).alloc (Nat.le_refl _) _)
        have HZ3 : Hid (Ext W2 z3) := Lib.hid (Ext.trans HY3.out HE3.out)
        replace HP0 := Lib.hid (HP0.out.ext HE3.out)
        rw [← hz]
        clear hz
        obtain ⟨p0, p1, p2, p3, p4, p5, p6⟩ := Blk.seven HP0.out
        have HD := Lib.hid (HAC.out z3 (Ext.trans HX2.out HZ3.out))
        obtain ⟨g0, g1, g2, g3, g4, g5⟩ := Blk.six (HB2.out.ext HZ3.out)
        go_wp2_with fail
        refine HD.out.mono ?_
        rintro e9 u4 ⟨rfl, hx9⟩
        have HY4 : Hid (Ext W2 u4) := Lib.hid (Ext.trans HZ3.out hx9)
        clear hx9 HD g0 g1 g2 g3 g4 g5
        simp only []
        go_wp2
        go_ret
        exact ⟨rfl, Ext.trans HX2.out HY4.out⟩
      · obtain ⟨hk, j, hj, hp⟩ := hk
        rcases hk with hk | hk
        · obtain rfl : o1 = 11 := hk
          clear HAO HOK
          obtain ⟨A', cj, rfl, hnc', hcm', hcell'⟩ := jobs_cells HR.out.jobs
          obtain ⟨hm, ha⟩ := jobOf_some hj
          obtain ⟨m, hmm⟩ : ∃ m, m = (o2 - 1).toNat := ⟨_, rfl⟩
          rw [← hmm] at hm ha
          have hml := (List.getElem?_eq_some_iff.1 hm).1
          obtain ⟨b2, p2', rfl, hlt2, hat2⟩ := hcell' m j hm
          have HAT := Lib.hid hat2
          have HLB := Lib.hid hlt2
          have HWP : Hid (wrap64 (o2 - 1) = (m : Int) ∧ (m : Int) < (s.jobs.length : Int) ∧ (0 : Int) ≤ (m : Int) ∧ decide (m < s.jobs.length) = true) := Lib.hid ⟨by rw [IntWalk.wrap64_in _ (by have := HNJ.out; omega)]; omega, by omega, by omega, decide_eq_true hml⟩
          have HPN := Lib.hid hp
          clear hp hm ha hmm hml hat2 hlt2 hcell' hcm' hnc' hj
          have HD := Lib.hid (HNX.out w4 (Ext.trans HX2.out HX4.out))
          obtain ⟨g0, g1, g2, g3, g4, g5⟩ := Blk.six (HB2.out.ext HX4.out)
          obtain ⟨k0, k1, k2, k3, k4, k5, k6, k7, k8⟩ := Blk.nine (HB1.out.ext HX4.out)
          go_wp2_with fail
          refine HD.out.mono ?_
          rintro e9 u0 ⟨rfl, hx9⟩
          have HY0 : Hid (Ext W2 u0) := Lib.hid (Ext.trans HX4.out hx9)
          clear hx9 HD g0 g1 g2 g3 g4 g5 k0 k1 k2 k3 k4 k5 k6 k7 k8
          simp only []
          go_upto_region 6 with (fail)
          obtain ⟨z0, hz⟩ : ∃ W, W = u0.alloc (.cells #[.int .i64 11, .int .i64 o2, .int .i64 o3, .int .i64 o4, .int .i64 o5, .int .i64 o6, .int .i64 o7] 39) := ⟨_, rfl⟩
          have HZ0 : Hid (Ext W2 z0) := Lib.hid (by rw [hz]; exact Ext.trans HY0.out ((Below.refl _ _).alloc (Nat.le_refl _) _))
          have HO0 : Hid (Blk z0 u0.heap.size 39 #[.int .i64 11, .int .i64 o2, .int .i64 o3, .int .i64 o4, .int .i64 o5, .int .i64 o6, .int .i64 o7]) := Lib.hid (by rw [hz]; exact Blk.new _ _ _)
          rw [← hz]
          obtain ⟨gp, hg⟩ : ∃ g, g = u0.heap.size := ⟨_, rfl⟩
          rw [← hg] at HO0 ⊢
          clear hz hg
          have HD := Lib.hid (HCP.out z0 (Ext.trans HX2.out HZ0.out))
          obtain ⟨g0, g1, g2, g3, g4, g5⟩ := Blk.six (HB2.out.ext HZ0.out)
          go_wp2_with fail
          refine HD.out.mono ?_
          rintro e9 u1 ⟨vn2, vj2, rfl, hr2, hx9⟩
          have HP0 := Lib.hid (HO0.out.ext hx9)
          obtain ⟨A8, c8, rfl, -, -⟩ := hr2.nodes.slice_
          obtain ⟨A9, c9, rfl, -, -⟩ := hr2.jobs.slice_
          have HRP := Lib.hid hr2
          clear hr2
          have HY1 : Hid (Ext W2 u1) := Lib.hid (Ext.trans HZ0.out hx9)
          clear hx9 HD g0 g1 g2 g3 g4 g5
          simp only []
          go_upto_region 7 with (fail)
          obtain ⟨z1, hz⟩ : ∃ W, W = u1.alloc (.cells #[.slice A8 s.nodes.length c8, .slice A9 s.jobs.length c9, .int .i64 s.goal, .int .i64 s.prior, .int .i64 s.mode, .int .i64 s.term] 27) := ⟨_, rfl⟩
          have HE1 : Hid (Ext u1 z1) := Lib.hid (by rw [hz]; exact (Below.refl _ _).alloc (Nat.le_refl _) _)
          have HS1 : Hid (Blk z1 u1.heap.size 27 #[.slice A8 s.nodes.length c8, .slice A9 s.jobs.length c9, .int .i64 s.goal, .int .i64 s.prior, .int .i64 s.mode, .int .i64 s.term]) := Lib.hid (by rw [hz]; exact Blk.new _ _ _)
          rw [← hz]
          obtain ⟨gq, hg⟩ : ∃ g, g = u1.heap.size := ⟨_, rfl⟩
          have HGQ : Hid (u1.heap.size ≤ gq) := Lib.hid (by omega)
          rw [← hg] at HS1 ⊢
          clear hz hg
          have f4 := HS1.out.frozen 4
          have m4 := HS1.out.cell 4
          go_upto_region 8 with (fail)
          obtain ⟨z2, hz⟩ : ∃ W, W = z1.setCell ⟨gq, 4, none⟩ (.int .i64 1) := ⟨_, rfl⟩
          have HE2 : Hid (Ext u1 z2) := Lib.hid (by rw [hz]; exact Below.setCell HE1.out HGQ.out _)
          have HS2 : Hid (Blk z2 gq 27 #[.slice A8 s.nodes.length c8, .slice A9 s.jobs.length c9, .int .i64 s.goal, .int .i64 s.prior, .int .i64 1, .int .i64 s.term]) := Lib.hid (by rw [hz]; exact HS1.out.set_ 4 (.int .i64 1))
          rw [← hz]
          clear hz f4 m4 HE1 HS1 HGQ
          have HZ2 : Hid (Ext W2 z2) := Lib.hid (Ext.trans HY1.out HE2.out)
          replace HP0 := Lib.hid (HP0.out.ext HE2.out)
          have HD := Lib.hid (HNP.out z2 _ _ (HRP.out.ext HE2.out))
          obtain ⟨g0, g1, g2, g3, g4, g5⟩ := Blk.six HS2.out
          obtain ⟨k0, k1, k2, k3, k4, k5, k6, k7, k8⟩ := Blk.nine (HB1.out.ext HZ2.out)
          go_wp2_with fail
          refine HD.out.mono ?_
          rintro e9 u3 ⟨rfl, hx9⟩
          have HY3 : Hid (Ext W2 u3) := Lib.hid (Ext.trans HZ2.out hx9)
          replace HP0 := Lib.hid (HP0.out.ext hx9)
          clear hx9 HD HNP g0 g1 g2 g3 g4 g5 k0 k1 k2 k3 k4 k5 k6 k7 k8 HE2 HS2 HRP HZ2
          simp only []
          go_upto_region 9 with (fail)
          obtain ⟨z3, hz⟩ : ∃ W, W = u3.alloc (.cells #[.int .i64 0, .int .i64 0, .int .i64 0, .int .i64 0, .int .i64 0, .int .i64 0, .int .i64 0] 39) := ⟨_, rfl⟩
          have HE3 : Hid (Ext u3 z3) := Lib.hid (by rw [hz]; exact (Below.refl _ _).alloc (Nat.le_refl _) _)
          have HZ3 : Hid (Ext W2 z3) := Lib.hid (Ext.trans HY3.out HE3.out)
          replace HP0 := Lib.hid (HP0.out.ext HE3.out)
          rw [← hz]
          clear hz
          obtain ⟨p0, p1, p2, p3, p4, p5, p6⟩ := Blk.seven HP0.out
          obtain ⟨x0, x1, x2, x3, x4, x5, x6, x7, x8, x9, x10, x11⟩ := HAT.out.ext (Ext.trans HX2.out HZ3.out) HLB.out
          obtain ⟨wp, e6, e7, e5⟩ := HWP.out
          obtain ⟨g0, g1, g2, g3, g4, g5⟩ := Blk.six (HB2.out.ext HZ3.out)
          go_upto_region 22 with (fail)
          clear g0 g1 g2 g3 g4 g5 x0 x1 x2 x3 x4 x5 x6 x7 x8 x9 x10 x11 wp e6 e7 e5
          by_cases hz : j.pin = 0
          · have f1 : (j.pin == 0) = true := by rw [hz]; rfl
            clear hz
            go_wp2
            go_ret
            exact ⟨rfl, Ext.trans HX2.out HZ3.out⟩
          · have f1 : (j.pin == 0) = false := by simpa using hz
            have HMC : Hid (∀ W, Ext w W → Calls Try.prog 21 #[.agg #[vn, .slice (some ⟨b2, p2', none⟩) s.jobs.length cj, .int .i64 s.goal, .int .i64 s.prior, .int .i64 s.mode, .int .i64 s.term]] W fun e w' => e = .returned (.int .i64 j.pin) ∧ Ext W w') := Lib.hid fun W hW => by rw [HPN.out.resolve_left hz]; exact HME.out W hW
            have f2 : (j.pin == j.pin) = true := by simp
            clear hz
            have HD := Lib.hid (HMC.out z3 (Ext.trans HX2.out HZ3.out))
            obtain ⟨g0, g1, g2, g3, g4, g5⟩ := Blk.six (HB2.out.ext HZ3.out)
            go_wp2_with fail
            refine HD.out.mono ?_
            rintro e9 u4 ⟨rfl, hx9⟩
            have HY4 : Hid (Ext W2 u4) := Lib.hid (Ext.trans HZ3.out hx9)
            clear hx9 HD g0 g1 g2 g3 g4 g5
            simp only []
            go_wp2
            go_ret
            exact ⟨rfl, Ext.trans HX2.out HY4.out⟩
        · obtain rfl : o1 = 12 := hk
          clear HAO HOK
          obtain ⟨A', cj, rfl, hnc', hcm', hcell'⟩ := jobs_cells HR.out.jobs
          obtain ⟨hm, ha⟩ := jobOf_some hj
          obtain ⟨m, hmm⟩ : ∃ m, m = (o2 - 1).toNat := ⟨_, rfl⟩
          rw [← hmm] at hm ha
          have hml := (List.getElem?_eq_some_iff.1 hm).1
          obtain ⟨b2, p2', rfl, hlt2, hat2⟩ := hcell' m j hm
          have HAT := Lib.hid hat2
          have HLB := Lib.hid hlt2
          have HWP : Hid (wrap64 (o2 - 1) = (m : Int) ∧ (m : Int) < (s.jobs.length : Int) ∧ (0 : Int) ≤ (m : Int) ∧ decide (m < s.jobs.length) = true) := Lib.hid ⟨by rw [IntWalk.wrap64_in _ (by have := HNJ.out; omega)]; omega, by omega, by omega, decide_eq_true hml⟩
          have HPN := Lib.hid hp
          clear hp hm ha hmm hml hat2 hlt2 hcell' hcm' hnc' hj
          have HD := Lib.hid (HNX.out w4 (Ext.trans HX2.out HX4.out))
          obtain ⟨g0, g1, g2, g3, g4, g5⟩ := Blk.six (HB2.out.ext HX4.out)
          obtain ⟨k0, k1, k2, k3, k4, k5, k6, k7, k8⟩ := Blk.nine (HB1.out.ext HX4.out)
          go_wp2_with fail
          refine HD.out.mono ?_
          rintro e9 u0 ⟨rfl, hx9⟩
          have HY0 : Hid (Ext W2 u0) := Lib.hid (Ext.trans HX4.out hx9)
          clear hx9 HD g0 g1 g2 g3 g4 g5 k0 k1 k2 k3 k4 k5 k6 k7 k8
          simp only []
          go_upto_region 6 with (fail)
          obtain ⟨z0, hz⟩ : ∃ W, W = u0.alloc (.cells #[.int .i64 12, .int .i64 o2, .int .i64 o3, .int .i64 o4, .int .i64 o5, .int .i64 o6, .int .i64 o7] 39) := ⟨_, rfl⟩
          have HZ0 : Hid (Ext W2 z0) := Lib.hid (by rw [hz]; exact Ext.trans HY0.out ((Below.refl _ _).alloc (Nat.le_refl _) _))
          have HO0 : Hid (Blk z0 u0.heap.size 39 #[.int .i64 12, .int .i64 o2, .int .i64 o3, .int .i64 o4, .int .i64 o5, .int .i64 o6, .int .i64 o7]) := Lib.hid (by rw [hz]; exact Blk.new _ _ _)
          rw [← hz]
          obtain ⟨gp, hg⟩ : ∃ g, g = u0.heap.size := ⟨_, rfl⟩
          rw [← hg] at HO0 ⊢
          clear hz hg
          have HD := Lib.hid (HCP.out z0 (Ext.trans HX2.out HZ0.out))
          obtain ⟨g0, g1, g2, g3, g4, g5⟩ := Blk.six (HB2.out.ext HZ0.out)
          go_wp2_with fail
          refine HD.out.mono ?_
          rintro e9 u1 ⟨vn2, vj2, rfl, hr2, hx9⟩
          have HP0 := Lib.hid (HO0.out.ext hx9)
          obtain ⟨A8, c8, rfl, -, -⟩ := hr2.nodes.slice_
          obtain ⟨A9, c9, rfl, -, -⟩ := hr2.jobs.slice_
          have HRP := Lib.hid hr2
          clear hr2
          have HY1 : Hid (Ext W2 u1) := Lib.hid (Ext.trans HZ0.out hx9)
          clear hx9 HD g0 g1 g2 g3 g4 g5
          simp only []
          go_upto_region 7 with (fail)
          obtain ⟨z1, hz⟩ : ∃ W, W = u1.alloc (.cells #[.slice A8 s.nodes.length c8, .slice A9 s.jobs.length c9, .int .i64 s.goal, .int .i64 s.prior, .int .i64 s.mode, .int .i64 s.term] 27) := ⟨_, rfl⟩
          have HE1 : Hid (Ext u1 z1) := Lib.hid (by rw [hz]; exact (Below.refl _ _).alloc (Nat.le_refl _) _)
          have HS1 : Hid (Blk z1 u1.heap.size 27 #[.slice A8 s.nodes.length c8, .slice A9 s.jobs.length c9, .int .i64 s.goal, .int .i64 s.prior, .int .i64 s.mode, .int .i64 s.term]) := Lib.hid (by rw [hz]; exact Blk.new _ _ _)
          rw [← hz]
          obtain ⟨gq, hg⟩ : ∃ g, g = u1.heap.size := ⟨_, rfl⟩
          have HGQ : Hid (u1.heap.size ≤ gq) := Lib.hid (by omega)
          rw [← hg] at HS1 ⊢
          clear hz hg
          have f4 := HS1.out.frozen 4
          have m4 := HS1.out.cell 4
          go_upto_region 8 with (fail)
          obtain ⟨z2, hz⟩ : ∃ W, W = z1.setCell ⟨gq, 4, none⟩ (.int .i64 1) := ⟨_, rfl⟩
          have HE2 : Hid (Ext u1 z2) := Lib.hid (by rw [hz]; exact Below.setCell HE1.out HGQ.out _)
          have HS2 : Hid (Blk z2 gq 27 #[.slice A8 s.nodes.length c8, .slice A9 s.jobs.length c9, .int .i64 s.goal, .int .i64 s.prior, .int .i64 1, .int .i64 s.term]) := Lib.hid (by rw [hz]; exact HS1.out.set_ 4 (.int .i64 1))
          rw [← hz]
          clear hz f4 m4 HE1 HS1 HGQ
          have HZ2 : Hid (Ext W2 z2) := Lib.hid (Ext.trans HY1.out HE2.out)
          replace HP0 := Lib.hid (HP0.out.ext HE2.out)
          have HD := Lib.hid (HNP.out z2 _ _ (HRP.out.ext HE2.out))
          obtain ⟨g0, g1, g2, g3, g4, g5⟩ := Blk.six HS2.out
          obtain ⟨k0, k1, k2, k3, k4, k5, k6, k7, k8⟩ := Blk.nine (HB1.out.ext HZ2.out)
          go_wp2_with fail
          refine HD.out.mono ?_
          rintro e9 u3 ⟨rfl, hx9⟩
          have HY3 : Hid (Ext W2 u3) := Lib.hid (Ext.trans HZ2.out hx9)
          replace HP0 := Lib.hid (HP0.out.ext hx9)
          clear hx9 HD HNP g0 g1 g2 g3 g4 g5 k0 k1 k2 k3 k4 k5 k6 k7 k8 HE2 HS2 HRP HZ2
          simp only []
          go_upto_region 9 with (fail)
          obtain ⟨z3, hz⟩ : ∃ W, W = u3.alloc (.cells #[.int .i64 0, .int .i64 0, .int .i64 0, .int .i64 0, .int .i64 0, .int .i64 0, .int .i64 0] 39) := ⟨_, rfl⟩
          have HE3 : Hid (Ext u3 z3) := Lib.hid (by rw [hz]; exact (Below.refl _ _).alloc (Nat.le_refl _) _)
          have HZ3 : Hid (Ext W2 z3) := Lib.hid (Ext.trans HY3.out HE3.out)
          replace HP0 := Lib.hid (HP0.out.ext HE3.out)
          rw [← hz]
          clear hz
          obtain ⟨p0, p1, p2, p3, p4, p5, p6⟩ := Blk.seven HP0.out
          obtain ⟨x0, x1, x2, x3, x4, x5, x6, x7, x8, x9, x10, x11⟩ := HAT.out.ext (Ext.trans HX2.out HZ3.out) HLB.out
          obtain ⟨wp, e6, e7, e5⟩ := HWP.out
          obtain ⟨g0, g1, g2, g3, g4, g5⟩ := Blk.six (HB2.out.ext HZ3.out)
          go_upto_region 22 with (fail)
          clear g0 g1 g2 g3 g4 g5 x0 x1 x2 x3 x4 x5 x6 x7 x8 x9 x10 x11 wp e6 e7 e5
          by_cases hz : j.pin = 0
          · have f1 : (j.pin == 0) = true := by rw [hz]; rfl
            clear hz
            go_wp2
            go_ret
            exact ⟨rfl, Ext.trans HX2.out HZ3.out⟩
          · have f1 : (j.pin == 0) = false := by simpa using hz
            have HMC : Hid (∀ W, Ext w W → Calls Try.prog 21 #[.agg #[vn, .slice (some ⟨b2, p2', none⟩) s.jobs.length cj, .int .i64 s.goal, .int .i64 s.prior, .int .i64 s.mode, .int .i64 s.term]] W fun e w' => e = .returned (.int .i64 j.pin) ∧ Ext W w') := Lib.hid fun W hW => by rw [HPN.out.resolve_left hz]; exact HME.out W hW
            have f2 : (j.pin == j.pin) = true := by simp
            clear hz
            have HD := Lib.hid (HMC.out z3 (Ext.trans HX2.out HZ3.out))
            obtain ⟨g0, g1, g2, g3, g4, g5⟩ := Blk.six (HB2.out.ext HZ3.out)
            go_wp2_with fail
            refine HD.out.mono ?_
            rintro e9 u4 ⟨rfl, hx9⟩
            have HY4 : Hid (Ext W2 u4) := Lib.hid (Ext.trans HZ3.out hx9)
            clear hx9 HD g0 g1 g2 g3 g4 g5
            simp only []
            go_wp2
            go_ret
            exact ⟨rfl, Ext.trans HX2.out HY4.out⟩

end Go.Proofs.Ytkpcjdhnbjkaaaa
