/- Texts that the proof of X rests on, one behind the other. -/
import Derived.Test.YtgjidkhfnnghiaaXQ5
import Derived.Test.YtgjidkhfnnghiaaXQ13

/- Layer 16: who may fill in, and who starts: the law, walked. -/
namespace Go.Proofs.Ytgjidkhfnnghiaa
open Go.RowKit Go.Maps

set_option maxRecDepth 100000 in
theorem time16_any (now : Int) (w : World) : Calls Try.prog 6 #[.int .i64 now] w fun e w' => e = .returned (.bool (decide (0 ≤ now) && decide (now ≤ 1000000))) ∧ w = w' := by
  by_cases h1 : 0 ≤ now
  · have d1 : decide (0 ≤ now) = true := decide_eq_true h1
    by_cases h2 : now ≤ 1000000
    · have d2 : decide (now ≤ 1000000) = true := decide_eq_true h2
      rw [d1, d2]
      clear h1 h2
      go_enter Try.func6, Try.ntmps6
      go_wp2
      go_ret
      exact ⟨rfl, rfl⟩
    · have d2 : decide (now ≤ 1000000) = false := decide_eq_false h2
      rw [d1, d2]
      clear h1 h2
      go_enter Try.func6, Try.ntmps6
      go_wp2
      go_ret
      exact ⟨rfl, rfl⟩
  · have d1 : decide (0 ≤ now) = false := decide_eq_false h1
    rw [d1, Bool.false_and]
    clear h1
    go_enter Try.func6, Try.ntmps6
    go_wp2
    go_ret
    exact ⟨rfl, rfl⟩

set_option maxRecDepth 100000 in
set_option maxHeartbeats 8000000 in
theorem AheadNext_calls (c : Cf) (vn vj : Value) (s : St) (job now : Int) (w : World) (hr : RdSt w vn vj s) :
    Calls Try.prog 3 #[cfV c, stV vn vj s, .int .i64 job, .int .i64 now] w fun e w' => e = .returned (.bool true) ∧ Ext w w' := by
  have HR := Lib.hid hr
  have HAL := Lib.hid fun W => alive16_any W
  have HRI : Hid (∀ W, Ext w W → Calls Try.prog 5 #[cfV c, stV vn vj s] W fun e w' => ∃ b : Bool, e = .returned (.bool b) ∧ (b = true ↔ RightP c s) ∧ Ext W w') := Lib.hid fun W hW => RightS_any c vn vj s W (HR.out.nodes.ext hW) (HR.out.jobs.ext hW)
  have HTI := Lib.hid fun W => time16_any now W
  unfold cfV stV at HRI
  unfold cfV stV
  obtain ⟨W1, hW1⟩ : ∃ W, W = w.alloc (.cells #[.int .i64 c.nodes, .int .i64 c.queues, .int .i64 c.quota, .int .i64 c.wave, .int .i64 c.lease, .int .i64 c.retry, .int .i64 c.deadline, .int .i64 c.room, .int .i64 c.disk] 23) := ⟨_, rfl⟩
  obtain ⟨W2, hW2⟩ : ∃ W, W = W1.alloc (.cells #[vn, vj, .int .i64 s.goal, .int .i64 s.prior, .int .i64 s.mode, .int .i64 s.term] 27) := ⟨_, rfl⟩
  have s1 : W1.heap.size = w.heap.size + 1 := by rw [hW1]; simp
  have x1 : Ext w W1 := by rw [hW1]; exact (Below.refl _ _).alloc (Nat.le_refl _) _
  have x2 : Ext W1 W2 := by rw [hW2]; exact (Below.refl _ _).alloc (Nat.le_refl _) _
  have HX2 : Hid (Ext w W2) := Lib.hid (Ext.trans x1 x2)
  have HB1 : Hid (Blk W2 w.heap.size 23 #[.int .i64 c.nodes, .int .i64 c.queues, .int .i64 c.quota, .int .i64 c.wave, .int .i64 c.lease, .int .i64 c.retry, .int .i64 c.deadline, .int .i64 c.room, .int .i64 c.disk]) := Lib.hid (by
    have h : Blk W1 w.heap.size 23 #[.int .i64 c.nodes, .int .i64 c.queues, .int .i64 c.quota, .int .i64 c.wave, .int .i64 c.lease, .int .i64 c.retry, .int .i64 c.deadline, .int .i64 c.room, .int .i64 c.disk] := by rw [hW1]; exact Blk.new _ _ _
    exact h.ext x2)
  have HB2 : Hid (Blk W2 (w.heap.size + 1) 27 #[vn, vj, .int .i64 s.goal, .int .i64 s.prior, .int .i64 s.mode, .int .i64 s.term]) := Lib.hid (by
    have h : Blk W2 W1.heap.size 27 #[vn, vj, .int .i64 s.goal, .int .i64 s.prior, .int .i64 s.mode, .int .i64 s.term] := by rw [hW2]; exact Blk.new _ _ _
    rw [s1] at h
    exact h)
  have HW2 : Hid (W2 = (w.alloc (.cells #[.int .i64 c.nodes, .int .i64 c.queues, .int .i64 c.quota, .int .i64 c.wave, .int .i64 c.lease, .int .i64 c.retry, .int .i64 c.deadline, .int .i64 c.room, .int .i64 c.disk] 23)).alloc (.cells #[vn, vj, .int .i64 s.goal, .int .i64 s.prior, .int .i64 s.mode, .int .i64 s.term] 27)) := Lib.hid (by rw [hW2, hW1])
  clear hW2 hW1 s1 x1 x2 hr
  go_enter Try.func3, Try.ntmps3
  go_upto_region 1 with (fail)
  rw [← HW2.out]
  clear HW2
  have HC1 := Lib.hid (HAL.out W2)
  go_wp2_with fail
  refine HC1.out.mono ?_
  rintro e3 w3 ⟨rfl, hx3⟩
  have HX3 : Hid (Ext W2 w3) := Lib.hid hx3
  clear hx3 HC1 HAL
  simp only []
  have HC2 := Lib.hid (HRI.out w3 (Ext.trans HX2.out HX3.out))
  obtain ⟨g0, g1, g2, g3, g4, g5⟩ := Blk.six (HB2.out.ext HX3.out)
  have k0 := (HB1.out.ext HX3.out).cell 0
  have k1 := (HB1.out.ext HX3.out).cell 1
  have k2 := (HB1.out.ext HX3.out).cell 2
  have k3 := (HB1.out.ext HX3.out).cell 3
  have k4 := (HB1.out.ext HX3.out).cell 4
  have k5 := (HB1.out.ext HX3.out).cell 5
  have k6 := (HB1.out.ext HX3.out).cell 6
  have k7 := (HB1.out.ext HX3.out).cell 7
  have k8 := (HB1.out.ext HX3.out).cell 8
  go_wp2_with fail
  refine HC2.out.mono ?_
  rintro e4 w4 ⟨b, rfl, hb, hx4⟩
  have HX4 : Hid (Ext W2 w4) := Lib.hid (Ext.trans HX3.out hx4)
  have HBB := Lib.hid hb
  clear hx4 hb HC2 HRI g0 g1 g2 g3 g4 g5 k0 k1 k2 k3 k4 k5 k6 k7 k8
  simp only []
  cases b with
  | false =>
    go_wp2
    go_ret
    exact ⟨rfl, Ext.trans HX2.out HX4.out⟩
  | true =>
    have hR : RightP c s := HBB.out.1 rfl
    have hA := OkA.of_right hR
    have HC3 := Lib.hid (HTI.out w4)
    clear HBB HTI
    go_wp2_with fail
    refine HC3.out.mono ?_
    rintro e5 w5 ⟨rfl, rfl⟩
    clear HC3
    simp only []
    by_cases ht : 0 ≤ now ∧ now ≤ 1000000
    · have e0 : (decide (0 ≤ now) && decide (now ≤ 1000000)) = true := by rw [decide_eq_true ht.1, decide_eq_true ht.2]; rfl
      simp only [e0]
      have HFI : Hid (∀ W, Ext w W → Calls Try.prog 7 #[stV vn vj s, .int .i64 job, .int .i64 now] W fun e w' => e = .returned (.tuple #[.int .i64 (fillS s job now).1, .bool (fillS s job now).2]) ∧ Ext W w') := Lib.hid fun W hW => Fill_any vn vj s job now W (HR.out.nodes.ext hW) (HR.out.jobs.ext hW) hA ht.1 ht.2
      have HRF : Hid (∀ W, Ext w W → Calls Try.prog 8 #[stV vn vj s, .int .i64 job, .int .i64 now] W fun e w' => e = .returned (.tuple #[.int .i64 (fillS s job now).1, .bool (fillS s job now).2]) ∧ Ext W w') := Lib.hid fun W hW => RefFill_any vn vj s job now W (HR.out.nodes.ext hW) (HR.out.jobs.ext hW) hA.ok ht.1 ht.2
      have HNX : Hid (∀ W, Ext w W → Calls Try.prog 9 #[stV vn vj s, .int .i64 now] W fun e w' => e = .returned (.tuple #[.int .i64 (nextS s now).t, .int .i64 (nextS s now).n, .bool (nextS s now).ok]) ∧ Ext W w') := Lib.hid fun W hW => Next_any vn vj s now W (HR.out.nodes.ext hW) (HR.out.jobs.ext hW) hA ht.1 ht.2
      have HRN : Hid (∀ W, Ext w W → Calls Try.prog 10 #[stV vn vj s, .int .i64 now] W fun e w' => e = .returned (.tuple #[.int .i64 (nextS s now).t, .int .i64 (nextS s now).n, .bool (nextS s now).ok]) ∧ Ext W w') := Lib.hid fun W hW => RefNext_any vn vj s now W (HR.out.nodes.ext hW) (HR.out.jobs.ext hW) hA.ok ht.1 ht.2
      unfold stV at HFI HRF HNX HRN
      obtain ⟨⟨f1, f2⟩, hf⟩ : ∃ p, p = fillS s job now := ⟨_, rfl⟩
      obtain ⟨⟨n1, n2, n3⟩, hn⟩ : ∃ p, p = nextS s now := ⟨_, rfl⟩
      rw [← hf] at HFI HRF
      rw [← hn] at HNX HRN
      have q1 : (f1 == f1) = true := by simp
      have q2 : (f2 == f2) = true := by simp
      have q3 : (n1 == n1) = true := by simp
      have q4 : (n2 == n2) = true := by simp
      have q5 : (n3 == n3) = true := by simp
      clear hf hn ht hA hR e0
      have HD0 := Lib.hid (HFI.out w4 (Ext.trans HX2.out HX4.out))
      obtain ⟨g0, g1, g2, g3, g4, g5⟩ := Blk.six (HB2.out.ext HX4.out)
      go_wp2_with fail
      refine HD0.out.mono ?_
      rintro e9 u0 ⟨rfl, hx9⟩
      have HY0 : Hid (Ext W2 u0) := Lib.hid (Ext.trans HX4.out hx9)
      clear hx9 HD0 g0 g1 g2 g3 g4 g5
      simp only []
      have HD1 := Lib.hid (HRF.out u0 (Ext.trans HX2.out HY0.out))
      obtain ⟨g0, g1, g2, g3, g4, g5⟩ := Blk.six (HB2.out.ext HY0.out)
      go_wp2_with fail
      refine HD1.out.mono ?_
      rintro e9 u1 ⟨rfl, hx9⟩
      have HY1 : Hid (Ext W2 u1) := Lib.hid (Ext.trans HY0.out hx9)
      clear hx9 HD1 g0 g1 g2 g3 g4 g5
      simp only []
      have HD2 := Lib.hid (HNX.out u1 (Ext.trans HX2.out HY1.out))
      obtain ⟨g0, g1, g2, g3, g4, g5⟩ := Blk.six (HB2.out.ext HY1.out)
      go_wp2_with fail
      refine HD2.out.mono ?_
      rintro e9 u2 ⟨rfl, hx9⟩
      have HY2 : Hid (Ext W2 u2) := Lib.hid (Ext.trans HY1.out hx9)
      clear hx9 HD2 g0 g1 g2 g3 g4 g5
      simp only []
      have HD3 := Lib.hid (HRN.out u2 (Ext.trans HX2.out HY2.out))
      obtain ⟨g0, g1, g2, g3, g4, g5⟩ := Blk.six (HB2.out.ext HY2.out)
      go_wp2_with fail
      refine HD3.out.mono ?_
      rintro e9 u3 ⟨rfl, hx9⟩
      have HY3 : Hid (Ext W2 u3) := Lib.hid (Ext.trans HY2.out hx9)
      clear hx9 HD3 g0 g1 g2 g3 g4 g5
      simp only []
      go_wp2
      go_ret
      exact ⟨rfl, Ext.trans HX2.out HY3.out⟩
    · have e0 : (decide (0 ≤ now) && decide (now ≤ 1000000)) = false := by
        by_cases h : 0 ≤ now
        · rw [decide_eq_false (fun h2 => ht ⟨h, h2⟩), Bool.and_false]
        · rw [decide_eq_false h, Bool.false_and]
      simp only [e0]
      clear ht e0 hA hR
      go_wp2
      go_ret
      exact ⟨rfl, Ext.trans HX2.out HX4.out⟩

end Go.Proofs.Ytgjidkhfnnghiaa
