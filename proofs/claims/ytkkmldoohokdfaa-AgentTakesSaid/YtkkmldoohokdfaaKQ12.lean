/- Texts that the proof of K rests on, one behind the other. -/
import Derived.Test.YtkkmldoohokdfaaKQ11

/- The reference's Take: an order of kind 2. -/
namespace Go.Proofs.Ytkkmldoohokdfaa
open Go.RowKit

set_option maxRecDepth 100000 in
set_option maxHeartbeats 8000000 in
theorem RefTake_k2 (a : Ag) (m : Ms) (now : Int) (h : Nat) (R : RsP) (F : Fp) (w : World) (hg : goesA a m = true) (hk : m.kind = 2) (r : RsF F w h R) (h0 : 0 ≤ a.worked) (h1 : a.worked ≤ 1000000000) (hl : R.L.length ≤ 900) (hb : bytesP R.L ≤ 1000000) (hw0 : 0 ≤ R.writes) (hw1 : R.writes ≤ 1000000) :
    Calls Try.prog 36 #[agV a, msV m, .int .i64 now, .pointer (some ⟨h, 0, none⟩)] w fun e w' => RkQ a m now h R F w e w' := by
  have HK := Lib.hid hk
  clear hk
  have HR := Lib.hid r
  have HBD := Lib.hid (And.intro h0 (And.intro h1 (And.intro hl (And.intro hb (And.intro hw0 hw1)))))
  have HG := Lib.hid (goesA_iff.1 hg)
  have HGA := Lib.hid hg
  clear r h0 h1 hl hb hw0 hw1 hg
  have HI := Lib.hid infoA_
  have HO1 := Lib.hid (agA_one ({ a with up := true, term := m.term, gen := m.gen } : Ag))
  have HT1 : Hid (toldA a m = ({ a with up := true, term := m.term, gen := m.gen } : Ag)) := Lib.hid (by have h9 := HG.out.1; unfold toldA; rw [← h9])
  unfold agV msV
  rw [HG.out.1]
  go_enter Try.func36, Try.ntmps36
  go_upto_region 1 with (fail)
  go_cut [46] (fun s wc => s = .bool false ∧ wc = (((w.alloc (.cells #[.bool true, .int .i64 a.term, .int .i64 a.gen, .int .i64 a.mode, .int .i64 a.job, .int .i64 a.inc, .int .i64 a.ver, .int .i64 a.lease, .int .i64 a.worked, .int .i64 a.aim] 56)).alloc (.cells #[.int .i64 m.node, .int .i64 m.kind, .int .i64 m.term, .int .i64 m.gen, .int .i64 m.job, .int .i64 m.inc, .int .i64 m.ver, .int .i64 m.epoch, .int .i64 m.til, .int .i64 m.mode, .int .i64 m.work] 49)).alloc (.cells #[.bool false, .int .i64 0, .int .i64 0, .int .i64 0, .int .i64 0, .int .i64 0, .int .i64 0, .int .i64 0, .int .i64 0, .int .i64 0] 56)))
  case first =>
    obtain ⟨-, k1, k2, k3, k4⟩ := HG.out
    have d1 : decide (m.kind < 1) = false := decide_eq_false (by omega)
    have d2 : decide ((5 : Int) < m.kind) = false := decide_eq_false (by omega)
    have d3 : decide (m.term < a.term) = false := decide_eq_false k3
    by_cases k5 : m.term = a.term
    · have d4 : (m.term == a.term) = true := by rw [k5]; simp
      have d5 : decide (m.gen < a.gen) = false := decide_eq_false (fun hc => k4 ⟨k5, hc⟩)
      clear k1 k2 k3 k4 k5
      go_wp2_with fail
      go_meet
      exact ⟨rfl, rfl⟩
    · have d4 : (m.term == a.term) = false := by simpa using k5
      clear k1 k2 k3 k4 k5
      go_wp2_with fail
      go_meet
      exact ⟨rfl, rfl⟩
  case rest =>
    obtain ⟨rfl, rfl⟩ := hcut
    obtain ⟨sm, hsm⟩ : ∃ s, s = (decide (a.job = m.job) && decide (a.inc = m.inc)) := ⟨_, rfl⟩
    go_upto_region 5 with (fail)
    go_cut [10] (fun s wc => s = .bool sm ∧ wc = (((w.alloc (.cells #[.bool true, .int .i64 m.term, .int .i64 m.gen, .int .i64 a.mode, .int .i64 a.job, .int .i64 a.inc, .int .i64 a.ver, .int .i64 a.lease, .int .i64 a.worked, .int .i64 a.aim] 56)).alloc (.cells #[.int .i64 m.node, .int .i64 m.kind, .int .i64 m.term, .int .i64 m.gen, .int .i64 m.job, .int .i64 m.inc, .int .i64 m.ver, .int .i64 m.epoch, .int .i64 m.til, .int .i64 m.mode, .int .i64 m.work] 49)).alloc (.cells #[.bool false, .int .i64 0, .int .i64 0, .int .i64 0, .int .i64 0, .int .i64 0, .int .i64 0, .int .i64 0, .int .i64 0, .int .i64 0] 56)))
    case first =>
      by_cases hj : a.job = m.job
      · have e1 : (a.job == m.job) = true := by rw [hj]; simp
        by_cases hi : a.inc = m.inc
        · have e2 : (a.inc == m.inc) = true := by rw [hi]; simp
          have HS : Hid (sm = true) := Lib.hid (by rw [hsm]; simp [hj, hi])
          clear hsm hj hi
          go_wp2_with fail
          go_meet
          exact ⟨by rw [HS.out], rfl⟩
        · have e2 : (a.inc == m.inc) = false := by simpa using hi
          have HS : Hid (sm = false) := Lib.hid (by rw [hsm]; simp [hj, hi])
          clear hsm hj hi
          go_wp2_with fail
          go_meet
          exact ⟨by rw [HS.out], rfl⟩
      · have e1 : (a.job == m.job) = false := by simpa using hj
        have HS : Hid (sm = false) := Lib.hid (by rw [hsm]; simp [hj])
        clear hsm hj
        go_wp2_with fail
        go_meet
        exact ⟨by rw [HS.out], rfl⟩
    case rest =>
      obtain ⟨rfl, hw⟩ := hcut
      obtain ⟨b1, b2, b3, hx⟩ := three_new w #[.bool true, .int .i64 m.term, .int .i64 m.gen, .int .i64 a.mode, .int .i64 a.job, .int .i64 a.inc, .int .i64 a.ver, .int .i64 a.lease, .int .i64 a.worked, .int .i64 a.aim] #[.int .i64 m.node, .int .i64 m.kind, .int .i64 m.term, .int .i64 m.gen, .int .i64 m.job, .int .i64 m.inc, .int .i64 m.ver, .int .i64 m.epoch, .int .i64 m.til, .int .i64 m.mode, .int .i64 m.work] #[.bool false, .int .i64 0, .int .i64 0, .int .i64 0, .int .i64 0, .int .i64 0, .int .i64 0, .int .i64 0, .int .i64 0, .int .i64 0] 56 49 56
      have HGL : Hid (wc.heap.size = w.heap.size + 1 + 1 + 1) := Lib.hid (by rw [hw]; simp)
      rw [← hw] at b1 b2 b3 hx
      have HB1 := Lib.hid (b1.alloc (.cells #[.bool false, .int .i64 0, .int .i64 0, .int .i64 0, .int .i64 0, .int .i64 0, .int .i64 0, .int .i64 0, .int .i64 0, .int .i64 0] 56))
      have HB2 := Lib.hid (b2.alloc (.cells #[.bool false, .int .i64 0, .int .i64 0, .int .i64 0, .int .i64 0, .int .i64 0, .int .i64 0, .int .i64 0, .int .i64 0, .int .i64 0] 56))
      have HB3 := Lib.hid (b3.alloc (.cells #[.bool false, .int .i64 0, .int .i64 0, .int .i64 0, .int .i64 0, .int .i64 0, .int .i64 0, .int .i64 0, .int .i64 0, .int .i64 0] 56))
      have HX4 := Lib.hid (hx.trans (Ext.alloc_ wc (.cells #[.bool false, .int .i64 0, .int .i64 0, .int .i64 0, .int .i64 0, .int .i64 0, .int .i64 0, .int .i64 0, .int .i64 0, .int .i64 0] 56)))
      have HB4 := Lib.hid (Blk.new wc 56 #[.bool false, .int .i64 0, .int .i64 0, .int .i64 0, .int .i64 0, .int .i64 0, .int .i64 0, .int .i64 0, .int .i64 0, .int .i64 0])
      have HA0 : Hid (AgAt wc w.heap.size ({ a with up := true, term := m.term, gen := m.gen } : Ag)) := Lib.hid ⟨b1⟩
      clear b1 b2 b3 hx hw
      obtain ⟨c0, c1, c2, c3, c4, c5, c6, c7, c8, c9⟩ := HA0.out.cells
      go_upto_region 7 with (refine wpList_storeC rfl 56 _ _ rfl wc.heap.size (agA ({ a with up := true, term := m.term, gen := m.gen } : Ag)) rfl rfl 56 _ HB4.out HI.out rfl HO1.out ?_; intro W6 hb6 hc6)
      clear c0 c1 c2 c3 c4 c5 c6 c7 c8 c9 HA0
      obtain ⟨gl, hgl⟩ : ∃ q, q = wc.heap.size := ⟨_, rfl⟩
      rw [← hgl] at hb6 hc6 HGL ⊢
      clear hgl
      have HT6 : Hid (RkAt w gl ({ a with up := true, term := m.term, gen := m.gen } : Ag) ({ a with up := true, term := m.term, gen := m.gen } : Ag) m W6) := Lib.hid (RkAt.made HGL.out HB1.out HB2.out HB3.out HX4.out hb6 hc6)
      have HIS : Hid (∀ k, isA ({ a with up := true, term := m.term, gen := m.gen } : Ag) m k = (decide (a.mode = k) && sm)) := Lib.hid (fun k => by unfold isA; rw [hsm, Bool.and_assoc])
      have HAK : Hid (asksA a m now = (decide (m.kind = 4) && (decide (a.mode = 2) && sm) && decide (now < a.lease) && decide (m.mode = 1))) := Lib.hid (by unfold asksA dueA isA; rw [HGA.out, hsm, Bool.true_and, Bool.and_assoc (decide (a.mode = 2))])
      clear hb6 hc6 hsm HB1 HB2 HB3 HB4 HX4 HO1
      obtain ⟨a1, ha1⟩ : ∃ x, x = ({ a with up := true, term := m.term, gen := m.gen } : Ag) := ⟨_, rfl⟩
      rw [← ha1] at HT6 HIS HT1
      have HAE : Hid (a.mode = a1.mode ∧ a.job = a1.job ∧ a.inc = a1.inc ∧ a.lease = a1.lease ∧ a.worked = a1.worked) := Lib.hid (by rw [ha1]; exact ⟨rfl, rfl, rfl, rfl, rfl⟩)
      rw [HAE.out.1] at HIS HAK
      rw [HAE.out.2.2.2.1] at HAK
      clear ha1
      obtain ⟨c0, c1, c2, c3, c4, c5, c6, c7, c8, c9⟩ := HT6.out.ag.cells
      obtain ⟨m0, m1, m2, m3, m4, m5, m6, m7, m8, m9, m10⟩ := HT6.out.ms.cells
      go_upto_if 71 with (fail)
      go_cut [] (fun wx => Hid (RkAt w gl a1 (longA a1 m) m wx))
      case first =>
        by_cases hl : a1.lease < m.til
        · have d : decide (a1.lease < m.til) = true := decide_eq_true hl
          have f7 := HT6.out.lo.blk.frozen 7
          have l7 := HT6.out.lo.blk.cell 7
          have hq := (WB.start HT6.out.lo.blk).set 7 (.int .i64 m.til)
          simp only [List.setIfInBounds_toArray, List.set_cons_zero, List.set_cons_succ] at hq
          have HN := Lib.hid (HT6.out.long (a9 := longA a1 m) (by unfold longA; rw [show max a1.lease m.til = m.til by omega]; exact hq))
          clear hq hl
          rw [d]
          go_wp2_with fail
          go_meet
          exact HN
        · have d : decide (a1.lease < m.til) = false := decide_eq_false hl
          have HN : Hid (RkAt w gl a1 (longA a1 m) m W6) := Lib.hid (by have h9 := HT6.out; unfold longA; rw [show max a1.lease m.til = a1.lease by omega]; exact h9)
          clear hl
          rw [d]
          go_wp2_with fail
          go_meet
          exact HN
      case rest =>
        have HT := hcut
        clear hcut HT6 c0 c1 c2 c3 c4 c5 c6 c7 c8 c9 m0 m1 m2 m3 m4 m5 m6 m7 m8 m9 m10
        obtain ⟨c0, c1, c2, c3, c4, c5, c6, c7, c8, c9⟩ := HT.out.ag.cells
        obtain ⟨m0, m1, m2, m3, m4, m5, m6, m7, m8, m9, m10⟩ := HT.out.ms.cells
        have k1 : ¬ m.kind = 1 := by have := HK.out; omega
        have k2 : m.kind = 2 := HK.out
        have g1 : (m.kind == 1) = false := by rw [k2]; rfl
        have g2 : (m.kind == 2) = true := by rw [k2]; rfl
        cases sm with
        | false =>
          by_cases i0 : a1.mode = 0
          · have q0 : (a1.mode == 0) = true := by rw [i0]; simp
            by_cases i1 : a1.ver = m.ver
            · have q1 : (a1.ver == m.ver) = true := by rw [i1]; simp
              by_cases i2 : now < m.til
              · have q2 : decide (now < m.til) = true := decide_eq_true i2
                have HD : Hid (doA a1 m now true = ({ a1 with mode := 1, job := m.job, inc := m.inc, lease := m.til } : Ag)) := Lib.hid (by unfold doA; simp [k2, HIS.out, i0, i1, i2])
                have HNA : Hid (¬ asksA a m now = true) := Lib.hid (by rw [HAK.out]; simp [k2, i0, i1, i2])
                have HO := Lib.hid (agA_one ({ a1 with mode := 1, job := m.job, inc := m.inc, lease := m.til } : Ag))
                clear k2 k1 i0 i1 i2
                have f3 := HT.out.ag.blk.frozen 3
                have f4 := HT.out.ag.blk.frozen 4
                have f5 := HT.out.ag.blk.frozen 5
                have f7 := HT.out.ag.blk.frozen 7
                go_upto_region 39 with (fail)
                have hq := (((((WB.start HT.out.ag.blk).set 3 (.int .i64 1)).set 4 (.int .i64 m.job)).set 5 (.int .i64 m.inc)).set 7 (.int .i64 m.til))
                simp only [List.setIfInBounds_toArray, List.set_cons_zero, List.set_cons_succ] at hq
                obtain ⟨W9, hW9⟩ : ∃ W, W = ((((wc.setCell ⟨w.heap.size, 3, none⟩ (.int .i64 1)).setCell ⟨w.heap.size, 4, none⟩ (.int .i64 m.job)).setCell ⟨w.heap.size, 5, none⟩ (.int .i64 m.inc)).setCell ⟨w.heap.size, 7, none⟩ (.int .i64 m.til)) := ⟨_, rfl⟩
                rw [← hW9] at hq ⊢
                have HT9 := Lib.hid (HT.out.put (a9 := ({ a1 with mode := 1, job := m.job, inc := m.inc, lease := m.til } : Ag)) hq)
                clear hq hW9 c0 c1 c2 c3 c4 c5 c6 c7 c8 c9
                obtain ⟨c0, c1, c2, c3, c4, c5, c6, c7, c8, c9⟩ := HT9.out.ag.cells
                repeat (first | (go_big_may; refine wpList_storeB rfl 56 _ _ rfl (w.heap.size + 1 + 1) (agA ({ a1 with mode := 1, job := m.job, inc := m.inc, lease := m.til } : Ag)) rfl rfl 56 _ HT9.out.ze HI.out rfl HO.out w.heap.size w HT9.out.ext (by omega) ?_; intro w9 hb9 hx9) | go_values | go_skip | go_guarded | go_step | go_upon)
                exact bodyPost_ret (run_ctA rfl rfl rfl hb9 rfl) rfl ⟨⟨true, by rw [HT1.out, HD.out]; rfl, fun _ => ⟨rfl, HR.out.grow hx9⟩, fun hc => absurd hc HNA.out⟩⟩
              · have q2 : decide (now < m.til) = false := decide_eq_false i2
                have HD : Hid (doA a1 m now true = a1) := Lib.hid (by unfold doA; simp [k2, HIS.out, i0, i1, i2])
                have HNA : Hid (¬ asksA a m now = true) := Lib.hid (by rw [HAK.out]; simp [k2, i0, i1, i2])
                have HO := Lib.hid (agA_one a1)
                clear k2 k1 i0 i1 i2
                go_upto_region 39 with (fail)
                have HT9 := HT
                clear c0 c1 c2 c3 c4 c5 c6 c7 c8 c9
                obtain ⟨c0, c1, c2, c3, c4, c5, c6, c7, c8, c9⟩ := HT9.out.ag.cells
                repeat (first | (go_big_may; refine wpList_storeB rfl 56 _ _ rfl (w.heap.size + 1 + 1) (agA a1) rfl rfl 56 _ HT9.out.ze HI.out rfl HO.out w.heap.size w HT9.out.ext (by omega) ?_; intro w9 hb9 hx9) | go_values | go_skip | go_guarded | go_step | go_upon)
                exact bodyPost_ret (run_ctA rfl rfl rfl hb9 rfl) rfl ⟨⟨true, by rw [HT1.out, HD.out]; rfl, fun _ => ⟨rfl, HR.out.grow hx9⟩, fun hc => absurd hc HNA.out⟩⟩
            · have q1 : (a1.ver == m.ver) = false := by simpa using i1
              have HD : Hid (doA a1 m now true = a1) := Lib.hid (by unfold doA; simp [k2, HIS.out, i0, i1])
              have HNA : Hid (¬ asksA a m now = true) := Lib.hid (by rw [HAK.out]; simp [k2, i0, i1])
              have HO := Lib.hid (agA_one a1)
              clear k2 k1 i0 i1
              go_upto_region 39 with (fail)
              have HT9 := HT
              clear c0 c1 c2 c3 c4 c5 c6 c7 c8 c9
              obtain ⟨c0, c1, c2, c3, c4, c5, c6, c7, c8, c9⟩ := HT9.out.ag.cells
              repeat (first | (go_big_may; refine wpList_storeB rfl 56 _ _ rfl (w.heap.size + 1 + 1) (agA a1) rfl rfl 56 _ HT9.out.ze HI.out rfl HO.out w.heap.size w HT9.out.ext (by omega) ?_; intro w9 hb9 hx9) | go_values | go_skip | go_guarded | go_step | go_upon)
              exact bodyPost_ret (run_ctA rfl rfl rfl hb9 rfl) rfl ⟨⟨true, by rw [HT1.out, HD.out]; rfl, fun _ => ⟨rfl, HR.out.grow hx9⟩, fun hc => absurd hc HNA.out⟩⟩
          · have q0 : (a1.mode == 0) = false := by simpa using i0
            have HD : Hid (doA a1 m now true = a1) := Lib.hid (by unfold doA; simp [k2, HIS.out, i0])
            have HNA : Hid (¬ asksA a m now = true) := Lib.hid (by rw [HAK.out]; simp [k2, i0])
            have HO := Lib.hid (agA_one a1)
            clear k2 k1 i0
            go_upto_region 39 with (fail)
            have HT9 := HT
            clear c0 c1 c2 c3 c4 c5 c6 c7 c8 c9
            obtain ⟨c0, c1, c2, c3, c4, c5, c6, c7, c8, c9⟩ := HT9.out.ag.cells
            repeat (first | (go_big_may; refine wpList_storeB rfl 56 _ _ rfl (w.heap.size + 1 + 1) (agA a1) rfl rfl 56 _ HT9.out.ze HI.out rfl HO.out w.heap.size w HT9.out.ext (by omega) ?_; intro w9 hb9 hx9) | go_values | go_skip | go_guarded | go_step | go_upon)
            exact bodyPost_ret (run_ctA rfl rfl rfl hb9 rfl) rfl ⟨⟨true, by rw [HT1.out, HD.out]; rfl, fun _ => ⟨rfl, HR.out.grow hx9⟩, fun hc => absurd hc HNA.out⟩⟩
        | true =>
          by_cases j1 : a1.mode = 1
          · have p1 : (a1.mode == 1) = true := by rw [j1]; simp
            have HD : Hid (doA a1 m now true = longA a1 m) := Lib.hid (by unfold doA; simp [k2, HIS.out, j1])
            have HNA : Hid (¬ asksA a m now = true) := Lib.hid (by rw [HAK.out]; simp [k2, j1])
            have HO := Lib.hid (agA_one (longA a1 m))
            clear j1 k1 k2
            go_upto_region 15 with (fail)
            clear c0 c1 c2 c3 c4 c5 c6 c7 c8 c9
            obtain ⟨l0, l1, l2, l3, l4, l5, l6, l7, l8, l9⟩ := HT.out.lo.cells
            repeat (first | (go_big_may; refine wpList_storeB rfl 56 _ _ rfl (w.heap.size + 1 + 1) (agA (longA a1 m)) rfl rfl 56 _ HT.out.ze HI.out rfl HO.out w.heap.size w HT.out.ext (by omega) ?_; intro w9 hb9 hx9) | go_values | go_skip | go_guarded | go_step | go_upon)
            exact bodyPost_ret (run_ctA rfl rfl rfl hb9 rfl) rfl ⟨⟨true, by rw [HT1.out, HD.out]; rfl, fun _ => ⟨rfl, HR.out.grow hx9⟩, fun hc => absurd hc HNA.out⟩⟩
          have p1 : (a1.mode == 1) = false := by simpa using j1
          by_cases j2 : a1.mode = 2
          · have p2 : (a1.mode == 2) = true := by rw [j2]; simp
            have HD : Hid (doA a1 m now true = longA a1 m) := Lib.hid (by unfold doA; simp [k2, HIS.out, j1, j2])
            have HNA : Hid (¬ asksA a m now = true) := Lib.hid (by rw [HAK.out]; simp [k2, j1, j2])
            have HO := Lib.hid (agA_one (longA a1 m))
            clear j1 j2 k1 k2
            go_upto_region 15 with (fail)
            clear c0 c1 c2 c3 c4 c5 c6 c7 c8 c9
            obtain ⟨l0, l1, l2, l3, l4, l5, l6, l7, l8, l9⟩ := HT.out.lo.cells
            repeat (first | (go_big_may; refine wpList_storeB rfl 56 _ _ rfl (w.heap.size + 1 + 1) (agA (longA a1 m)) rfl rfl 56 _ HT.out.ze HI.out rfl HO.out w.heap.size w HT.out.ext (by omega) ?_; intro w9 hb9 hx9) | go_values | go_skip | go_guarded | go_step | go_upon)
            exact bodyPost_ret (run_ctA rfl rfl rfl hb9 rfl) rfl ⟨⟨true, by rw [HT1.out, HD.out]; rfl, fun _ => ⟨rfl, HR.out.grow hx9⟩, fun hc => absurd hc HNA.out⟩⟩
          have p2 : (a1.mode == 2) = false := by simpa using j2
          by_cases i0 : a1.mode = 0
          · have q0 : (a1.mode == 0) = true := by rw [i0]; simp
            by_cases i1 : a1.ver = m.ver
            · have q1 : (a1.ver == m.ver) = true := by rw [i1]; simp
              by_cases i2 : now < m.til
              · have q2 : decide (now < m.til) = true := decide_eq_true i2
                have HD : Hid (doA a1 m now true = ({ a1 with mode := 1, job := m.job, inc := m.inc, lease := m.til } : Ag)) := Lib.hid (by unfold doA; simp [k2, HIS.out, j1, j2, i0, i1, i2])
                have HNA : Hid (¬ asksA a m now = true) := Lib.hid (by rw [HAK.out]; simp [k2, j1, j2, i0, i1, i2])
                have HO := Lib.hid (agA_one ({ a1 with mode := 1, job := m.job, inc := m.inc, lease := m.til } : Ag))
                clear k2 k1 j1 j2 i0 i1 i2
                have f3 := HT.out.ag.blk.frozen 3
                have f4 := HT.out.ag.blk.frozen 4
                have f5 := HT.out.ag.blk.frozen 5
                have f7 := HT.out.ag.blk.frozen 7
                go_upto_region 39 with (fail)
                have hq := (((((WB.start HT.out.ag.blk).set 3 (.int .i64 1)).set 4 (.int .i64 m.job)).set 5 (.int .i64 m.inc)).set 7 (.int .i64 m.til))
                simp only [List.setIfInBounds_toArray, List.set_cons_zero, List.set_cons_succ] at hq
                obtain ⟨W9, hW9⟩ : ∃ W, W = ((((wc.setCell ⟨w.heap.size, 3, none⟩ (.int .i64 1)).setCell ⟨w.heap.size, 4, none⟩ (.int .i64 m.job)).setCell ⟨w.heap.size, 5, none⟩ (.int .i64 m.inc)).setCell ⟨w.heap.size, 7, none⟩ (.int .i64 m.til)) := ⟨_, rfl⟩
                rw [← hW9] at hq ⊢
                have HT9 := Lib.hid (HT.out.put (a9 := ({ a1 with mode := 1, job := m.job, inc := m.inc, lease := m.til } : Ag)) hq)
                clear hq hW9 c0 c1 c2 c3 c4 c5 c6 c7 c8 c9
                obtain ⟨c0, c1, c2, c3, c4, c5, c6, c7, c8, c9⟩ := HT9.out.ag.cells
                repeat (first | (go_big_may; refine wpList_storeB rfl 56 _ _ rfl (w.heap.size + 1 + 1) (agA ({ a1 with mode := 1, job := m.job, inc := m.inc, lease := m.til } : Ag)) rfl rfl 56 _ HT9.out.ze HI.out rfl HO.out w.heap.size w HT9.out.ext (by omega) ?_; intro w9 hb9 hx9) | go_values | go_skip | go_guarded | go_step | go_upon)
                exact bodyPost_ret (run_ctA rfl rfl rfl hb9 rfl) rfl ⟨⟨true, by rw [HT1.out, HD.out]; rfl, fun _ => ⟨rfl, HR.out.grow hx9⟩, fun hc => absurd hc HNA.out⟩⟩
              · have q2 : decide (now < m.til) = false := decide_eq_false i2
                have HD : Hid (doA a1 m now true = a1) := Lib.hid (by unfold doA; simp [k2, HIS.out, j1, j2, i0, i1, i2])
                have HNA : Hid (¬ asksA a m now = true) := Lib.hid (by rw [HAK.out]; simp [k2, j1, j2, i0, i1, i2])
                have HO := Lib.hid (agA_one a1)
                clear k2 k1 j1 j2 i0 i1 i2
                go_upto_region 39 with (fail)
                have HT9 := HT
                clear c0 c1 c2 c3 c4 c5 c6 c7 c8 c9
                obtain ⟨c0, c1, c2, c3, c4, c5, c6, c7, c8, c9⟩ := HT9.out.ag.cells
                repeat (first | (go_big_may; refine wpList_storeB rfl 56 _ _ rfl (w.heap.size + 1 + 1) (agA a1) rfl rfl 56 _ HT9.out.ze HI.out rfl HO.out w.heap.size w HT9.out.ext (by omega) ?_; intro w9 hb9 hx9) | go_values | go_skip | go_guarded | go_step | go_upon)
                exact bodyPost_ret (run_ctA rfl rfl rfl hb9 rfl) rfl ⟨⟨true, by rw [HT1.out, HD.out]; rfl, fun _ => ⟨rfl, HR.out.grow hx9⟩, fun hc => absurd hc HNA.out⟩⟩
            · have q1 : (a1.ver == m.ver) = false := by simpa using i1
              have HD : Hid (doA a1 m now true = a1) := Lib.hid (by unfold doA; simp [k2, HIS.out, j1, j2, i0, i1])
              have HNA : Hid (¬ asksA a m now = true) := Lib.hid (by rw [HAK.out]; simp [k2, j1, j2, i0, i1])
              have HO := Lib.hid (agA_one a1)
              clear k2 k1 j1 j2 i0 i1
              go_upto_region 39 with (fail)
              have HT9 := HT
              clear c0 c1 c2 c3 c4 c5 c6 c7 c8 c9
              obtain ⟨c0, c1, c2, c3, c4, c5, c6, c7, c8, c9⟩ := HT9.out.ag.cells
              repeat (first | (go_big_may; refine wpList_storeB rfl 56 _ _ rfl (w.heap.size + 1 + 1) (agA a1) rfl rfl 56 _ HT9.out.ze HI.out rfl HO.out w.heap.size w HT9.out.ext (by omega) ?_; intro w9 hb9 hx9) | go_values | go_skip | go_guarded | go_step | go_upon)
              exact bodyPost_ret (run_ctA rfl rfl rfl hb9 rfl) rfl ⟨⟨true, by rw [HT1.out, HD.out]; rfl, fun _ => ⟨rfl, HR.out.grow hx9⟩, fun hc => absurd hc HNA.out⟩⟩
          · have q0 : (a1.mode == 0) = false := by simpa using i0
            have HD : Hid (doA a1 m now true = a1) := Lib.hid (by unfold doA; simp [k2, HIS.out, j1, j2, i0])
            have HNA : Hid (¬ asksA a m now = true) := Lib.hid (by rw [HAK.out]; simp [k2, j1, j2, i0])
            have HO := Lib.hid (agA_one a1)
            clear k2 k1 j1 j2 i0
            go_upto_region 39 with (fail)
            have HT9 := HT
            clear c0 c1 c2 c3 c4 c5 c6 c7 c8 c9
            obtain ⟨c0, c1, c2, c3, c4, c5, c6, c7, c8, c9⟩ := HT9.out.ag.cells
            repeat (first | (go_big_may; refine wpList_storeB rfl 56 _ _ rfl (w.heap.size + 1 + 1) (agA a1) rfl rfl 56 _ HT9.out.ze HI.out rfl HO.out w.heap.size w HT9.out.ext (by omega) ?_; intro w9 hb9 hx9) | go_values | go_skip | go_guarded | go_step | go_upon)
            exact bodyPost_ret (run_ctA rfl rfl rfl hb9 rfl) rfl ⟨⟨true, by rw [HT1.out, HD.out]; rfl, fun _ => ⟨rfl, HR.out.grow hx9⟩, fun hc => absurd hc HNA.out⟩⟩

end Go.Proofs.Ytkkmldoohokdfaa

/- The reference's Take: an order of kind 3. -/
namespace Go.Proofs.Ytkkmldoohokdfaa
open Go.RowKit

set_option maxRecDepth 100000 in
set_option maxHeartbeats 8000000 in
theorem RefTake_k3 (a : Ag) (m : Ms) (now : Int) (h : Nat) (R : RsP) (F : Fp) (w : World) (hg : goesA a m = true) (hk : m.kind = 3) (r : RsF F w h R) (h0 : 0 ≤ a.worked) (h1 : a.worked ≤ 1000000000) (hl : R.L.length ≤ 900) (hb : bytesP R.L ≤ 1000000) (hw0 : 0 ≤ R.writes) (hw1 : R.writes ≤ 1000000) :
    Calls Try.prog 36 #[agV a, msV m, .int .i64 now, .pointer (some ⟨h, 0, none⟩)] w fun e w' => RkQ a m now h R F w e w' := by
  have HK := Lib.hid hk
  clear hk
  have HR := Lib.hid r
  have HBD := Lib.hid (And.intro h0 (And.intro h1 (And.intro hl (And.intro hb (And.intro hw0 hw1)))))
  have HG := Lib.hid (goesA_iff.1 hg)
  have HGA := Lib.hid hg
  clear r h0 h1 hl hb hw0 hw1 hg
  have HI := Lib.hid infoA_
  have HO1 := Lib.hid (agA_one ({ a with up := true, term := m.term, gen := m.gen } : Ag))
  have HT1 : Hid (toldA a m = ({ a with up := true, term := m.term, gen := m.gen } : Ag)) := Lib.hid (by have h9 := HG.out.1; unfold toldA; rw [← h9])
  unfold agV msV
  rw [HG.out.1]
  go_enter Try.func36, Try.ntmps36
  go_upto_region 1 with (fail)
  go_cut [46] (fun s wc => s = .bool false ∧ wc = (((w.alloc (.cells #[.bool true, .int .i64 a.term, .int .i64 a.gen, .int .i64 a.mode, .int .i64 a.job, .int .i64 a.inc, .int .i64 a.ver, .int .i64 a.lease, .int .i64 a.worked, .int .i64 a.aim] 56)).alloc (.cells #[.int .i64 m.node, .int .i64 m.kind, .int .i64 m.term, .int .i64 m.gen, .int .i64 m.job, .int .i64 m.inc, .int .i64 m.ver, .int .i64 m.epoch, .int .i64 m.til, .int .i64 m.mode, .int .i64 m.work] 49)).alloc (.cells #[.bool false, .int .i64 0, .int .i64 0, .int .i64 0, .int .i64 0, .int .i64 0, .int .i64 0, .int .i64 0, .int .i64 0, .int .i64 0] 56)))
  case first =>
    obtain ⟨-, k1, k2, k3, k4⟩ := HG.out
    have d1 : decide (m.kind < 1) = false := decide_eq_false (by omega)
    have d2 : decide ((5 : Int) < m.kind) = false := decide_eq_false (by omega)
    have d3 : decide (m.term < a.term) = false := decide_eq_false k3
    by_cases k5 : m.term = a.term
    · have d4 : (m.term == a.term) = true := by rw [k5]; simp
      have d5 : decide (m.gen < a.gen) = false := decide_eq_false (fun hc => k4 ⟨k5, hc⟩)
      clear k1 k2 k3 k4 k5
      go_wp2_with fail
      go_meet
      exact ⟨rfl, rfl⟩
    · have d4 : (m.term == a.term) = false := by simpa using k5
      clear k1 k2 k3 k4 k5
      go_wp2_with fail
      go_meet
      exact ⟨rfl, rfl⟩
  case rest =>
    obtain ⟨rfl, rfl⟩ := hcut
    obtain ⟨sm, hsm⟩ : ∃ s, s = (decide (a.job = m.job) && decide (a.inc = m.inc)) := ⟨_, rfl⟩
    go_upto_region 5 with (fail)
    go_cut [10] (fun s wc => s = .bool sm ∧ wc = (((w.alloc (.cells #[.bool true, .int .i64 m.term, .int .i64 m.gen, .int .i64 a.mode, .int .i64 a.job, .int .i64 a.inc, .int .i64 a.ver, .int .i64 a.lease, .int .i64 a.worked, .int .i64 a.aim] 56)).alloc (.cells #[.int .i64 m.node, .int .i64 m.kind, .int .i64 m.term, .int .i64 m.gen, .int .i64 m.job, .int .i64 m.inc, .int .i64 m.ver, .int .i64 m.epoch, .int .i64 m.til, .int .i64 m.mode, .int .i64 m.work] 49)).alloc (.cells #[.bool false, .int .i64 0, .int .i64 0, .int .i64 0, .int .i64 0, .int .i64 0, .int .i64 0, .int .i64 0, .int .i64 0, .int .i64 0] 56)))
    case first =>
      by_cases hj : a.job = m.job
      · have e1 : (a.job == m.job) = true := by rw [hj]; simp
        by_cases hi : a.inc = m.inc
        · have e2 : (a.inc == m.inc) = true := by rw [hi]; simp
          have HS : Hid (sm = true) := Lib.hid (by rw [hsm]; simp [hj, hi])
          clear hsm hj hi
          go_wp2_with fail
          go_meet
          exact ⟨by rw [HS.out], rfl⟩
        · have e2 : (a.inc == m.inc) = false := by simpa using hi
          have HS : Hid (sm = false) := Lib.hid (by rw [hsm]; simp [hj, hi])
          clear hsm hj hi
          go_wp2_with fail
          go_meet
          exact ⟨by rw [HS.out], rfl⟩
      · have e1 : (a.job == m.job) = false := by simpa using hj
        have HS : Hid (sm = false) := Lib.hid (by rw [hsm]; simp [hj])
        clear hsm hj
        go_wp2_with fail
        go_meet
        exact ⟨by rw [HS.out], rfl⟩
    case rest =>
      obtain ⟨rfl, hw⟩ := hcut
      obtain ⟨b1, b2, b3, hx⟩ := three_new w #[.bool true, .int .i64 m.term, .int .i64 m.gen, .int .i64 a.mode, .int .i64 a.job, .int .i64 a.inc, .int .i64 a.ver, .int .i64 a.lease, .int .i64 a.worked, .int .i64 a.aim] #[.int .i64 m.node, .int .i64 m.kind, .int .i64 m.term, .int .i64 m.gen, .int .i64 m.job, .int .i64 m.inc, .int .i64 m.ver, .int .i64 m.epoch, .int .i64 m.til, .int .i64 m.mode, .int .i64 m.work] #[.bool false, .int .i64 0, .int .i64 0, .int .i64 0, .int .i64 0, .int .i64 0, .int .i64 0, .int .i64 0, .int .i64 0, .int .i64 0] 56 49 56
      have HGL : Hid (wc.heap.size = w.heap.size + 1 + 1 + 1) := Lib.hid (by rw [hw]; simp)
      rw [← hw] at b1 b2 b3 hx
      have HB1 := Lib.hid (b1.alloc (.cells #[.bool false, .int .i64 0, .int .i64 0, .int .i64 0, .int .i64 0, .int .i64 0, .int .i64 0, .int .i64 0, .int .i64 0, .int .i64 0] 56))
      have HB2 := Lib.hid (b2.alloc (.cells #[.bool false, .int .i64 0, .int .i64 0, .int .i64 0, .int .i64 0, .int .i64 0, .int .i64 0, .int .i64 0, .int .i64 0, .int .i64 0] 56))
      have HB3 := Lib.hid (b3.alloc (.cells #[.bool false, .int .i64 0, .int .i64 0, .int .i64 0, .int .i64 0, .int .i64 0, .int .i64 0, .int .i64 0, .int .i64 0, .int .i64 0] 56))
      have HX4 := Lib.hid (hx.trans (Ext.alloc_ wc (.cells #[.bool false, .int .i64 0, .int .i64 0, .int .i64 0, .int .i64 0, .int .i64 0, .int .i64 0, .int .i64 0, .int .i64 0, .int .i64 0] 56)))
      have HB4 := Lib.hid (Blk.new wc 56 #[.bool false, .int .i64 0, .int .i64 0, .int .i64 0, .int .i64 0, .int .i64 0, .int .i64 0, .int .i64 0, .int .i64 0, .int .i64 0])
      have HA0 : Hid (AgAt wc w.heap.size ({ a with up := true, term := m.term, gen := m.gen } : Ag)) := Lib.hid ⟨b1⟩
      clear b1 b2 b3 hx hw
      obtain ⟨c0, c1, c2, c3, c4, c5, c6, c7, c8, c9⟩ := HA0.out.cells
      go_upto_region 7 with (refine wpList_storeC rfl 56 _ _ rfl wc.heap.size (agA ({ a with up := true, term := m.term, gen := m.gen } : Ag)) rfl rfl 56 _ HB4.out HI.out rfl HO1.out ?_; intro W6 hb6 hc6)
      clear c0 c1 c2 c3 c4 c5 c6 c7 c8 c9 HA0
      obtain ⟨gl, hgl⟩ : ∃ q, q = wc.heap.size := ⟨_, rfl⟩
      rw [← hgl] at hb6 hc6 HGL ⊢
      clear hgl
      have HT6 : Hid (RkAt w gl ({ a with up := true, term := m.term, gen := m.gen } : Ag) ({ a with up := true, term := m.term, gen := m.gen } : Ag) m W6) := Lib.hid (RkAt.made HGL.out HB1.out HB2.out HB3.out HX4.out hb6 hc6)
      have HIS : Hid (∀ k, isA ({ a with up := true, term := m.term, gen := m.gen } : Ag) m k = (decide (a.mode = k) && sm)) := Lib.hid (fun k => by unfold isA; rw [hsm, Bool.and_assoc])
      have HAK : Hid (asksA a m now = (decide (m.kind = 4) && (decide (a.mode = 2) && sm) && decide (now < a.lease) && decide (m.mode = 1))) := Lib.hid (by unfold asksA dueA isA; rw [HGA.out, hsm, Bool.true_and, Bool.and_assoc (decide (a.mode = 2))])
      clear hb6 hc6 hsm HB1 HB2 HB3 HB4 HX4 HO1
      obtain ⟨a1, ha1⟩ : ∃ x, x = ({ a with up := true, term := m.term, gen := m.gen } : Ag) := ⟨_, rfl⟩
      rw [← ha1] at HT6 HIS HT1
      have HAE : Hid (a.mode = a1.mode ∧ a.job = a1.job ∧ a.inc = a1.inc ∧ a.lease = a1.lease ∧ a.worked = a1.worked) := Lib.hid (by rw [ha1]; exact ⟨rfl, rfl, rfl, rfl, rfl⟩)
      rw [HAE.out.1] at HIS HAK
      rw [HAE.out.2.2.2.1] at HAK
      clear ha1
      obtain ⟨c0, c1, c2, c3, c4, c5, c6, c7, c8, c9⟩ := HT6.out.ag.cells
      obtain ⟨m0, m1, m2, m3, m4, m5, m6, m7, m8, m9, m10⟩ := HT6.out.ms.cells
      go_upto_if 71 with (fail)
      go_cut [] (fun wx => Hid (RkAt w gl a1 (longA a1 m) m wx))
      case first =>
        by_cases hl : a1.lease < m.til
        · have d : decide (a1.lease < m.til) = true := decide_eq_true hl
          have f7 := HT6.out.lo.blk.frozen 7
          have l7 := HT6.out.lo.blk.cell 7
          have hq := (WB.start HT6.out.lo.blk).set 7 (.int .i64 m.til)
          simp only [List.setIfInBounds_toArray, List.set_cons_zero, List.set_cons_succ] at hq
          have HN := Lib.hid (HT6.out.long (a9 := longA a1 m) (by unfold longA; rw [show max a1.lease m.til = m.til by omega]; exact hq))
          clear hq hl
          rw [d]
          go_wp2_with fail
          go_meet
          exact HN
        · have d : decide (a1.lease < m.til) = false := decide_eq_false hl
          have HN : Hid (RkAt w gl a1 (longA a1 m) m W6) := Lib.hid (by have h9 := HT6.out; unfold longA; rw [show max a1.lease m.til = a1.lease by omega]; exact h9)
          clear hl
          rw [d]
          go_wp2_with fail
          go_meet
          exact HN
      case rest =>
        have HT := hcut
        clear hcut HT6 c0 c1 c2 c3 c4 c5 c6 c7 c8 c9 m0 m1 m2 m3 m4 m5 m6 m7 m8 m9 m10
        obtain ⟨c0, c1, c2, c3, c4, c5, c6, c7, c8, c9⟩ := HT.out.ag.cells
        obtain ⟨m0, m1, m2, m3, m4, m5, m6, m7, m8, m9, m10⟩ := HT.out.ms.cells
        have k1 : ¬ m.kind = 1 := by have := HK.out; omega
        have k2 : ¬ m.kind = 2 := by have := HK.out; omega
        have k3 : m.kind = 3 := HK.out
        have g1 : (m.kind == 1) = false := by rw [k3]; rfl
        have g2 : (m.kind == 2) = false := by rw [k3]; rfl
        have g3 : (m.kind == 3) = true := by rw [k3]; rfl
        cases sm with
        | false =>
          have HD : Hid (doA a1 m now true = a1) := Lib.hid (by unfold doA; simp [k3, HIS.out])
          have HNA : Hid (¬ asksA a m now = true) := Lib.hid (by rw [HAK.out]; simp [k3])
          have HO := Lib.hid (agA_one a1)
          clear k1 k2 k3
          go_upto_region 39 with (fail)
          have HT9 := HT
          clear c0 c1 c2 c3 c4 c5 c6 c7 c8 c9
          obtain ⟨c0, c1, c2, c3, c4, c5, c6, c7, c8, c9⟩ := HT9.out.ag.cells
          repeat (first | (go_big_may; refine wpList_storeB rfl 56 _ _ rfl (w.heap.size + 1 + 1) (agA a1) rfl rfl 56 _ HT9.out.ze HI.out rfl HO.out w.heap.size w HT9.out.ext (by omega) ?_; intro w9 hb9 hx9) | go_values | go_skip | go_guarded | go_step | go_upon)
          exact bodyPost_ret (run_ctA rfl rfl rfl hb9 rfl) rfl ⟨⟨true, by rw [HT1.out, HD.out]; rfl, fun _ => ⟨rfl, HR.out.grow hx9⟩, fun hc => absurd hc HNA.out⟩⟩
        | true =>
          by_cases j2 : a1.mode = 2
          · have p2 : (a1.mode == 2) = true := by rw [j2]; simp
            have HD : Hid (doA a1 m now true = longA a1 m) := Lib.hid (by unfold doA; simp [k3, HIS.out, j2])
            have HNA : Hid (¬ asksA a m now = true) := Lib.hid (by rw [HAK.out]; simp [k3, j2])
            have HO := Lib.hid (agA_one (longA a1 m))
            clear j2 k1 k2 k3
            go_upto_region 23 with (fail)
            clear c0 c1 c2 c3 c4 c5 c6 c7 c8 c9
            obtain ⟨l0, l1, l2, l3, l4, l5, l6, l7, l8, l9⟩ := HT.out.lo.cells
            repeat (first | (go_big_may; refine wpList_storeB rfl 56 _ _ rfl (w.heap.size + 1 + 1) (agA (longA a1 m)) rfl rfl 56 _ HT.out.ze HI.out rfl HO.out w.heap.size w HT.out.ext (by omega) ?_; intro w9 hb9 hx9) | go_values | go_skip | go_guarded | go_step | go_upon)
            exact bodyPost_ret (run_ctA rfl rfl rfl hb9 rfl) rfl ⟨⟨true, by rw [HT1.out, HD.out]; rfl, fun _ => ⟨rfl, HR.out.grow hx9⟩, fun hc => absurd hc HNA.out⟩⟩
          have p2 : (a1.mode == 2) = false := by simpa using j2
          by_cases j1 : a1.mode = 1
          · have p1 : (a1.mode == 1) = true := by rw [j1]; simp
            have HD : Hid (doA a1 m now true = ({ a1 with mode := 2, worked := m.work, lease := m.til } : Ag)) := Lib.hid (by unfold doA; simp [k3, HIS.out, j1])
            have HNA : Hid (¬ asksA a m now = true) := Lib.hid (by rw [HAK.out]; simp [k3, j1])
            have HO := Lib.hid (agA_one ({ a1 with mode := 2, worked := m.work, lease := m.til } : Ag))
            clear j1 j2 k1 k2 k3
            have f3 := HT.out.ag.blk.frozen 3
            have f8 := HT.out.ag.blk.frozen 8
            have f7 := HT.out.ag.blk.frozen 7
            go_upto_region 39 with (fail)
            have hq := ((((WB.start HT.out.ag.blk).set 3 (.int .i64 2)).set 8 (.int .i64 m.work)).set 7 (.int .i64 m.til))
            simp only [List.setIfInBounds_toArray, List.set_cons_zero, List.set_cons_succ] at hq
            obtain ⟨W9, hW9⟩ : ∃ W, W = (((wc.setCell ⟨w.heap.size, 3, none⟩ (.int .i64 2)).setCell ⟨w.heap.size, 8, none⟩ (.int .i64 m.work)).setCell ⟨w.heap.size, 7, none⟩ (.int .i64 m.til)) := ⟨_, rfl⟩
            rw [← hW9] at hq ⊢
            have HT9 := Lib.hid (HT.out.put (a9 := ({ a1 with mode := 2, worked := m.work, lease := m.til } : Ag)) hq)
            clear hq hW9 c0 c1 c2 c3 c4 c5 c6 c7 c8 c9
            obtain ⟨c0, c1, c2, c3, c4, c5, c6, c7, c8, c9⟩ := HT9.out.ag.cells
            repeat (first | (go_big_may; refine wpList_storeB rfl 56 _ _ rfl (w.heap.size + 1 + 1) (agA ({ a1 with mode := 2, worked := m.work, lease := m.til } : Ag)) rfl rfl 56 _ HT9.out.ze HI.out rfl HO.out w.heap.size w HT9.out.ext (by omega) ?_; intro w9 hb9 hx9) | go_values | go_skip | go_guarded | go_step | go_upon)
            exact bodyPost_ret (run_ctA rfl rfl rfl hb9 rfl) rfl ⟨⟨true, by rw [HT1.out, HD.out]; rfl, fun _ => ⟨rfl, HR.out.grow hx9⟩, fun hc => absurd hc HNA.out⟩⟩
          · have p1 : (a1.mode == 1) = false := by simpa using j1
            have HD : Hid (doA a1 m now true = a1) := Lib.hid (by unfold doA; simp [k3, HIS.out, j1, j2])
            have HNA : Hid (¬ asksA a m now = true) := Lib.hid (by rw [HAK.out]; simp [k3, j1, j2])
            have HO := Lib.hid (agA_one a1)
            clear j1 j2 k1 k2 k3
            go_upto_region 39 with (fail)
            have HT9 := HT
            clear c0 c1 c2 c3 c4 c5 c6 c7 c8 c9
            obtain ⟨c0, c1, c2, c3, c4, c5, c6, c7, c8, c9⟩ := HT9.out.ag.cells
            repeat (first | (go_big_may; refine wpList_storeB rfl 56 _ _ rfl (w.heap.size + 1 + 1) (agA a1) rfl rfl 56 _ HT9.out.ze HI.out rfl HO.out w.heap.size w HT9.out.ext (by omega) ?_; intro w9 hb9 hx9) | go_values | go_skip | go_guarded | go_step | go_upon)
            exact bodyPost_ret (run_ctA rfl rfl rfl hb9 rfl) rfl ⟨⟨true, by rw [HT1.out, HD.out]; rfl, fun _ => ⟨rfl, HR.out.grow hx9⟩, fun hc => absurd hc HNA.out⟩⟩

end Go.Proofs.Ytkkmldoohokdfaa

/- The reference's Take: an order of kind 4. -/
namespace Go.Proofs.Ytkkmldoohokdfaa
open Go.RowKit

set_option maxRecDepth 100000 in
set_option maxHeartbeats 8000000 in
theorem RefTake_k4 (a : Ag) (m : Ms) (now : Int) (h : Nat) (R : RsP) (F : Fp) (w : World) (hg : goesA a m = true) (hk : m.kind = 4) (r : RsF F w h R) (h0 : 0 ≤ a.worked) (h1 : a.worked ≤ 1000000000) (hl : R.L.length ≤ 900) (hb : bytesP R.L ≤ 1000000) (hw0 : 0 ≤ R.writes) (hw1 : R.writes ≤ 1000000) :
    Calls Try.prog 36 #[agV a, msV m, .int .i64 now, .pointer (some ⟨h, 0, none⟩)] w fun e w' => RkQ a m now h R F w e w' := by
  have HK := Lib.hid hk
  clear hk
  have HR := Lib.hid r
  have HBD := Lib.hid (And.intro h0 (And.intro h1 (And.intro hl (And.intro hb (And.intro hw0 hw1)))))
  have HG := Lib.hid (goesA_iff.1 hg)
  have HGA := Lib.hid hg
  clear r h0 h1 hl hb hw0 hw1 hg
  have HI := Lib.hid infoA_
  have HO1 := Lib.hid (agA_one ({ a with up := true, term := m.term, gen := m.gen } : Ag))
  have HT1 : Hid (toldA a m = ({ a with up := true, term := m.term, gen := m.gen } : Ag)) := Lib.hid (by have h9 := HG.out.1; unfold toldA; rw [← h9])
  unfold agV msV
  rw [HG.out.1]
  go_enter Try.func36, Try.ntmps36
  go_upto_region 1 with (fail)
  go_cut [46] (fun s wc => s = .bool false ∧ wc = (((w.alloc (.cells #[.bool true, .int .i64 a.term, .int .i64 a.gen, .int .i64 a.mode, .int .i64 a.job, .int .i64 a.inc, .int .i64 a.ver, .int .i64 a.lease, .int .i64 a.worked, .int .i64 a.aim] 56)).alloc (.cells #[.int .i64 m.node, .int .i64 m.kind, .int .i64 m.term, .int .i64 m.gen, .int .i64 m.job, .int .i64 m.inc, .int .i64 m.ver, .int .i64 m.epoch, .int .i64 m.til, .int .i64 m.mode, .int .i64 m.work] 49)).alloc (.cells #[.bool false, .int .i64 0, .int .i64 0, .int .i64 0, .int .i64 0, .int .i64 0, .int .i64 0, .int .i64 0, .int .i64 0, .int .i64 0] 56)))
  case first =>
    obtain ⟨-, k1, k2, k3, k4⟩ := HG.out
    have d1 : decide (m.kind < 1) = false := decide_eq_false (by omega)
    have d2 : decide ((5 : Int) < m.kind) = false := decide_eq_false (by omega)
    have d3 : decide (m.term < a.term) = false := decide_eq_false k3
    by_cases k5 : m.term = a.term
    · have d4 : (m.term == a.term) = true := by rw [k5]; simp
      have d5 : decide (m.gen < a.gen) = false := decide_eq_false (fun hc => k4 ⟨k5, hc⟩)
      clear k1 k2 k3 k4 k5
      go_wp2_with fail
      go_meet
      exact ⟨rfl, rfl⟩
    · have d4 : (m.term == a.term) = false := by simpa using k5
      clear k1 k2 k3 k4 k5
      go_wp2_with fail
      go_meet
      exact ⟨rfl, rfl⟩
  case rest =>
    obtain ⟨rfl, rfl⟩ := hcut
    obtain ⟨sm, hsm⟩ : ∃ s, s = (decide (a.job = m.job) && decide (a.inc = m.inc)) := ⟨_, rfl⟩
    go_upto_region 5 with (fail)
    go_cut [10] (fun s wc => s = .bool sm ∧ wc = (((w.alloc (.cells #[.bool true, .int .i64 m.term, .int .i64 m.gen, .int .i64 a.mode, .int .i64 a.job, .int .i64 a.inc, .int .i64 a.ver, .int .i64 a.lease, .int .i64 a.worked, .int .i64 a.aim] 56)).alloc (.cells #[.int .i64 m.node, .int .i64 m.kind, .int .i64 m.term, .int .i64 m.gen, .int .i64 m.job, .int .i64 m.inc, .int .i64 m.ver, .int .i64 m.epoch, .int .i64 m.til, .int .i64 m.mode, .int .i64 m.work] 49)).alloc (.cells #[.bool false, .int .i64 0, .int .i64 0, .int .i64 0, .int .i64 0, .int .i64 0, .int .i64 0, .int .i64 0, .int .i64 0, .int .i64 0] 56)))
    case first =>
      by_cases hj : a.job = m.job
      · have e1 : (a.job == m.job) = true := by rw [hj]; simp
        by_cases hi : a.inc = m.inc
        · have e2 : (a.inc == m.inc) = true := by rw [hi]; simp
          have HS : Hid (sm = true) := Lib.hid (by rw [hsm]; simp [hj, hi])
          clear hsm hj hi
          go_wp2_with fail
          go_meet
          exact ⟨by rw [HS.out], rfl⟩
        · have e2 : (a.inc == m.inc) = false := by simpa using hi
          have HS : Hid (sm = false) := Lib.hid (by rw [hsm]; simp [hj, hi])
          clear hsm hj hi
          go_wp2_with fail
          go_meet
          exact ⟨by rw [HS.out], rfl⟩
      · have e1 : (a.job == m.job) = false := by simpa using hj
        have HS : Hid (sm = false) := Lib.hid (by rw [hsm]; simp [hj])
        clear hsm hj
        go_wp2_with fail
        go_meet
        exact ⟨by rw [HS.out], rfl⟩
    case rest =>
      obtain ⟨rfl, hw⟩ := hcut
      obtain ⟨b1, b2, b3, hx⟩ := three_new w #[.bool true, .int .i64 m.term, .int .i64 m.gen, .int .i64 a.mode, .int .i64 a.job, .int .i64 a.inc, .int .i64 a.ver, .int .i64 a.lease, .int .i64 a.worked, .int .i64 a.aim] #[.int .i64 m.node, .int .i64 m.kind, .int .i64 m.term, .int .i64 m.gen, .int .i64 m.job, .int .i64 m.inc, .int .i64 m.ver, .int .i64 m.epoch, .int .i64 m.til, .int .i64 m.mode, .int .i64 m.work] #[.bool false, .int .i64 0, .int .i64 0, .int .i64 0, .int .i64 0, .int .i64 0, .int .i64 0, .int .i64 0, .int .i64 0, .int .i64 0] 56 49 56
      have HGL : Hid (wc.heap.size = w.heap.size + 1 + 1 + 1) := Lib.hid (by rw [hw]; simp)
      rw [← hw] at b1 b2 b3 hx
      have HB1 := Lib.hid (b1.alloc (.cells #[.bool false, .int .i64 0, .int .i64 0, .int .i64 0, .int .i64 0, .int .i64 0, .int .i64 0, .int .i64 0, .int .i64 0, .int .i64 0] 56))
      have HB2 := Lib.hid (b2.alloc (.cells #[.bool false, .int .i64 0, .int .i64 0, .int .i64 0, .int .i64 0, .int .i64 0, .int .i64 0, .int .i64 0, .int .i64 0, .int .i64 0] 56))
      have HB3 := Lib.hid (b3.alloc (.cells #[.bool false, .int .i64 0, .int .i64 0, .int .i64 0, .int .i64 0, .int .i64 0, .int .i64 0, .int .i64 0, .int .i64 0, .int .i64 0] 56))
      have HX4 := Lib.hid (hx.trans (Ext.alloc_ wc (.cells #[.bool false, .int .i64 0, .int .i64 0, .int .i64 0, .int .i64 0, .int .i64 0, .int .i64 0, .int .i64 0, .int .i64 0, .int .i64 0] 56)))
      have HB4 := Lib.hid (Blk.new wc 56 #[.bool false, .int .i64 0, .int .i64 0, .int .i64 0, .int .i64 0, .int .i64 0, .int .i64 0, .int .i64 0, .int .i64 0, .int .i64 0])
      have HA0 : Hid (AgAt wc w.heap.size ({ a with up := true, term := m.term, gen := m.gen } : Ag)) := Lib.hid ⟨b1⟩
      clear b1 b2 b3 hx hw
      obtain ⟨c0, c1, c2, c3, c4, c5, c6, c7, c8, c9⟩ := HA0.out.cells
      go_upto_region 7 with (refine wpList_storeC rfl 56 _ _ rfl wc.heap.size (agA ({ a with up := true, term := m.term, gen := m.gen } : Ag)) rfl rfl 56 _ HB4.out HI.out rfl HO1.out ?_; intro W6 hb6 hc6)
      clear c0 c1 c2 c3 c4 c5 c6 c7 c8 c9 HA0
      obtain ⟨gl, hgl⟩ : ∃ q, q = wc.heap.size := ⟨_, rfl⟩
      rw [← hgl] at hb6 hc6 HGL ⊢
      clear hgl
      have HT6 : Hid (RkAt w gl ({ a with up := true, term := m.term, gen := m.gen } : Ag) ({ a with up := true, term := m.term, gen := m.gen } : Ag) m W6) := Lib.hid (RkAt.made HGL.out HB1.out HB2.out HB3.out HX4.out hb6 hc6)
      have HIS : Hid (∀ k, isA ({ a with up := true, term := m.term, gen := m.gen } : Ag) m k = (decide (a.mode = k) && sm)) := Lib.hid (fun k => by unfold isA; rw [hsm, Bool.and_assoc])
      have HAK : Hid (asksA a m now = (decide (m.kind = 4) && (decide (a.mode = 2) && sm) && decide (now < a.lease) && decide (m.mode = 1))) := Lib.hid (by unfold asksA dueA isA; rw [HGA.out, hsm, Bool.true_and, Bool.and_assoc (decide (a.mode = 2))])
      clear hb6 hc6 hsm HB1 HB2 HB3 HB4 HX4 HO1
      obtain ⟨a1, ha1⟩ : ∃ x, x = ({ a with up := true, term := m.term, gen := m.gen } : Ag) := ⟨_, rfl⟩
      rw [← ha1] at HT6 HIS HT1
      have HAE : Hid (a.mode = a1.mode ∧ a.job = a1.job ∧ a.inc = a1.inc ∧ a.lease = a1.lease ∧ a.worked = a1.worked) := Lib.hid (by rw [ha1]; exact ⟨rfl, rfl, rfl, rfl, rfl⟩)
      rw [HAE.out.1] at HIS HAK
      rw [HAE.out.2.2.2.1] at HAK
      clear ha1
      obtain ⟨c0, c1, c2, c3, c4, c5, c6, c7, c8, c9⟩ := HT6.out.ag.cells
      obtain ⟨m0, m1, m2, m3, m4, m5, m6, m7, m8, m9, m10⟩ := HT6.out.ms.cells
      go_upto_if 71 with (fail)
      go_cut [] (fun wx => Hid (RkAt w gl a1 (longA a1 m) m wx))
      case first =>
        by_cases hl : a1.lease < m.til
        · have d : decide (a1.lease < m.til) = true := decide_eq_true hl
          have f7 := HT6.out.lo.blk.frozen 7
          have l7 := HT6.out.lo.blk.cell 7
          have hq := (WB.start HT6.out.lo.blk).set 7 (.int .i64 m.til)
          simp only [List.setIfInBounds_toArray, List.set_cons_zero, List.set_cons_succ] at hq
          have HN := Lib.hid (HT6.out.long (a9 := longA a1 m) (by unfold longA; rw [show max a1.lease m.til = m.til by omega]; exact hq))
          clear hq hl
          rw [d]
          go_wp2_with fail
          go_meet
          exact HN
        · have d : decide (a1.lease < m.til) = false := decide_eq_false hl
          have HN : Hid (RkAt w gl a1 (longA a1 m) m W6) := Lib.hid (by have h9 := HT6.out; unfold longA; rw [show max a1.lease m.til = a1.lease by omega]; exact h9)
          clear hl
          rw [d]
          go_wp2_with fail
          go_meet
          exact HN
      case rest =>
        have HT := hcut
        clear hcut HT6 c0 c1 c2 c3 c4 c5 c6 c7 c8 c9 m0 m1 m2 m3 m4 m5 m6 m7 m8 m9 m10
        obtain ⟨c0, c1, c2, c3, c4, c5, c6, c7, c8, c9⟩ := HT.out.ag.cells
        obtain ⟨m0, m1, m2, m3, m4, m5, m6, m7, m8, m9, m10⟩ := HT.out.ms.cells
        have k1 : ¬ m.kind = 1 := by have := HK.out; omega
        have k2 : ¬ m.kind = 2 := by have := HK.out; omega
        have k3 : ¬ m.kind = 3 := by have := HK.out; omega
        have k4 : m.kind = 4 := HK.out
        have g1 : (m.kind == 1) = false := by rw [k4]; rfl
        have g2 : (m.kind == 2) = false := by rw [k4]; rfl
        have g3 : (m.kind == 3) = false := by rw [k4]; rfl
        have g4 : (m.kind == 4) = true := by rw [k4]; rfl
        cases sm with
        | false =>
          have HD : Hid (doA a1 m now true = a1) := Lib.hid (by unfold doA; simp [k4, HIS.out])
          have HNA : Hid (¬ asksA a m now = true) := Lib.hid (by rw [HAK.out]; simp [k4])
          have HO := Lib.hid (agA_one a1)
          clear k1 k2 k3 k4
          go_upto_region 39 with (fail)
          have HT9 := HT
          clear c0 c1 c2 c3 c4 c5 c6 c7 c8 c9
          obtain ⟨c0, c1, c2, c3, c4, c5, c6, c7, c8, c9⟩ := HT9.out.ag.cells
          repeat (first | (go_big_may; refine wpList_storeB rfl 56 _ _ rfl (w.heap.size + 1 + 1) (agA a1) rfl rfl 56 _ HT9.out.ze HI.out rfl HO.out w.heap.size w HT9.out.ext (by omega) ?_; intro w9 hb9 hx9) | go_values | go_skip | go_guarded | go_step | go_upon)
          exact bodyPost_ret (run_ctA rfl rfl rfl hb9 rfl) rfl ⟨⟨true, by rw [HT1.out, HD.out]; rfl, fun _ => ⟨rfl, HR.out.grow hx9⟩, fun hc => absurd hc HNA.out⟩⟩
        | true =>
          by_cases j2 : a1.mode = 2
          · have p2 : (a1.mode == 2) = true := by rw [j2]; simp
            by_cases j3 : now < a1.lease
            · have p3 : decide (now < a1.lease) = true := decide_eq_true j3
              by_cases j4 : m.mode = 1
              · have p4 : (m.mode == 1) = true := by rw [j4]; simp
                obtain ⟨Q, hQ⟩ : ∃ Q, Q = stageR R m.term a1.job a1.inc (svB a1.worked) := ⟨_, rfl⟩
                obtain ⟨n, hn⟩ : ∃ n : Nat, a1.worked = (n : Int) := ⟨a1.worked.toNat, by have := HBD.out; have := HAE.out; omega⟩
                have HN : Hid (n < 9007199254740992 ∧ svB a1.worked = numB (numB n).length ++ numB n ∧ (numB n).length ≤ 8) := Lib.hid (by have h9 := HBD.out; have h8 := HAE.out; exact ⟨by omega, by rw [hn]; rfl, numB_len8 (by omega)⟩)
                have HNUM : Hid (∀ W, Calls Try.prog 79 #[.int .i64 a1.worked] W fun e w' => ∃ v', e = .returned v' ∧ Grew W.heap.size 5 (.slice none 0 0) W ((numB n).map B) v' w') := Lib.hid (fun W => by rw [hn]; exact RefNum_yes n W HN.out.1)
                have HSL : Hid ((svB a1.worked).length ≤ 1000) := Lib.hid (by have h9 := HBD.out; have h8 := HAE.out; have := svB_len (n := a1.worked) (by omega) (by omega); omega)
                have HD3 : Hid (doA a1 m now true = ({ a1 with mode := 3 } : Ag)) := Lib.hid (by unfold doA; simp [k4, HIS.out, j2, j3])
                have HDN : Hid (doA a1 m now false = a1) := Lib.hid (by unfold doA; simp [k4])
                have HYA : Hid (asksA a m now = true) := Lib.hid (by rw [HAK.out]; simp [k4, j2, j3, j4])
                have HO3 := Lib.hid (agA_one ({ a1 with mode := 3 } : Ag))
                have HO := Lib.hid (agA_one a1)
                have HXD : Hid (Ext wc wc.drew) := Lib.hid (Below.drewN' (Ext.refl wc) 1)
                clear k1 k2 k3 k4 j2 j3 j4 hn
                go_upto_region 32 with (fail)
                refine held_begin (by kernel_rfl) ?_
                refine held_more (S' := fun W' : World => AgAt W' w.heap.size a1 ∧ MsAt W' (w.heap.size + 1) m) (fun _ _ => True.intro) ?_
                have hSx : (fun W' : World => AgAt W' w.heap.size a1 ∧ MsAt W' (w.heap.size + 1) m) wc.drew := ⟨HT.out.ag.ext HXD.out, HT.out.ms.ext HXD.out⟩
                refine held_take (i := 0) (v := ?_) rfl (by kernel_rfl) (by kernel_rfl) (by kernel_rfl) (by rfl) (by first | assumption | exact True.intro) ?_ ?_
                rotate_left
                · (intro W hSw; obtain ⟨-, -, -, -, x4, x5, -, -, x8, -⟩ := hSw.1.cells; obtain ⟨-, -, y2, -, -, -, -, -, -, -, -⟩ := hSw.2.cells; go_simp; (try with_reducible rfl))
                try simp only [Act.put, List.setIfInBounds_toArray, List.set_cons_zero, List.set_cons_succ]
                refine held_take (i := 1) (v := ?_) rfl (by kernel_rfl) (by kernel_rfl) (by kernel_rfl) (by rfl) (by first | assumption | exact True.intro) ?_ ?_
                rotate_left
                · (intro W hSw; obtain ⟨-, -, -, -, x4, x5, -, -, x8, -⟩ := hSw.1.cells; obtain ⟨-, -, y2, -, -, -, -, -, -, -, -⟩ := hSw.2.cells; go_simp; (try with_reducible rfl))
                try simp only [Act.put, List.setIfInBounds_toArray, List.set_cons_zero, List.set_cons_succ]
                refine held_take (i := 2) (v := ?_) rfl (by kernel_rfl) (by kernel_rfl) (by kernel_rfl) (by rfl) (by first | assumption | exact True.intro) ?_ ?_
                rotate_left
                · (intro W hSw; obtain ⟨-, -, -, -, x4, x5, -, -, x8, -⟩ := hSw.1.cells; obtain ⟨-, -, y2, -, -, -, -, -, -, -, -⟩ := hSw.2.cells; go_simp; (try with_reducible rfl))
                try simp only [Act.put, List.setIfInBounds_toArray, List.set_cons_zero, List.set_cons_succ]
                refine held_take (i := 3) (v := ?_) rfl (by kernel_rfl) (by kernel_rfl) (by kernel_rfl) (by rfl) (by first | assumption | exact True.intro) ?_ ?_
                rotate_left
                · (intro W hSw; obtain ⟨-, -, -, -, x4, x5, -, -, x8, -⟩ := hSw.1.cells; obtain ⟨-, -, y2, -, -, -, -, -, -, -, -⟩ := hSw.2.cells; go_simp; (try with_reducible rfl))
                try simp only [Act.put, List.setIfInBounds_toArray, List.set_cons_zero, List.set_cons_succ]
                refine held_take (i := 4) (v := ?_) rfl (by kernel_rfl) (by kernel_rfl) (by kernel_rfl) (by rfl) (by first | assumption | exact True.intro) ?_ ?_
                rotate_left
                · (intro W hSw; obtain ⟨-, -, -, -, x4, x5, -, -, x8, -⟩ := hSw.1.cells; obtain ⟨-, -, y2, -, -, -, -, -, -, -, -⟩ := hSw.2.cells; go_simp; (try with_reducible rfl))
                try simp only [Act.put, List.setIfInBounds_toArray, List.set_cons_zero, List.set_cons_succ]
                refine held_take (i := 5) (v := ?_) rfl (by kernel_rfl) (by kernel_rfl) (by kernel_rfl) (by rfl) (by first | assumption | exact True.intro) ?_ ?_
                rotate_left
                · (intro W hSw; obtain ⟨-, -, -, -, x4, x5, -, -, x8, -⟩ := hSw.1.cells; obtain ⟨-, -, y2, -, -, -, -, -, -, -, -⟩ := hSw.2.cells; go_simp; (try with_reducible rfl))
                try simp only [Act.put, List.setIfInBounds_toArray, List.set_cons_zero, List.set_cons_succ]
                refine held_take (i := 6) (v := ?_) rfl (by kernel_rfl) (by kernel_rfl) (by kernel_rfl) (by rfl) (by first | assumption | exact True.intro) ?_ ?_
                rotate_left
                · (intro W hSw; obtain ⟨-, -, -, -, x4, x5, -, -, x8, -⟩ := hSw.1.cells; obtain ⟨-, -, y2, -, -, -, -, -, -, -, -⟩ := hSw.2.cells; go_simp; (try with_reducible rfl))
                try simp only [Act.put, List.setIfInBounds_toArray, List.set_cons_zero, List.set_cons_succ]
                refine held_take (i := 7) (v := ?_) rfl (by kernel_rfl) (by kernel_rfl) (by kernel_rfl) (by rfl) (by first | assumption | exact True.intro) ?_ ?_
                rotate_left
                · (intro W hSw; obtain ⟨-, -, -, -, x4, x5, -, -, x8, -⟩ := hSw.1.cells; obtain ⟨-, -, y2, -, -, -, -, -, -, -, -⟩ := hSw.2.cells; go_simp; (try with_reducible rfl))
                try simp only [Act.put, List.setIfInBounds_toArray, List.set_cons_zero, List.set_cons_succ]
                refine held_take (i := 8) (v := ?_) rfl (by kernel_rfl) (by kernel_rfl) (by kernel_rfl) (by rfl) (by first | assumption | exact True.intro) ?_ ?_
                rotate_left
                · (intro W hSw; obtain ⟨-, -, -, -, x4, x5, -, -, x8, -⟩ := hSw.1.cells; obtain ⟨-, -, y2, -, -, -, -, -, -, -, -⟩ := hSw.2.cells; go_simp; (try with_reducible rfl))
                try simp only [Act.put, List.setIfInBounds_toArray, List.set_cons_zero, List.set_cons_succ]
                clear hSx c0 c1 c2 c3 c4 c5 c6 c7 c8 c9 m0 m1 m2 m3 m4 m5 m6 m7 m8 m9 m10
                refine held_op (i := 9) (by kernel_rfl) rfl (fun K hK => ?_)
                go_simp
                go_at_call 79
                refine (HNUM.out _).mono ?_
                rintro e3 w3 ⟨v3, rfl, hg3⟩
                have hr3 := Rd.own hg3.own
                have HX3 := Lib.hid (HXD.out.trans hg3.ext)
                obtain ⟨A3, d3, rfl, -, -⟩ := hr3.sliceN (List.length_map _)
                have hcv := run_conv_rd (P := Try.prog) w3 27 9 5 Try.underlying27 Try.underlying5 Try.underlying9 _ (numB n) hr3
                clear hg3 hr3
                refine hK _ _ (⟨HT.out.ag.ext HX3.out, HT.out.ms.ext HX3.out⟩) (fun hSx => ?_)
                clear hK K
                try simp only [Act.put, List.setIfInBounds_toArray, List.set_cons_zero, List.set_cons_succ]
                clear hSx
                refine held_op (i := 10) (by kernel_rfl) rfl (fun K hK => ?_)
                go_simp
                refine hK _ _ (⟨HT.out.ag.ext HX3.out, HT.out.ms.ext HX3.out⟩) (fun hSx => ?_)
                clear hK K hcv
                try simp only [Act.put, List.setIfInBounds_toArray, List.set_cons_zero, List.set_cons_succ]
                clear hSx
                refine held_op (i := 11) (by kernel_rfl) rfl (fun K hK => ?_)
                go_simp
                go_at_call 78
                refine (RefText_any ⟨(numB n).toArray⟩ w3 (by have := HN.out.2.2; show (numB n).toArray.size ≤ _; rw [List.size_toArray]; omega)).mono ?_
                rintro e4 w4 ⟨v4, rfl, hg4⟩
                have hr4 : Rd w4 v4 ((svB a1.worked).map B) := by have h := Rd.own hg4.own; rw [HN.out.2.1]; exact h
                have HX4 := Lib.hid (HX3.out.trans hg4.ext)
                obtain ⟨A4, d4, rfl, -, -⟩ := hr4.sliceN (List.length_map _)
                have HXW := Lib.hid (HT.out.ext.trans HX4.out)
                have HSZ : Hid (wc.heap.size ≤ w4.heap.size) := Lib.hid HX4.out.size
                have HC := Lib.hid (XStage_any F h R m.term a1.job a1.inc (svB a1.worked) A4 d4 w4 (HR.out.ext HXW.out) hr4 HSL.out HBD.out.2.2.1 HBD.out.2.2.2.1 HBD.out.2.2.2.2.1 HBD.out.2.2.2.2.2)
                rw [← hQ] at HC
                clear hg4 hr4
                refine hK _ _ (⟨HT.out.ag.ext HX4.out, HT.out.ms.ext HX4.out⟩) (fun hSx => ?_)
                clear hK K
                try simp only [Act.put, List.setIfInBounds_toArray, List.set_cons_zero, List.set_cons_succ]
                clear hSx
                refine held_op (i := 12) (by kernel_rfl) rfl (fun K hK => ?_)
                go_simp
                go_at_call 50
                refine (HC.out).mono ?_
                rintro e5 w5 ⟨rfl, hr5, hc5⟩
                have HR5 := Lib.hid hr5
                have HC5 := Lib.hid hc5
                have HFI : Hid (∀ k, w.heap.size ≤ k → ¬ F k) := Lib.hid (fun k hk hf => by have := HR.out.isIn k hf; omega)
                have HA5 := Lib.hid ((HT.out.ag.ext HX4.out).chg hc5 (HFI.out _ (Nat.le_refl _)))
                have HM5 := Lib.hid ((HT.out.ms.ext HX4.out).chg hc5 (HFI.out _ (Nat.le_succ _)))
                have HZ5 : Hid (Blk w5 (w.heap.size + 1 + 1) 56 #[.bool false, .int .i64 0, .int .i64 0, .int .i64 0, .int .i64 0, .int .i64 0, .int .i64 0, .int .i64 0, .int .i64 0, .int .i64 0]) := Lib.hid ((hc5.block _ (HT.out.ze.ext HX4.out).lt (HFI.out _ (by omega))).trans (HT.out.ze.ext HX4.out))
                clear hr5 hc5 HC
                refine hK _ _ (⟨HA5.out, HM5.out⟩) (fun hSx => ?_)
                clear hK K
                try simp only [Act.put, List.setIfInBounds_toArray, List.set_cons_zero, List.set_cons_succ]
                refine held_take (i := 13) (v := ?_) rfl (by kernel_rfl) (by kernel_rfl) (by kernel_rfl) (by rfl) (by first | assumption | exact True.intro) ?_ ?_
                rotate_left
                · (intro W hSw; go_simp; (try with_reducible rfl))
                try simp only [Act.put, List.setIfInBounds_toArray, List.set_cons_zero, List.set_cons_succ]
                clear hSx
                refine wpAnyH_done (by kernel_rfl) ?_ _
                refine NoPanic.normal ?_
                have HLT : Hid (w.heap.size + 1 + 1 + 1 < w4.heap.size) := Lib.hid (by have h9 := HT.out.lo.blk.lt; rw [HT.out.here] at h9; exact Nat.lt_of_lt_of_le h9 HSZ.out)
                obtain ⟨c0, c1, c2, c3, c4, c5, c6, c7, c8, c9⟩ := HA5.out.cells
                have HQ : Hid (Q = stageR R m.term a.job a.inc (svB a.worked)) := Lib.hid (by rw [HAE.out.2.1, HAE.out.2.2.1, HAE.out.2.2.2.2]; exact hQ)
                have HQ1 := Lib.hid hQ
                clear hQ
                by_cases hq0 : Q.1 = 0
                · have q0 : (Q.1 == 0) = true := by rw [hq0]; rfl
                  have q1 : ((stageR R m.term a1.job a1.inc (svB a1.worked)).1 == 0) = true := by rw [← HQ1.out]; exact q0
                  have HQ0 : Hid ((Q.1 == 0) = true) := Lib.hid q0
                  clear hq0
                  have f3 := HA5.out.blk.frozen 3
                  go_upto_region 39 with (fail)
                  have hq := ((WB.start HA5.out.blk).set 3 (.int .i64 3))
                  simp only [List.setIfInBounds_toArray, List.set_cons_zero, List.set_cons_succ] at hq
                  obtain ⟨W9, hW9⟩ : ∃ W, W = (w5.setCell ⟨w.heap.size, 3, none⟩ (.int .i64 3)) := ⟨_, rfl⟩
                  rw [← hW9] at hq ⊢
                  have HA9 : Hid (AgAt W9 w.heap.size ({ a1 with mode := 3 } : Ag)) := Lib.hid ⟨hq.blk⟩
                  have HZ9 : Hid (Blk W9 (w.heap.size + 1 + 1) 56 #[.bool false, .int .i64 0, .int .i64 0, .int .i64 0, .int .i64 0, .int .i64 0, .int .i64 0, .int .i64 0, .int .i64 0, .int .i64 0]) := Lib.hid ((hq.chg.block _ HZ5.out.lt (by intro e; have e : w.heap.size + 1 + 1 = w.heap.size := e; omega)).trans HZ5.out)
                  have HC9 := Lib.hid hq.chg
                  clear hq hW9 f3 c0 c1 c2 c3 c4 c5 c6 c7 c8 c9
                  obtain ⟨c0, c1, c2, c3, c4, c5, c6, c7, c8, c9⟩ := HA9.out.cells
                  repeat (first | (go_big_may; refine wpList_storeC rfl 56 _ _ rfl (w.heap.size + 1 + 1) (agA ({ a1 with mode := 3 } : Ag)) rfl rfl 56 _ HZ9.out HI.out rfl HO3.out ?_; intro w9 hb9 hc9) | go_values | go_skip | go_guarded | go_step | go_upon)
                  have hK := RsF.over HR.out.isIn HR.out.here HXW.out HR5.out HC5.out (K := fun k => k = w.heap.size ∨ k = w.heap.size + 1 + 1) ((HC9.out.mono (fun k _ hk => .inl hk)).trans hc9 (fun k _ hk => .inr hk)) (fun k hk => by have := HLT.out; rcases hk with hk | hk <;> omega)
                  exact bodyPost_ret (run_ctA rfl rfl rfl hb9 rfl) rfl ⟨⟨true, by rw [HT1.out, HD3.out]; rfl, fun hc => absurd HYA.out (by rw [hc]; decide), fun _ => by rw [← HQ.out]; exact ⟨HQ0.out.symm, hK⟩⟩⟩
                · have q0 : (Q.1 == 0) = false := by simpa using hq0
                  have q1 : ((stageR R m.term a1.job a1.inc (svB a1.worked)).1 == 0) = false := by rw [← HQ1.out]; exact q0
                  have HQ0 : Hid ((Q.1 == 0) = false) := Lib.hid q0
                  clear hq0
                  go_upto_region 39 with (fail)
                  repeat (first | (go_big_may; refine wpList_storeC rfl 56 _ _ rfl (w.heap.size + 1 + 1) (agA a1) rfl rfl 56 _ HZ5.out HI.out rfl HO.out ?_; intro w9 hb9 hc9) | go_values | go_skip | go_guarded | go_step | go_upon)
                  have hK := RsF.over HR.out.isIn HR.out.here HXW.out HR5.out HC5.out (K := fun k => k = w.heap.size ∨ k = w.heap.size + 1 + 1) (hc9.mono (fun k _ hk => .inr hk)) (fun k hk => by have := HLT.out; rcases hk with hk | hk <;> omega)
                  exact bodyPost_ret (run_ctA rfl rfl rfl hb9 rfl) rfl ⟨⟨false, by rw [HT1.out, HDN.out]; rfl, fun hc => absurd HYA.out (by rw [hc]; decide), fun _ => by rw [← HQ.out]; exact ⟨HQ0.out.symm, hK⟩⟩⟩
              · have p4 : (m.mode == 1) = false := by simpa using j4
                have HD : Hid (doA a1 m now true = ({ a1 with mode := 3 } : Ag)) := Lib.hid (by unfold doA; simp [k4, HIS.out, j2, j3, j4])
                have HNA : Hid (¬ asksA a m now = true) := Lib.hid (by rw [HAK.out]; simp [k4, j2, j3, j4])
                have HO := Lib.hid (agA_one ({ a1 with mode := 3 } : Ag))
                clear k1 k2 k3 k4 j2 j3 j4
                have f3 := HT.out.ag.blk.frozen 3
                go_upto_region 39 with (fail)
                have hq := ((WB.start HT.out.ag.blk).set 3 (.int .i64 3))
                simp only [List.setIfInBounds_toArray, List.set_cons_zero, List.set_cons_succ] at hq
                obtain ⟨W9, hW9⟩ : ∃ W, W = (wc.setCell ⟨w.heap.size, 3, none⟩ (.int .i64 3)) := ⟨_, rfl⟩
                rw [← hW9] at hq ⊢
                have HT9 := Lib.hid (HT.out.put (a9 := ({ a1 with mode := 3 } : Ag)) hq)
                clear hq hW9 c0 c1 c2 c3 c4 c5 c6 c7 c8 c9
                obtain ⟨c0, c1, c2, c3, c4, c5, c6, c7, c8, c9⟩ := HT9.out.ag.cells
                repeat (first | (go_big_may; refine wpList_storeB rfl 56 _ _ rfl (w.heap.size + 1 + 1) (agA ({ a1 with mode := 3 } : Ag)) rfl rfl 56 _ HT9.out.ze HI.out rfl HO.out w.heap.size w HT9.out.ext (by omega) ?_; intro w9 hb9 hx9) | go_values | go_skip | go_guarded | go_step | go_upon)
                exact bodyPost_ret (run_ctA rfl rfl rfl hb9 rfl) rfl ⟨⟨true, by rw [HT1.out, HD.out]; rfl, fun _ => ⟨rfl, HR.out.grow hx9⟩, fun hc => absurd hc HNA.out⟩⟩
            · have p3 : decide (now < a1.lease) = false := decide_eq_false j3
              have HD : Hid (doA a1 m now true = a1) := Lib.hid (by unfold doA; simp [k4, HIS.out, j2, j3])
              have HNA : Hid (¬ asksA a m now = true) := Lib.hid (by rw [HAK.out]; simp [k4, j2, j3])
              have HO := Lib.hid (agA_one a1)
              clear k1 k2 k3 k4 j2 j3
              go_upto_region 39 with (fail)
              have HT9 := HT
              clear c0 c1 c2 c3 c4 c5 c6 c7 c8 c9
              obtain ⟨c0, c1, c2, c3, c4, c5, c6, c7, c8, c9⟩ := HT9.out.ag.cells
              repeat (first | (go_big_may; refine wpList_storeB rfl 56 _ _ rfl (w.heap.size + 1 + 1) (agA a1) rfl rfl 56 _ HT9.out.ze HI.out rfl HO.out w.heap.size w HT9.out.ext (by omega) ?_; intro w9 hb9 hx9) | go_values | go_skip | go_guarded | go_step | go_upon)
              exact bodyPost_ret (run_ctA rfl rfl rfl hb9 rfl) rfl ⟨⟨true, by rw [HT1.out, HD.out]; rfl, fun _ => ⟨rfl, HR.out.grow hx9⟩, fun hc => absurd hc HNA.out⟩⟩
          · have p2 : (a1.mode == 2) = false := by simpa using j2
            have HD : Hid (doA a1 m now true = a1) := Lib.hid (by unfold doA; simp [k4, HIS.out, j2])
            have HNA : Hid (¬ asksA a m now = true) := Lib.hid (by rw [HAK.out]; simp [k4, j2])
            have HO := Lib.hid (agA_one a1)
            clear k1 k2 k3 k4 j2
            go_upto_region 39 with (fail)
            have HT9 := HT
            clear c0 c1 c2 c3 c4 c5 c6 c7 c8 c9
            obtain ⟨c0, c1, c2, c3, c4, c5, c6, c7, c8, c9⟩ := HT9.out.ag.cells
            repeat (first | (go_big_may; refine wpList_storeB rfl 56 _ _ rfl (w.heap.size + 1 + 1) (agA a1) rfl rfl 56 _ HT9.out.ze HI.out rfl HO.out w.heap.size w HT9.out.ext (by omega) ?_; intro w9 hb9 hx9) | go_values | go_skip | go_guarded | go_step | go_upon)
            exact bodyPost_ret (run_ctA rfl rfl rfl hb9 rfl) rfl ⟨⟨true, by rw [HT1.out, HD.out]; rfl, fun _ => ⟨rfl, HR.out.grow hx9⟩, fun hc => absurd hc HNA.out⟩⟩

end Go.Proofs.Ytkkmldoohokdfaa

/- The reference's Take: an order of kind 5. -/
namespace Go.Proofs.Ytkkmldoohokdfaa
open Go.RowKit

set_option maxRecDepth 100000 in
set_option maxHeartbeats 8000000 in
theorem RefTake_k5 (a : Ag) (m : Ms) (now : Int) (h : Nat) (R : RsP) (F : Fp) (w : World) (hg : goesA a m = true) (hk : m.kind = 5) (r : RsF F w h R) (h0 : 0 ≤ a.worked) (h1 : a.worked ≤ 1000000000) (hl : R.L.length ≤ 900) (hb : bytesP R.L ≤ 1000000) (hw0 : 0 ≤ R.writes) (hw1 : R.writes ≤ 1000000) :
    Calls Try.prog 36 #[agV a, msV m, .int .i64 now, .pointer (some ⟨h, 0, none⟩)] w fun e w' => RkQ a m now h R F w e w' := by
  have HK := Lib.hid hk
  clear hk
  have HR := Lib.hid r
  have HBD := Lib.hid (And.intro h0 (And.intro h1 (And.intro hl (And.intro hb (And.intro hw0 hw1)))))
  have HG := Lib.hid (goesA_iff.1 hg)
  have HGA := Lib.hid hg
  clear r h0 h1 hl hb hw0 hw1 hg
  have HI := Lib.hid infoA_
  have HO1 := Lib.hid (agA_one ({ a with up := true, term := m.term, gen := m.gen } : Ag))
  have HT1 : Hid (toldA a m = ({ a with up := true, term := m.term, gen := m.gen } : Ag)) := Lib.hid (by have h9 := HG.out.1; unfold toldA; rw [← h9])
  unfold agV msV
  rw [HG.out.1]
  go_enter Try.func36, Try.ntmps36
  go_upto_region 1 with (fail)
  go_cut [46] (fun s wc => s = .bool false ∧ wc = (((w.alloc (.cells #[.bool true, .int .i64 a.term, .int .i64 a.gen, .int .i64 a.mode, .int .i64 a.job, .int .i64 a.inc, .int .i64 a.ver, .int .i64 a.lease, .int .i64 a.worked, .int .i64 a.aim] 56)).alloc (.cells #[.int .i64 m.node, .int .i64 m.kind, .int .i64 m.term, .int .i64 m.gen, .int .i64 m.job, .int .i64 m.inc, .int .i64 m.ver, .int .i64 m.epoch, .int .i64 m.til, .int .i64 m.mode, .int .i64 m.work] 49)).alloc (.cells #[.bool false, .int .i64 0, .int .i64 0, .int .i64 0, .int .i64 0, .int .i64 0, .int .i64 0, .int .i64 0, .int .i64 0, .int .i64 0] 56)))
  case first =>
    obtain ⟨-, k1, k2, k3, k4⟩ := HG.out
    have d1 : decide (m.kind < 1) = false := decide_eq_false (by omega)
    have d2 : decide ((5 : Int) < m.kind) = false := decide_eq_false (by omega)
    have d3 : decide (m.term < a.term) = false := decide_eq_false k3
    by_cases k5 : m.term = a.term
    · have d4 : (m.term == a.term) = true := by rw [k5]; simp
      have d5 : decide (m.gen < a.gen) = false := decide_eq_false (fun hc => k4 ⟨k5, hc⟩)
      clear k1 k2 k3 k4 k5
      go_wp2_with fail
      go_meet
      exact ⟨rfl, rfl⟩
    · have d4 : (m.term == a.term) = false := by simpa using k5
      clear k1 k2 k3 k4 k5
      go_wp2_with fail
      go_meet
      exact ⟨rfl, rfl⟩
  case rest =>
    obtain ⟨rfl, rfl⟩ := hcut
    obtain ⟨sm, hsm⟩ : ∃ s, s = (decide (a.job = m.job) && decide (a.inc = m.inc)) := ⟨_, rfl⟩
    go_upto_region 5 with (fail)
    go_cut [10] (fun s wc => s = .bool sm ∧ wc = (((w.alloc (.cells #[.bool true, .int .i64 m.term, .int .i64 m.gen, .int .i64 a.mode, .int .i64 a.job, .int .i64 a.inc, .int .i64 a.ver, .int .i64 a.lease, .int .i64 a.worked, .int .i64 a.aim] 56)).alloc (.cells #[.int .i64 m.node, .int .i64 m.kind, .int .i64 m.term, .int .i64 m.gen, .int .i64 m.job, .int .i64 m.inc, .int .i64 m.ver, .int .i64 m.epoch, .int .i64 m.til, .int .i64 m.mode, .int .i64 m.work] 49)).alloc (.cells #[.bool false, .int .i64 0, .int .i64 0, .int .i64 0, .int .i64 0, .int .i64 0, .int .i64 0, .int .i64 0, .int .i64 0, .int .i64 0] 56)))
    case first =>
      by_cases hj : a.job = m.job
      · have e1 : (a.job == m.job) = true := by rw [hj]; simp
        by_cases hi : a.inc = m.inc
        · have e2 : (a.inc == m.inc) = true := by rw [hi]; simp
          have HS : Hid (sm = true) := Lib.hid (by rw [hsm]; simp [hj, hi])
          clear hsm hj hi
          go_wp2_with fail
          go_meet
          exact ⟨by rw [HS.out], rfl⟩
        · have e2 : (a.inc == m.inc) = false := by simpa using hi
          have HS : Hid (sm = false) := Lib.hid (by rw [hsm]; simp [hj, hi])
          clear hsm hj hi
          go_wp2_with fail
          go_meet
          exact ⟨by rw [HS.out], rfl⟩
      · have e1 : (a.job == m.job) = false := by simpa using hj
        have HS : Hid (sm = false) := Lib.hid (by rw [hsm]; simp [hj])
        clear hsm hj
        go_wp2_with fail
        go_meet
        exact ⟨by rw [HS.out], rfl⟩
    case rest =>
      obtain ⟨rfl, hw⟩ := hcut
      obtain ⟨b1, b2, b3, hx⟩ := three_new w #[.bool true, .int .i64 m.term, .int .i64 m.gen, .int .i64 a.mode, .int .i64 a.job, .int .i64 a.inc, .int .i64 a.ver, .int .i64 a.lease, .int .i64 a.worked, .int .i64 a.aim] #[.int .i64 m.node, .int .i64 m.kind, .int .i64 m.term, .int .i64 m.gen, .int .i64 m.job, .int .i64 m.inc, .int .i64 m.ver, .int .i64 m.epoch, .int .i64 m.til, .int .i64 m.mode, .int .i64 m.work] #[.bool false, .int .i64 0, .int .i64 0, .int .i64 0, .int .i64 0, .int .i64 0, .int .i64 0, .int .i64 0, .int .i64 0, .int .i64 0] 56 49 56
      have HGL : Hid (wc.heap.size = w.heap.size + 1 + 1 + 1) := Lib.hid (by rw [hw]; simp)
      rw [← hw] at b1 b2 b3 hx
      have HB1 := Lib.hid (b1.alloc (.cells #[.bool false, .int .i64 0, .int .i64 0, .int .i64 0, .int .i64 0, .int .i64 0, .int .i64 0, .int .i64 0, .int .i64 0, .int .i64 0] 56))
      have HB2 := Lib.hid (b2.alloc (.cells #[.bool false, .int .i64 0, .int .i64 0, .int .i64 0, .int .i64 0, .int .i64 0, .int .i64 0, .int .i64 0, .int .i64 0, .int .i64 0] 56))
      have HB3 := Lib.hid (b3.alloc (.cells #[.bool false, .int .i64 0, .int .i64 0, .int .i64 0, .int .i64 0, .int .i64 0, .int .i64 0, .int .i64 0, .int .i64 0, .int .i64 0] 56))
      have HX4 := Lib.hid (hx.trans (Ext.alloc_ wc (.cells #[.bool false, .int .i64 0, .int .i64 0, .int .i64 0, .int .i64 0, .int .i64 0, .int .i64 0, .int .i64 0, .int .i64 0, .int .i64 0] 56)))
      have HB4 := Lib.hid (Blk.new wc 56 #[.bool false, .int .i64 0, .int .i64 0, .int .i64 0, .int .i64 0, .int .i64 0, .int .i64 0, .int .i64 0, .int .i64 0, .int .i64 0])
      have HA0 : Hid (AgAt wc w.heap.size ({ a with up := true, term := m.term, gen := m.gen } : Ag)) := Lib.hid ⟨b1⟩
      clear b1 b2 b3 hx hw
      obtain ⟨c0, c1, c2, c3, c4, c5, c6, c7, c8, c9⟩ := HA0.out.cells
      go_upto_region 7 with (refine wpList_storeC rfl 56 _ _ rfl wc.heap.size (agA ({ a with up := true, term := m.term, gen := m.gen } : Ag)) rfl rfl 56 _ HB4.out HI.out rfl HO1.out ?_; intro W6 hb6 hc6)
      clear c0 c1 c2 c3 c4 c5 c6 c7 c8 c9 HA0
      obtain ⟨gl, hgl⟩ : ∃ q, q = wc.heap.size := ⟨_, rfl⟩
      rw [← hgl] at hb6 hc6 HGL ⊢
      clear hgl
      have HT6 : Hid (RkAt w gl ({ a with up := true, term := m.term, gen := m.gen } : Ag) ({ a with up := true, term := m.term, gen := m.gen } : Ag) m W6) := Lib.hid (RkAt.made HGL.out HB1.out HB2.out HB3.out HX4.out hb6 hc6)
      have HIS : Hid (∀ k, isA ({ a with up := true, term := m.term, gen := m.gen } : Ag) m k = (decide (a.mode = k) && sm)) := Lib.hid (fun k => by unfold isA; rw [hsm, Bool.and_assoc])
      have HAK : Hid (asksA a m now = (decide (m.kind = 4) && (decide (a.mode = 2) && sm) && decide (now < a.lease) && decide (m.mode = 1))) := Lib.hid (by unfold asksA dueA isA; rw [HGA.out, hsm, Bool.true_and, Bool.and_assoc (decide (a.mode = 2))])
      clear hb6 hc6 hsm HB1 HB2 HB3 HB4 HX4 HO1
      obtain ⟨a1, ha1⟩ : ∃ x, x = ({ a with up := true, term := m.term, gen := m.gen } : Ag) := ⟨_, rfl⟩
      rw [← ha1] at HT6 HIS HT1
      have HAE : Hid (a.mode = a1.mode ∧ a.job = a1.job ∧ a.inc = a1.inc ∧ a.lease = a1.lease ∧ a.worked = a1.worked) := Lib.hid (by rw [ha1]; exact ⟨rfl, rfl, rfl, rfl, rfl⟩)
      rw [HAE.out.1] at HIS HAK
      rw [HAE.out.2.2.2.1] at HAK
      clear ha1
      obtain ⟨c0, c1, c2, c3, c4, c5, c6, c7, c8, c9⟩ := HT6.out.ag.cells
      obtain ⟨m0, m1, m2, m3, m4, m5, m6, m7, m8, m9, m10⟩ := HT6.out.ms.cells
      go_upto_if 71 with (fail)
      go_cut [] (fun wx => Hid (RkAt w gl a1 (longA a1 m) m wx))
      case first =>
        by_cases hl : a1.lease < m.til
        · have d : decide (a1.lease < m.til) = true := decide_eq_true hl
          have f7 := HT6.out.lo.blk.frozen 7
          have l7 := HT6.out.lo.blk.cell 7
          have hq := (WB.start HT6.out.lo.blk).set 7 (.int .i64 m.til)
          simp only [List.setIfInBounds_toArray, List.set_cons_zero, List.set_cons_succ] at hq
          have HN := Lib.hid (HT6.out.long (a9 := longA a1 m) (by unfold longA; rw [show max a1.lease m.til = m.til by omega]; exact hq))
          clear hq hl
          rw [d]
          go_wp2_with fail
          go_meet
          exact HN
        · have d : decide (a1.lease < m.til) = false := decide_eq_false hl
          have HN : Hid (RkAt w gl a1 (longA a1 m) m W6) := Lib.hid (by have h9 := HT6.out; unfold longA; rw [show max a1.lease m.til = a1.lease by omega]; exact h9)
          clear hl
          rw [d]
          go_wp2_with fail
          go_meet
          exact HN
      case rest =>
        have HT := hcut
        clear hcut HT6 c0 c1 c2 c3 c4 c5 c6 c7 c8 c9 m0 m1 m2 m3 m4 m5 m6 m7 m8 m9 m10
        obtain ⟨c0, c1, c2, c3, c4, c5, c6, c7, c8, c9⟩ := HT.out.ag.cells
        obtain ⟨m0, m1, m2, m3, m4, m5, m6, m7, m8, m9, m10⟩ := HT.out.ms.cells
        have k1 : ¬ m.kind = 1 := by have := HK.out; omega
        have k2 : ¬ m.kind = 2 := by have := HK.out; omega
        have k3 : ¬ m.kind = 3 := by have := HK.out; omega
        have k4 : ¬ m.kind = 4 := by have := HK.out; omega
        have k5 : m.kind = 5 := HK.out
        have g1 : (m.kind == 1) = false := by rw [k5]; rfl
        have g2 : (m.kind == 2) = false := by rw [k5]; rfl
        have g3 : (m.kind == 3) = false := by rw [k5]; rfl
        have g4 : (m.kind == 4) = false := by rw [k5]; rfl
        have g5 : (m.kind == 5) = true := by rw [k5]; rfl
        by_cases i0 : a1.mode = 0
        · have q0 : (a1.mode == 0) = true := by rw [i0]; simp
          by_cases i1 : 1 ≤ m.ver
          · have q1 : decide ((1 : Int) ≤ m.ver) = true := decide_eq_true i1
            by_cases i2 : m.ver ≤ 9
            · have q2 : decide (m.ver ≤ 9) = true := decide_eq_true i2
              have HD : Hid (doA a1 m now true = ({ a1 with mode := 4, aim := m.ver } : Ag)) := Lib.hid (by unfold doA; simp [k5, HIS.out, i0, i1, i2])
              have HNA : Hid (¬ asksA a m now = true) := Lib.hid (by rw [HAK.out]; simp [k5, i0, i1, i2])
              have HO := Lib.hid (agA_one ({ a1 with mode := 4, aim := m.ver } : Ag))
              clear k1 k2 k3 k4 k5 i0 i1 i2
              have f3 := HT.out.ag.blk.frozen 3
              have f9 := HT.out.ag.blk.frozen 9
              go_upto_region 39 with (fail)
              have hq := (((WB.start HT.out.ag.blk).set 3 (.int .i64 4)).set 9 (.int .i64 m.ver))
              simp only [List.setIfInBounds_toArray, List.set_cons_zero, List.set_cons_succ] at hq
              obtain ⟨W9, hW9⟩ : ∃ W, W = ((wc.setCell ⟨w.heap.size, 3, none⟩ (.int .i64 4)).setCell ⟨w.heap.size, 9, none⟩ (.int .i64 m.ver)) := ⟨_, rfl⟩
              rw [← hW9] at hq ⊢
              have HT9 := Lib.hid (HT.out.put (a9 := ({ a1 with mode := 4, aim := m.ver } : Ag)) hq)
              clear hq hW9 c0 c1 c2 c3 c4 c5 c6 c7 c8 c9
              obtain ⟨c0, c1, c2, c3, c4, c5, c6, c7, c8, c9⟩ := HT9.out.ag.cells
              repeat (first | (go_big_may; refine wpList_storeB rfl 56 _ _ rfl (w.heap.size + 1 + 1) (agA ({ a1 with mode := 4, aim := m.ver } : Ag)) rfl rfl 56 _ HT9.out.ze HI.out rfl HO.out w.heap.size w HT9.out.ext (by omega) ?_; intro w9 hb9 hx9) | go_values | go_skip | go_guarded | go_step | go_upon)
              exact bodyPost_ret (run_ctA rfl rfl rfl hb9 rfl) rfl ⟨⟨true, by rw [HT1.out, HD.out]; rfl, fun _ => ⟨rfl, HR.out.grow hx9⟩, fun hc => absurd hc HNA.out⟩⟩
            · have q2 : decide (m.ver ≤ 9) = false := decide_eq_false i2
              have HD : Hid (doA a1 m now true = a1) := Lib.hid (by unfold doA; simp [k5, HIS.out, i0, i1, i2])
              have HNA : Hid (¬ asksA a m now = true) := Lib.hid (by rw [HAK.out]; simp [k5, i0, i1, i2])
              have HO := Lib.hid (agA_one a1)
              clear k1 k2 k3 k4 k5 i0 i1 i2
              go_upto_region 39 with (fail)
              have HT9 := HT
              clear c0 c1 c2 c3 c4 c5 c6 c7 c8 c9
              obtain ⟨c0, c1, c2, c3, c4, c5, c6, c7, c8, c9⟩ := HT9.out.ag.cells
              repeat (first | (go_big_may; refine wpList_storeB rfl 56 _ _ rfl (w.heap.size + 1 + 1) (agA a1) rfl rfl 56 _ HT9.out.ze HI.out rfl HO.out w.heap.size w HT9.out.ext (by omega) ?_; intro w9 hb9 hx9) | go_values | go_skip | go_guarded | go_step | go_upon)
              exact bodyPost_ret (run_ctA rfl rfl rfl hb9 rfl) rfl ⟨⟨true, by rw [HT1.out, HD.out]; rfl, fun _ => ⟨rfl, HR.out.grow hx9⟩, fun hc => absurd hc HNA.out⟩⟩
          · have q1 : decide ((1 : Int) ≤ m.ver) = false := decide_eq_false i1
            have HD : Hid (doA a1 m now true = a1) := Lib.hid (by unfold doA; simp [k5, HIS.out, i0, i1])
            have HNA : Hid (¬ asksA a m now = true) := Lib.hid (by rw [HAK.out]; simp [k5, i0, i1])
            have HO := Lib.hid (agA_one a1)
            clear k1 k2 k3 k4 k5 i0 i1
            go_upto_region 39 with (fail)
            have HT9 := HT
            clear c0 c1 c2 c3 c4 c5 c6 c7 c8 c9
            obtain ⟨c0, c1, c2, c3, c4, c5, c6, c7, c8, c9⟩ := HT9.out.ag.cells
            repeat (first | (go_big_may; refine wpList_storeB rfl 56 _ _ rfl (w.heap.size + 1 + 1) (agA a1) rfl rfl 56 _ HT9.out.ze HI.out rfl HO.out w.heap.size w HT9.out.ext (by omega) ?_; intro w9 hb9 hx9) | go_values | go_skip | go_guarded | go_step | go_upon)
            exact bodyPost_ret (run_ctA rfl rfl rfl hb9 rfl) rfl ⟨⟨true, by rw [HT1.out, HD.out]; rfl, fun _ => ⟨rfl, HR.out.grow hx9⟩, fun hc => absurd hc HNA.out⟩⟩
        · have q0 : (a1.mode == 0) = false := by simpa using i0
          have HD : Hid (doA a1 m now true = a1) := Lib.hid (by unfold doA; simp [k5, HIS.out, i0])
          have HNA : Hid (¬ asksA a m now = true) := Lib.hid (by rw [HAK.out]; simp [k5, i0])
          have HO := Lib.hid (agA_one a1)
          clear k1 k2 k3 k4 k5 i0
          go_upto_region 39 with (fail)
          have HT9 := HT
          clear c0 c1 c2 c3 c4 c5 c6 c7 c8 c9
          obtain ⟨c0, c1, c2, c3, c4, c5, c6, c7, c8, c9⟩ := HT9.out.ag.cells
          repeat (first | (go_big_may; refine wpList_storeB rfl 56 _ _ rfl (w.heap.size + 1 + 1) (agA a1) rfl rfl 56 _ HT9.out.ze HI.out rfl HO.out w.heap.size w HT9.out.ext (by omega) ?_; intro w9 hb9 hx9) | go_values | go_skip | go_guarded | go_step | go_upon)
          exact bodyPost_ret (run_ctA rfl rfl rfl hb9 rfl) rfl ⟨⟨true, by rw [HT1.out, HD.out]; rfl, fun _ => ⟨rfl, HR.out.grow hx9⟩, fun hc => absurd hc HNA.out⟩⟩

end Go.Proofs.Ytkkmldoohokdfaa

/- The reference's Take. -/
namespace Go.Proofs.Ytkkmldoohokdfaa
open Go.RowKit

set_option maxRecDepth 100000 in
set_option maxHeartbeats 400000 in
theorem RefTake_yes (a : Ag) (m : Ms) (now : Int) (h : Nat) (R : RsP) (F : Fp) (w : World) (hg : goesA a m = true) (r : RsF F w h R) (h0 : 0 ≤ a.worked) (h1 : a.worked ≤ 1000000000) (hl : R.L.length ≤ 900) (hb : bytesP R.L ≤ 1000000) (hw0 : 0 ≤ R.writes) (hw1 : R.writes ≤ 1000000) :
    Calls Try.prog 36 #[agV a, msV m, .int .i64 now, .pointer (some ⟨h, 0, none⟩)] w fun e w' => RkQ a m now h R F w e w' := by
  have hk := goesA_iff.1 hg
  rcases (show m.kind = 1 ∨ m.kind = 2 ∨ m.kind = 3 ∨ m.kind = 4 ∨ m.kind = 5 by omega) with k | k | k | k | k
  · exact RefTake_k1 a m now h R F w hg k r h0 h1 hl hb hw0 hw1
  · exact RefTake_k2 a m now h R F w hg k r h0 h1 hl hb hw0 hw1
  · exact RefTake_k3 a m now h R F w hg k r h0 h1 hl hb hw0 hw1
  · exact RefTake_k4 a m now h R F w hg k r h0 h1 hl hb hw0 hw1
  · exact RefTake_k5 a m now h R F w hg k r h0 h1 hl hb hw0 hw1

end Go.Proofs.Ytkkmldoohokdfaa
