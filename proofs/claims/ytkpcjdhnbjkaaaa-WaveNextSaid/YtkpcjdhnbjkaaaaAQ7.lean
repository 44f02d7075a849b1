/- Texts that the proof of A rests on, one behind the other. -/
import Derived.Test.YtkpcjdhnbjkaaaaAQ3
import Derived.Test.YtkpcjdhnbjkaaaaAQ5
import Derived.Test.YtkpcjdhnbjkaaaaAQ6
import Derived.Test.YtkpcjdhnbjkaaaaRows

/- The reference of layer 17: what is next. -/
namespace Go.Proofs.Ytkpcjdhnbjkaaaa
open Go.RowKit

set_option maxRecDepth 100000 in
set_option maxHeartbeats 16000000 in
theorem RefNext17_any (c : Cf) (vn vj : Value) (s : St) (now : Int) (w : World) (hr : RdNd w vn s.nodes) (hrj : RdJb w vj s.jobs) (hN : s.nodes.length ≤ 6) (hM : s.jobs.length ≤ 24) (hJ : OkJ s) (hn0 : 0 ≤ now) (hn1 : now ≤ 1000000) (hd0 : 0 ≤ c.deadline) (hd1 : c.deadline ≤ 60) :
    Calls Try.prog 19 #[cfV c, stV vn vj s, .int .i64 now] w fun e w' => e = .returned (optV (nextW c s now)) ∧ Ext w w' := by
  have HRN := Lib.hid hr
  have HRJ := Lib.hid hrj
  have HBE : Hid (∀ (i : Nat) n W, s.nodes[i]? = some n → Ext w W → Calls Try.prog 8 #[stV vn vj s, .int .i64 (i : Int)] W fun e w' => e = .returned (.bool (behindN s n)) ∧ Ext W w') := Lib.hid fun i n W hi hW => RefBehind_any vn vj s i n W (HRN.out.ext hW) hi hN
  have HAL : Hid (∀ (i : Nat) n W, s.nodes[i]? = some n → Ext w W → Calls Try.prog 12 #[stV vn vj s, .int .i64 (i : Int)] W fun e w' => e = .returned (.bool (aloneN s n)) ∧ Ext W w') := Lib.hid fun i n W hi hW => by
    have h := RefAlone_any vn vj s (i : Int) W (HRN.out.ext hW) (HRJ.out.ext hW) hN hM hJ
    rw [aloneI_at hi] at h
    exact h
  have HSE : Hid (∀ (i : Nat) n W, s.nodes[i]? = some n → Ext w W → Calls Try.prog 33 #[cfV c, stV vn vj s, .int .i64 (i : Int), .int .i64 now] W fun e w' => e = .returned (optV (secondS c s now i n)) ∧ Ext W w') := Lib.hid fun i n W hi hW => RefSecond_any c vn vj s i n now W (HRN.out.ext hW) (HRJ.out.ext hW) hi hN hM hJ hn0 hn1 hd0 hd1
  have HWV : Hid (∀ W, Ext w W → Calls Try.prog 14 #[stV vn vj s] W fun e w' => e = .returned (.int .i64 (waveS s : Int)) ∧ Ext W w') := Lib.hid fun W hW => RefWave_any vn vj s W (HRN.out.ext hW) hN
  unfold stV at HBE HAL HSE HWV
  unfold cfV at HSE
  unfold cfV stV
  obtain ⟨A, ca, rfl, hnc, hcm, hcell⟩ := has_cells hr
  have HC := Lib.hid hcell
  obtain ⟨R, hR⟩ : ∃ R, R = nextW c s now := ⟨_, rfl⟩
  rw [← hR]
  have HR := Lib.hid hR
  obtain ⟨W1, hW1⟩ : ∃ W, W = w.alloc (.cells #[.int .i64 c.nodes, .int .i64 c.queues, .int .i64 c.quota, .int .i64 c.wave, .int .i64 c.lease, .int .i64 c.retry, .int .i64 c.deadline, .int .i64 c.room, .int .i64 c.disk] 23) := ⟨_, rfl⟩
  obtain ⟨W2, hW2⟩ : ∃ W, W = W1.alloc (.cells #[.slice A s.nodes.length ca, vj, .int .i64 s.goal, .int .i64 s.prior, .int .i64 s.mode, .int .i64 s.term] 27) := ⟨_, rfl⟩
  obtain ⟨W3, hW3⟩ : ∃ W, W = W2.alloc (.cells #[.int .i64 0, .int .i64 0, .int .i64 0, .int .i64 0, .int .i64 0, .int .i64 0, .int .i64 0] 39) := ⟨_, rfl⟩
  have s1 : W1.heap.size = w.heap.size + 1 := by rw [hW1]; simp
  have s2 : W2.heap.size = w.heap.size + 1 + 1 := by rw [hW2]; simp [s1]
  have x1 : Ext w W1 := by rw [hW1]; exact (Below.refl _ _).alloc (Nat.le_refl _) _
  have x2 : Ext W1 W2 := by rw [hW2]; exact (Below.refl _ _).alloc (Nat.le_refl _) _
  have x3 : Ext W2 W3 := by rw [hW3]; exact (Below.refl _ _).alloc (Nat.le_refl _) _
  have b1 : Blk W3 w.heap.size 23 #[.int .i64 c.nodes, .int .i64 c.queues, .int .i64 c.quota, .int .i64 c.wave, .int .i64 c.lease, .int .i64 c.retry, .int .i64 c.deadline, .int .i64 c.room, .int .i64 c.disk] := by
    have h : Blk W1 w.heap.size 23 #[.int .i64 c.nodes, .int .i64 c.queues, .int .i64 c.quota, .int .i64 c.wave, .int .i64 c.lease, .int .i64 c.retry, .int .i64 c.deadline, .int .i64 c.room, .int .i64 c.disk] := by rw [hW1]; exact Blk.new _ _ _
    exact h.ext (Ext.trans x2 x3)
  have b2 : Blk W3 (w.heap.size + 1) 27 #[.slice A s.nodes.length ca, vj, .int .i64 s.goal, .int .i64 s.prior, .int .i64 s.mode, .int .i64 s.term] := by
    have h : Blk W2 W1.heap.size 27 #[.slice A s.nodes.length ca, vj, .int .i64 s.goal, .int .i64 s.prior, .int .i64 s.mode, .int .i64 s.term] := by rw [hW2]; exact Blk.new _ _ _
    rw [s1] at h
    exact h.ext x3
  have b3 : Blk W3 (w.heap.size + 1 + 1) 39 #[.int .i64 0, .int .i64 0, .int .i64 0, .int .i64 0, .int .i64 0, .int .i64 0, .int .i64 0] := by
    have h : Blk W3 W2.heap.size 39 #[.int .i64 0, .int .i64 0, .int .i64 0, .int .i64 0, .int .i64 0, .int .i64 0, .int .i64 0] := by rw [hW3]; exact Blk.new _ _ _
    rw [s2] at h
    exact h
  have HX : Hid (Ext w W3) := Lib.hid (Ext.trans x1 (Ext.trans x2 x3))
  have HB1 := Lib.hid b1
  have HB2 := Lib.hid b2
  have HB3 := Lib.hid b3
  have HW3 : Hid (W3 = ((w.alloc (.cells #[.int .i64 c.nodes, .int .i64 c.queues, .int .i64 c.quota, .int .i64 c.wave, .int .i64 c.lease, .int .i64 c.retry, .int .i64 c.deadline, .int .i64 c.room, .int .i64 c.disk] 23)).alloc (.cells #[.slice A s.nodes.length ca, vj, .int .i64 s.goal, .int .i64 s.prior, .int .i64 s.mode, .int .i64 s.term] 27)).alloc (.cells #[.int .i64 0, .int .i64 0, .int .i64 0, .int .i64 0, .int .i64 0, .int .i64 0, .int .i64 0] 39)) := Lib.hid (by rw [hW3, hW2, hW1])
  clear hW3 hW2 hW1 s1 s2 x1 x2 x3 b1 b2 b3 hR hr hrj hcell HRN HRJ
  go_enter Try.func19, Try.ntmps19
  go_upto_region 1 with (fail)
  rw [← HW3.out]
  obtain ⟨gc, hgc⟩ : ∃ g, g = w.heap.size := ⟨_, rfl⟩
  obtain ⟨gs, hgs⟩ : ∃ g, g = w.heap.size + 1 := ⟨_, rfl⟩
  obtain ⟨gr, hgr⟩ : ∃ g, g = w.heap.size + 1 + 1 := ⟨_, rfl⟩
  rw [← hgr, ← hgs, ← hgc]
  rw [← hgr] at HB3
  rw [← hgs] at HB2
  rw [← hgc] at HB1
  have HGR : Hid (w.heap.size ≤ gr) := Lib.hid (by omega)
  clear HW3 hgc hgs hgr
  obtain ⟨g0, g1, g2, g3, g4, g5⟩ := Blk.six HB2.out
  by_cases hm : s.mode = 1
  · have m1 : (s.mode == 1) = true := by rw [hm]; rfl
    have HZ : Hid (R = none) := Lib.hid (by rw [HR.out]; unfold nextW; rw [if_pos hm])
    clear hm
    have HBR := Lib.hid HB3.out
    have HI5 : Hid ((Try.prog.info? 39).map (·.size) = some (#[.int .i64 0, .int .i64 0, .int .i64 0, .int .i64 0, .int .i64 0, .int .i64 0, .int .i64 0] : Array Value).size) := Lib.hid infoOp
    have HO5 : Hid ((#[.int .i64 0, .int .i64 0, .int .i64 0, .int .i64 0, .int .i64 0, .int .i64 0, .int .i64 0] : Array Value).all (·.oneCell') = true) := Lib.hid (by simp [Value.oneCell'])
    go_wp2_with (refine wpList_storeB rfl 39 _ _ rfl gr #[.int .i64 0, .int .i64 0, .int .i64 0, .int .i64 0, .int .i64 0, .int .i64 0, .int .i64 0] rfl rfl 39 _ HBR.out HI5.out rfl HO5.out w.heap.size w HX.out HGR.out ?_; intro w5 hb5 hx5)
    exact bodyPost_ret (run_op rfl rfl rfl hb5 rfl) rfl ⟨by rw [HZ.out]; rfl, hx5⟩
  · have m1 : (s.mode == 1) = false := by simpa using hm
    obtain ⟨L1, hL1⟩ : ∃ L, L = firstO s.nodes (way1 s) := ⟨_, rfl⟩
    obtain ⟨L2, hL2⟩ : ∃ L, L = firstO s.nodes (way2 c s now) := ⟨_, rfl⟩
    obtain ⟨L3, hL3⟩ : ∃ L, L = firstO s.nodes (way3 c s) := ⟨_, rfl⟩
    obtain ⟨r1, r2, r3⟩ := nextW_at (c := c) (now := now) hm hL1 hL2 hL3
    rw [← HR.out] at r1 r2 r3
    have HF1 := Lib.hid r1
    have HF2' := Lib.hid r2
    have HF3'' := Lib.hid r3
    have HL10 : Hid (L1 = fromO s.nodes (way1 s) (s.nodes.length - 0) 0) := Lib.hid (by rw [hL1]; rfl)
    have HL20 : Hid (L2 = fromO s.nodes (way2 c s now) (s.nodes.length - 0) 0) := Lib.hid (by rw [hL2]; rfl)
    have HL30 : Hid (L3 = fromO s.nodes (way3 c s) (s.nodes.length - 0) 0) := Lib.hid (by rw [hL3]; rfl)
    clear hL1 hL2 hL3 r1 r2 r3 hm HR
    go_wp2_with fail
    go_loopw [8] (fun i wr => ∃ q : Nat, i = .int .i64 q ∧ q ≤ s.nodes.length ∧ Hid (L1 = fromO s.nodes (way1 s) (s.nodes.length - q) q) ∧ Ext W3 wr) (fun i _ => s.nodes.length - (intOf i).toNat)
    case atStart => exact ⟨0, rfl, Nat.zero_le _, HL10, Ext.refl _⟩
    case round =>
      obtain ⟨q, rfl, hq, HL, hxr⟩ := hrel
      have HXR := Lib.hid hxr
      have HXW := Lib.hid (HX.out.trans hxr)
      have HBR := Lib.hid (HB3.out.ext hxr)
      obtain ⟨g0, g1, g2, g3, g4, g5⟩ := Blk.six (HB2.out.ext hxr)
      clear hxr
      by_cases hlt : q < s.nodes.length
      · have d1 : decide ((q : Int) < (s.nodes.length : Int)) = true := decide_eq_true (by omega)
        have d1' : decide (q < s.nodes.length) = true := decide_eq_true hlt
        obtain ⟨n, hn⟩ : ∃ n, s.nodes[q]? = some n := ⟨_, List.getElem?_eq_getElem hlt⟩
        obtain ⟨b, o, rfl, hlt', hat⟩ := HC.out q n hn
        obtain ⟨c0, c1, c2, c3, c4⟩ := hat.ext HXW.out hlt'
        have HLT := Lib.hid hlt
        have wq : wrap64 ((q : Int) + 1) = (q : Int) + 1 := IntWalk.wrap64_in _ (by omega)
        have HBQ := Lib.hid (fun W hW => HBE.out q n W hn hW)
        have HAQ := Lib.hid (fun W hW => HAL.out q n W hn hW)
        have HHIT : Hid (∀ o, way1 s q n = some o → L1 = some o) := Lib.hid fun o h => by rw [HL.out]; exact fromO_hit2 hlt hn h
        have HMIS : Hid (way1 s q n = none → L1 = fromO s.nodes (way1 s) (s.nodes.length - (q + 1)) (q + 1)) := Lib.hid fun h => by rw [HL.out]; exact fromO_miss2 hlt hn h
        clear hat hn hlt' hq HL HWV HSE HAL HBE HC
        go_upto_region 7 with (fail)
        obtain ⟨wn, hwn⟩ : ∃ wn, wn = wr.alloc (.cells #[.bool n.up, .bool n.cordon, .bool n.moving, .int .i64 n.version, .int .i64 n.job] 46) := ⟨_, rfl⟩
        have HXN : Hid (Ext wr wn) := Lib.hid (by rw [hwn]; exact (Below.refl _ _).alloc (Nat.le_refl _) _)
        have HBN : Hid (Blk wn wr.heap.size 46 #[.bool n.up, .bool n.cordon, .bool n.moving, .int .i64 n.version, .int .i64 n.job]) := Lib.hid (by rw [hwn]; exact Blk.new _ _ _)
        rw [← hwn]
        obtain ⟨gx, hgx⟩ : ∃ g, g = wr.heap.size := ⟨_, rfl⟩
        rw [← hgx] at HBN ⊢
        replace HXR := Lib.hid (Ext.trans HXR.out HXN.out)
        replace HXW := Lib.hid (Ext.trans HXW.out HXN.out)
        replace HBR := Lib.hid (HB3.out.ext HXR.out)
        clear hwn hgx g0 g1 g2 g3 g4 g5 c0 c1 c2 c3 c4 d1 d1' HXN
        obtain ⟨g0, g1, g2, g3, g4, g5⟩ := Blk.six (HB2.out.ext HXR.out)
        have c0 := HBN.out.cell 0
        have c1 := HBN.out.cell 1
        have c2 := HBN.out.cell 2
        cases hco : n.cordon
        · rw [hco] at c1
          have HS := Lib.hid (HMIS.out (by unfold way1; rw [if_neg (by rw [hco]; simp)]))
          clear hco
          repeat (first | go_values | go_skip | go_guarded | go_step | go_upon | (simp only []))
          go_roundw
          case rel => exact ⟨q + 1, by first | (rw [wq]; rfl) | rfl, HLT.out, HS, HXR.out⟩
          case measure => first | (rw [wq]; exact measQ HLT.out) | exact measQ HLT.out
        · rw [hco] at c1
          cases hup : n.up
          · rw [hup] at c0
            have HS := Lib.hid (HMIS.out (by unfold way1; rw [if_neg (by rw [hup]; simp)]))
            clear hco hup
            repeat (first | go_values | go_skip | go_guarded | go_step | go_upon | (simp only []))
            go_roundw
            case rel => exact ⟨q + 1, by first | (rw [wq]; rfl) | rfl, HLT.out, HS, HXR.out⟩
            case measure => first | (rw [wq]; exact measQ HLT.out) | exact measQ HLT.out
          · rw [hup] at c0
            cases hmv : n.moving
            · rw [hmv] at c2
              have HBC := Lib.hid (HBQ.out _ (HXW.out))
              go_wp2_with fail
              refine HBC.out.mono ?_
              rintro e3 w3 ⟨rfl, hx3⟩
              have HX4 : Hid (Ext W3 w3) := Lib.hid (Ext.trans HXR.out hx3)
              have HXZ := Lib.hid (Ext.trans HX.out HX4.out)
              replace HBR := Lib.hid (HB3.out.ext HX4.out)
              clear hx3 HBC g0 g1 g2 g3 g4 g5 c0 c1 c2
              simp only []
              cases hbh : behindN s n
              · have HZ : Hid (R = some (17, (q : Int), 0, 0, 0, 0, 0)) := Lib.hid (HF1.out _ (HHIT.out _ (by unfold way1; rw [if_pos ⟨hco, hup, hmv, .inl hbh⟩])))
                clear hco hup hmv hbh
                have HI5 : Hid ((Try.prog.info? 39).map (·.size) = some (#[.int .i64 17, .int .i64 (q : Int), .int .i64 0, .int .i64 0, .int .i64 0, .int .i64 0, .int .i64 0] : Array Value).size) := Lib.hid infoOp
                have HO5 : Hid ((#[.int .i64 17, .int .i64 (q : Int), .int .i64 0, .int .i64 0, .int .i64 0, .int .i64 0, .int .i64 0] : Array Value).all (·.oneCell') = true) := Lib.hid (by simp [Value.oneCell'])
                go_wp2_with (refine wpList_storeB rfl 39 _ _ rfl gr #[.int .i64 17, .int .i64 (q : Int), .int .i64 0, .int .i64 0, .int .i64 0, .int .i64 0, .int .i64 0] rfl rfl 39 _ HBR.out HI5.out rfl HO5.out w.heap.size w HXZ.out HGR.out ?_; intro w5 hb5 hx5)
                exact bodyPost_ret (run_op rfl rfl rfl hb5 rfl) rfl ⟨by rw [HZ.out]; rfl, hx5⟩
              · obtain ⟨g0, g1, g2, g3, g4, g5⟩ := Blk.six (HB2.out.ext HX4.out)
                have HBC := Lib.hid (HAQ.out _ (Ext.trans HX.out HX4.out))
                go_wp2_with fail
                refine HBC.out.mono ?_
                rintro e4 w4 ⟨rfl, hx4⟩
                have HX5 : Hid (Ext W3 w4) := Lib.hid (Ext.trans HX4.out hx4)
                replace HXZ := Lib.hid (Ext.trans HX.out HX5.out)
                replace HBR := Lib.hid (HB3.out.ext HX5.out)
                clear hx4 HBC g0 g1 g2 g3 g4 g5
                simp only []
                cases hal : aloneN s n
                · have HS := Lib.hid (HMIS.out (by unfold way1; rw [if_neg (by rw [hbh, hal]; simp)]))
                  clear hco hup hmv hbh hal
                  repeat (first | go_values | go_skip | go_guarded | go_step | go_upon | (simp only []))
                  go_roundw
                  case rel => exact ⟨q + 1, by first | (rw [wq]; rfl) | rfl, HLT.out, HS, HX5.out⟩
                  case measure => first | (rw [wq]; exact measQ HLT.out) | exact measQ HLT.out
                · have HZ : Hid (R = some (17, (q : Int), 0, 0, 0, 0, 0)) := Lib.hid (HF1.out _ (HHIT.out _ (by unfold way1; rw [if_pos ⟨hco, hup, hmv, .inr hal⟩])))
                  clear hco hup hmv hbh hal
                  have HI5 : Hid ((Try.prog.info? 39).map (·.size) = some (#[.int .i64 17, .int .i64 (q : Int), .int .i64 0, .int .i64 0, .int .i64 0, .int .i64 0, .int .i64 0] : Array Value).size) := Lib.hid infoOp
                  have HO5 : Hid ((#[.int .i64 17, .int .i64 (q : Int), .int .i64 0, .int .i64 0, .int .i64 0, .int .i64 0, .int .i64 0] : Array Value).all (·.oneCell') = true) := Lib.hid (by simp [Value.oneCell'])
                  go_wp2_with (refine wpList_storeB rfl 39 _ _ rfl gr #[.int .i64 17, .int .i64 (q : Int), .int .i64 0, .int .i64 0, .int .i64 0, .int .i64 0, .int .i64 0] rfl rfl 39 _ HBR.out HI5.out rfl HO5.out w.heap.size w HXZ.out HGR.out ?_; intro w5 hb5 hx5)
                  exact bodyPost_ret (run_op rfl rfl rfl hb5 rfl) rfl ⟨by rw [HZ.out]; rfl, hx5⟩
            · rw [hmv] at c2
              have HS := Lib.hid (HMIS.out (by unfold way1; rw [if_neg (by rw [hmv]; simp)]))
              clear hco hup hmv
              repeat (first | go_values | go_skip | go_guarded | go_step | go_upon | (simp only []))
              go_roundw
              case rel => exact ⟨q + 1, by first | (rw [wq]; rfl) | rfl, HLT.out, HS, HXR.out⟩
              case measure => first | (rw [wq]; exact measQ HLT.out) | exact measQ HLT.out
      · have d1 : decide ((q : Int) < (s.nodes.length : Int)) = false := decide_eq_false (by omega)
        have d1' : decide (q < s.nodes.length) = false := decide_eq_false hlt
        have HF2 : Hid (∀ o, L2 = some o → R = some o) := Lib.hid (HF2'.out (by rw [HL.out, fromO_end hlt]))
        have HF3' : Hid (L2 = none → R = L3) := Lib.hid (HF3''.out (by rw [HL.out, fromO_end hlt]))
        have HX2' := Lib.hid HXR.out
        clear hlt hq HL HXR HXW HBR HF1 HF2' HF3''
        go_wp2_with fail
        go_loopw [10] (fun i wr => ∃ q : Nat, i = .int .i64 q ∧ q ≤ s.nodes.length ∧ Hid (L2 = fromO s.nodes (way2 c s now) (s.nodes.length - q) q) ∧ Ext W3 wr) (fun i _ => s.nodes.length - (intOf i).toNat)
        case atStart => exact ⟨0, rfl, Nat.zero_le _, HL20, HX2'.out⟩
        case round =>
          clear HX2'
          obtain ⟨q, rfl, hq, HL, hxr⟩ := hrel
          have HXR := Lib.hid hxr
          have HXW := Lib.hid (HX.out.trans hxr)
          have HBR := Lib.hid (HB3.out.ext hxr)
          obtain ⟨g0, g1, g2, g3, g4, g5⟩ := Blk.six (HB2.out.ext hxr)
          clear hxr
          by_cases hlt : q < s.nodes.length
          · have d1 : decide ((q : Int) < (s.nodes.length : Int)) = true := decide_eq_true (by omega)
            have d1' : decide (q < s.nodes.length) = true := decide_eq_true hlt
            obtain ⟨n, hn⟩ : ∃ n, s.nodes[q]? = some n := ⟨_, List.getElem?_eq_getElem hlt⟩
            obtain ⟨b, o, rfl, hlt', hat⟩ := HC.out q n hn
            obtain ⟨c0, c1, c2, c3, c4⟩ := hat.ext HXW.out hlt'
            have HLT := Lib.hid hlt
            have wq : wrap64 ((q : Int) + 1) = (q : Int) + 1 := IntWalk.wrap64_in _ (by omega)
            have HBQ := Lib.hid (fun W hW => HBE.out q n W hn hW)
            have HAQ := Lib.hid (fun W hW => HAL.out q n W hn hW)
            have HHIT : Hid (∀ o, way2 c s now q n = some o → L2 = some o) := Lib.hid fun o h => by rw [HL.out]; exact fromO_hit2 hlt hn h
            have HMIS : Hid (way2 c s now q n = none → L2 = fromO s.nodes (way2 c s now) (s.nodes.length - (q + 1)) (q + 1)) := Lib.hid fun h => by rw [HL.out]; exact fromO_miss2 hlt hn h
            have HSQ := Lib.hid (fun W hW => HSE.out q n W hn hW)
            clear hat hn hlt' hq HL HWV HSE HAL HBE HC
            cases hco : n.cordon
            · rw [hco] at c1
              have HS := Lib.hid (HMIS.out (by unfold way2; rw [if_pos (.inl hco)]))
              clear hco
              repeat (first | go_values | go_skip | go_guarded | go_step | go_upon | (simp only []))
              go_roundw
              case rel => exact ⟨q + 1, by first | (rw [wq]; rfl) | rfl, HLT.out, HS, HXR.out⟩
              case measure => first | (rw [wq]; exact measQ HLT.out) | exact measQ HLT.out
            · rw [hco] at c1
              have HBC := Lib.hid (HBQ.out _ (HXW.out))
              go_wp2_with fail
              refine HBC.out.mono ?_
              rintro e3 w3 ⟨rfl, hx3⟩
              have HX4 : Hid (Ext W3 w3) := Lib.hid (Ext.trans HXR.out hx3)
              clear hx3 HBC g0 g1 g2 g3 g4 g5 c0 c1 c2 c3 c4
              simp only []
              cases hbh : behindN s n
              · have HS := Lib.hid (HMIS.out (by unfold way2; rw [if_pos (.inr (.inl hbh))]))
                clear hco hbh
                repeat (first | go_values | go_skip | go_guarded | go_step | go_upon | (simp only []))
                go_roundw
                case rel => exact ⟨q + 1, by first | (rw [wq]; rfl) | rfl, HLT.out, HS, HX4.out⟩
                case measure => first | (rw [wq]; exact measQ HLT.out) | exact measQ HLT.out
              · obtain ⟨g0, g1, g2, g3, g4, g5⟩ := Blk.six (HB2.out.ext HX4.out)
                have HBC := Lib.hid (HAQ.out _ (Ext.trans HX.out HX4.out))
                go_wp2_with fail
                refine HBC.out.mono ?_
                rintro e4 w4 ⟨rfl, hx4⟩
                have HX5 : Hid (Ext W3 w4) := Lib.hid (Ext.trans HX4.out hx4)
                clear hx4 HBC g0 g1 g2 g3 g4 g5
                simp only []
                cases hal : aloneN s n
                · have HW2 : Hid (way2 c s now q n = secondS c s now q n) := Lib.hid (by unfold way2; rw [if_neg (by rw [hco, hbh, hal]; simp)])
                  clear hco hbh hal
                  obtain ⟨g0, g1, g2, g3, g4, g5⟩ := Blk.six (HB2.out.ext HX5.out)
                  obtain ⟨k0, k1, k2, k3, k4, k5, k6, k7, k8⟩ := Blk.nine (HB1.out.ext HX5.out)
                  have HBC := Lib.hid (HSQ.out _ (Ext.trans HX.out HX5.out))
                  go_wp2_with fail
                  refine HBC.out.mono ?_
                  rintro e5 w5 ⟨rfl, hx5⟩
                  have HX6 : Hid (Ext W3 w5) := Lib.hid (Ext.trans HX5.out hx5)
                  clear hx5 HBC g0 g1 g2 g3 g4 g5 k0 k1 k2 k3 k4 k5 k6 k7 k8
                  obtain ⟨x, hx⟩ : ∃ x, x = secondS c s now q n := ⟨_, rfl⟩
                  rw [← hx]
                  rw [← hx] at HW2
                  clear hx
                  cases x with
                  | none =>
                    have HS := Lib.hid (HMIS.out HW2.out)
                    have HX7 : Hid (Ext W3 (w5.alloc (.cells #[.int .i64 0, .int .i64 0, .int .i64 0, .int .i64 0, .int .i64 0, .int .i64 0, .int .i64 0] 39))) := Lib.hid (Ext.trans HX6.out ((Below.refl _ _).alloc (Nat.le_refl _) _))
                    unfold optV opA zeroO
                    repeat (first | go_values | go_skip | go_guarded | go_step | go_upon | (simp only []))
                    go_roundw
                    case rel => exact ⟨q + 1, by first | (rw [wq]; rfl) | rfl, HLT.out, HS, HX7.out⟩
                    case measure => first | (rw [wq]; exact measQ HLT.out) | exact measQ HLT.out
                  | some o1 =>
                    have HZ : Hid (R = some o1) := Lib.hid (HF2.out _ (HHIT.out _ HW2.out))
                    unfold optV opA
                    go_upto_region 14 with (fail)
                    obtain ⟨W6, hW6⟩ : ∃ W, W = w5.alloc (.cells #[.int .i64 o1.1, .int .i64 o1.2.1, .int .i64 o1.2.2.1, .int .i64 o1.2.2.2.1, .int .i64 o1.2.2.2.2.1, .int .i64 o1.2.2.2.2.2.1, .int .i64 o1.2.2.2.2.2.2] 39) := ⟨_, rfl⟩
                    have HX7 : Hid (Ext W3 W6) := Lib.hid (by rw [hW6]; exact Ext.trans HX6.out ((Below.refl _ _).alloc (Nat.le_refl _) _))
                    have HBO : Hid (Blk W6 w5.heap.size 39 #[.int .i64 o1.1, .int .i64 o1.2.1, .int .i64 o1.2.2.1, .int .i64 o1.2.2.2.1, .int .i64 o1.2.2.2.2.1, .int .i64 o1.2.2.2.2.2.1, .int .i64 o1.2.2.2.2.2.2]) := Lib.hid (by rw [hW6]; exact Blk.new _ _ _)
                    rw [← hW6]
                    obtain ⟨go, hgo⟩ : ∃ g, g = w5.heap.size := ⟨_, rfl⟩
                    rw [← hgo] at HBO ⊢
                    clear hW6 hgo
                    obtain ⟨p0, p1, p2, p3, p4, p5, p6⟩ := Blk.seven HBO.out
                    have HXZ := Lib.hid (Ext.trans HX.out HX7.out)
                    replace HBR := Lib.hid (HB3.out.ext HX7.out)
                    have HI5 : Hid ((Try.prog.info? 39).map (·.size) = some (#[.int .i64 o1.1, .int .i64 o1.2.1, .int .i64 o1.2.2.1, .int .i64 o1.2.2.2.1, .int .i64 o1.2.2.2.2.1, .int .i64 o1.2.2.2.2.2.1, .int .i64 o1.2.2.2.2.2.2] : Array Value).size) := Lib.hid infoOp
                    have HO5 : Hid ((#[.int .i64 o1.1, .int .i64 o1.2.1, .int .i64 o1.2.2.1, .int .i64 o1.2.2.2.1, .int .i64 o1.2.2.2.2.1, .int .i64 o1.2.2.2.2.2.1, .int .i64 o1.2.2.2.2.2.2] : Array Value).all (·.oneCell') = true) := Lib.hid (by simp [Value.oneCell'])
                    go_wp2_with (refine wpList_storeB rfl 39 _ _ rfl gr #[.int .i64 o1.1, .int .i64 o1.2.1, .int .i64 o1.2.2.1, .int .i64 o1.2.2.2.1, .int .i64 o1.2.2.2.2.1, .int .i64 o1.2.2.2.2.2.1, .int .i64 o1.2.2.2.2.2.2] rfl rfl 39 _ HBR.out HI5.out rfl HO5.out w.heap.size w HXZ.out HGR.out ?_; intro w5 hb5 hx5)
                    exact bodyPost_ret (run_op rfl rfl rfl hb5 rfl) rfl ⟨by rw [HZ.out]; rfl, hx5⟩
                · have HS := Lib.hid (HMIS.out (by unfold way2; rw [if_pos (.inr (.inr hal))]))
                  clear hco hbh hal
                  repeat (first | go_values | go_skip | go_guarded | go_step | go_upon | (simp only []))
                  go_roundw
                  case rel => exact ⟨q + 1, by first | (rw [wq]; rfl) | rfl, HLT.out, HS, HX5.out⟩
                  case measure => first | (rw [wq]; exact measQ HLT.out) | exact measQ HLT.out
          · have d1 : decide ((q : Int) < (s.nodes.length : Int)) = false := decide_eq_false (by omega)
            have d1' : decide (q < s.nodes.length) = false := decide_eq_false hlt
            have HF3 : Hid (R = L3) := Lib.hid (HF3'.out (by rw [HL.out, fromO_end hlt]))
            have HX3' := Lib.hid HXR.out
            clear hlt hq HL HXR HXW HBR HF2 HF3' HSE
            go_wp2_with fail
            go_loopw [13] (fun i wr => ∃ q : Nat, i = .int .i64 q ∧ q ≤ s.nodes.length ∧ Hid (L3 = fromO s.nodes (way3 c s) (s.nodes.length - q) q) ∧ Ext W3 wr) (fun i _ => s.nodes.length - (intOf i).toNat)
            case atStart => exact ⟨0, rfl, Nat.zero_le _, HL30, HX3'.out⟩
            case round =>
              clear HX3'
              obtain ⟨q, rfl, hq, HL, hxr⟩ := hrel
              have HXR := Lib.hid hxr
              have HXW := Lib.hid (HX.out.trans hxr)
              have HBR := Lib.hid (HB3.out.ext hxr)
              obtain ⟨g0, g1, g2, g3, g4, g5⟩ := Blk.six (HB2.out.ext hxr)
              clear hxr
              by_cases hlt : q < s.nodes.length
              · have d1 : decide ((q : Int) < (s.nodes.length : Int)) = true := decide_eq_true (by omega)
                have d1' : decide (q < s.nodes.length) = true := decide_eq_true hlt
                obtain ⟨n, hn⟩ : ∃ n, s.nodes[q]? = some n := ⟨_, List.getElem?_eq_getElem hlt⟩
                obtain ⟨b, o, rfl, hlt', hat⟩ := HC.out q n hn
                obtain ⟨c0, c1, c2, c3, c4⟩ := hat.ext HXW.out hlt'
                have HLT := Lib.hid hlt
                have wq : wrap64 ((q : Int) + 1) = (q : Int) + 1 := IntWalk.wrap64_in _ (by omega)
                have HBQ := Lib.hid (fun W hW => HBE.out q n W hn hW)
                have HAQ := Lib.hid (fun W hW => HAL.out q n W hn hW)
                have HHIT : Hid (∀ o, way3 c s q n = some o → L3 = some o) := Lib.hid fun o h => by rw [HL.out]; exact fromO_hit2 hlt hn h
                have HMIS : Hid (way3 c s q n = none → L3 = fromO s.nodes (way3 c s) (s.nodes.length - (q + 1)) (q + 1)) := Lib.hid fun h => by rw [HL.out]; exact fromO_miss2 hlt hn h
                have HAT := Lib.hid hat
                have HLB := Lib.hid hlt'
                clear hat hn hlt' hq HL HAL HBE HC
                go_upto_region 19 with (fail)
                clear d1 d1' g0 g1 g2 g3 g4 g5 c0 c1 c2 c3 c4
                cases hco : n.cordon
                · refine held_begin (by kernel_rfl) ?_
                  refine held_more (S' := fun W' : World => Ext wr W') (fun _ _ => True.intro) ?_
                  have hSx : (fun W' : World => Ext wr W') wr.drew := Below.drewN' (Ext.refl wr) 1
                  refine held_take (i := 0) (v := ?_) rfl (by kernel_rfl) (by kernel_rfl) (by kernel_rfl) (by rfl) (by first | assumption | exact True.intro) ?_ ?_
                  rotate_left
                  · (intro W hSw; obtain ⟨g0, g1, g2, g3, g4, g5⟩ := Blk.six ((HB2.out.ext HXR.out).ext hSw); obtain ⟨c0, c1, c2, c3, c4⟩ := HAT.out.ext (Ext.trans HXW.out hSw) HLB.out; rw [hco] at c1; have k3 := ((HB1.out.ext HXR.out).ext hSw).cell 3; go_simp; (try with_reducible rfl))
                  try simp only [Act.put, List.setIfInBounds_toArray, List.set_cons_zero, List.set_cons_succ]
                  refine held_take (i := 1) (v := ?_) rfl (by kernel_rfl) (by kernel_rfl) (by kernel_rfl) (by rfl) (by first | assumption | exact True.intro) ?_ ?_
                  rotate_left
                  · (intro W hSw; obtain ⟨g0, g1, g2, g3, g4, g5⟩ := Blk.six ((HB2.out.ext HXR.out).ext hSw); obtain ⟨c0, c1, c2, c3, c4⟩ := HAT.out.ext (Ext.trans HXW.out hSw) HLB.out; rw [hco] at c1; have k3 := ((HB1.out.ext HXR.out).ext hSw).cell 3; go_simp; (try with_reducible rfl))
                  try simp only [Act.put, List.setIfInBounds_toArray, List.set_cons_zero, List.set_cons_succ]
                  refine held_take (i := 2) (v := ?_) rfl (by kernel_rfl) (by kernel_rfl) (by kernel_rfl) (by rfl) (by first | assumption | exact True.intro) ?_ ?_
                  rotate_left
                  · (intro W hSw; obtain ⟨g0, g1, g2, g3, g4, g5⟩ := Blk.six ((HB2.out.ext HXR.out).ext hSw); obtain ⟨c0, c1, c2, c3, c4⟩ := HAT.out.ext (Ext.trans HXW.out hSw) HLB.out; rw [hco] at c1; have k3 := ((HB1.out.ext HXR.out).ext hSw).cell 3; go_simp; (try with_reducible rfl))
                  try simp only [Act.put, List.setIfInBounds_toArray, List.set_cons_zero, List.set_cons_succ]
                  refine held_take (i := 3) (v := ?_) rfl (by kernel_rfl) (by kernel_rfl) (by kernel_rfl) (by rfl) (by first | assumption | exact True.intro) ?_ ?_
                  rotate_left
                  · (intro W hSw; obtain ⟨g0, g1, g2, g3, g4, g5⟩ := Blk.six ((HB2.out.ext HXR.out).ext hSw); obtain ⟨c0, c1, c2, c3, c4⟩ := HAT.out.ext (Ext.trans HXW.out hSw) HLB.out; rw [hco] at c1; have k3 := ((HB1.out.ext HXR.out).ext hSw).cell 3; go_simp; (try with_reducible rfl))
                  try simp only [Act.put, List.setIfInBounds_toArray, List.set_cons_zero, List.set_cons_succ]
                  refine held_take (i := 4) (v := ?_) rfl (by kernel_rfl) (by kernel_rfl) (by kernel_rfl) (by rfl) (by first | assumption | exact True.intro) ?_ ?_
                  rotate_left
                  · (intro W hSw; obtain ⟨g0, g1, g2, g3, g4, g5⟩ := Blk.six ((HB2.out.ext HXR.out).ext hSw); obtain ⟨c0, c1, c2, c3, c4⟩ := HAT.out.ext (Ext.trans HXW.out hSw) HLB.out; rw [hco] at c1; have k3 := ((HB1.out.ext HXR.out).ext hSw).cell 3; go_simp; (try with_reducible rfl))
                  try simp only [Act.put, List.setIfInBounds_toArray, List.set_cons_zero, List.set_cons_succ]
                  refine held_take (i := 5) (v := ?_) rfl (by kernel_rfl) (by kernel_rfl) (by kernel_rfl) (by rfl) (by first | assumption | exact True.intro) ?_ ?_
                  rotate_left
                  · (intro W hSw; obtain ⟨g0, g1, g2, g3, g4, g5⟩ := Blk.six ((HB2.out.ext HXR.out).ext hSw); obtain ⟨c0, c1, c2, c3, c4⟩ := HAT.out.ext (Ext.trans HXW.out hSw) HLB.out; rw [hco] at c1; have k3 := ((HB1.out.ext HXR.out).ext hSw).cell 3; go_simp; (try with_reducible rfl))
                  try simp only [Act.put, List.setIfInBounds_toArray, List.set_cons_zero, List.set_cons_succ]
                  refine held_take (i := 6) (v := ?_) rfl (by kernel_rfl) (by kernel_rfl) (by kernel_rfl) (by rfl) (by first | assumption | exact True.intro) ?_ ?_
                  rotate_left
                  · (intro W hSw; obtain ⟨g0, g1, g2, g3, g4, g5⟩ := Blk.six ((HB2.out.ext HXR.out).ext hSw); obtain ⟨c0, c1, c2, c3, c4⟩ := HAT.out.ext (Ext.trans HXW.out hSw) HLB.out; rw [hco] at c1; have k3 := ((HB1.out.ext HXR.out).ext hSw).cell 3; go_simp; (try with_reducible rfl))
                  try simp only [Act.put, List.setIfInBounds_toArray, List.set_cons_zero, List.set_cons_succ]
                  refine held_take (i := 7) (v := ?_) rfl (by kernel_rfl) (by kernel_rfl) (by kernel_rfl) (by rfl) (by first | assumption | exact True.intro) ?_ ?_
                  rotate_left
                  · (intro W hSw; obtain ⟨g0, g1, g2, g3, g4, g5⟩ := Blk.six ((HB2.out.ext HXR.out).ext hSw); obtain ⟨c0, c1, c2, c3, c4⟩ := HAT.out.ext (Ext.trans HXW.out hSw) HLB.out; rw [hco] at c1; have k3 := ((HB1.out.ext HXR.out).ext hSw).cell 3; go_simp; (try with_reducible rfl))
                  try simp only [Act.put, List.setIfInBounds_toArray, List.set_cons_zero, List.set_cons_succ]
                  refine held_take (i := 8) (v := ?_) rfl (by kernel_rfl) (by kernel_rfl) (by kernel_rfl) (by rfl) (by first | assumption | exact True.intro) ?_ ?_
                  rotate_left
                  · (intro W hSw; obtain ⟨g0, g1, g2, g3, g4, g5⟩ := Blk.six ((HB2.out.ext HXR.out).ext hSw); obtain ⟨c0, c1, c2, c3, c4⟩ := HAT.out.ext (Ext.trans HXW.out hSw) HLB.out; rw [hco] at c1; have k3 := ((HB1.out.ext HXR.out).ext hSw).cell 3; go_simp; (try with_reducible rfl))
                  try simp only [Act.put, List.setIfInBounds_toArray, List.set_cons_zero, List.set_cons_succ]
                  refine held_take (i := 9) (v := ?_) rfl (by kernel_rfl) (by kernel_rfl) (by kernel_rfl) (by rfl) (by first | assumption | exact True.intro) ?_ ?_
                  rotate_left
                  · (intro W hSw; obtain ⟨g0, g1, g2, g3, g4, g5⟩ := Blk.six ((HB2.out.ext HXR.out).ext hSw); obtain ⟨c0, c1, c2, c3, c4⟩ := HAT.out.ext (Ext.trans HXW.out hSw) HLB.out; rw [hco] at c1; have k3 := ((HB1.out.ext HXR.out).ext hSw).cell 3; go_simp; (try with_reducible rfl))
                  try simp only [Act.put, List.setIfInBounds_toArray, List.set_cons_zero, List.set_cons_succ]
                  clear hSx
                  refine held_op (i := 10) (by kernel_rfl) rfl (fun K hK => ?_)
                  go_simp
                  go_at_call 8
                  refine (HBQ.out _ (Below.drewN' HXW.out 1)).mono ?_
                  rintro e3 w3 ⟨rfl, hx3⟩
                  have HX4 : Hid (Ext wr w3) := Lib.hid (Ext.trans (Below.drewN' (Ext.refl wr) 1) hx3)
                  clear hx3
                  refine hK _ _ (HX4.out) (fun hSx => ?_)
                  clear hK K
                  try simp only [Act.put, List.setIfInBounds_toArray, List.set_cons_zero, List.set_cons_succ]
                  cases hbh : behindN s n
                  · have HS := Lib.hid (HMIS.out (by unfold way3; rw [if_neg (by rw [hbh]; simp)]))
                    refine held_take (i := 11) (v := ?_) rfl (by kernel_rfl) (by kernel_rfl) (by kernel_rfl) (by rfl) (by first | assumption | exact True.intro) ?_ ?_
                    rotate_left
                    · (intro W hSw; obtain ⟨g0, g1, g2, g3, g4, g5⟩ := Blk.six ((HB2.out.ext HXR.out).ext hSw); obtain ⟨c0, c1, c2, c3, c4⟩ := HAT.out.ext (Ext.trans HXW.out hSw) HLB.out; rw [hco] at c1; have k3 := ((HB1.out.ext HXR.out).ext hSw).cell 3; go_simp; (try with_reducible rfl))
                    try simp only [Act.put, List.setIfInBounds_toArray, List.set_cons_zero, List.set_cons_succ]
                    refine held_take (i := 12) (v := ?_) rfl (by kernel_rfl) (by kernel_rfl) (by kernel_rfl) (by rfl) (by first | assumption | exact True.intro) ?_ ?_
                    rotate_left
                    · (intro W hSw; obtain ⟨g0, g1, g2, g3, g4, g5⟩ := Blk.six ((HB2.out.ext HXR.out).ext hSw); obtain ⟨c0, c1, c2, c3, c4⟩ := HAT.out.ext (Ext.trans HXW.out hSw) HLB.out; rw [hco] at c1; have k3 := ((HB1.out.ext HXR.out).ext hSw).cell 3; go_simp; (try with_reducible rfl))
                    try simp only [Act.put, List.setIfInBounds_toArray, List.set_cons_zero, List.set_cons_succ]
                    refine held_skip (i := 13) rfl (by kernel_rfl) (by kernel_rfl) (by kernel_rfl) (by rfl) (by first | assumption | exact True.intro) ?_
                    try simp only [Act.put, List.setIfInBounds_toArray, List.set_cons_zero, List.set_cons_succ]
                    refine held_skip (i := 14) rfl (by kernel_rfl) (by kernel_rfl) (by kernel_rfl) (by rfl) (by first | assumption | exact True.intro) ?_
                    try simp only [Act.put, List.setIfInBounds_toArray, List.set_cons_zero, List.set_cons_succ]
                    refine held_skip (i := 15) rfl (by kernel_rfl) (by kernel_rfl) (by kernel_rfl) (by rfl) (by first | assumption | exact True.intro) ?_
                    try simp only [Act.put, List.setIfInBounds_toArray, List.set_cons_zero, List.set_cons_succ]
                    refine held_skip (i := 16) rfl (by kernel_rfl) (by kernel_rfl) (by kernel_rfl) (by rfl) (by first | assumption | exact True.intro) ?_
                    try simp only [Act.put, List.setIfInBounds_toArray, List.set_cons_zero, List.set_cons_succ]
                    refine held_take (i := 17) (v := ?_) rfl (by kernel_rfl) (by kernel_rfl) (by kernel_rfl) (by rfl) (by first | assumption | exact True.intro) ?_ ?_
                    rotate_left
                    · (intro W hSw; obtain ⟨g0, g1, g2, g3, g4, g5⟩ := Blk.six ((HB2.out.ext HXR.out).ext hSw); obtain ⟨c0, c1, c2, c3, c4⟩ := HAT.out.ext (Ext.trans HXW.out hSw) HLB.out; rw [hco] at c1; have k3 := ((HB1.out.ext HXR.out).ext hSw).cell 3; go_simp; (try with_reducible rfl))
                    try simp only [Act.put, List.setIfInBounds_toArray, List.set_cons_zero, List.set_cons_succ]
                    refine held_take (i := 18) (v := ?_) rfl (by kernel_rfl) (by kernel_rfl) (by kernel_rfl) (by rfl) (by first | assumption | exact True.intro) ?_ ?_
                    rotate_left
                    · (intro W hSw; obtain ⟨g0, g1, g2, g3, g4, g5⟩ := Blk.six ((HB2.out.ext HXR.out).ext hSw); obtain ⟨c0, c1, c2, c3, c4⟩ := HAT.out.ext (Ext.trans HXW.out hSw) HLB.out; rw [hco] at c1; have k3 := ((HB1.out.ext HXR.out).ext hSw).cell 3; go_simp; (try with_reducible rfl))
                    try simp only [Act.put, List.setIfInBounds_toArray, List.set_cons_zero, List.set_cons_succ]
                    refine held_skip (i := 19) rfl (by kernel_rfl) (by kernel_rfl) (by kernel_rfl) (by rfl) (by first | assumption | exact True.intro) ?_
                    try simp only [Act.put, List.setIfInBounds_toArray, List.set_cons_zero, List.set_cons_succ]
                    refine held_skip (i := 20) rfl (by kernel_rfl) (by kernel_rfl) (by kernel_rfl) (by rfl) (by first | assumption | exact True.intro) ?_
                    try simp only [Act.put, List.setIfInBounds_toArray, List.set_cons_zero, List.set_cons_succ]
                    refine held_skip (i := 21) rfl (by kernel_rfl) (by kernel_rfl) (by kernel_rfl) (by rfl) (by first | assumption | exact True.intro) ?_
                    try simp only [Act.put, List.setIfInBounds_toArray, List.set_cons_zero, List.set_cons_succ]
                    refine held_skip (i := 22) rfl (by kernel_rfl) (by kernel_rfl) (by kernel_rfl) (by rfl) (by first | assumption | exact True.intro) ?_
                    try simp only [Act.put, List.setIfInBounds_toArray, List.set_cons_zero, List.set_cons_succ]
                    refine held_skip (i := 23) rfl (by kernel_rfl) (by kernel_rfl) (by kernel_rfl) (by rfl) (by first | assumption | exact True.intro) ?_
                    try simp only [Act.put, List.setIfInBounds_toArray, List.set_cons_zero, List.set_cons_succ]
                    refine held_take (i := 24) (v := ?_) rfl (by kernel_rfl) (by kernel_rfl) (by kernel_rfl) (by rfl) (by first | assumption | exact True.intro) ?_ ?_
                    rotate_left
                    · (intro W hSw; obtain ⟨g0, g1, g2, g3, g4, g5⟩ := Blk.six ((HB2.out.ext HXR.out).ext hSw); obtain ⟨c0, c1, c2, c3, c4⟩ := HAT.out.ext (Ext.trans HXW.out hSw) HLB.out; rw [hco] at c1; have k3 := ((HB1.out.ext HXR.out).ext hSw).cell 3; go_simp; (try with_reducible rfl))
                    try simp only [Act.put, List.setIfInBounds_toArray, List.set_cons_zero, List.set_cons_succ]
                    clear hSx
                    refine wpAnyH_done (by kernel_rfl) ?_ _
                    refine NoPanic.normal ?_
                    have HX9 : Hid (Ext W3 w3) := Lib.hid (Ext.trans HXR.out HX4.out)
                    repeat (first | go_values | go_skip | go_guarded | go_step | go_upon | (simp only []))
                    go_roundw
                    case rel => exact ⟨q + 1, by first | (rw [wq]; rfl) | rfl, HLT.out, HS, HX9.out⟩
                    case measure => first | (rw [wq]; exact measQ HLT.out) | exact measQ HLT.out
                  · refine held_take (i := 11) (v := ?_) rfl (by kernel_rfl) (by kernel_rfl) (by kernel_rfl) (by rfl) (by first | assumption | exact True.intro) ?_ ?_
                    rotate_left
                    · (intro W hSw; obtain ⟨g0, g1, g2, g3, g4, g5⟩ := Blk.six ((HB2.out.ext HXR.out).ext hSw); obtain ⟨c0, c1, c2, c3, c4⟩ := HAT.out.ext (Ext.trans HXW.out hSw) HLB.out; rw [hco] at c1; have k3 := ((HB1.out.ext HXR.out).ext hSw).cell 3; go_simp; (try with_reducible rfl))
                    try simp only [Act.put, List.setIfInBounds_toArray, List.set_cons_zero, List.set_cons_succ]
                    refine held_take (i := 12) (v := ?_) rfl (by kernel_rfl) (by kernel_rfl) (by kernel_rfl) (by rfl) (by first | assumption | exact True.intro) ?_ ?_
                    rotate_left
                    · (intro W hSw; obtain ⟨g0, g1, g2, g3, g4, g5⟩ := Blk.six ((HB2.out.ext HXR.out).ext hSw); obtain ⟨c0, c1, c2, c3, c4⟩ := HAT.out.ext (Ext.trans HXW.out hSw) HLB.out; rw [hco] at c1; have k3 := ((HB1.out.ext HXR.out).ext hSw).cell 3; go_simp; (try with_reducible rfl))
                    try simp only [Act.put, List.setIfInBounds_toArray, List.set_cons_zero, List.set_cons_succ]
                    refine held_take (i := 13) (v := ?_) rfl (by kernel_rfl) (by kernel_rfl) (by kernel_rfl) (by rfl) (by first | assumption | exact True.intro) ?_ ?_
                    rotate_left
                    · (intro W hSw; obtain ⟨g0, g1, g2, g3, g4, g5⟩ := Blk.six ((HB2.out.ext HXR.out).ext hSw); obtain ⟨c0, c1, c2, c3, c4⟩ := HAT.out.ext (Ext.trans HXW.out hSw) HLB.out; rw [hco] at c1; have k3 := ((HB1.out.ext HXR.out).ext hSw).cell 3; go_simp; (try with_reducible rfl))
                    try simp only [Act.put, List.setIfInBounds_toArray, List.set_cons_zero, List.set_cons_succ]
                    refine held_take (i := 14) (v := ?_) rfl (by kernel_rfl) (by kernel_rfl) (by kernel_rfl) (by rfl) (by first | assumption | exact True.intro) ?_ ?_
                    rotate_left
                    · (intro W hSw; obtain ⟨g0, g1, g2, g3, g4, g5⟩ := Blk.six ((HB2.out.ext HXR.out).ext hSw); obtain ⟨c0, c1, c2, c3, c4⟩ := HAT.out.ext (Ext.trans HXW.out hSw) HLB.out; rw [hco] at c1; have k3 := ((HB1.out.ext HXR.out).ext hSw).cell 3; go_simp; (try with_reducible rfl))
                    try simp only [Act.put, List.setIfInBounds_toArray, List.set_cons_zero, List.set_cons_succ]
                    clear hSx
                    refine held_op (i := 15) (by kernel_rfl) rfl (fun K hK => ?_)
                    go_simp
                    go_at_call 12
                    refine (HAQ.out _ (Ext.trans HXW.out HX4.out)).mono ?_
                    rintro e4 w4 ⟨rfl, hx4⟩
                    have HX5 : Hid (Ext wr w4) := Lib.hid (Ext.trans HX4.out hx4)
                    clear hx4
                    refine hK _ _ (HX5.out) (fun hSx => ?_)
                    clear hK K
                    try simp only [Act.put, List.setIfInBounds_toArray, List.set_cons_zero, List.set_cons_succ]
                    cases hal : aloneN s n
                    · refine held_take (i := 16) (v := ?_) rfl (by kernel_rfl) (by kernel_rfl) (by kernel_rfl) (by rfl) (by first | assumption | exact True.intro) ?_ ?_
                      rotate_left
                      · (intro W hSw; obtain ⟨g0, g1, g2, g3, g4, g5⟩ := Blk.six ((HB2.out.ext HXR.out).ext hSw); obtain ⟨c0, c1, c2, c3, c4⟩ := HAT.out.ext (Ext.trans HXW.out hSw) HLB.out; rw [hco] at c1; have k3 := ((HB1.out.ext HXR.out).ext hSw).cell 3; go_simp; (try with_reducible rfl))
                      try simp only [Act.put, List.setIfInBounds_toArray, List.set_cons_zero, List.set_cons_succ]
                      refine held_take (i := 17) (v := ?_) rfl (by kernel_rfl) (by kernel_rfl) (by kernel_rfl) (by rfl) (by first | assumption | exact True.intro) ?_ ?_
                      rotate_left
                      · (intro W hSw; obtain ⟨g0, g1, g2, g3, g4, g5⟩ := Blk.six ((HB2.out.ext HXR.out).ext hSw); obtain ⟨c0, c1, c2, c3, c4⟩ := HAT.out.ext (Ext.trans HXW.out hSw) HLB.out; rw [hco] at c1; have k3 := ((HB1.out.ext HXR.out).ext hSw).cell 3; go_simp; (try with_reducible rfl))
                      try simp only [Act.put, List.setIfInBounds_toArray, List.set_cons_zero, List.set_cons_succ]
                      refine held_take (i := 18) (v := ?_) rfl (by kernel_rfl) (by kernel_rfl) (by kernel_rfl) (by rfl) (by first | assumption | exact True.intro) ?_ ?_
                      rotate_left
                      · (intro W hSw; obtain ⟨g0, g1, g2, g3, g4, g5⟩ := Blk.six ((HB2.out.ext HXR.out).ext hSw); obtain ⟨c0, c1, c2, c3, c4⟩ := HAT.out.ext (Ext.trans HXW.out hSw) HLB.out; rw [hco] at c1; have k3 := ((HB1.out.ext HXR.out).ext hSw).cell 3; go_simp; (try with_reducible rfl))
                      try simp only [Act.put, List.setIfInBounds_toArray, List.set_cons_zero, List.set_cons_succ]
                      refine held_take (i := 19) (v := ?_) rfl (by kernel_rfl) (by kernel_rfl) (by kernel_rfl) (by rfl) (by first | assumption | exact True.intro) ?_ ?_
                      rotate_left
                      · (intro W hSw; obtain ⟨g0, g1, g2, g3, g4, g5⟩ := Blk.six ((HB2.out.ext HXR.out).ext hSw); obtain ⟨c0, c1, c2, c3, c4⟩ := HAT.out.ext (Ext.trans HXW.out hSw) HLB.out; rw [hco] at c1; have k3 := ((HB1.out.ext HXR.out).ext hSw).cell 3; go_simp; (try with_reducible rfl))
                      try simp only [Act.put, List.setIfInBounds_toArray, List.set_cons_zero, List.set_cons_succ]
                      refine held_take (i := 21) (v := ?_) rfl (by kernel_rfl) (by kernel_rfl) (by kernel_rfl) (by rfl) (by first | assumption | exact True.intro) ?_ ?_
                      rotate_left
                      · (intro W hSw; obtain ⟨g0, g1, g2, g3, g4, g5⟩ := Blk.six ((HB2.out.ext HXR.out).ext hSw); obtain ⟨c0, c1, c2, c3, c4⟩ := HAT.out.ext (Ext.trans HXW.out hSw) HLB.out; rw [hco] at c1; have k3 := ((HB1.out.ext HXR.out).ext hSw).cell 3; go_simp; (try with_reducible rfl))
                      try simp only [Act.put, List.setIfInBounds_toArray, List.set_cons_zero, List.set_cons_succ]
                      refine held_take (i := 22) (v := ?_) rfl (by kernel_rfl) (by kernel_rfl) (by kernel_rfl) (by rfl) (by first | assumption | exact True.intro) ?_ ?_
                      rotate_left
                      · (intro W hSw; obtain ⟨g0, g1, g2, g3, g4, g5⟩ := Blk.six ((HB2.out.ext HXR.out).ext hSw); obtain ⟨c0, c1, c2, c3, c4⟩ := HAT.out.ext (Ext.trans HXW.out hSw) HLB.out; rw [hco] at c1; have k3 := ((HB1.out.ext HXR.out).ext hSw).cell 3; go_simp; (try with_reducible rfl))
                      try simp only [Act.put, List.setIfInBounds_toArray, List.set_cons_zero, List.set_cons_succ]
                      clear hSx
                      refine held_op (i := 20) (by kernel_rfl) rfl (fun K hK => ?_)
                      go_simp
                      go_at_call 14
                      refine (HWV.out _ (Ext.trans HXW.out HX5.out)).mono ?_
                      rintro e5 w5 ⟨rfl, hx5⟩
                      have HX6 : Hid (Ext wr w5) := Lib.hid (Ext.trans HX5.out hx5)
                      clear hx5
                      refine hK _ _ (HX6.out) (fun hSx => ?_)
                      clear hK K
                      try simp only [Act.put, List.setIfInBounds_toArray, List.set_cons_zero, List.set_cons_succ]
                      refine held_take (i := 23) (v := ?_) rfl (by kernel_rfl) (by kernel_rfl) (by kernel_rfl) (by rfl) (by first | assumption | exact True.intro) ?_ ?_
                      rotate_left
                      · (intro W hSw; obtain ⟨g0, g1, g2, g3, g4, g5⟩ := Blk.six ((HB2.out.ext HXR.out).ext hSw); obtain ⟨c0, c1, c2, c3, c4⟩ := HAT.out.ext (Ext.trans HXW.out hSw) HLB.out; rw [hco] at c1; have k3 := ((HB1.out.ext HXR.out).ext hSw).cell 3; go_simp; (try with_reducible rfl))
                      try simp only [Act.put, List.setIfInBounds_toArray, List.set_cons_zero, List.set_cons_succ]
                      refine held_take (i := 24) (v := ?_) rfl (by kernel_rfl) (by kernel_rfl) (by kernel_rfl) (by rfl) (by first | assumption | exact True.intro) ?_ ?_
                      rotate_left
                      · (intro W hSw; obtain ⟨g0, g1, g2, g3, g4, g5⟩ := Blk.six ((HB2.out.ext HXR.out).ext hSw); obtain ⟨c0, c1, c2, c3, c4⟩ := HAT.out.ext (Ext.trans HXW.out hSw) HLB.out; rw [hco] at c1; have k3 := ((HB1.out.ext HXR.out).ext hSw).cell 3; go_simp; (try with_reducible rfl))
                      try simp only [Act.put, List.setIfInBounds_toArray, List.set_cons_zero, List.set_cons_succ]
                      clear hSx
                      refine wpAnyH_done (by kernel_rfl) ?_ _
                      refine NoPanic.normal ?_
                      have HX9 : Hid (Ext W3 w5) := Lib.hid (Ext.trans HXR.out HX6.out)
                      have HXZ := Lib.hid (Ext.trans HX.out HX9.out)
                      replace HBR := Lib.hid (HB3.out.ext HX9.out)
                      by_cases hw : (waveS s : Int) < c.wave
                      · have f1 : decide ((waveS s : Int) < c.wave) = true := decide_eq_true hw
                        have HZ : Hid (R = some (16, (q : Int), 0, 0, 0, 0, 0)) := Lib.hid (by rw [HF3.out]; exact HHIT.out _ (by unfold way3; rw [if_pos ⟨hco, hbh, hal, hw⟩]))
                        rw [f1]
                        clear f1 hw hco hbh hal
                        have HI5 : Hid ((Try.prog.info? 39).map (·.size) = some (#[.int .i64 16, .int .i64 (q : Int), .int .i64 0, .int .i64 0, .int .i64 0, .int .i64 0, .int .i64 0] : Array Value).size) := Lib.hid infoOp
                        have HO5 : Hid ((#[.int .i64 16, .int .i64 (q : Int), .int .i64 0, .int .i64 0, .int .i64 0, .int .i64 0, .int .i64 0] : Array Value).all (·.oneCell') = true) := Lib.hid (by simp [Value.oneCell'])
                        go_wp2_with (refine wpList_storeB rfl 39 _ _ rfl gr #[.int .i64 16, .int .i64 (q : Int), .int .i64 0, .int .i64 0, .int .i64 0, .int .i64 0, .int .i64 0] rfl rfl 39 _ HBR.out HI5.out rfl HO5.out w.heap.size w HXZ.out HGR.out ?_; intro w5 hb5 hx5)
                        exact bodyPost_ret (run_op rfl rfl rfl hb5 rfl) rfl ⟨by rw [HZ.out]; rfl, hx5⟩
                      · have f1 : decide ((waveS s : Int) < c.wave) = false := decide_eq_false hw
                        have HS := Lib.hid (HMIS.out (by unfold way3; rw [if_neg (by rintro ⟨-, -, -, h⟩; exact hw h)]))
                        rw [f1]
                        clear f1 hw hco hbh hal
                        repeat (first | go_values | go_skip | go_guarded | go_step | go_upon | (simp only []))
                        go_roundw
                        case rel => exact ⟨q + 1, by first | (rw [wq]; rfl) | rfl, HLT.out, HS, HX9.out⟩
                        case measure => first | (rw [wq]; exact measQ HLT.out) | exact measQ HLT.out
                    · have HS := Lib.hid (HMIS.out (by unfold way3; rw [if_neg (by rw [hal]; simp)]))
                      refine held_take (i := 16) (v := ?_) rfl (by kernel_rfl) (by kernel_rfl) (by kernel_rfl) (by rfl) (by first | assumption | exact True.intro) ?_ ?_
                      rotate_left
                      · (intro W hSw; obtain ⟨g0, g1, g2, g3, g4, g5⟩ := Blk.six ((HB2.out.ext HXR.out).ext hSw); obtain ⟨c0, c1, c2, c3, c4⟩ := HAT.out.ext (Ext.trans HXW.out hSw) HLB.out; rw [hco] at c1; have k3 := ((HB1.out.ext HXR.out).ext hSw).cell 3; go_simp; (try with_reducible rfl))
                      try simp only [Act.put, List.setIfInBounds_toArray, List.set_cons_zero, List.set_cons_succ]
                      refine held_take (i := 17) (v := ?_) rfl (by kernel_rfl) (by kernel_rfl) (by kernel_rfl) (by rfl) (by first | assumption | exact True.intro) ?_ ?_
                      rotate_left
                      · (intro W hSw; obtain ⟨g0, g1, g2, g3, g4, g5⟩ := Blk.six ((HB2.out.ext HXR.out).ext hSw); obtain ⟨c0, c1, c2, c3, c4⟩ := HAT.out.ext (Ext.trans HXW.out hSw) HLB.out; rw [hco] at c1; have k3 := ((HB1.out.ext HXR.out).ext hSw).cell 3; go_simp; (try with_reducible rfl))
                      try simp only [Act.put, List.setIfInBounds_toArray, List.set_cons_zero, List.set_cons_succ]
                      refine held_take (i := 18) (v := ?_) rfl (by kernel_rfl) (by kernel_rfl) (by kernel_rfl) (by rfl) (by first | assumption | exact True.intro) ?_ ?_
                      rotate_left
                      · (intro W hSw; obtain ⟨g0, g1, g2, g3, g4, g5⟩ := Blk.six ((HB2.out.ext HXR.out).ext hSw); obtain ⟨c0, c1, c2, c3, c4⟩ := HAT.out.ext (Ext.trans HXW.out hSw) HLB.out; rw [hco] at c1; have k3 := ((HB1.out.ext HXR.out).ext hSw).cell 3; go_simp; (try with_reducible rfl))
                      try simp only [Act.put, List.setIfInBounds_toArray, List.set_cons_zero, List.set_cons_succ]
                      refine held_skip (i := 19) rfl (by kernel_rfl) (by kernel_rfl) (by kernel_rfl) (by rfl) (by first | assumption | exact True.intro) ?_
                      try simp only [Act.put, List.setIfInBounds_toArray, List.set_cons_zero, List.set_cons_succ]
                      refine held_skip (i := 20) rfl (by kernel_rfl) (by kernel_rfl) (by kernel_rfl) (by rfl) (by first | assumption | exact True.intro) ?_
                      try simp only [Act.put, List.setIfInBounds_toArray, List.set_cons_zero, List.set_cons_succ]
                      refine held_skip (i := 21) rfl (by kernel_rfl) (by kernel_rfl) (by kernel_rfl) (by rfl) (by first | assumption | exact True.intro) ?_
                      try simp only [Act.put, List.setIfInBounds_toArray, List.set_cons_zero, List.set_cons_succ]
                      refine held_skip (i := 22) rfl (by kernel_rfl) (by kernel_rfl) (by kernel_rfl) (by rfl) (by first | assumption | exact True.intro) ?_
                      try simp only [Act.put, List.setIfInBounds_toArray, List.set_cons_zero, List.set_cons_succ]
                      refine held_skip (i := 23) rfl (by kernel_rfl) (by kernel_rfl) (by kernel_rfl) (by rfl) (by first | assumption | exact True.intro) ?_
                      try simp only [Act.put, List.setIfInBounds_toArray, List.set_cons_zero, List.set_cons_succ]
                      refine held_take (i := 24) (v := ?_) rfl (by kernel_rfl) (by kernel_rfl) (by kernel_rfl) (by rfl) (by first | assumption | exact True.intro) ?_ ?_
                      rotate_left
                      · (intro W hSw; obtain ⟨g0, g1, g2, g3, g4, g5⟩ := Blk.six ((HB2.out.ext HXR.out).ext hSw); obtain ⟨c0, c1, c2, c3, c4⟩ := HAT.out.ext (Ext.trans HXW.out hSw) HLB.out; rw [hco] at c1; have k3 := ((HB1.out.ext HXR.out).ext hSw).cell 3; go_simp; (try with_reducible rfl))
                      try simp only [Act.put, List.setIfInBounds_toArray, List.set_cons_zero, List.set_cons_succ]
                      clear hSx
                      refine wpAnyH_done (by kernel_rfl) ?_ _
                      refine NoPanic.normal ?_
                      have HX9 : Hid (Ext W3 w4) := Lib.hid (Ext.trans HXR.out HX5.out)
                      repeat (first | go_values | go_skip | go_guarded | go_step | go_upon | (simp only []))
                      go_roundw
                      case rel => exact ⟨q + 1, by first | (rw [wq]; rfl) | rfl, HLT.out, HS, HX9.out⟩
                      case measure => first | (rw [wq]; exact measQ HLT.out) | exact measQ HLT.out
                · have HS := Lib.hid (HMIS.out (by unfold way3; rw [if_neg (by rw [hco]; simp)]))
                  refine held_begin (by kernel_rfl) ?_
                  refine held_more (S' := fun W' : World => Ext wr W') (fun _ _ => True.intro) ?_
                  have hSx : (fun W' : World => Ext wr W') wr.drew := Below.drewN' (Ext.refl wr) 1
                  refine held_take (i := 0) (v := ?_) rfl (by kernel_rfl) (by kernel_rfl) (by kernel_rfl) (by rfl) (by first | assumption | exact True.intro) ?_ ?_
                  rotate_left
                  · (intro W hSw; obtain ⟨g0, g1, g2, g3, g4, g5⟩ := Blk.six ((HB2.out.ext HXR.out).ext hSw); obtain ⟨c0, c1, c2, c3, c4⟩ := HAT.out.ext (Ext.trans HXW.out hSw) HLB.out; rw [hco] at c1; have k3 := ((HB1.out.ext HXR.out).ext hSw).cell 3; go_simp; (try with_reducible rfl))
                  try simp only [Act.put, List.setIfInBounds_toArray, List.set_cons_zero, List.set_cons_succ]
                  refine held_take (i := 1) (v := ?_) rfl (by kernel_rfl) (by kernel_rfl) (by kernel_rfl) (by rfl) (by first | assumption | exact True.intro) ?_ ?_
                  rotate_left
                  · (intro W hSw; obtain ⟨g0, g1, g2, g3, g4, g5⟩ := Blk.six ((HB2.out.ext HXR.out).ext hSw); obtain ⟨c0, c1, c2, c3, c4⟩ := HAT.out.ext (Ext.trans HXW.out hSw) HLB.out; rw [hco] at c1; have k3 := ((HB1.out.ext HXR.out).ext hSw).cell 3; go_simp; (try with_reducible rfl))
                  try simp only [Act.put, List.setIfInBounds_toArray, List.set_cons_zero, List.set_cons_succ]
                  refine held_take (i := 2) (v := ?_) rfl (by kernel_rfl) (by kernel_rfl) (by kernel_rfl) (by rfl) (by first | assumption | exact True.intro) ?_ ?_
                  rotate_left
                  · (intro W hSw; obtain ⟨g0, g1, g2, g3, g4, g5⟩ := Blk.six ((HB2.out.ext HXR.out).ext hSw); obtain ⟨c0, c1, c2, c3, c4⟩ := HAT.out.ext (Ext.trans HXW.out hSw) HLB.out; rw [hco] at c1; have k3 := ((HB1.out.ext HXR.out).ext hSw).cell 3; go_simp; (try with_reducible rfl))
                  try simp only [Act.put, List.setIfInBounds_toArray, List.set_cons_zero, List.set_cons_succ]
                  refine held_take (i := 3) (v := ?_) rfl (by kernel_rfl) (by kernel_rfl) (by kernel_rfl) (by rfl) (by first | assumption | exact True.intro) ?_ ?_
                  rotate_left
                  · (intro W hSw; obtain ⟨g0, g1, g2, g3, g4, g5⟩ := Blk.six ((HB2.out.ext HXR.out).ext hSw); obtain ⟨c0, c1, c2, c3, c4⟩ := HAT.out.ext (Ext.trans HXW.out hSw) HLB.out; rw [hco] at c1; have k3 := ((HB1.out.ext HXR.out).ext hSw).cell 3; go_simp; (try with_reducible rfl))
                  try simp only [Act.put, List.setIfInBounds_toArray, List.set_cons_zero, List.set_cons_succ]
                  refine held_take (i := 4) (v := ?_) rfl (by kernel_rfl) (by kernel_rfl) (by kernel_rfl) (by rfl) (by first | assumption | exact True.intro) ?_ ?_
                  rotate_left
                  · (intro W hSw; obtain ⟨g0, g1, g2, g3, g4, g5⟩ := Blk.six ((HB2.out.ext HXR.out).ext hSw); obtain ⟨c0, c1, c2, c3, c4⟩ := HAT.out.ext (Ext.trans HXW.out hSw) HLB.out; rw [hco] at c1; have k3 := ((HB1.out.ext HXR.out).ext hSw).cell 3; go_simp; (try with_reducible rfl))
                  try simp only [Act.put, List.setIfInBounds_toArray, List.set_cons_zero, List.set_cons_succ]
                  refine held_take (i := 5) (v := ?_) rfl (by kernel_rfl) (by kernel_rfl) (by kernel_rfl) (by rfl) (by first | assumption | exact True.intro) ?_ ?_
                  rotate_left
                  · (intro W hSw; obtain ⟨g0, g1, g2, g3, g4, g5⟩ := Blk.six ((HB2.out.ext HXR.out).ext hSw); obtain ⟨c0, c1, c2, c3, c4⟩ := HAT.out.ext (Ext.trans HXW.out hSw) HLB.out; rw [hco] at c1; have k3 := ((HB1.out.ext HXR.out).ext hSw).cell 3; go_simp; (try with_reducible rfl))
                  try simp only [Act.put, List.setIfInBounds_toArray, List.set_cons_zero, List.set_cons_succ]
                  refine held_take (i := 6) (v := ?_) rfl (by kernel_rfl) (by kernel_rfl) (by kernel_rfl) (by rfl) (by first | assumption | exact True.intro) ?_ ?_
                  rotate_left
                  · (intro W hSw; obtain ⟨g0, g1, g2, g3, g4, g5⟩ := Blk.six ((HB2.out.ext HXR.out).ext hSw); obtain ⟨c0, c1, c2, c3, c4⟩ := HAT.out.ext (Ext.trans HXW.out hSw) HLB.out; rw [hco] at c1; have k3 := ((HB1.out.ext HXR.out).ext hSw).cell 3; go_simp; (try with_reducible rfl))
                  try simp only [Act.put, List.setIfInBounds_toArray, List.set_cons_zero, List.set_cons_succ]
                  refine held_take (i := 7) (v := ?_) rfl (by kernel_rfl) (by kernel_rfl) (by kernel_rfl) (by rfl) (by first | assumption | exact True.intro) ?_ ?_
                  rotate_left
                  · (intro W hSw; obtain ⟨g0, g1, g2, g3, g4, g5⟩ := Blk.six ((HB2.out.ext HXR.out).ext hSw); obtain ⟨c0, c1, c2, c3, c4⟩ := HAT.out.ext (Ext.trans HXW.out hSw) HLB.out; rw [hco] at c1; have k3 := ((HB1.out.ext HXR.out).ext hSw).cell 3; go_simp; (try with_reducible rfl))
                  try simp only [Act.put, List.setIfInBounds_toArray, List.set_cons_zero, List.set_cons_succ]
                  refine held_skip (i := 8) rfl (by kernel_rfl) (by kernel_rfl) (by kernel_rfl) (by rfl) (by first | assumption | exact True.intro) ?_
                  try simp only [Act.put, List.setIfInBounds_toArray, List.set_cons_zero, List.set_cons_succ]
                  refine held_skip (i := 9) rfl (by kernel_rfl) (by kernel_rfl) (by kernel_rfl) (by rfl) (by first | assumption | exact True.intro) ?_
                  try simp only [Act.put, List.setIfInBounds_toArray, List.set_cons_zero, List.set_cons_succ]
                  refine held_skip (i := 10) rfl (by kernel_rfl) (by kernel_rfl) (by kernel_rfl) (by rfl) (by first | assumption | exact True.intro) ?_
                  try simp only [Act.put, List.setIfInBounds_toArray, List.set_cons_zero, List.set_cons_succ]
                  refine held_take (i := 11) (v := ?_) rfl (by kernel_rfl) (by kernel_rfl) (by kernel_rfl) (by rfl) (by first | assumption | exact True.intro) ?_ ?_
                  rotate_left
                  · (intro W hSw; obtain ⟨g0, g1, g2, g3, g4, g5⟩ := Blk.six ((HB2.out.ext HXR.out).ext hSw); obtain ⟨c0, c1, c2, c3, c4⟩ := HAT.out.ext (Ext.trans HXW.out hSw) HLB.out; rw [hco] at c1; have k3 := ((HB1.out.ext HXR.out).ext hSw).cell 3; go_simp; (try with_reducible rfl))
                  try simp only [Act.put, List.setIfInBounds_toArray, List.set_cons_zero, List.set_cons_succ]
                  refine held_take (i := 12) (v := ?_) rfl (by kernel_rfl) (by kernel_rfl) (by kernel_rfl) (by rfl) (by first | assumption | exact True.intro) ?_ ?_
                  rotate_left
                  · (intro W hSw; obtain ⟨g0, g1, g2, g3, g4, g5⟩ := Blk.six ((HB2.out.ext HXR.out).ext hSw); obtain ⟨c0, c1, c2, c3, c4⟩ := HAT.out.ext (Ext.trans HXW.out hSw) HLB.out; rw [hco] at c1; have k3 := ((HB1.out.ext HXR.out).ext hSw).cell 3; go_simp; (try with_reducible rfl))
                  try simp only [Act.put, List.setIfInBounds_toArray, List.set_cons_zero, List.set_cons_succ]
                  refine held_skip (i := 13) rfl (by kernel_rfl) (by kernel_rfl) (by kernel_rfl) (by rfl) (by first | assumption | exact True.intro) ?_
                  try simp only [Act.put, List.setIfInBounds_toArray, List.set_cons_zero, List.set_cons_succ]
                  refine held_skip (i := 14) rfl (by kernel_rfl) (by kernel_rfl) (by kernel_rfl) (by rfl) (by first | assumption | exact True.intro) ?_
                  try simp only [Act.put, List.setIfInBounds_toArray, List.set_cons_zero, List.set_cons_succ]
                  refine held_skip (i := 15) rfl (by kernel_rfl) (by kernel_rfl) (by kernel_rfl) (by rfl) (by first | assumption | exact True.intro) ?_
                  try simp only [Act.put, List.setIfInBounds_toArray, List.set_cons_zero, List.set_cons_succ]
                  refine held_skip (i := 16) rfl (by kernel_rfl) (by kernel_rfl) (by kernel_rfl) (by rfl) (by first | assumption | exact True.intro) ?_
                  try simp only [Act.put, List.setIfInBounds_toArray, List.set_cons_zero, List.set_cons_succ]
                  refine held_take (i := 17) (v := ?_) rfl (by kernel_rfl) (by kernel_rfl) (by kernel_rfl) (by rfl) (by first | assumption | exact True.intro) ?_ ?_
                  rotate_left
                  · (intro W hSw; obtain ⟨g0, g1, g2, g3, g4, g5⟩ := Blk.six ((HB2.out.ext HXR.out).ext hSw); obtain ⟨c0, c1, c2, c3, c4⟩ := HAT.out.ext (Ext.trans HXW.out hSw) HLB.out; rw [hco] at c1; have k3 := ((HB1.out.ext HXR.out).ext hSw).cell 3; go_simp; (try with_reducible rfl))
                  try simp only [Act.put, List.setIfInBounds_toArray, List.set_cons_zero, List.set_cons_succ]
                  refine held_take (i := 18) (v := ?_) rfl (by kernel_rfl) (by kernel_rfl) (by kernel_rfl) (by rfl) (by first | assumption | exact True.intro) ?_ ?_
                  rotate_left
                  · (intro W hSw; obtain ⟨g0, g1, g2, g3, g4, g5⟩ := Blk.six ((HB2.out.ext HXR.out).ext hSw); obtain ⟨c0, c1, c2, c3, c4⟩ := HAT.out.ext (Ext.trans HXW.out hSw) HLB.out; rw [hco] at c1; have k3 := ((HB1.out.ext HXR.out).ext hSw).cell 3; go_simp; (try with_reducible rfl))
                  try simp only [Act.put, List.setIfInBounds_toArray, List.set_cons_zero, List.set_cons_succ]
                  refine held_skip (i := 19) rfl (by kernel_rfl) (by kernel_rfl) (by kernel_rfl) (by rfl) (by first | assumption | exact True.intro) ?_
                  try simp only [Act.put, List.setIfInBounds_toArray, List.set_cons_zero, List.set_cons_succ]
                  refine held_skip (i := 20) rfl (by kernel_rfl) (by kernel_rfl) (by kernel_rfl) (by rfl) (by first | assumption | exact True.intro) ?_
                  try simp only [Act.put, List.setIfInBounds_toArray, List.set_cons_zero, List.set_cons_succ]
                  refine held_skip (i := 21) rfl (by kernel_rfl) (by kernel_rfl) (by kernel_rfl) (by rfl) (by first | assumption | exact True.intro) ?_
                  try simp only [Act.put, List.setIfInBounds_toArray, List.set_cons_zero, List.set_cons_succ]
                  refine held_skip (i := 22) rfl (by kernel_rfl) (by kernel_rfl) (by kernel_rfl) (by rfl) (by first | assumption | exact True.intro) ?_
                  try simp only [Act.put, List.setIfInBounds_toArray, List.set_cons_zero, List.set_cons_succ]
                  refine held_skip (i := 23) rfl (by kernel_rfl) (by kernel_rfl) (by kernel_rfl) (by rfl) (by first | assumption | exact True.intro) ?_
                  try simp only [Act.put, List.setIfInBounds_toArray, List.set_cons_zero, List.set_cons_succ]
                  refine held_take (i := 24) (v := ?_) rfl (by kernel_rfl) (by kernel_rfl) (by kernel_rfl) (by rfl) (by first | assumption | exact True.intro) ?_ ?_
                  rotate_left
                  · (intro W hSw; obtain ⟨g0, g1, g2, g3, g4, g5⟩ := Blk.six ((HB2.out.ext HXR.out).ext hSw); obtain ⟨c0, c1, c2, c3, c4⟩ := HAT.out.ext (Ext.trans HXW.out hSw) HLB.out; rw [hco] at c1; have k3 := ((HB1.out.ext HXR.out).ext hSw).cell 3; go_simp; (try with_reducible rfl))
                  try simp only [Act.put, List.setIfInBounds_toArray, List.set_cons_zero, List.set_cons_succ]
                  clear hSx
                  refine wpAnyH_done (by kernel_rfl) ?_ _
                  refine NoPanic.normal ?_
                  have HX9 : Hid (Ext W3 wr.drew) := Lib.hid (Below.drewN' HXR.out 1)
                  repeat (first | go_values | go_skip | go_guarded | go_step | go_upon | (simp only []))
                  go_roundw
                  case rel => exact ⟨q + 1, by first | (rw [wq]; rfl) | rfl, HLT.out, HS, HX9.out⟩
                  case measure => first | (rw [wq]; exact measQ HLT.out) | exact measQ HLT.out
              · have d1 : decide ((q : Int) < (s.nodes.length : Int)) = false := decide_eq_false (by omega)
                have d1' : decide (q < s.nodes.length) = false := decide_eq_false hlt
                have HZ : Hid (R = none) := Lib.hid (by rw [HF3.out, HL.out, fromO_end hlt])
                clear hlt hq HL
                have HI5 : Hid ((Try.prog.info? 39).map (·.size) = some (#[.int .i64 0, .int .i64 0, .int .i64 0, .int .i64 0, .int .i64 0, .int .i64 0, .int .i64 0] : Array Value).size) := Lib.hid infoOp
                have HO5 : Hid ((#[.int .i64 0, .int .i64 0, .int .i64 0, .int .i64 0, .int .i64 0, .int .i64 0, .int .i64 0] : Array Value).all (·.oneCell') = true) := Lib.hid (by simp [Value.oneCell'])
                go_wp2_with (refine wpList_storeB rfl 39 _ _ rfl gr #[.int .i64 0, .int .i64 0, .int .i64 0, .int .i64 0, .int .i64 0, .int .i64 0, .int .i64 0] rfl rfl 39 _ HBR.out HI5.out rfl HO5.out w.heap.size w HXW.out HGR.out ?_; intro w5 hb5 hx5)
                exact bodyPost_ret (run_op rfl rfl rfl hb5 rfl) rfl ⟨by rw [HZ.out]; rfl, hx5⟩

end Go.Proofs.Ytkpcjdhnbjkaaaa

/- Slices of numbers in this translation's numbers. -/
namespace Go.Proofs.Ytkpcjdhnbjkaaaa
open Go.RowKit

theorem Try.infoInt : (Try.prog.info? 3).map (fun i => (i.zero, i.size, i.bytes)) = some (some (.int .i64 0), 1, 8) := by kernel_rfl

/-- 'l = append(l, x)', l a row of numbers of the call's own. -/
theorem push_int {w : World} {ops : Array Oper} {rest : List Oper} {o : Oper} {a : Act} {Q : Exit → Act → World → Prop} {gx : Nat} (hgd : o.guard = none) (s x : Operand)
    (ho : o.op = .call { callee := .builtin .append, args := #[s, x], argTypes := #[30, 30] })
    (base : Nat) (v : Value) (xs : List Value) (hs : a.eval s = v) (hown : w.ownsRow base 3 1 v xs.length xs) (u : Value) (h1 : u.oneCell' = true)
    (hx : a.eval x = .slice (some ⟨gx, 0, none⟩) 1 1) (hlen : xs.length < 17592186044416) (hbase : base ≤ w.heap.size)
    (h : ∀ v' w', Grew base 3 v w (xs ++ [u]) v' w' → wpList Try.prog ops Q rest (a.put o.dst v') w') (hgx : gx = w.heap.size := by simp) : wpList Try.prog ops Q (o :: rest) a (w.alloc (.cells #[u] 3)) := by
  subst hgx
  exact wpList_push hgd s x 30 ho base 3 (.int .i64 0) 8 Try.underlying30 Try.infoInt rfl v xs hs hown u h1 hx (by unfold maxLen; omega) (by omega) hbase h

end Go.Proofs.Ytkpcjdhnbjkaaaa

/- Layer 17: who is behind, as numbers; the statements' example. -/
namespace Go.Proofs.Ytkpcjdhnbjkaaaa
open Go.RowKit

def listI (f : Nat → Bool) (q : Nat) : List Int := (listTo f q).map fun k : Nat => (k : Int)
theorem listI_step (f : Nat → Bool) (q : Nat) : listI f (q + 1) = listI f q ++ (if f q = true then [(q : Int)] else []) := by
  unfold listI
  rw [listTo_step, List.map_append]
  cases f q <;> rfl
theorem listI_len (f : Nat → Bool) (q : Nat) : (listI f q).length ≤ q := by
  unfold listI listTo
  rw [List.length_map]
  exact Nat.le_trans (List.length_filter_le _ _) (by simp)
def behI (s : St) : List Int := listI (nodeIs s.nodes (behindN s)) s.nodes.length
theorem RightP.w17 {c : Cf} {s : St} (h : RightP c s) : s.nodes.length ≤ 6 ∧ s.jobs.length ≤ 24 ∧ OkJ s ∧ 0 ≤ c.deadline ∧ c.deadline ≤ 60 := by
  have h1 := h.may
  unfold mayC inR at h1
  simp only [Bool.and_eq_true, decide_eq_true_eq] at h1
  exact ⟨h.len.2, h.nj, OkJ.of_right h, by omega, by omega⟩

def exWc : Cf := ⟨1, 1, 0, 1, 2, 1, 1, 0, 2000⟩
def exWs : St := ⟨[⟨true, false, false, 1, 0⟩], [], 2, 1, 0, 0⟩
def exWt : St := ⟨[⟨true, true, false, 1, 0⟩], [], 2, 1, 0, 0⟩
theorem rdS_made {K n : Nat} {w' : World} {cs : Array Value} {e : TypeId} {g : Nat} (hb : Blk w' g e cs) (hc : cs.size = n * K) (hn : n ≤ maxLen) : RdS K w' (.slice (some ⟨g, 0, none⟩) n n) n cs.toList :=
  ⟨by rw [Array.length_toList, hc], some ⟨g, 0, none⟩, n, rfl, Nat.le_refl _, hn, fun _ => ⟨g, 0, rfl, hb.lt, fun j u hu => by
    rw [Nat.zero_add, hb.cell]
    simpa using hu⟩⟩
theorem rdS_nil (K : Nat) (w : World) : RdS K w (.slice none 0 0) 0 [] := ⟨(Nat.zero_mul K).symm, none, 0, rfl, Nat.le_refl _, Nat.zero_le _, fun h => absurd h (Nat.lt_irrefl _)⟩
theorem exW_right {b : Bool} : RightP exWc ⟨[⟨true, b, false, 1, 0⟩], [], 2, 1, 0, 0⟩ where
  may := by decide
  nn := by rfl
  nj := Nat.zero_le _
  g1 := by show (1 : Int) ≤ 2; omega
  g9 := by show (2 : Int) ≤ 9; omega
  p1 := by show (1 : Int) ≤ 1; omega
  p9 := by show (1 : Int) ≤ 9; omega
  m0 := by show (0 : Int) ≤ 0; omega
  m2 := by show (0 : Int) ≤ 2; omega
  t0 := by show (0 : Int) ≤ 0; omega
  t9 := by show (0 : Int) ≤ 1000000; omega
  node := by
    intro i n hi
    match i, hi with
    | 0, hi =>
      cases hi
      exact ⟨by show (1 : Int) ≤ 1; omega, by show (1 : Int) ≤ 9; omega, by show (0 : Int) ≤ 0; omega, by show (0 : Int) ≤ _; omega, fun h => by cases h⟩
  job := by
    intro k j hk
    cases hk
  drains := fun q hq => by show ((0 : Nat) : Int) ≤ 0; omega
theorem exWs_right : RightP exWc exWs := exW_right
theorem exWt_right : RightP exWc exWt := exW_right
theorem exWs_next : nextW exWc exWs 0 = some (16, 0, 0, 0, 0, 0, 0) := by kernel_rfl
theorem exWt_next : nextW exWc exWt 0 = some (18, 0, 0, 0, 0, 0, 0) := by kernel_rfl
theorem exWt_wave : waveS exWt = 1 := by decide +kernel
theorem exWt_behind : behI exWt = [0] := by decide +kernel
theorem exWt_done : doneW exWt = false := by decide +kernel
theorem exWt_alone : aloneI exWt 0 = false := by decide +kernel

end Go.Proofs.Ytkpcjdhnbjkaaaa
