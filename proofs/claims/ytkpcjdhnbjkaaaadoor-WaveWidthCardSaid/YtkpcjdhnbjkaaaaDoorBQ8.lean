/- Texts that the proof of B rests on, one behind the other. -/
import Derived.Test.YtkpcjdhnbjkaaaaDoorBQ3
import Derived.Test.YtkpcjdhnbjkaaaaDoorBQ4
import Derived.Test.YtkpcjdhnbjkaaaaDoorBQ5
import Derived.Test.YtkpcjdhnbjkaaaaDoorBQ7
import Derived.Laws.EntriesVeiled
import Derived.Test.YtkpcjdhnbjkaaaaDoorRows

/- Package wave: what is next. -/
namespace Go.Proofs.YtkpcjdhnbjkaaaaDoor
open Go.RowKit

/-- The ways, in their order. -/
def wayA : Array Value := #[.func (.func 31) #[] #[], .func (.func 32) #[] #[], .func (.func 33) #[] #[]]
theorem wayA_one : wayA.all (·.oneCell') = true := by decide +kernel

set_option maxRecDepth 100000 in
theorem ways_any (w : World) :
    Calls Tryd.prog 20 #[] w fun e w' => e = .returned (.agg wayA) ∧ Ext w w' := by
  have hb := Blk.new w 51 #[.nilFunc, .nilFunc, .nilFunc]
  have hx : Ext w (w.alloc (.cells #[.nilFunc, .nilFunc, .nilFunc] 51)) := (Below.refl _ _).alloc (Nat.le_refl _) _
  have hi : (Tryd.prog.info? 51).map (·.size) = some wayA.size := by kernel_rfl
  have HB := Lib.hid hb
  have HX := Lib.hid hx
  have HI := Lib.hid hi
  clear hb hx hi
  go_enter Tryd.func20, Tryd.ntmps20
  go_wp2_with (refine wpList_storeB rfl 51 _ _ rfl w.heap.size wayA rfl rfl 51 _ HB.out HI.out rfl wayA_one w.heap.size w HX.out (Nat.le_refl _) ?_; intro w2 hb2 hx2)
  exact bodyPost_ret (results_cell_row rfl _ _ w.heap.size 51 _ (0, 0) _ rfl hb2 rfl rfl (by kernel_rfl)) rfl ⟨rfl, hx2⟩


set_option maxRecDepth 100000 in
set_option maxHeartbeats 16000000 in
theorem Next17_any (c : Cf) (vn vj : Value) (s : St) (now : Int) (w : World) (hr : RdNd w vn s.nodes) (hrj : RdJb w vj s.jobs) (hN : s.nodes.length ≤ 6) (hM : s.jobs.length ≤ 24) (hJ : OkJ s) (hP : OkB s) (hn0 : 0 ≤ now) (hn1 : now ≤ 1000000) (hd0 : 0 ≤ c.deadline) (hd1 : c.deadline ≤ 60) :
    Calls Tryd.prog 8 #[cfV c, stV vn vj s, .int .i64 now] w fun e w' => e = .returned (optV (nextW c s now)) ∧ Ext w w' := by
  have HW1 : Hid (∀ (i : Nat) n W, s.nodes[i]? = some n → Ext w W → Calls Tryd.prog 31 #[cfV c, stV vn vj s, .int .i64 now, .int .i64 (i : Int)] W fun e w' => e = .returned (optV (way1 s i n)) ∧ Ext W w') := Lib.hid fun i n W hi hW => way1_any c vn vj s now i n W (hr.ext hW) (hrj.ext hW) hi hN hM hJ hP
  have HW2 : Hid (∀ (i : Nat) n W, s.nodes[i]? = some n → Ext w W → Calls Tryd.prog 32 #[cfV c, stV vn vj s, .int .i64 now, .int .i64 (i : Int)] W fun e w' => e = .returned (optV (way2 c s now i n)) ∧ Ext W w') := Lib.hid fun i n W hi hW => way2_any c vn vj s now i n W (hr.ext hW) (hrj.ext hW) hi hN hM hJ hP hn0 hn1 hd0 hd1
  have HW3 : Hid (∀ (i : Nat) n W, s.nodes[i]? = some n → Ext w W → Calls Tryd.prog 33 #[cfV c, stV vn vj s, .int .i64 now, .int .i64 (i : Int)] W fun e w' => e = .returned (optV (way3 c s i n)) ∧ Ext W w') := Lib.hid fun i n W hi hW => way3_any c vn vj s now i n W (hr.ext hW) (hrj.ext hW) hi hN hM hJ hP
  have HWY := Lib.hid fun W => ways_any W
  have HIX : Hid (∀ (z : Nat), z < 3 → ∀ v, wayA[z]? = some v → ∀ W : World, (Instr.index 51 (.agg wayA) (.int .i64 (z : Int))).run Tryd.prog W = .ok v W) := Lib.hid fun z hz v hv W =>
    run_index_arr _ 50 3 _ _ z _ Tryd.underlying51 (Tryd.sizeOf50 W) (Tryd.isAgg50 W) hz hv
  unfold cfV stV at HW1 HW2 HW3
  unfold cfV stV
  obtain ⟨A, ca, rfl, hnc, hcm, -⟩ := has_cells hr
  obtain ⟨R, hR⟩ : ∃ R, R = nextW c s now := ⟨_, rfl⟩
  rw [← hR]
  have HR := Lib.hid hR
  obtain ⟨W1, hW1⟩ : ∃ W, W = w.alloc (.cells #[.int .i64 c.nodes, .int .i64 c.queues, .int .i64 c.quota, .int .i64 c.wave, .int .i64 c.lease, .int .i64 c.retry, .int .i64 c.deadline, .int .i64 c.room, .int .i64 c.disk] 23) := ⟨_, rfl⟩
  obtain ⟨W2, hW2⟩ : ∃ W, W = W1.alloc (.cells #[.slice A s.nodes.length ca, vj, .int .i64 s.goal, .int .i64 s.prior, .int .i64 s.mode, .int .i64 s.term] 27) := ⟨_, rfl⟩
  obtain ⟨W3, hW3⟩ : ∃ W, W = W2.alloc (.cells #[.int .i64 0, .int .i64 0, .int .i64 0, .int .i64 0, .int .i64 0, .int .i64 0, .int .i64 0] 32) := ⟨_, rfl⟩
  have s1 : W1.heap.size = w.heap.size + 1 := by rw [hW1]; simp
  have s2 : W2.heap.size = w.heap.size + 1 + 1 := by rw [hW2]; simp [s1]
  have x1 : Ext w W1 := by rw [hW1]; exact (Below.refl _ _).alloc (Nat.le_refl _) _
  have x2 : Ext W1 W2 := by rw [hW2]; exact (Below.refl _ _).alloc (Nat.le_refl _) _
  have x3 : Ext W2 W3 := by rw [hW3]; exact (Below.refl _ _).alloc (Nat.le_refl _) _
  have b1 : Blk W3 w.heap.size 23 #[.int .i64 c.nodes, .int .i64 c.queues, .int .i64 c.quota, .int .i64 c.wave, .int .i64 c.lease, .int .i64 c.retry, .int .i64 c.deadline, .int .i64 c.room, .int .i64 c.disk] := by
    have h : Blk W1 w.heap.size 23 #[.int .i64 c.nodes, .int .i64 c.queues, .int .i64 c.quota, .int .i64 c.wave, .int .i64 c.lease, .int .i64 c.retry, .int .i64 c.deadline, .int .i64 c.room, .int .i64 c.disk] := by rw [hW1]; exact Blk.new _ _ _
    exact h.ext (Ext.trans x2 x3)
  have b2 : Blk W3 (w.heap.size + 1) 27 #[.slice A s.nodes.length ca, vj, .int .i64 s.goal, .int .i64 s.prior, .int .i64 s.mode, .int .i64 s.term] := by
    have h : Blk W2 W1.heap.size 27 #[.slice A s.nodes.length ca, vj, .int .i64 s.goal, .int .i64 s.prior, .int .i64 s.mode, .int .i64 s.term] := by rw [hW2]; exact Blk.new _ _ _
    rw [s1] at h
    exact h.ext x3
  have b3 : Blk W3 (w.heap.size + 1 + 1) 32 #[.int .i64 0, .int .i64 0, .int .i64 0, .int .i64 0, .int .i64 0, .int .i64 0, .int .i64 0] := by
    have h : Blk W3 W2.heap.size 32 #[.int .i64 0, .int .i64 0, .int .i64 0, .int .i64 0, .int .i64 0, .int .i64 0, .int .i64 0] := by rw [hW3]; exact Blk.new _ _ _
    rw [s2] at h
    exact h
  have HX : Hid (Ext w W3) := Lib.hid (Ext.trans x1 (Ext.trans x2 x3))
  have HB1 := Lib.hid b1
  have HB2 := Lib.hid b2
  have HB3 := Lib.hid b3
  have HW9 : Hid (W3 = ((w.alloc (.cells #[.int .i64 c.nodes, .int .i64 c.queues, .int .i64 c.quota, .int .i64 c.wave, .int .i64 c.lease, .int .i64 c.retry, .int .i64 c.deadline, .int .i64 c.room, .int .i64 c.disk] 23)).alloc (.cells #[.slice A s.nodes.length ca, vj, .int .i64 s.goal, .int .i64 s.prior, .int .i64 s.mode, .int .i64 s.term] 27)).alloc (.cells #[.int .i64 0, .int .i64 0, .int .i64 0, .int .i64 0, .int .i64 0, .int .i64 0, .int .i64 0] 32)) := Lib.hid (by rw [hW3, hW2, hW1])
  clear hW3 hW2 hW1 s1 s2 x1 x2 x3 b1 b2 b3 hR hr hrj hP hJ
  go_enter Tryd.func8, Tryd.ntmps8
  go_wp2_with fail
  go_step3
  go_upto_region 1 with (fail)
  rw [← HW9.out]
  obtain ⟨gc, hgc⟩ : ∃ g, g = w.heap.size := ⟨_, rfl⟩
  obtain ⟨gs, hgs⟩ : ∃ g, g = w.heap.size + 1 := ⟨_, rfl⟩
  obtain ⟨gr, hgr⟩ : ∃ g, g = w.heap.size + 1 + 1 := ⟨_, rfl⟩
  rw [← hgr, ← hgs, ← hgc]
  rw [← hgr] at HB3
  rw [← hgs] at HB2
  rw [← hgc] at HB1
  have HGR : Hid (w.heap.size ≤ gr) := Lib.hid (by omega)
  clear HW9 hgc hgs hgr
  have g4 := HB2.out.cell 4
  by_cases hm : s.mode = 1
  · have m1 : (s.mode == 1) = true := by rw [hm]; rfl
    have HZ : Hid (R = none) := Lib.hid (by rw [HR.out]; unfold nextW; rw [if_pos hm])
    clear hm
    have HI5 : Hid ((Tryd.prog.info? 32).map (·.size) = some (#[.int .i64 0, .int .i64 0, .int .i64 0, .int .i64 0, .int .i64 0, .int .i64 0, .int .i64 0] : Array Value).size) := Lib.hid infoOp
    have HO5 : Hid ((#[.int .i64 0, .int .i64 0, .int .i64 0, .int .i64 0, .int .i64 0, .int .i64 0, .int .i64 0] : Array Value).all (·.oneCell') = true) := Lib.hid (by simp [Value.oneCell'])
    go_wp2_with (refine wpList_storeB rfl 32 _ _ rfl gr #[.int .i64 0, .int .i64 0, .int .i64 0, .int .i64 0, .int .i64 0, .int .i64 0, .int .i64 0] rfl rfl 32 _ HB3.out HI5.out rfl HO5.out w.heap.size w HX.out HGR.out ?_; intro w5 hb5 hx5)
    rw [Exit.noGoto_ret]
    exact bodyPost_ret (run_op rfl rfl rfl hb5 rfl) rfl ⟨by rw [HZ.out]; rfl, hx5⟩
  · have m1 : (s.mode == 1) = false := by simpa using hm
    obtain ⟨L1, hL1⟩ : ∃ L, L = firstO s.nodes (way1 s) := ⟨_, rfl⟩
    obtain ⟨L2, hL2⟩ : ∃ L, L = firstO s.nodes (way2 c s now) := ⟨_, rfl⟩
    obtain ⟨L3, hL3⟩ : ∃ L, L = firstO s.nodes (way3 c s) := ⟨_, rfl⟩
    obtain ⟨r1, r2, r3⟩ := nextW_at (c := c) (now := now) hm hL1 hL2 hL3
    rw [← HR.out] at r1 r2 r3
    have HF1 : Hid (∀ o, L1 = some o → R = some o) := Lib.hid r1
    have HF2 : Hid (L1 = none → ∀ o, L2 = some o → R = some o) := Lib.hid r2
    have HF3 : Hid (L1 = none → L2 = none → R = L3) := Lib.hid r3
    have HL10 : Hid (L1 = fromO s.nodes (way1 s) (s.nodes.length - 0) 0) := Lib.hid (by rw [hL1]; rfl)
    have HL20 : Hid (L2 = fromO s.nodes (way2 c s now) (s.nodes.length - 0) 0) := Lib.hid (by rw [hL2]; rfl)
    have HL30 : Hid (L3 = fromO s.nodes (way3 c s) (s.nodes.length - 0) 0) := Lib.hid (by rw [hL3]; rfl)
    clear hL1 hL2 hL3 r1 r2 r3 hm HR
    go_upto_region 4 with (fail)
    obtain ⟨W4, hW4⟩ : ∃ W, W = W3.alloc (.cells #[.int .i64 0, .int .i64 0, .int .i64 0, .int .i64 0, .int .i64 0, .int .i64 0, .int .i64 0] 32) := ⟨_, rfl⟩
    have HX4 : Hid (Ext W3 W4) := Lib.hid (by rw [hW4]; exact (Below.refl _ _).alloc (Nat.le_refl _) _)
    have HBO : Hid (Blk W4 W3.heap.size 32 #[.int .i64 0, .int .i64 0, .int .i64 0, .int .i64 0, .int .i64 0, .int .i64 0, .int .i64 0]) := Lib.hid (by rw [hW4]; exact Blk.new _ _ _)
    rw [← hW4]
    obtain ⟨go, hgo⟩ : ∃ g, g = W3.heap.size := ⟨_, rfl⟩
    rw [← hgo] at HBO ⊢
    have HGO : Hid (W3.heap.size ≤ go) := Lib.hid (by omega)
    clear hW4 hgo g4 m1
    go_wp2_with fail
    go_step3
    have HCC := Lib.hid (HWY.out W4)
    go_wp2_with fail
    refine HCC.out.mono ?_
    rintro e5 w5 ⟨rfl, hx5⟩
    have HX5 : Hid (Ext W3 w5) := Lib.hid (Ext.trans HX4.out hx5)
    have HBO5 := Lib.hid (HBO.out.ext hx5)
    clear hx5 HCC HWY HX4 HBO
    simp only []
    go_wp2_with fail
    go_loopw [9, 18] (fun k i wr => ∃ z : Int, i = .int .i64 z ∧ k = .bool false ∧ (z = 0 ∨ z = 1 ∨ z = 2 ∨ z = 3) ∧ Hid ((1 ≤ z → L1 = none) ∧ (2 ≤ z → L2 = none) ∧ (3 ≤ z → L3 = none)) ∧ Hid (Ext W3 wr) ∧ Hid (Blk wr go 32 #[.int .i64 0, .int .i64 0, .int .i64 0, .int .i64 0, .int .i64 0, .int .i64 0, .int .i64 0])) (fun _ i _ => 3 - (intOf i).toNat)
    case atStart => exact ⟨0, rfl, rfl, .inl rfl, Lib.hid ⟨fun h => by omega, fun h => by omega, fun h => by omega⟩, HX5, HBO5⟩
    case round =>
      obtain ⟨z, rfl, rfl, hz, HLL, HXR, HBR⟩ := hrel
      clear HX5 HBO5
      rcases hz with rfl | rfl | rfl | rfl
      · have hix : ∀ W : World, (Instr.index 51 (.agg wayA) (.int .i64 0)).run Tryd.prog W = .ok (.func (.func 31) #[] #[]) W := HIX.out 0 (by omega) _ rfl
        have g0 := HB2.out.ext HXR.out |>.cell 0
        go_wp2_with fail
        go_loopw [9, 24] (fun k i wr => ∃ q : Nat, i = .int .i64 q ∧ k = .bool false ∧ q ≤ s.nodes.length ∧ Hid (L1 = fromO s.nodes (way1 s) (s.nodes.length - q) q) ∧ Hid (Ext W3 wr) ∧ Hid (Blk wr go 32 #[.int .i64 0, .int .i64 0, .int .i64 0, .int .i64 0, .int .i64 0, .int .i64 0, .int .i64 0])) (fun _ i _ => s.nodes.length - (intOf i).toNat)
        case atStart => exact ⟨0, rfl, rfl, Nat.zero_le _, HL10, HXR, HBR⟩
        case round =>
          obtain ⟨q, rfl, rfl, hq, HL, HXQ, HBQ⟩ := hrel
          by_cases hlt : q < s.nodes.length
          · have d1 : decide ((q : Int) < (s.nodes.length : Int)) = true := decide_eq_true (by omega)
            have d1' : decide (q < s.nodes.length) = true := decide_eq_true hlt
            obtain ⟨n, hn⟩ : ∃ n, s.nodes[q]? = some n := ⟨_, List.getElem?_eq_getElem hlt⟩
            have HLT := Lib.hid hlt
            have wq9 : wrap64 ((q : Int) + 1) = (q : Int) + 1 := IntWalk.wrap64_in _ (by omega)
            have HHIT : Hid (∀ o, way1 s q n = some o → L1 = some o) := Lib.hid fun o h => by rw [HL.out]; exact fromO_hit2 hlt hn h
            have HMIS : Hid (way1 s q n = none → L1 = fromO s.nodes (way1 s) (s.nodes.length - (q + 1)) (q + 1)) := Lib.hid fun h => by rw [HL.out]; exact fromO_miss2 hlt hn h
            have HBC := Lib.hid (HW1.out q n wr hn (Ext.trans HX.out HXQ.out))
            obtain ⟨g0, g1, g2, g3, g4, g5⟩ := Blk.six (HB2.out.ext HXQ.out)
            obtain ⟨k0, k1, k2, k3, k4, k5, k6, k7, k8⟩ := Blk.nine (HB1.out.ext HXQ.out)
            clear hn hlt hq HL
            go_wp2_with fail
            refine HBC.out.mono ?_
            rintro e6 w6 ⟨rfl, hx6⟩
            replace HXQ := Lib.hid (Ext.trans HXQ.out hx6)
            replace HBQ := Lib.hid (HBQ.out.ext hx6)
            clear hx6 HBC g0 g1 g2 g3 g4 g5 k0 k1 k2 k3 k4 k5 k6 k7 k8
            simp only []
            obtain ⟨x, hx⟩ : ∃ x, x = way1 s q n := ⟨_, rfl⟩
            rw [← hx]
            rw [← hx] at HHIT HMIS
            clear hx
            cases x with
            | none =>
              have HS := Lib.hid (HMIS.out rfl)
              unfold optV opA zeroO
              have HI5 : Hid ((Tryd.prog.info? 32).map (·.size) = some (#[.int .i64 0, .int .i64 0, .int .i64 0, .int .i64 0, .int .i64 0, .int .i64 0, .int .i64 0] : Array Value).size) := Lib.hid infoOp
              have HO5 : Hid ((#[.int .i64 0, .int .i64 0, .int .i64 0, .int .i64 0, .int .i64 0, .int .i64 0, .int .i64 0] : Array Value).all (·.oneCell') = true) := Lib.hid (by simp [Value.oneCell'])
              go_wp2_with (refine wpList_storeB rfl 32 _ _ rfl go #[.int .i64 0, .int .i64 0, .int .i64 0, .int .i64 0, .int .i64 0, .int .i64 0, .int .i64 0] rfl rfl 32 _ HBQ.out HI5.out rfl HO5.out W3.heap.size W3 HXQ.out HGO.out ?_; intro w7 hb7 hx7)
              go_roundw
              case rel => exact ⟨q + 1, by first | (rw [wq9]; rfl) | rfl, rfl, HLT.out, HS, Lib.hid hx7, Lib.hid hb7⟩
              case measure => first | (rw [wq9]; exact measQ HLT.out) | exact measQ HLT.out
            | some o1 =>
              have HZ : Hid (R = some o1) := Lib.hid (HF1.out _ (HHIT.out _ rfl))
              unfold optV opA
              have HI5 : Hid ((Tryd.prog.info? 32).map (·.size) = some (#[.int .i64 o1.1, .int .i64 o1.2.1, .int .i64 o1.2.2.1, .int .i64 o1.2.2.2.1, .int .i64 o1.2.2.2.2.1, .int .i64 o1.2.2.2.2.2.1, .int .i64 o1.2.2.2.2.2.2] : Array Value).size) := Lib.hid infoOp
              have HO5 : Hid ((#[.int .i64 o1.1, .int .i64 o1.2.1, .int .i64 o1.2.2.1, .int .i64 o1.2.2.2.1, .int .i64 o1.2.2.2.2.1, .int .i64 o1.2.2.2.2.2.1, .int .i64 o1.2.2.2.2.2.2] : Array Value).all (·.oneCell') = true) := Lib.hid (by simp [Value.oneCell'])
              go_wp2_with (first | (refine wpList_storeB rfl 32 _ _ rfl go #[.int .i64 o1.1, .int .i64 o1.2.1, .int .i64 o1.2.2.1, .int .i64 o1.2.2.2.1, .int .i64 o1.2.2.2.2.1, .int .i64 o1.2.2.2.2.2.1, .int .i64 o1.2.2.2.2.2.2] rfl rfl 32 _ HBQ.out HI5.out rfl HO5.out W3.heap.size W3 HXQ.out HGO.out ?_; intro w8 hb8 hx8; obtain ⟨p0, p1, p2, p3, p4, p5, p6⟩ := Blk.seven hb8; have hbr := HB3.out.ext hx8; have hxr := Ext.trans HX.out hx8) | (refine wpList_storeB rfl 32 _ _ rfl gr #[.int .i64 o1.1, .int .i64 o1.2.1, .int .i64 o1.2.2.1, .int .i64 o1.2.2.2.1, .int .i64 o1.2.2.2.2.1, .int .i64 o1.2.2.2.2.2.1, .int .i64 o1.2.2.2.2.2.2] rfl rfl 32 _ hbr HI5.out rfl HO5.out w.heap.size w hxr HGR.out ?_; intro w9 hb9 hx9))
              rw [Exit.noGoto_ret]
              exact bodyPost_ret (run_op rfl rfl rfl hb9 rfl) rfl ⟨by rw [HZ.out]; rfl, hx9⟩
          · have d1 : decide ((q : Int) < (s.nodes.length : Int)) = false := decide_eq_false (by omega)
            have d1' : decide (q < s.nodes.length) = false := decide_eq_false hlt
            have HN : Hid (L1 = none) := Lib.hid (by rw [HL.out, fromO_end hlt])
            clear hlt hq HL
            go_wp2
            go_roundw
            case rel => exact ⟨1, rfl, rfl, .inr (.inl rfl), Lib.hid ⟨fun _ => HN.out, fun h => by omega, fun h => by omega⟩, HXQ, HBQ⟩
            case measure => simp [intOf]
      · have hix : ∀ W : World, (Instr.index 51 (.agg wayA) (.int .i64 1)).run Tryd.prog W = .ok (.func (.func 32) #[] #[]) W := HIX.out 1 (by omega) _ rfl
        have g0 := HB2.out.ext HXR.out |>.cell 0
        go_wp2_with fail
        go_loopw [9, 24] (fun k i wr => ∃ q : Nat, i = .int .i64 q ∧ k = .bool false ∧ q ≤ s.nodes.length ∧ Hid (L2 = fromO s.nodes (way2 c s now) (s.nodes.length - q) q) ∧ Hid (Ext W3 wr) ∧ Hid (Blk wr go 32 #[.int .i64 0, .int .i64 0, .int .i64 0, .int .i64 0, .int .i64 0, .int .i64 0, .int .i64 0])) (fun _ i _ => s.nodes.length - (intOf i).toNat)
        case atStart => exact ⟨0, rfl, rfl, Nat.zero_le _, HL20, HXR, HBR⟩
        case round =>
          obtain ⟨q, rfl, rfl, hq, HL, HXQ, HBQ⟩ := hrel
          by_cases hlt : q < s.nodes.length
          · have d1 : decide ((q : Int) < (s.nodes.length : Int)) = true := decide_eq_true (by omega)
            have d1' : decide (q < s.nodes.length) = true := decide_eq_true hlt
            obtain ⟨n, hn⟩ : ∃ n, s.nodes[q]? = some n := ⟨_, List.getElem?_eq_getElem hlt⟩
            have HLT := Lib.hid hlt
            have wq9 : wrap64 ((q : Int) + 1) = (q : Int) + 1 := IntWalk.wrap64_in _ (by omega)
            have HHIT : Hid (∀ o, way2 c s now q n = some o → L2 = some o) := Lib.hid fun o h => by rw [HL.out]; exact fromO_hit2 hlt hn h
            have HMIS : Hid (way2 c s now q n = none → L2 = fromO s.nodes (way2 c s now) (s.nodes.length - (q + 1)) (q + 1)) := Lib.hid fun h => by rw [HL.out]; exact fromO_miss2 hlt hn h
            have HBC := Lib.hid (HW2.out q n wr hn (Ext.trans HX.out HXQ.out))
            obtain ⟨g0, g1, g2, g3, g4, g5⟩ := Blk.six (HB2.out.ext HXQ.out)
            obtain ⟨k0, k1, k2, k3, k4, k5, k6, k7, k8⟩ := Blk.nine (HB1.out.ext HXQ.out)
            clear hn hlt hq HL
            go_wp2_with fail
            refine HBC.out.mono ?_
            rintro e6 w6 ⟨rfl, hx6⟩
            replace HXQ := Lib.hid (Ext.trans HXQ.out hx6)
            replace HBQ := Lib.hid (HBQ.out.ext hx6)
            clear hx6 HBC g0 g1 g2 g3 g4 g5 k0 k1 k2 k3 k4 k5 k6 k7 k8
            simp only []
            obtain ⟨x, hx⟩ : ∃ x, x = way2 c s now q n := ⟨_, rfl⟩
            rw [← hx]
            rw [← hx] at HHIT HMIS
            clear hx
            cases x with
            | none =>
              have HS := Lib.hid (HMIS.out rfl)
              unfold optV opA zeroO
              have HI5 : Hid ((Tryd.prog.info? 32).map (·.size) = some (#[.int .i64 0, .int .i64 0, .int .i64 0, .int .i64 0, .int .i64 0, .int .i64 0, .int .i64 0] : Array Value).size) := Lib.hid infoOp
              have HO5 : Hid ((#[.int .i64 0, .int .i64 0, .int .i64 0, .int .i64 0, .int .i64 0, .int .i64 0, .int .i64 0] : Array Value).all (·.oneCell') = true) := Lib.hid (by simp [Value.oneCell'])
              go_wp2_with (refine wpList_storeB rfl 32 _ _ rfl go #[.int .i64 0, .int .i64 0, .int .i64 0, .int .i64 0, .int .i64 0, .int .i64 0, .int .i64 0] rfl rfl 32 _ HBQ.out HI5.out rfl HO5.out W3.heap.size W3 HXQ.out HGO.out ?_; intro w7 hb7 hx7)
              go_roundw
              case rel => exact ⟨q + 1, by first | (rw [wq9]; rfl) | rfl, rfl, HLT.out, HS, Lib.hid hx7, Lib.hid hb7⟩
              case measure => first | (rw [wq9]; exact measQ HLT.out) | exact measQ HLT.out
            | some o1 =>
              have HZ : Hid (R = some o1) := Lib.hid (HF2.out (HLL.out.1 (by omega)) _ (HHIT.out _ rfl))
              unfold optV opA
              have HI5 : Hid ((Tryd.prog.info? 32).map (·.size) = some (#[.int .i64 o1.1, .int .i64 o1.2.1, .int .i64 o1.2.2.1, .int .i64 o1.2.2.2.1, .int .i64 o1.2.2.2.2.1, .int .i64 o1.2.2.2.2.2.1, .int .i64 o1.2.2.2.2.2.2] : Array Value).size) := Lib.hid infoOp
              have HO5 : Hid ((#[.int .i64 o1.1, .int .i64 o1.2.1, .int .i64 o1.2.2.1, .int .i64 o1.2.2.2.1, .int .i64 o1.2.2.2.2.1, .int .i64 o1.2.2.2.2.2.1, .int .i64 o1.2.2.2.2.2.2] : Array Value).all (·.oneCell') = true) := Lib.hid (by simp [Value.oneCell'])
              go_wp2_with (first | (refine wpList_storeB rfl 32 _ _ rfl go #[.int .i64 o1.1, .int .i64 o1.2.1, .int .i64 o1.2.2.1, .int .i64 o1.2.2.2.1, .int .i64 o1.2.2.2.2.1, .int .i64 o1.2.2.2.2.2.1, .int .i64 o1.2.2.2.2.2.2] rfl rfl 32 _ HBQ.out HI5.out rfl HO5.out W3.heap.size W3 HXQ.out HGO.out ?_; intro w8 hb8 hx8; obtain ⟨p0, p1, p2, p3, p4, p5, p6⟩ := Blk.seven hb8; have hbr := HB3.out.ext hx8; have hxr := Ext.trans HX.out hx8) | (refine wpList_storeB rfl 32 _ _ rfl gr #[.int .i64 o1.1, .int .i64 o1.2.1, .int .i64 o1.2.2.1, .int .i64 o1.2.2.2.1, .int .i64 o1.2.2.2.2.1, .int .i64 o1.2.2.2.2.2.1, .int .i64 o1.2.2.2.2.2.2] rfl rfl 32 _ hbr HI5.out rfl HO5.out w.heap.size w hxr HGR.out ?_; intro w9 hb9 hx9))
              rw [Exit.noGoto_ret]
              exact bodyPost_ret (run_op rfl rfl rfl hb9 rfl) rfl ⟨by rw [HZ.out]; rfl, hx9⟩
          · have d1 : decide ((q : Int) < (s.nodes.length : Int)) = false := decide_eq_false (by omega)
            have d1' : decide (q < s.nodes.length) = false := decide_eq_false hlt
            have HN : Hid (L2 = none) := Lib.hid (by rw [HL.out, fromO_end hlt])
            clear hlt hq HL
            go_wp2
            go_roundw
            case rel => exact ⟨2, rfl, rfl, .inr (.inr (.inl rfl)), Lib.hid ⟨fun _ => (HLL.out.1) (by omega), fun _ => HN.out, fun h => by omega⟩, HXQ, HBQ⟩
            case measure => simp [intOf]
      · have hix : ∀ W : World, (Instr.index 51 (.agg wayA) (.int .i64 2)).run Tryd.prog W = .ok (.func (.func 33) #[] #[]) W := HIX.out 2 (by omega) _ rfl
        have g0 := HB2.out.ext HXR.out |>.cell 0
        go_wp2_with fail
        go_loopw [9, 24] (fun k i wr => ∃ q : Nat, i = .int .i64 q ∧ k = .bool false ∧ q ≤ s.nodes.length ∧ Hid (L3 = fromO s.nodes (way3 c s) (s.nodes.length - q) q) ∧ Hid (Ext W3 wr) ∧ Hid (Blk wr go 32 #[.int .i64 0, .int .i64 0, .int .i64 0, .int .i64 0, .int .i64 0, .int .i64 0, .int .i64 0])) (fun _ i _ => s.nodes.length - (intOf i).toNat)
        case atStart => exact ⟨0, rfl, rfl, Nat.zero_le _, HL30, HXR, HBR⟩
        case round =>
          obtain ⟨q, rfl, rfl, hq, HL, HXQ, HBQ⟩ := hrel
          by_cases hlt : q < s.nodes.length
          · have d1 : decide ((q : Int) < (s.nodes.length : Int)) = true := decide_eq_true (by omega)
            have d1' : decide (q < s.nodes.length) = true := decide_eq_true hlt
            obtain ⟨n, hn⟩ : ∃ n, s.nodes[q]? = some n := ⟨_, List.getElem?_eq_getElem hlt⟩
            have HLT := Lib.hid hlt
            have wq9 : wrap64 ((q : Int) + 1) = (q : Int) + 1 := IntWalk.wrap64_in _ (by omega)
            have HHIT : Hid (∀ o, way3 c s q n = some o → L3 = some o) := Lib.hid fun o h => by rw [HL.out]; exact fromO_hit2 hlt hn h
            have HMIS : Hid (way3 c s q n = none → L3 = fromO s.nodes (way3 c s) (s.nodes.length - (q + 1)) (q + 1)) := Lib.hid fun h => by rw [HL.out]; exact fromO_miss2 hlt hn h
            have HBC := Lib.hid (HW3.out q n wr hn (Ext.trans HX.out HXQ.out))
            obtain ⟨g0, g1, g2, g3, g4, g5⟩ := Blk.six (HB2.out.ext HXQ.out)
            obtain ⟨k0, k1, k2, k3, k4, k5, k6, k7, k8⟩ := Blk.nine (HB1.out.ext HXQ.out)
            clear hn hlt hq HL
            go_wp2_with fail
            refine HBC.out.mono ?_
            rintro e6 w6 ⟨rfl, hx6⟩
            replace HXQ := Lib.hid (Ext.trans HXQ.out hx6)
            replace HBQ := Lib.hid (HBQ.out.ext hx6)
            clear hx6 HBC g0 g1 g2 g3 g4 g5 k0 k1 k2 k3 k4 k5 k6 k7 k8
            simp only []
            obtain ⟨x, hx⟩ : ∃ x, x = way3 c s q n := ⟨_, rfl⟩
            rw [← hx]
            rw [← hx] at HHIT HMIS
            clear hx
            cases x with
            | none =>
              have HS := Lib.hid (HMIS.out rfl)
              unfold optV opA zeroO
              have HI5 : Hid ((Tryd.prog.info? 32).map (·.size) = some (#[.int .i64 0, .int .i64 0, .int .i64 0, .int .i64 0, .int .i64 0, .int .i64 0, .int .i64 0] : Array Value).size) := Lib.hid infoOp
              have HO5 : Hid ((#[.int .i64 0, .int .i64 0, .int .i64 0, .int .i64 0, .int .i64 0, .int .i64 0, .int .i64 0] : Array Value).all (·.oneCell') = true) := Lib.hid (by simp [Value.oneCell'])
              go_wp2_with (refine wpList_storeB rfl 32 _ _ rfl go #[.int .i64 0, .int .i64 0, .int .i64 0, .int .i64 0, .int .i64 0, .int .i64 0, .int .i64 0] rfl rfl 32 _ HBQ.out HI5.out rfl HO5.out W3.heap.size W3 HXQ.out HGO.out ?_; intro w7 hb7 hx7)
              go_roundw
              case rel => exact ⟨q + 1, by first | (rw [wq9]; rfl) | rfl, rfl, HLT.out, HS, Lib.hid hx7, Lib.hid hb7⟩
              case measure => first | (rw [wq9]; exact measQ HLT.out) | exact measQ HLT.out
            | some o1 =>
              have HZ : Hid (R = some o1) := Lib.hid (by rw [HF3.out (HLL.out.1 (by omega)) (HLL.out.2.1 (by omega))]; exact HHIT.out _ rfl)
              unfold optV opA
              have HI5 : Hid ((Tryd.prog.info? 32).map (·.size) = some (#[.int .i64 o1.1, .int .i64 o1.2.1, .int .i64 o1.2.2.1, .int .i64 o1.2.2.2.1, .int .i64 o1.2.2.2.2.1, .int .i64 o1.2.2.2.2.2.1, .int .i64 o1.2.2.2.2.2.2] : Array Value).size) := Lib.hid infoOp
              have HO5 : Hid ((#[.int .i64 o1.1, .int .i64 o1.2.1, .int .i64 o1.2.2.1, .int .i64 o1.2.2.2.1, .int .i64 o1.2.2.2.2.1, .int .i64 o1.2.2.2.2.2.1, .int .i64 o1.2.2.2.2.2.2] : Array Value).all (·.oneCell') = true) := Lib.hid (by simp [Value.oneCell'])
              go_wp2_with (first | (refine wpList_storeB rfl 32 _ _ rfl go #[.int .i64 o1.1, .int .i64 o1.2.1, .int .i64 o1.2.2.1, .int .i64 o1.2.2.2.1, .int .i64 o1.2.2.2.2.1, .int .i64 o1.2.2.2.2.2.1, .int .i64 o1.2.2.2.2.2.2] rfl rfl 32 _ HBQ.out HI5.out rfl HO5.out W3.heap.size W3 HXQ.out HGO.out ?_; intro w8 hb8 hx8; obtain ⟨p0, p1, p2, p3, p4, p5, p6⟩ := Blk.seven hb8; have hbr := HB3.out.ext hx8; have hxr := Ext.trans HX.out hx8) | (refine wpList_storeB rfl 32 _ _ rfl gr #[.int .i64 o1.1, .int .i64 o1.2.1, .int .i64 o1.2.2.1, .int .i64 o1.2.2.2.1, .int .i64 o1.2.2.2.2.1, .int .i64 o1.2.2.2.2.2.1, .int .i64 o1.2.2.2.2.2.2] rfl rfl 32 _ hbr HI5.out rfl HO5.out w.heap.size w hxr HGR.out ?_; intro w9 hb9 hx9))
              rw [Exit.noGoto_ret]
              exact bodyPost_ret (run_op rfl rfl rfl hb9 rfl) rfl ⟨by rw [HZ.out]; rfl, hx9⟩
          · have d1 : decide ((q : Int) < (s.nodes.length : Int)) = false := decide_eq_false (by omega)
            have d1' : decide (q < s.nodes.length) = false := decide_eq_false hlt
            have HN : Hid (L3 = none) := Lib.hid (by rw [HL.out, fromO_end hlt])
            clear hlt hq HL
            go_wp2
            go_roundw
            case rel => exact ⟨3, rfl, rfl, .inr (.inr (.inr rfl)), Lib.hid ⟨fun _ => (HLL.out.1) (by omega), fun _ => (HLL.out.2.1) (by omega), fun _ => HN.out⟩, HXQ, HBQ⟩
            case measure => simp [intOf]
      · have HZ : Hid (R = none) := Lib.hid (by rw [HF3.out (HLL.out.1 (by omega)) (HLL.out.2.1 (by omega))]; exact HLL.out.2.2 (by omega))
        obtain ⟨p0, p1, p2, p3, p4, p5, p6⟩ := Blk.seven HBR.out
        have hbr := HB3.out.ext HXR.out
        have hxr := Ext.trans HX.out HXR.out
        have HI5 : Hid ((Tryd.prog.info? 32).map (·.size) = some (#[.int .i64 0, .int .i64 0, .int .i64 0, .int .i64 0, .int .i64 0, .int .i64 0, .int .i64 0] : Array Value).size) := Lib.hid infoOp
        have HO5 : Hid ((#[.int .i64 0, .int .i64 0, .int .i64 0, .int .i64 0, .int .i64 0, .int .i64 0, .int .i64 0] : Array Value).all (·.oneCell') = true) := Lib.hid (by simp [Value.oneCell'])
        go_wp2_with (refine wpList_storeB rfl 32 _ _ rfl gr #[.int .i64 0, .int .i64 0, .int .i64 0, .int .i64 0, .int .i64 0, .int .i64 0, .int .i64 0] rfl rfl 32 _ hbr HI5.out rfl HO5.out w.heap.size w hxr HGR.out ?_; intro w9 hb9 hx9)
        rw [Exit.noGoto_ret]
        exact bodyPost_ret (run_op rfl rfl rfl hb9 rfl) rfl ⟨by rw [HZ.out]; rfl, hx9⟩

end Go.Proofs.YtkpcjdhnbjkaaaaDoor

/- Package wave: what each function answers, of a state that may be. -/
namespace Go.Proofs.YtkpcjdhnbjkaaaaDoor
open Go.RowKit

theorem WAlone_any (c : Cf) (vn vj : Value) (s : St) (i : Int) (w : World) (hr : RdSt w vn vj s) (hR : RightP c s) :
    Calls Tryd.prog 13 #[stV vn vj s, .int .i64 i] w fun e w' => e = .returned (.bool (aloneI s i)) ∧ Ext w w' := by
  obtain ⟨z1, z2, z3, -, -⟩ := hR.w17
  exact WAlone_of vn vj s i w hr.nodes hr.jobs z1 z2 z3 fun k x h => (OkB.of_right hR k x h).1
theorem WWave_any (c : Cf) (vn vj : Value) (s : St) (w : World) (hr : RdSt w vn vj s) (hR : RightP c s) :
    Calls Tryd.prog 10 #[stV vn vj s] w fun e w' => e = .returned (.int .i64 (waveS s : Int)) ∧ Ext w w' :=
  Wave_any vn vj s w hr.nodes hR.w17.1
theorem WDone_any (c : Cf) (vn vj : Value) (s : St) (w : World) (hr : RdSt w vn vj s) (hR : RightP c s) :
    Calls Tryd.prog 12 #[stV vn vj s] w fun e w' => e = .returned (.bool (doneW s)) ∧ Ext w w' := by
  obtain ⟨z1, z2, z3, -, -⟩ := hR.w17
  exact Done_any vn vj s w hr.nodes hr.jobs z1 z2 z3 fun k x h => (OkB.of_right hR k x h).1
theorem WNext_any (c : Cf) (vn vj : Value) (s : St) (now : Int) (w : World) (hr : RdSt w vn vj s) (hR : RightP c s) (hn0 : 0 ≤ now) (hn1 : now ≤ 1000000) :
    Calls Tryd.prog 8 #[cfV c, stV vn vj s, .int .i64 now] w fun e w' => e = .returned (optV (nextW c s now)) ∧ Ext w w' := by
  obtain ⟨z1, z2, z3, z4, z5⟩ := hR.w17
  exact Next17_any c vn vj s now w hr.nodes hr.jobs z1 z2 z3 (OkB.of_right hR) hn0 hn1 z4 z5

end Go.Proofs.YtkpcjdhnbjkaaaaDoor

/- Layer 17, the statements: what all of them ask first. -/
namespace Go.Proofs.YtkpcjdhnbjkaaaaDoor
open Go.RowKit

set_option maxRecDepth 100000 in
set_option maxHeartbeats 8000000 in
theorem alive17_any (w : World) : Calls Tryd.prog 5 #[] w fun e w' => e = .returned (.bool true) ∧ Ext w w' := by
  obtain ⟨W1, hW1⟩ : ∃ W, W = w.alloc (.cells #[.int .i64 1, .int .i64 1, .int .i64 0, .int .i64 1, .int .i64 2, .int .i64 1, .int .i64 1, .int .i64 0, .int .i64 2000] 23) := ⟨_, rfl⟩
  obtain ⟨W2, hW2⟩ : ∃ W, W = W1.alloc (.cells #[.bool true, .bool false, .bool false, .int .i64 1, .int .i64 0] 41) := ⟨_, rfl⟩
  obtain ⟨W3, hW3⟩ : ∃ W, W = W2.alloc (.cells #[.slice (some ⟨w.heap.size + 1, 0, none⟩) 1 1, .slice none 0 0, .int .i64 2, .int .i64 1, .int .i64 0, .int .i64 0] 27) := ⟨_, rfl⟩
  have s1 : W1.heap.size = w.heap.size + 1 := by rw [hW1]; simp
  have s2 : W2.heap.size = w.heap.size + 1 + 1 := by rw [hW2]; simp [s1]
  have x1 : Ext w W1 := by rw [hW1]; exact (Below.refl _ _).alloc (Nat.le_refl _) _
  have x2 : Ext W1 W2 := by rw [hW2]; exact (Below.refl _ _).alloc (Nat.le_refl _) _
  have x3 : Ext W2 W3 := by rw [hW3]; exact (Below.refl _ _).alloc (Nat.le_refl _) _
  have b1 : Blk W3 w.heap.size 23 #[.int .i64 1, .int .i64 1, .int .i64 0, .int .i64 1, .int .i64 2, .int .i64 1, .int .i64 1, .int .i64 0, .int .i64 2000] := by
    have h : Blk W1 w.heap.size 23 #[.int .i64 1, .int .i64 1, .int .i64 0, .int .i64 1, .int .i64 2, .int .i64 1, .int .i64 1, .int .i64 0, .int .i64 2000] := by rw [hW1]; exact Blk.new _ _ _
    exact h.ext (Ext.trans x2 x3)
  have b2 : Blk W3 (w.heap.size + 1) 41 #[.bool true, .bool false, .bool false, .int .i64 1, .int .i64 0] := by
    have h : Blk W2 W1.heap.size 41 #[.bool true, .bool false, .bool false, .int .i64 1, .int .i64 0] := by rw [hW2]; exact Blk.new _ _ _
    rw [s1] at h
    exact h.ext x3
  have b3 : Blk W3 (w.heap.size + 1 + 1) 27 #[.slice (some ⟨w.heap.size + 1, 0, none⟩) 1 1, .slice none 0 0, .int .i64 2, .int .i64 1, .int .i64 0, .int .i64 0] := by
    have h : Blk W3 W2.heap.size 27 #[.slice (some ⟨w.heap.size + 1, 0, none⟩) 1 1, .slice none 0 0, .int .i64 2, .int .i64 1, .int .i64 0, .int .i64 0] := by rw [hW3]; exact Blk.new _ _ _
    rw [s2] at h
    exact h
  have HX3 : Hid (Ext w W3) := Lib.hid (Ext.trans x1 (Ext.trans x2 x3))
  have HW3 : Hid (W3 = ((w.alloc (.cells #[.int .i64 1, .int .i64 1, .int .i64 0, .int .i64 1, .int .i64 2, .int .i64 1, .int .i64 1, .int .i64 0, .int .i64 2000] 23)).alloc (.cells #[.bool true, .bool false, .bool false, .int .i64 1, .int .i64 0] 41)).alloc (.cells #[.slice (some ⟨w.heap.size + 1, 0, none⟩) 1 1, .slice none 0 0, .int .i64 2, .int .i64 1, .int .i64 0, .int .i64 0] 27)) := Lib.hid (by rw [hW3, hW2, hW1])
  have HB1 := Lib.hid b1
  have HB2 := Lib.hid b2
  have HB3 := Lib.hid b3
  clear hW3 hW2 hW1 s1 s2 x1 x2 x3 b1 b2 b3
  have HNA : Hid (∀ W A, Blk W A 41 #[.bool true, .bool false, .bool false, .int .i64 1, .int .i64 0] → Calls Tryd.prog 8 #[.agg #[.int .i64 1, .int .i64 1, .int .i64 0, .int .i64 1, .int .i64 2, .int .i64 1, .int .i64 1, .int .i64 0, .int .i64 2000], .agg #[.slice (some ⟨A, 0, none⟩) 1 1, .slice none 0 0, .int .i64 2, .int .i64 1, .int .i64 0, .int .i64 0], .int .i64 0] W fun e w' => e = .returned (.tuple #[.agg #[.int .i64 16, .int .i64 0, .int .i64 0, .int .i64 0, .int .i64 0, .int .i64 0, .int .i64 0], .bool true]) ∧ Ext W w') := Lib.hid fun W A hb => by
    have h := WNext_any exWc (.slice (some ⟨A, 0, none⟩) 1 1) (.slice none 0 0) exWs 0 W ⟨rdS_made (K := 5) (n := 1) hb rfl (by decide), rdS_nil _ _⟩ exWs_right (by omega) (by omega)
    rw [exWs_next] at h
    exact h
  have HRT : Hid (∀ W A, Blk W A 41 #[.bool true, .bool true, .bool false, .int .i64 1, .int .i64 0] → RdSt W (.slice (some ⟨A, 0, none⟩) 1 1) (.slice none 0 0) exWt) := Lib.hid fun W A hb => ⟨rdS_made (K := 5) (n := 1) hb rfl (by decide), rdS_nil _ _⟩
  have HNB : Hid (∀ W A, Blk W A 41 #[.bool true, .bool true, .bool false, .int .i64 1, .int .i64 0] → Calls Tryd.prog 8 #[.agg #[.int .i64 1, .int .i64 1, .int .i64 0, .int .i64 1, .int .i64 2, .int .i64 1, .int .i64 1, .int .i64 0, .int .i64 2000], .agg #[.slice (some ⟨A, 0, none⟩) 1 1, .slice none 0 0, .int .i64 2, .int .i64 1, .int .i64 0, .int .i64 0], .int .i64 0] W fun e w' => e = .returned (.tuple #[.agg #[.int .i64 18, .int .i64 0, .int .i64 0, .int .i64 0, .int .i64 0, .int .i64 0, .int .i64 0], .bool true]) ∧ Ext W w') := Lib.hid fun W A hb => by
    have h := WNext_any exWc (.slice (some ⟨A, 0, none⟩) 1 1) (.slice none 0 0) exWt 0 W (HRT.out W A hb) exWt_right (by omega) (by omega)
    rw [exWt_next] at h
    exact h
  have HWA : Hid (∀ W A, Blk W A 41 #[.bool true, .bool true, .bool false, .int .i64 1, .int .i64 0] → Calls Tryd.prog 10 #[.agg #[.slice (some ⟨A, 0, none⟩) 1 1, .slice none 0 0, .int .i64 2, .int .i64 1, .int .i64 0, .int .i64 0]] W fun e w' => e = .returned (.int .i64 1) ∧ Ext W w') := Lib.hid fun W A hb => by
    have h := WWave_any exWc (.slice (some ⟨A, 0, none⟩) 1 1) (.slice none 0 0) exWt W (HRT.out W A hb) exWt_right
    rw [exWt_wave] at h
    exact h
  have HBH : Hid (∀ W A, Blk W A 41 #[.bool true, .bool true, .bool false, .int .i64 1, .int .i64 0] → Calls Tryd.prog 11 #[.agg #[.slice (some ⟨A, 0, none⟩) 1 1, .slice none 0 0, .int .i64 2, .int .i64 1, .int .i64 0, .int .i64 0]] W fun e w' => ∃ B c', e = .returned (.slice B 1 c') ∧ Ext W w') := Lib.hid fun W A hb => by
    have h := WBehind_any exWc (.slice (some ⟨A, 0, none⟩) 1 1) (.slice none 0 0) exWt W (HRT.out W A hb) exWt_right
    rw [exWt_behind] at h
    exact h.mono (by rintro e w' ⟨B, c', h1, -, h2⟩; exact ⟨B, c', h1, h2⟩)
  have HDO : Hid (∀ W A, Blk W A 41 #[.bool true, .bool true, .bool false, .int .i64 1, .int .i64 0] → Calls Tryd.prog 12 #[.agg #[.slice (some ⟨A, 0, none⟩) 1 1, .slice none 0 0, .int .i64 2, .int .i64 1, .int .i64 0, .int .i64 0]] W fun e w' => e = .returned (.bool false) ∧ Ext W w') := Lib.hid fun W A hb => by
    have h := WDone_any exWc (.slice (some ⟨A, 0, none⟩) 1 1) (.slice none 0 0) exWt W (HRT.out W A hb) exWt_right
    rw [exWt_done] at h
    exact h
  have HAO : Hid (∀ W A, Blk W A 41 #[.bool true, .bool true, .bool false, .int .i64 1, .int .i64 0] → Calls Tryd.prog 13 #[.agg #[.slice (some ⟨A, 0, none⟩) 1 1, .slice none 0 0, .int .i64 2, .int .i64 1, .int .i64 0, .int .i64 0], .int .i64 0] W fun e w' => e = .returned (.bool false) ∧ Ext W w') := Lib.hid fun W A hb => by
    have h := WAlone_any exWc (.slice (some ⟨A, 0, none⟩) 1 1) (.slice none 0 0) exWt 0 W (HRT.out W A hb) exWt_right
    rw [exWt_alone] at h
    exact h
  go_enter Tryd.func5, Tryd.ntmps5
  go_upto_region 3 with (fail)
  rw [← HW3.out]
  obtain ⟨gc, hgc⟩ : ∃ g, g = w.heap.size := ⟨_, rfl⟩
  obtain ⟨gn, hgn⟩ : ∃ g, g = w.heap.size + 1 := ⟨_, rfl⟩
  obtain ⟨gs, hgs⟩ : ∃ g, g = w.heap.size + 1 + 1 := ⟨_, rfl⟩
  rw [← hgs, ← hgn, ← hgc]
  rw [← hgs, ← hgn] at HB3
  rw [← hgn] at HB2
  rw [← hgc] at HB1
  have HG : Hid (w.heap.size ≤ gn ∧ gc ≠ gn ∧ gs ≠ gn) := Lib.hid (by omega)
  clear HW3 hgc hgs hgn
  obtain ⟨g0, g1, g2, g3, g4, g5⟩ := Blk.six HB3.out
  obtain ⟨k0, k1, k2, k3, k4, k5, k6, k7, k8⟩ := Blk.nine HB1.out
  have HC1 := Lib.hid (HNA.out W3 gn HB2.out)
  go_wp2_with fail
  refine HC1.out.mono ?_
  rintro e4 w4 ⟨rfl, hx4⟩
  have HX4 : Hid (Ext W3 w4) := Lib.hid hx4
  clear hx4 HC1 HNA g0 g1 g2 g3 g4 g5 k0 k1 k2 k3 k4 k5 k6 k7 k8
  simp only []
  go_upto_region 4 with (fail)
  obtain ⟨W5, hW5⟩ : ∃ W, W = w4.alloc (.cells #[.int .i64 16, .int .i64 0, .int .i64 0, .int .i64 0, .int .i64 0, .int .i64 0, .int .i64 0] 32) := ⟨_, rfl⟩
  have HX5 : Hid (Ext W3 W5) := Lib.hid (by rw [hW5]; exact Ext.trans HX4.out ((Below.refl _ _).alloc (Nat.le_refl _) _))
  have HO1 : Hid (Blk W5 w4.heap.size 32 #[.int .i64 16, .int .i64 0, .int .i64 0, .int .i64 0, .int .i64 0, .int .i64 0, .int .i64 0]) := Lib.hid (by rw [hW5]; exact Blk.new _ _ _)
  rw [← hW5]
  obtain ⟨g3, hg3⟩ : ∃ g, g = w4.heap.size := ⟨_, rfl⟩
  have HG3 : Hid (g3 ≠ gn) := Lib.hid (by have := HX4.out.size; have := HB2.out.lt; omega)
  rw [← hg3] at HO1 ⊢
  clear hW5 hg3
  have g0 := (HB3.out.ext HX5.out).cell 0
  have n1 := (HB2.out.ext HX5.out).cell 1
  have fz := (HB2.out.ext HX5.out).frozen 1
  go_upto_region 5 with (fail)
  obtain ⟨W6, hW6⟩ : ∃ W, W = W5.setCell ⟨gn, 1, none⟩ (.bool true) := ⟨_, rfl⟩
  have HX6 : Hid (Ext w W6) := Lib.hid (by rw [hW6]; exact Below.setCell (Ext.trans HX3.out HX5.out) HG.out.1 _)
  replace HB1 : Hid (Blk W6 gc 23 #[.int .i64 1, .int .i64 1, .int .i64 0, .int .i64 1, .int .i64 2, .int .i64 1, .int .i64 1, .int .i64 0, .int .i64 2000]) := Lib.hid (by rw [hW6]; exact (HB1.out.ext HX5.out).far HG.out.2.1 _)
  replace HB3 : Hid (Blk W6 gs 27 #[.slice (some ⟨gn, 0, none⟩) 1 1, .slice none 0 0, .int .i64 2, .int .i64 1, .int .i64 0, .int .i64 0]) := Lib.hid (by rw [hW6]; exact (HB3.out.ext HX5.out).far HG.out.2.2 _)
  replace HO1 : Hid (Blk W6 g3 32 #[.int .i64 16, .int .i64 0, .int .i64 0, .int .i64 0, .int .i64 0, .int .i64 0, .int .i64 0]) := Lib.hid (by rw [hW6]; exact HO1.out.far HG3.out _)
  replace HB2 : Hid (Blk W6 gn 41 #[.bool true, .bool true, .bool false, .int .i64 1, .int .i64 0]) := Lib.hid (by rw [hW6]; exact (HB2.out.ext HX5.out).set_ 1 (.bool true))
  rw [← hW6]
  clear hW6 g0 n1 fz HX5 HX4 HX3 HG HG3
  obtain ⟨g0, g1, g2, g3', g4, g5⟩ := Blk.six HB3.out
  obtain ⟨k0, k1, k2, k3, k4, k5, k6, k7, k8⟩ := Blk.nine HB1.out
  have HC2 := Lib.hid (HNB.out W6 gn HB2.out)
  go_wp2_with fail
  refine HC2.out.mono ?_
  rintro e7 w7 ⟨rfl, hx7⟩
  have HX7 : Hid (Ext W6 w7) := Lib.hid hx7
  clear hx7 HC2 HNB g0 g1 g2 g3' g4 g5 k0 k1 k2 k3 k4 k5 k6 k7 k8
  simp only []
  go_upto_region 6 with (fail)
  obtain ⟨W8, hW8⟩ : ∃ W, W = w7.alloc (.cells #[.int .i64 18, .int .i64 0, .int .i64 0, .int .i64 0, .int .i64 0, .int .i64 0, .int .i64 0] 32) := ⟨_, rfl⟩
  have HX8 : Hid (Ext W6 W8) := Lib.hid (by rw [hW8]; exact Ext.trans HX7.out ((Below.refl _ _).alloc (Nat.le_refl _) _))
  have HO2 : Hid (Blk W8 w7.heap.size 32 #[.int .i64 18, .int .i64 0, .int .i64 0, .int .i64 0, .int .i64 0, .int .i64 0, .int .i64 0]) := Lib.hid (by rw [hW8]; exact Blk.new _ _ _)
  rw [← hW8]
  obtain ⟨g8, hg8⟩ : ∃ g, g = w7.heap.size := ⟨_, rfl⟩
  rw [← hg8] at HO2 ⊢
  clear hW8 hg8
  obtain ⟨g0, g1, g2, g3', g4, g5⟩ := Blk.six (HB3.out.ext HX8.out)
  obtain ⟨p0, p1, p2, p3, p4, p5, p6⟩ := Blk.seven (HO1.out.ext HX8.out)
  obtain ⟨r0, r1, r2, r3, r4, r5, r6⟩ := Blk.seven HO2.out
  have HC := Lib.hid (HWA.out W8 gn (HB2.out.ext HX8.out))
  go_wp2_with fail
  refine HC.out.mono ?_
  rintro e9 v0 ⟨rfl, hx9⟩
  have HY0 : Hid (Ext W6 v0) := Lib.hid (Ext.trans HX8.out hx9)
  clear hx9 HC g0 g1 g2 g3' g4 g5 p0 p1 p2 p3 p4 p5 p6 r0 r1 r2 r3 r4 r5 r6
  simp only []
  obtain ⟨g0, g1, g2, g3', g4, g5⟩ := Blk.six (HB3.out.ext HY0.out)
  have HC := Lib.hid (HBH.out v0 gn (HB2.out.ext HY0.out))
  go_wp2_with fail
  refine HC.out.mono ?_
  rintro e9 v1 ⟨B9, c9, rfl, hx9⟩
  have HY1 : Hid (Ext W6 v1) := Lib.hid (Ext.trans HY0.out hx9)
  clear hx9 HC g0 g1 g2 g3' g4 g5
  simp only []
  obtain ⟨g0, g1, g2, g3', g4, g5⟩ := Blk.six (HB3.out.ext HY1.out)
  have HC := Lib.hid (HDO.out v1 gn (HB2.out.ext HY1.out))
  go_wp2_with fail
  refine HC.out.mono ?_
  rintro e9 v2 ⟨rfl, hx9⟩
  have HY2 : Hid (Ext W6 v2) := Lib.hid (Ext.trans HY1.out hx9)
  clear hx9 HC g0 g1 g2 g3' g4 g5
  simp only []
  obtain ⟨g0, g1, g2, g3', g4, g5⟩ := Blk.six (HB3.out.ext HY2.out)
  have HC := Lib.hid (HAO.out v2 gn (HB2.out.ext HY2.out))
  go_wp2_with fail
  refine HC.out.mono ?_
  rintro e9 v3 ⟨rfl, hx9⟩
  have HY3 : Hid (Ext W6 v3) := Lib.hid (Ext.trans HY2.out hx9)
  clear hx9 HC g0 g1 g2 g3' g4 g5
  simp only []
  go_wp2
  go_ret
  exact ⟨rfl, Ext.trans HX6.out HY3.out⟩

end Go.Proofs.YtkpcjdhnbjkaaaaDoor

/- Package book: whether a node, and a job, may be as they are. -/
namespace Go.Proofs.YtkpcjdhnbjkaaaaDoor
open Go.RowKit

theorem ext2 (w : World) (t1 t2 : TypeId) (c1 c2 : Array Value) : Ext w ((w.alloc (.cells c1 t1)).alloc (.cells c2 t2)) := ((Below.refl _ _).alloc (Nat.le_refl _) _).alloc (by simp) _
theorem ext3 (w : World) (t1 t2 t3 : TypeId) (c1 c2 c3 : Array Value) : Ext w (((w.alloc (.cells c1 t1)).alloc (.cells c2 t2)).alloc (.cells c3 t3)) := (ext2 w t1 t2 c1 c2).alloc (by simp; omega) _

set_option maxRecDepth 100000 in
set_option maxHeartbeats 4000000 in
theorem nodeMay_any (vn vj : Value) (s : St) (i : Nat) (n : Nd) (w : World) (hr : RdNd w vn s.nodes) (hrj : RdJb w vj s.jobs) (hi : s.nodes[i]? = some n) (hn : s.nodes.length ≤ 6) (_hjl : s.jobs.length ≤ 24) :
    Calls Tryd.prog 17 #[stV vn vj s, .int .i64 (i : Int)] w fun e w' => ∃ b, e = .returned (.bool b) ∧ (b = true ↔ NodeL s i n) ∧ Ext w w' := by
  obtain ⟨A, c, rfl, hnc, hcm, hcell⟩ := has_cells hr
  obtain ⟨A2, c2, rfl, hnc2, hcm2, hcell2⟩ := jobs_cells hrj
  obtain ⟨b, o, rfl, hb, hat⟩ := hcell i n hi
  have hil := (List.getElem?_eq_some_iff.1 hi).1
  have hi64 : i < 64 := by omega
  have HX := Lib.hid fun c1 c2 => ext2 w 27 41 c1 c2
  have HC2 := Lib.hid hcell2
  have HF := Lib.hid fun n lo hi w' => isFrom_any n lo hi w'
  have HV := Lib.hid fun n w' => isVersion_any n w'
  have HH := Lib.hid fun set w' => has_any set i hi64 w'
  have hx1 : ∀ cs, Ext w (w.alloc (.cells cs 27)) := fun cs => (Below.refl _ _).alloc (Nat.le_refl _) _
  obtain ⟨c0, c1, c2_, c3, c4⟩ := hat.ext (hx1 #[.slice (some ⟨b, o, none⟩) s.nodes.length c, .slice A2 s.jobs.length c2, .int .i64 s.goal, .int .i64 s.prior, .int .i64 s.mode, .int .i64 s.term]) hb
  have NL : NodeL s i n ↔ ((1 ≤ n.version ∧ n.version ≤ 9) ∧ (n.moving = true → n.up = true ∧ n.cordon = true ∧ n.job = 0) ∧ (n.job = 0 ∨ ∃ k j, n.job = (k : Nat) + 1 ∧ s.jobs[k]? = some j ∧ hasS j.nodes i = true)) := Iff.rfl
  have HNL := Lib.hid NL
  clear hr hrj hcell hcell2 hat hi hb NL hx1
  unfold stV
  go_enter Tryd.func17, Tryd.ntmps17
  go_wp2_with fail
  refine (HV.out _ _).mono ?_
  rintro e1 w1 ⟨rfl, rfl⟩
  cases hv : inR n.version 1 9
  · have HNO : Hid (¬ NodeL s i n) := Lib.hid fun h => by
      have := inR_iff.2 (HNL.out.1 h).1
      rw [hv] at this
      cases this
    go_wp2
    go_ret
    exact ⟨false, rfl, ⟨(fun h => by cases h), fun h => absurd h HNO.out⟩, HX.out _ _⟩
  have HA := Lib.hid (inR_iff.1 hv)
  cases hmv : n.moving
  · by_cases hj : n.job = 0
    · have HYES : Hid (NodeL s i n) := Lib.hid (HNL.out.2 ⟨HA.out, (fun h => by rw [hmv] at h; cases h), .inl hj⟩)
      have e1 : (n.job == 0) = true := by rw [hj]; rfl
      clear hj
      go_wp2
      go_ret
      exact ⟨true, rfl, ⟨fun _ => HYES.out, fun _ => rfl⟩, HX.out _ _⟩
    · have e1 : (n.job == 0) = false := by rw [beq_eq_false_iff_ne]; exact hj
      have HJ := Lib.hid hj
      clear hj
      go_wp2_with fail
      refine (HF.out _ _ _ _).mono ?_
      rintro e1 w1 ⟨rfl, rfl⟩
      cases hf : inR n.job 1 (s.jobs.length : Int)
      · have HNO : Hid (¬ NodeL s i n) := Lib.hid fun h => by
          rcases (HNL.out.1 h).2.2 with h1 | ⟨k, j, h1, h2, _⟩
          · exact HJ.out h1
          · have := (List.getElem?_eq_some_iff.1 h2).1
            have h3 : inR n.job 1 (s.jobs.length : Int) = true := inR_iff.2 ⟨by omega, by omega⟩
            rw [hf] at h3
            cases h3
        go_wp2
        go_ret
        exact ⟨false, rfl, ⟨(fun h => by cases h), fun h => absurd h HNO.out⟩, HX.out _ _⟩
      · have hf2 := inR_iff.1 hf
        obtain ⟨k, hk⟩ : ∃ k : Nat, n.job = (k : Int) + 1 := ⟨(n.job - 1).toNat, by omega⟩
        have hkl : k < s.jobs.length := by omega
        obtain ⟨j, hj⟩ : ∃ j, s.jobs[k]? = some j := ⟨_, List.getElem?_eq_getElem hkl⟩
        obtain ⟨b2, o2, rfl, hb2, hat2⟩ := HC2.out k j hj
        have c8 := hat2.c8
        have HNL2 : Hid (NodeL s i n ↔ hasS j.nodes i = true) := Lib.hid (HNL.out.trans ⟨fun h => by
          rcases h.2.2 with h1 | ⟨k', j', h1, h2, h3⟩
          · omega
          · obtain rfl : k' = k := by omega
            rw [hj] at h2
            cases h2
            exact h3, fun h => ⟨HA.out, (fun h' => by rw [hmv] at h'; cases h'), .inr ⟨k, j, hk, hj, h⟩⟩⟩)
        have hw1 : wrap64 (n.job - 1) = (k : Int) := by rw [IntWalk.wrap64_in _ (by omega)]; omega
        clear hf2 hk hj hat2
        go_wp2_with fail
        refine (HH.out _ _).mono ?_
        rintro e1 w1 ⟨rfl, rfl⟩
        go_wp2
        go_ret
        exact ⟨_, rfl, HNL2.out.symm, HX.out _ _⟩
  cases hup : n.up
  · have HNO : Hid (¬ NodeL s i n) := Lib.hid fun h => by
      have := ((HNL.out.1 h).2.1 hmv).1
      rw [hup] at this
      cases this
    go_wp2
    go_ret
    exact ⟨false, rfl, ⟨(fun h => by cases h), fun h => absurd h HNO.out⟩, HX.out _ _⟩
  cases hco : n.cordon
  · have HNO : Hid (¬ NodeL s i n) := Lib.hid fun h => by
      have := ((HNL.out.1 h).2.1 hmv).2.1
      rw [hco] at this
      cases this
    go_wp2
    go_ret
    exact ⟨false, rfl, ⟨(fun h => by cases h), fun h => absurd h HNO.out⟩, HX.out _ _⟩
  by_cases hj : n.job = 0
  · have HYES : Hid (NodeL s i n) := Lib.hid (HNL.out.2 ⟨HA.out, (fun _ => ⟨hup, hco, hj⟩), .inl hj⟩)
    have e1 : (n.job == 0) = true := by rw [hj]; rfl
    clear hj
    go_wp2
    go_ret
    exact ⟨true, rfl, ⟨fun _ => HYES.out, fun _ => rfl⟩, HX.out _ _⟩
  · have HNO : Hid (¬ NodeL s i n) := Lib.hid fun h => hj ((HNL.out.1 h).2.1 hmv).2.2
    have e1 : (n.job == 0) = false := by rw [beq_eq_false_iff_ne]; exact hj
    clear hj
    go_wp2
    go_ret
    exact ⟨false, rfl, ⟨(fun h => by cases h), fun h => absurd h HNO.out⟩, HX.out _ _⟩

end Go.Proofs.YtkpcjdhnbjkaaaaDoor

/- Package book: whether a job may be as it is. -/
namespace Go.Proofs.YtkpcjdhnbjkaaaaDoor
open Go.RowKit

set_option maxRecDepth 100000 in
set_option maxHeartbeats 4000000 in
theorem jobMay_any (c : Cf) (vn vj : Value) (s : St) (k : Nat) (j : Jb) (w : World) (hr : RdNd w vn s.nodes) (hrj : RdJb w vj s.jobs) (hj : s.jobs[k]? = some j) (hm : mayC c = true) (hn : s.nodes.length ≤ 6) (hjl : s.jobs.length ≤ 24)
    (hver : ∀ (i : Nat) (n : Nd), s.nodes[i]? = some n → 1 ≤ n.version) :
    Calls Tryd.prog 18 #[cfV c, stV vn vj s, .int .i64 ((k : Int) + 1)] w fun e w' => ∃ b, e = .returned (.bool b) ∧ (b = true ↔ JobL c s k j) ∧ Ext w w' := by
  have HA := Lib.hid fun w' => asked_any c j w' hm
  have HS := Lib.hid fun w' h => suits_any vn vj s j j.nodes w' h hn hver
  have HR := Lib.hid fun w' h1 h2 => carried_any vn vj s k j w' h1 h2 hj hn hjl
  have HF := Lib.hid fun n lo hi w' => isFrom_any n lo hi w'
  have HRN := Lib.hid hr
  have HRJ := Lib.hid hrj
  obtain ⟨A, c1, rfl, hnc, hcm, hcell⟩ := jobs_cells hrj
  obtain ⟨b2, o2, rfl, hb2, hat2⟩ := hcell k j hj
  have hkl := (List.getElem?_eq_some_iff.1 hj).1
  have hw1 : wrap64 ((k : Int) + 1 - 1) = (k : Int) := by rw [IntWalk.wrap64_in _ (by omega)]; omega
  obtain ⟨jc, hjc⟩ : ∃ jc : Array Value, jc = #[.int .i64 j.queue, .int .i64 j.prio, .int .i64 j.least, .int .i64 j.most, .int .i64 j.work, .int .i64 j.pin, .int .i64 j.phase, .int .i64 j.inc, .int .i64 j.nodes, .int .i64 j.since, .int .i64 j.til, .int .i64 j.epoch] := ⟨_, rfl⟩
  obtain ⟨cc, hcc⟩ : ∃ cc : Array Value, cc = #[.int .i64 c.nodes, .int .i64 c.queues, .int .i64 c.quota, .int .i64 c.wave, .int .i64 c.lease, .int .i64 c.retry, .int .i64 c.deadline, .int .i64 c.room, .int .i64 c.disk] := ⟨_, rfl⟩
  obtain ⟨sc, hsc⟩ : ∃ sc : Array Value, sc = #[vn, .slice (some ⟨b2, o2, none⟩) s.jobs.length c1, .int .i64 s.goal, .int .i64 s.prior, .int .i64 s.mode, .int .i64 s.term] := ⟨_, rfl⟩
  have HX2 := Lib.hid (ext2 w 23 27 cc sc)
  obtain ⟨W3, hW3⟩ : ∃ W3, W3 = ((w.alloc (.cells cc 23)).alloc (.cells sc 27)).alloc (.cells jc 58) := ⟨_, rfl⟩
  have hx3 : Ext w W3 := by rw [hW3]; exact ext3 w _ _ _ cc sc jc
  have hbj : Blk W3 (w.heap.size + 2) 58 jc := by
    have := Blk.new ((w.alloc (.cells cc 23)).alloc (.cells sc 27)) 58 jc
    rw [hW3]
    simpa using this
  have hbs : Blk W3 (w.heap.size + 1) 27 sc := by
    have := (Blk.new (w.alloc (.cells cc 23)) 27 sc).ext ((Below.refl _ _).alloc (Nat.le_refl _) (.cells jc 58))
    rw [hW3]
    simpa using this
  obtain ⟨q0, q1, q2, q3, q4, q5, q6, q7, q8, q9, q10, q11⟩ := hat2.ext HX2.out hb2
  have HX3 := Lib.hid hx3
  have HBJ := Lib.hid hbj
  have HBS := Lib.hid hbs
  have HJL : Hid (JobL c s k j ↔ (askedJ c j = true ∧ (0 ≤ j.inc ∧ j.inc ≤ 1000000) ∧ (0 ≤ j.epoch ∧ j.epoch ≤ j.inc) ∧ (0 ≤ j.since ∧ j.since ≤ 1000000) ∧ (0 ≤ j.til ∧ j.til ≤ 1000000) ∧
    (((j.phase = 0 ∨ j.phase = 4) ∧ j.nodes = 0) ∨ ((1 ≤ j.phase ∧ j.phase ≤ 3) ∧ FitsP s j j.nodes ∧ CarriedL s k j)))) := Lib.hid Iff.rfl
  clear hr hrj hcell hat2 hj hm hver hb2 hx3 hbj hbs
  unfold cfV jbV at HA
  unfold stV jbV at HS
  unfold stV at HR
  unfold stV cfV
  subst hsc hcc hjc
  go_enter Tryd.func18, Tryd.ntmps18
  go_wp2_with fail
  rw [← hW3]
  clear q0 q1 q2 q3 q4 q5 q6 q7 q8 q9 q10 q11 hW3 HX2
  refine (HA.out _).mono ?_
  rintro e1 w1 ⟨rfl, hx1⟩
  have HX1 := Lib.hid (HX3.out.trans hx1)
  have HBJ1 := Lib.hid (HBJ.out.ext hx1)
  have HBS1 := Lib.hid (HBS.out.ext hx1)
  have g6 : w1.cell? ⟨w.heap.size + 2, 6, none⟩ = some (.int .i64 j.phase) := HBJ1.out.cell 6
  have g7 : w1.cell? ⟨w.heap.size + 2, 7, none⟩ = some (.int .i64 j.inc) := HBJ1.out.cell 7
  have g8 : w1.cell? ⟨w.heap.size + 2, 8, none⟩ = some (.int .i64 j.nodes) := HBJ1.out.cell 8
  have g9 : w1.cell? ⟨w.heap.size + 2, 9, none⟩ = some (.int .i64 j.since) := HBJ1.out.cell 9
  have g10 : w1.cell? ⟨w.heap.size + 2, 10, none⟩ = some (.int .i64 j.til) := HBJ1.out.cell 10
  have g11 : w1.cell? ⟨w.heap.size + 2, 11, none⟩ = some (.int .i64 j.epoch) := HBJ1.out.cell 11
  clear hx1
  cases ha : askedJ c j
  · have HNO : Hid (¬ JobL c s k j) := Lib.hid fun h => by
      have := (HJL.out.1 h).1
      rw [ha] at this
      cases this
    go_wp2
    go_ret
    exact ⟨false, rfl, ⟨(fun h => by cases h), fun h => absurd h HNO.out⟩, HX1.out⟩
  go_wp2_with fail
  refine (HF.out _ _ _ _).mono ?_
  rintro e1 w1_ ⟨rfl, rfl⟩
  cases h1 : inR j.inc 0 1000000
  · have HNO : Hid (¬ JobL c s k j) := Lib.hid fun h => by
      have := inR_iff.2 (HJL.out.1 h).2.1
      rw [h1] at this
      cases this
    go_wp2
    go_ret
    exact ⟨false, rfl, ⟨(fun h => by cases h), fun h => absurd h HNO.out⟩, HX1.out⟩
  go_wp2_with fail
  refine (HF.out _ _ _ _).mono ?_
  rintro e1 w1_ ⟨rfl, rfl⟩
  cases h2 : inR j.epoch 0 j.inc
  · have HNO : Hid (¬ JobL c s k j) := Lib.hid fun h => by
      have := inR_iff.2 (HJL.out.1 h).2.2.1
      rw [h2] at this
      cases this
    go_wp2
    go_ret
    exact ⟨false, rfl, ⟨(fun h => by cases h), fun h => absurd h HNO.out⟩, HX1.out⟩
  go_wp2_with fail
  refine (HF.out _ _ _ _).mono ?_
  rintro e1 w1_ ⟨rfl, rfl⟩
  cases h3 : inR j.since 0 1000000
  · have HNO : Hid (¬ JobL c s k j) := Lib.hid fun h => by
      have := inR_iff.2 (HJL.out.1 h).2.2.2.1
      rw [h3] at this
      cases this
    go_wp2
    go_ret
    exact ⟨false, rfl, ⟨(fun h => by cases h), fun h => absurd h HNO.out⟩, HX1.out⟩
  go_wp2_with fail
  refine (HF.out _ _ _ _).mono ?_
  rintro e1 w1_ ⟨rfl, rfl⟩
  cases h4 : inR j.til 0 1000000
  · have HNO : Hid (¬ JobL c s k j) := Lib.hid fun h => by
      have := inR_iff.2 (HJL.out.1 h).2.2.2.2.1
      rw [h4] at this
      cases this
    go_wp2
    go_ret
    exact ⟨false, rfl, ⟨(fun h => by cases h), fun h => absurd h HNO.out⟩, HX1.out⟩
  have HJ2 : Hid (JobL c s k j ↔ (((j.phase = 0 ∨ j.phase = 4) ∧ j.nodes = 0) ∨ ((1 ≤ j.phase ∧ j.phase ≤ 3) ∧ FitsP s j j.nodes ∧ CarriedL s k j))) :=
    Lib.hid (HJL.out.trans ⟨fun h => h.2.2.2.2.2, fun h => ⟨ha, inR_iff.1 h1, inR_iff.1 h2, inR_iff.1 h3, inR_iff.1 h4, h⟩⟩)
  clear h1 h2 h3 h4 ha HJL
  by_cases hp : 1 ≤ j.phase ∧ j.phase ≤ 3
  · have HP := Lib.hid hp
    have hp' : j.phase = 1 ∨ j.phase = 2 ∨ j.phase = 3 := by omega
    have s0 : w1.cell? ⟨w.heap.size + 1, 0, none⟩ = some vn := HBS1.out.cell 0
    have s1 : w1.cell? ⟨w.heap.size + 1, 1, none⟩ = some (.slice (some ⟨b2, o2, none⟩) s.jobs.length c1) := HBS1.out.cell 1
    have s2 : w1.cell? ⟨w.heap.size + 1, 2, none⟩ = some (.int .i64 s.goal) := HBS1.out.cell 2
    have s3 : w1.cell? ⟨w.heap.size + 1, 3, none⟩ = some (.int .i64 s.prior) := HBS1.out.cell 3
    have s4 : w1.cell? ⟨w.heap.size + 1, 4, none⟩ = some (.int .i64 s.mode) := HBS1.out.cell 4
    have s5 : w1.cell? ⟨w.heap.size + 1, 5, none⟩ = some (.int .i64 s.term) := HBS1.out.cell 5
    have g0 : w1.cell? ⟨w.heap.size + 2, 0, none⟩ = some (.int .i64 j.queue) := HBJ1.out.cell 0
    have g1 : w1.cell? ⟨w.heap.size + 2, 1, none⟩ = some (.int .i64 j.prio) := HBJ1.out.cell 1
    have g2 : w1.cell? ⟨w.heap.size + 2, 2, none⟩ = some (.int .i64 j.least) := HBJ1.out.cell 2
    have g3 : w1.cell? ⟨w.heap.size + 2, 3, none⟩ = some (.int .i64 j.most) := HBJ1.out.cell 3
    have g4 : w1.cell? ⟨w.heap.size + 2, 4, none⟩ = some (.int .i64 j.work) := HBJ1.out.cell 4
    have g5 : w1.cell? ⟨w.heap.size + 2, 5, none⟩ = some (.int .i64 j.pin) := HBJ1.out.cell 5
    have HJ3 : Hid (JobL c s k j ↔ FitsP s j j.nodes ∧ CarriedL s k j) := Lib.hid (HJ2.out.trans ⟨fun h => by
      rcases h with ⟨h, _⟩ | h
      · omega
      · exact h.2, fun h => .inr ⟨hp, h⟩⟩)
    clear hp HJ2
    generalize j.phase = ph at *
    rcases hp' with rfl | rfl | rfl
    all_goals
      go_wp2_with fail
      refine (HS.out _ (HRN.out.ext HX1.out)).mono ?_
      rintro e2 w2 ⟨b, rfl, hb, hx2⟩
      have HX2 := Lib.hid (HX1.out.trans hx2)
      have HBS2 := Lib.hid (HBS1.out.ext hx2)
      cases b
      · have HNO : Hid (¬ JobL c s k j) := Lib.hid fun h => by
          have := hb.2 (HJ3.out.1 h).1
          cases this
        clear hx2 hb
        go_wp2
        go_ret
        exact ⟨false, rfl, ⟨(fun h => by cases h), fun h => absurd h HNO.out⟩, HX2.out⟩
      · have HY := Lib.hid (hb.1 rfl)
        have s0 : w2.cell? ⟨w.heap.size + 1, 0, none⟩ = some vn := HBS2.out.cell 0
        have s1 : w2.cell? ⟨w.heap.size + 1, 1, none⟩ = some (.slice (some ⟨b2, o2, none⟩) s.jobs.length c1) := HBS2.out.cell 1
        have s2 : w2.cell? ⟨w.heap.size + 1, 2, none⟩ = some (.int .i64 s.goal) := HBS2.out.cell 2
        have s3 : w2.cell? ⟨w.heap.size + 1, 3, none⟩ = some (.int .i64 s.prior) := HBS2.out.cell 3
        have s4 : w2.cell? ⟨w.heap.size + 1, 4, none⟩ = some (.int .i64 s.mode) := HBS2.out.cell 4
        have s5 : w2.cell? ⟨w.heap.size + 1, 5, none⟩ = some (.int .i64 s.term) := HBS2.out.cell 5
        clear hx2 hb
        go_wp2_with fail
        refine (HR.out _ (HRN.out.ext HX2.out) (HRJ.out.ext HX2.out)).mono ?_
        rintro e3 w3 ⟨b, rfl, hb, hx3⟩
        have HX4 := Lib.hid (HX2.out.trans hx3)
        have HB := Lib.hid hb
        clear hx3 hb
        go_wp2
        go_ret
        exact ⟨b, rfl, ⟨fun h => HJ3.out.2 ⟨HY.out, HB.out.1 h⟩, fun h => HB.out.2 (HJ3.out.1 h).2⟩, HX4.out⟩
  · have HP := Lib.hid hp
    have n1 : (j.phase == 1) = false := by rw [beq_eq_false_iff_ne]; omega
    have n2 : (j.phase == 2) = false := by rw [beq_eq_false_iff_ne]; omega
    have n3 : (j.phase == 3) = false := by rw [beq_eq_false_iff_ne]; omega
    by_cases h04 : j.phase = 0 ∨ j.phase = 4
    · have HJ3 : Hid (JobL c s k j ↔ j.nodes = 0) := Lib.hid (HJ2.out.trans ⟨fun h => by
        rcases h with ⟨_, h⟩ | ⟨h, _⟩
        · exact h
        · exact absurd h hp, fun h => .inl ⟨h04, h⟩⟩)
      have HJ4 : Hid ((j.nodes == 0) = true ↔ JobL c s k j) := Lib.hid ((beq_iff_eq).trans HJ3.out.symm)
      clear hp HJ3 HJ2
      generalize j.phase = ph at *
      rcases h04 with rfl | rfl
      all_goals
        go_wp2
        go_ret
        exact ⟨_, rfl, HJ4.out, HX1.out⟩
    · have n0 : (j.phase == 0) = false := by rw [beq_eq_false_iff_ne]; omega
      have n4 : (j.phase == 4) = false := by rw [beq_eq_false_iff_ne]; omega
      have HNO : Hid (¬ JobL c s k j) := Lib.hid fun h => by
        rcases HJ2.out.1 h with ⟨h, _⟩ | ⟨h, _⟩
        · exact h04 h
        · exact hp h
      clear hp h04
      go_wp2
      go_ret
      exact ⟨false, rfl, ⟨(fun h => by cases h), fun h => absurd h HNO.out⟩, HX1.out⟩

end Go.Proofs.YtkpcjdhnbjkaaaaDoor

/- Package book: whether a state may be. -/
namespace Go.Proofs.YtkpcjdhnbjkaaaaDoor
open Go.RowKit

theorem ext_drew9 {B : Nat} {a w : World} (h : Below B a w) : Below B a w.drew := Below.drewN' h 1
theorem Ext.of_drew {w w' : World} (h : Ext w.drew w') : Ext w w' := Ext.trans (ext_drew9 (Ext.refl w)) h

set_option maxRecDepth 100000 in
set_option maxHeartbeats 4000000 in
theorem RightS_any (c : Cf) (vn vj : Value) (s : St) (w : World) (hr : RdNd w vn s.nodes) (hrj : RdJb w vj s.jobs) :
    Calls Tryd.prog 6 #[cfV c, stV vn vj s] w fun e w' => ∃ b, e = .returned (.bool b) ∧ (b = true ↔ RightP c s) ∧ Ext w w' := by
  have HM := Lib.hid fun w' => May_any c w'
  have HNM : Hid (∀ w' (i : Nat) n, s.nodes[i]? = some n → s.nodes.length ≤ 6 → s.jobs.length ≤ 24 → Ext w w' → Calls Tryd.prog 17 #[stV vn vj s, .int .i64 (i : Int)] w' fun e w'' => ∃ b, e = .returned (.bool b) ∧ (b = true ↔ NodeL s i n) ∧ Ext w' w'') :=
    Lib.hid fun w' i n hi hn hj hx => nodeMay_any vn vj s i n w' (hr.ext hx) (hrj.ext hx) hi hn hj
  have HJM : Hid (∀ w' (k : Nat) j, s.jobs[k]? = some j → mayC c = true → s.nodes.length ≤ 6 → s.jobs.length ≤ 24 → (∀ (i : Nat) (n : Nd), s.nodes[i]? = some n → 1 ≤ n.version) → Ext w w' → Calls Tryd.prog 18 #[cfV c, stV vn vj s, .int .i64 ((k : Int) + 1)] w' fun e w'' => ∃ b, e = .returned (.bool b) ∧ (b = true ↔ JobL c s k j) ∧ Ext w' w'') :=
    Lib.hid fun w' k j hj hm hn hl hv hx => jobMay_any c vn vj s k j w' (hr.ext hx) (hrj.ext hx) hj hm hn hl hv
  have HD : Hid (∀ w' q, Ext w w' → Calls Tryd.prog 19 #[stV vn vj s, .int .i64 q] w' fun e w'' => e = .returned (.int .i64 (drainsS s q : Int)) ∧ Ext w' w'') := Lib.hid fun w' q hx => Drains_any vn vj s q w' (hrj.ext hx)
  have HF := Lib.hid fun n lo hi w' => isFrom_any n lo hi w'
  have HV := Lib.hid fun n w' => isVersion_any n w'
  obtain ⟨An, cn, rfl, hnc, hcm⟩ := hr.slice_
  obtain ⟨Aj, cj, rfl, hjc, hjm⟩ := hrj.slice_
  have HRL : Hid (∀ b : Bool, (b = true ↔ RightL c s) → (b = true ↔ RightP c s)) := Lib.hid fun b h => h.trans RightL_iff
  obtain ⟨cc, hcc⟩ : ∃ cc : Array Value, cc = #[.int .i64 c.nodes, .int .i64 c.queues, .int .i64 c.quota, .int .i64 c.wave, .int .i64 c.lease, .int .i64 c.retry, .int .i64 c.deadline, .int .i64 c.room, .int .i64 c.disk] := ⟨_, rfl⟩
  obtain ⟨sc, hsc⟩ : ∃ sc : Array Value, sc = #[.slice An s.nodes.length cn, .slice Aj s.jobs.length cj, .int .i64 s.goal, .int .i64 s.prior, .int .i64 s.mode, .int .i64 s.term] := ⟨_, rfl⟩
  obtain ⟨W2, hW2⟩ : ∃ W2, W2 = (w.alloc (.cells cc 23)).alloc (.cells sc 27) := ⟨_, rfl⟩
  have hx2 : Ext w W2 := by rw [hW2]; exact ext2 w _ _ cc sc
  have hbs : Blk W2 (w.heap.size + 1) 27 sc := by
    have := Blk.new (w.alloc (.cells cc 23)) 27 sc
    rw [hW2]
    simpa using this
  have hbc : Blk W2 w.heap.size 23 cc := by
    have := (Blk.new w 23 cc).ext ((Below.refl _ _).alloc (Nat.le_refl _) (.cells sc 27))
    rw [hW2]
    exact this
  have HX2 := Lib.hid hx2
  have HBS := Lib.hid hbs
  have HBC := Lib.hid hbc
  unfold stV at HNM HJM HD
  unfold cfV at HM HJM
  unfold stV cfV
  clear hr hrj hx2 hbs hbc
  subst hcc hsc
  go_enter Tryd.func6, Tryd.ntmps6
  go_wp2_with fail
  rw [← hW2]
  clear hW2
  refine (HM.out _).mono ?_
  rintro e1 w1 ⟨rfl, hx1⟩
  have HX1 := Lib.hid (HX2.out.trans hx1)
  have HBS1 := Lib.hid (HBS.out.ext hx1)
  have HBC1 := Lib.hid (HBC.out.ext hx1)
  clear hx1 HX2 HBS HBC HM
  have s0 : w1.cell? ⟨w.heap.size + 1, 0, none⟩ = some (.slice An s.nodes.length cn) := HBS1.out.cell 0
  have s1 : w1.cell? ⟨w.heap.size + 1, 1, none⟩ = some (.slice Aj s.jobs.length cj) := HBS1.out.cell 1
  have s2 : w1.cell? ⟨w.heap.size + 1, 2, none⟩ = some (.int .i64 s.goal) := HBS1.out.cell 2
  have s3 : w1.cell? ⟨w.heap.size + 1, 3, none⟩ = some (.int .i64 s.prior) := HBS1.out.cell 3
  have s4 : w1.cell? ⟨w.heap.size + 1, 4, none⟩ = some (.int .i64 s.mode) := HBS1.out.cell 4
  have s5 : w1.cell? ⟨w.heap.size + 1, 5, none⟩ = some (.int .i64 s.term) := HBS1.out.cell 5
  have k0 : w1.cell? ⟨w.heap.size, 0, none⟩ = some (.int .i64 c.nodes) := HBC1.out.cell 0
  have k1 : w1.cell? ⟨w.heap.size, 1, none⟩ = some (.int .i64 c.queues) := HBC1.out.cell 1
  cases hm : mayC c
  · have HNO : Hid (¬ RightP c s) := Lib.hid fun h => by
      have := h.may
      rw [hm] at this
      cases this
    go_wp2
    go_ret
    exact ⟨false, rfl, ⟨(fun h => by cases h), fun h => absurd h HNO.out⟩, HX1.out⟩
  by_cases hl : ¬ (s.nodes.length : Int) = c.nodes
  · have HNO : Hid (¬ RightP c s) := Lib.hid fun h => hl h.nn
    have e1 : ((s.nodes.length : Int) != c.nodes) = true := by rw [bne_iff_ne]; exact hl
    clear hl
    go_wp2
    go_ret
    exact ⟨false, rfl, ⟨(fun h => by cases h), fun h => absurd h HNO.out⟩, HX1.out⟩
  replace hl := Classical.not_not.1 hl
  have e1 : ((s.nodes.length : Int) != c.nodes) = false := by rw [hl]; exact bne_self_eq_false _
  by_cases hl2 : ¬ s.jobs.length ≤ 24
  · have HNO : Hid (¬ RightP c s) := Lib.hid fun h => hl2 h.nj
    have e2 : decide ((24 : Int) < (s.jobs.length : Int)) = true := decide_eq_true (by omega)
    have e2' : decide (24 < s.jobs.length) = true := decide_eq_true (by omega)
    clear hl hl2
    go_wp2
    go_ret
    exact ⟨false, rfl, ⟨(fun h => by cases h), fun h => absurd h HNO.out⟩, HX1.out⟩
  replace hl2 := Classical.not_not.1 hl2
  have e2 : decide ((24 : Int) < (s.jobs.length : Int)) = false := decide_eq_false (by omega)
  have e2' : decide (24 < s.jobs.length) = false := decide_eq_false (by omega)
  have hm2 : (1 ≤ c.nodes ∧ c.nodes ≤ 6) ∧ (1 ≤ c.queues ∧ c.queues ≤ 3) := by
    simp only [mayC, Bool.and_eq_true, inR_iff] at hm
    exact ⟨by omega, by omega⟩
  have hn6 : s.nodes.length ≤ 6 := by omega
  have HM1 := Lib.hid hm
  have HL := Lib.hid hl
  have HL2 := Lib.hid hl2
  have HM2 := Lib.hid hm2.2
  have HN6 := Lib.hid hn6
  clear hm hl hm2 hn6
  go_wp2_with fail
  refine (HV.out _ _).mono ?_
  rintro e_ w_ ⟨rfl, rfl⟩
  cases h1 : inR s.goal 1 9
  · have HNO : Hid (¬ RightP c s) := Lib.hid fun h => by
      have := inR_iff.2 ⟨h.g1, h.g9⟩
      rw [h1] at this
      cases this
    go_wp2
    go_ret
    exact ⟨false, rfl, ⟨(fun h => by cases h), fun h => absurd h HNO.out⟩, HX1.out⟩
  go_wp2_with fail
  refine (HV.out _ _).mono ?_
  rintro e_ w_ ⟨rfl, rfl⟩
  cases h2 : inR s.prior 1 9
  · have HNO : Hid (¬ RightP c s) := Lib.hid fun h => by
      have := inR_iff.2 ⟨h.p1, h.p9⟩
      rw [h2] at this
      cases this
    go_wp2
    go_ret
    exact ⟨false, rfl, ⟨(fun h => by cases h), fun h => absurd h HNO.out⟩, HX1.out⟩
  go_wp2_with fail
  refine (HF.out _ _ _ _).mono ?_
  rintro e_ w_ ⟨rfl, rfl⟩
  cases h3 : inR s.mode 0 2
  · have HNO : Hid (¬ RightP c s) := Lib.hid fun h => by
      have := inR_iff.2 ⟨h.m0, h.m2⟩
      rw [h3] at this
      cases this
    go_wp2
    go_ret
    exact ⟨false, rfl, ⟨(fun h => by cases h), fun h => absurd h HNO.out⟩, HX1.out⟩
  go_wp2_with fail
  refine (HF.out _ _ _ _).mono ?_
  rintro e_ w_ ⟨rfl, rfl⟩
  cases h4 : inR s.term 0 1000000
  · have HNO : Hid (¬ RightP c s) := Lib.hid fun h => by
      have := inR_iff.2 ⟨h.t0, h.t9⟩
      rw [h4] at this
      cases this
    go_wp2
    go_ret
    exact ⟨false, rfl, ⟨(fun h => by cases h), fun h => absurd h HNO.out⟩, HX1.out⟩
  have H1 := Lib.hid h1
  have H2 := Lib.hid h2
  have H3 := Lib.hid h3
  have H4 := Lib.hid h4
  go_wp2_with fail
  go_loopg [50] s.nodes.length (fun gg i wr => ∃ (q : Nat), i = .int .i64 q ∧ q ≤ s.nodes.length ∧ gg = s.nodes.length - q ∧ Hid (Ext w1 wr ∧ ∀ i n, i < q → s.nodes[i]? = some n → NodeL s i n))
  case atStart => exact ⟨0, rfl, Nat.zero_le _, by omega, Lib.hid ⟨Ext.refl _, fun i n h => absurd h (Nat.not_lt_zero i)⟩⟩
  case round =>
    obtain ⟨q, rfl, hq, rfl, HR⟩ := hrel
    clear s0 s1 s2 s3 s4 s5 k0 k1
    have s0 : wr.cell? ⟨w.heap.size + 1, 0, none⟩ = some (.slice An s.nodes.length cn) := (HBS1.out.ext HR.out.1).cell 0
    have s1 : wr.cell? ⟨w.heap.size + 1, 1, none⟩ = some (.slice Aj s.jobs.length cj) := (HBS1.out.ext HR.out.1).cell 1
    by_cases hlt : q < s.nodes.length
    · have d1 : decide ((q : Int) < (s.nodes.length : Int)) = true := decide_eq_true (by omega)
      have d1' : decide (q < s.nodes.length) = true := decide_eq_true hlt
      obtain ⟨n, hnk⟩ : ∃ n, s.nodes[q]? = some n := ⟨_, List.getElem?_eq_getElem hlt⟩
      have s2 : wr.cell? ⟨w.heap.size + 1, 2, none⟩ = some (.int .i64 s.goal) := (HBS1.out.ext HR.out.1).cell 2
      have s3 : wr.cell? ⟨w.heap.size + 1, 3, none⟩ = some (.int .i64 s.prior) := (HBS1.out.ext HR.out.1).cell 3
      have s4 : wr.cell? ⟨w.heap.size + 1, 4, none⟩ = some (.int .i64 s.mode) := (HBS1.out.ext HR.out.1).cell 4
      have s5 : wr.cell? ⟨w.heap.size + 1, 5, none⟩ = some (.int .i64 s.term) := (HBS1.out.ext HR.out.1).cell 5
      have HNK := Lib.hid hnk
      have HLT := Lib.hid hlt
      clear hnk
      go_wp2_with fail
      refine (HNM.out _ q n HNK.out HN6.out HL2.out (HX1.out.trans HR.out.1)).mono ?_
      rintro e5 w5 ⟨b, rfl, hb, hx5⟩
      have HX5 := Lib.hid (HR.out.1.trans hx5)
      have HB := Lib.hid hb
      clear hx5 hb
      cases b
      · have HNO : Hid (¬ RightP c s) := Lib.hid fun h => by
          have := HB.out.2 ((RightL_iff.2 h).node q n HNK.out)
          cases this
        have HX6 := Lib.hid (HX1.out.trans HX5.out)
        go_wp2
        go_ret
        exact ⟨false, rfl, ⟨(fun h => by cases h), fun h => absurd h HNO.out⟩, HX6.out⟩
      · go_wp2
        go_roundg (s.nodes.length - (q + 1))
        case measure => have := HLT.out; omega
        case rel =>
          refine ⟨q + 1, by go_num, HLT.out, rfl, Lib.hid ⟨HX5.out, fun i m hi hm => ?_⟩⟩
          rcases Nat.lt_or_ge i q with h' | h'
          · exact HR.out.2 i m h' hm
          · obtain rfl : i = q := by omega
            rw [HNK.out] at hm
            cases hm
            exact HB.out.1 (by trivial)
    · have d1 : decide ((q : Int) < (s.nodes.length : Int)) = false := decide_eq_false (by omega)
      have d1' : decide (q < s.nodes.length) = false := decide_eq_false hlt
      obtain rfl : q = s.nodes.length := by omega
      have HND : Hid (∀ i n, s.nodes[i]? = some n → NodeL s i n) := Lib.hid fun i n hi => HR.out.2 i n (List.getElem?_eq_some_iff.1 hi).1 hi
      have HXr := Lib.hid HR.out.1
      clear HR hlt HNM
      have HVR : Hid (∀ (i : Nat) (n : Nd), s.nodes[i]? = some n → 1 ≤ n.version) := Lib.hid fun i n hi => (HND.out i n hi).1.1
      obtain ⟨wz, hwz⟩ : ∃ wz, wz = wr := ⟨_, rfl⟩
      go_wp2_with fail
      rw [← hwz]
      rw [← hwz] at HXr
      clear s0 s1 hwz
      go_loopg [61] s.jobs.length (fun gg i wr => ∃ (q : Nat), i = .int .i64 q ∧ q ≤ s.jobs.length ∧ gg = s.jobs.length - q ∧ Hid (Ext w1 wr ∧ ∀ i n, i < q → s.jobs[i]? = some n → JobL c s i n))
      case atStart => exact ⟨0, rfl, Nat.zero_le _, by omega, Lib.hid ⟨HXr.out, fun i n h => absurd h (Nat.not_lt_zero i)⟩⟩
      case round =>
        obtain ⟨q, rfl, hq, rfl, HR⟩ := hrel
        have k1 : wr.cell? ⟨w.heap.size, 1, none⟩ = some (.int .i64 c.queues) := (HBC1.out.ext HR.out.1).cell 1
        by_cases hlt : q < s.jobs.length
        · have d1 : decide ((q : Int) < (s.jobs.length : Int)) = true := decide_eq_true (by omega)
          have d1' : decide (q < s.jobs.length) = true := decide_eq_true hlt
          obtain ⟨n, hnk⟩ : ∃ n, s.jobs[q]? = some n := ⟨_, List.getElem?_eq_getElem hlt⟩
          have s0 : wr.cell? ⟨w.heap.size + 1, 0, none⟩ = some (.slice An s.nodes.length cn) := (HBS1.out.ext HR.out.1).cell 0
          have s1 : wr.cell? ⟨w.heap.size + 1, 1, none⟩ = some (.slice Aj s.jobs.length cj) := (HBS1.out.ext HR.out.1).cell 1
          have s2 : wr.cell? ⟨w.heap.size + 1, 2, none⟩ = some (.int .i64 s.goal) := (HBS1.out.ext HR.out.1).cell 2
          have s3 : wr.cell? ⟨w.heap.size + 1, 3, none⟩ = some (.int .i64 s.prior) := (HBS1.out.ext HR.out.1).cell 3
          have s4 : wr.cell? ⟨w.heap.size + 1, 4, none⟩ = some (.int .i64 s.mode) := (HBS1.out.ext HR.out.1).cell 4
          have s5 : wr.cell? ⟨w.heap.size + 1, 5, none⟩ = some (.int .i64 s.term) := (HBS1.out.ext HR.out.1).cell 5
          have k0 : wr.cell? ⟨w.heap.size, 0, none⟩ = some (.int .i64 c.nodes) := (HBC1.out.ext HR.out.1).cell 0
          have k2 : wr.cell? ⟨w.heap.size, 2, none⟩ = some (.int .i64 c.quota) := (HBC1.out.ext HR.out.1).cell 2
          have k3 : wr.cell? ⟨w.heap.size, 3, none⟩ = some (.int .i64 c.wave) := (HBC1.out.ext HR.out.1).cell 3
          have k4 : wr.cell? ⟨w.heap.size, 4, none⟩ = some (.int .i64 c.lease) := (HBC1.out.ext HR.out.1).cell 4
          have k5 : wr.cell? ⟨w.heap.size, 5, none⟩ = some (.int .i64 c.retry) := (HBC1.out.ext HR.out.1).cell 5
          have k6 : wr.cell? ⟨w.heap.size, 6, none⟩ = some (.int .i64 c.deadline) := (HBC1.out.ext HR.out.1).cell 6
          have k7 : wr.cell? ⟨w.heap.size, 7, none⟩ = some (.int .i64 c.room) := (HBC1.out.ext HR.out.1).cell 7
          have k8 : wr.cell? ⟨w.heap.size, 8, none⟩ = some (.int .i64 c.disk) := (HBC1.out.ext HR.out.1).cell 8
          have HNK := Lib.hid hnk
          have HLT := Lib.hid hlt
          have hw1 : wrap64 ((q : Int) + 1) = (q : Int) + 1 := IntWalk.wrap64_in _ (by omega)
          clear hnk
          go_wp2_with fail
          refine (HJM.out _ q n HNK.out HM1.out HN6.out HL2.out HVR.out (HX1.out.trans HR.out.1)).mono ?_
          rintro e5 w5 ⟨b, rfl, hb, hx5⟩
          have HX5 := Lib.hid (HR.out.1.trans hx5)
          have HB := Lib.hid hb
          clear hx5 hb s0 s1 s2 s3 s4 s5 k0 k1 k2 k3 k4 k5 k6 k7 k8
          cases b
          · have HNO : Hid (¬ RightP c s) := Lib.hid fun h => by
              have := HB.out.2 ((RightL_iff.2 h).job q n HNK.out)
              cases this
            have HX6 := Lib.hid (HX1.out.trans HX5.out)
            go_wp2
            go_ret
            exact ⟨false, rfl, ⟨(fun h => by cases h), fun h => absurd h HNO.out⟩, HX6.out⟩
          · go_wp2
            go_roundg (s.jobs.length - (q + 1))
            case measure => have := HLT.out; omega
            case rel =>
              refine ⟨q + 1, by go_num, HLT.out, rfl, Lib.hid ⟨HX5.out, fun i m hi hm => ?_⟩⟩
              rcases Nat.lt_or_ge i q with h' | h'
              · exact HR.out.2 i m h' hm
              · obtain rfl : i = q := by omega
                rw [HNK.out] at hm
                cases hm
                exact HB.out.1 (by trivial)
        · have d1 : decide ((q : Int) < (s.jobs.length : Int)) = false := decide_eq_false (by omega)
          have d1' : decide (q < s.jobs.length) = false := decide_eq_false hlt
          obtain rfl : q = s.jobs.length := by omega
          have HJD : Hid (∀ i n, s.jobs[i]? = some n → JobL c s i n) := Lib.hid fun i n hi => HR.out.2 i n (List.getElem?_eq_some_iff.1 hi).1 hi
          have HXq := Lib.hid HR.out.1
          clear HR hlt HJM
          obtain ⟨wz, hwz⟩ : ∃ wz, wz = wr := ⟨_, rfl⟩
          go_wp2_with fail
          rw [← hwz]
          rw [← hwz] at HXq
          clear k1 hwz
          obtain ⟨qn, hqn⟩ : ∃ qn : Nat, c.queues = (qn : Int) := ⟨c.queues.toNat, by have := HM2.out; omega⟩
          have HQN := Lib.hid hqn
          rw [hqn]
          go_loopg [73] qn (fun gg i wr => ∃ (q : Nat), i = .int .i64 q ∧ q ≤ qn ∧ gg = qn - q ∧ Hid (Ext w1 wr ∧ ∀ i : Nat, i < q → (drainsS s (i : Int) : Int) ≤ c.quota))
          case atStart => exact ⟨0, rfl, Nat.zero_le _, by omega, Lib.hid ⟨HXq.out, fun i h => absurd h (Nat.not_lt_zero i)⟩⟩
          case round =>
            obtain ⟨q, rfl, hq, rfl, HR⟩ := hrel
            by_cases hlt : q < qn
            · have d1 : decide ((q : Int) < (qn : Int)) = true := decide_eq_true (by omega)
              have d1' : decide (q < qn) = true := decide_eq_true hlt
              have HLT := Lib.hid hlt
              have HXR := Lib.hid (HX1.out.trans HR.out.1)
              have hw1 : wrap64 ((q : Int) + 1) = (q : Int) + 1 := IntWalk.wrap64_in _ (by have := HM2.out; have := HQN.out; omega)
              have s0 : wr.cell? ⟨w.heap.size + 1, 0, none⟩ = some (.slice An s.nodes.length cn) := (HBS1.out.ext HR.out.1).cell 0
              have s1 : wr.cell? ⟨w.heap.size + 1, 1, none⟩ = some (.slice Aj s.jobs.length cj) := (HBS1.out.ext HR.out.1).cell 1
              have s2 : wr.cell? ⟨w.heap.size + 1, 2, none⟩ = some (.int .i64 s.goal) := (HBS1.out.ext HR.out.1).cell 2
              have s3 : wr.cell? ⟨w.heap.size + 1, 3, none⟩ = some (.int .i64 s.prior) := (HBS1.out.ext HR.out.1).cell 3
              have s4 : wr.cell? ⟨w.heap.size + 1, 4, none⟩ = some (.int .i64 s.mode) := (HBS1.out.ext HR.out.1).cell 4
              have s5 : wr.cell? ⟨w.heap.size + 1, 5, none⟩ = some (.int .i64 s.term) := (HBS1.out.ext HR.out.1).cell 5
              have k2 : wr.cell? ⟨w.heap.size, 2, none⟩ = some (.int .i64 c.quota) := (HBC1.out.ext HR.out.1).cell 2
              have HK2 : Hid (∀ w', Ext wr w' → w'.cell? ⟨w.heap.size, 2, none⟩ = some (.int .i64 c.quota)) := Lib.hid fun w' h => (HBC1.out.ext (HR.out.1.trans h)).cell 2
              generalize hD : (drainsS s (q : Int) : Int) = D at *
              have HDQ : Hid (∀ w', Ext w w' → Calls Tryd.prog 19 #[.agg #[.slice An s.nodes.length cn, .slice Aj s.jobs.length cj, .int .i64 s.goal, .int .i64 s.prior, .int .i64 s.mode, .int .i64 s.term], .int .i64 (q : Int)] w' fun e w'' => e = .returned (.int .i64 D) ∧ Ext w' w'') := Lib.hid (by rw [← hD]; exact fun w' h => HD.out w' (q : Int) h)
              go_wp2_with fail
              by_cases hov : c.quota < D
              · have d2 : decide (c.quota < D) = true := decide_eq_true hov
                have HNO : Hid (¬ RightP c s) := Lib.hid fun h => by
                  have := h.drains q (by have := HQN.out; have := HLT.out; omega)
                  omega
                clear hov
                go_region_with ((go_at_call 19); (first | (refine (HDQ.out _ HXR.out).mono ?_) | (refine (HDQ.out _ (ext_drew9 HXR.out)).mono ?_)); (rintro e9 w9 ⟨rfl, hx9⟩); (have hx9' : Ext wr w9 := Ext.of_drew hx9); (have k9 := HK2.out w9 hx9'))
                all_goals
                  have HX9 := Lib.hid (HXR.out.trans hx9')
                  clear hx9 hx9' k9
                  go_wp2
                  go_ret
                  exact ⟨false, rfl, ⟨(fun h => by cases h), fun h => absurd h HNO.out⟩, HX9.out⟩
              · have d2 : decide (c.quota < D) = false := decide_eq_false hov
                have HLE : Hid (∀ i : Nat, i < q + 1 → (drainsS s (i : Int) : Int) ≤ c.quota) := Lib.hid fun i hi => by
                  rcases Nat.lt_or_ge i q with h' | h'
                  · exact HR.out.2 i h'
                  · obtain rfl : i = q := by omega
                    omega
                clear hov
                go_region_with ((go_at_call 19); (first | (refine (HDQ.out _ HXR.out).mono ?_) | (refine (HDQ.out _ (ext_drew9 HXR.out)).mono ?_)); (rintro e9 w9 ⟨rfl, hx9⟩); (have hx9' : Ext wr w9 := Ext.of_drew hx9); (have k9 := HK2.out w9 hx9'))
                all_goals
                  have HX9 := Lib.hid (HR.out.1.trans hx9')
                  clear hx9 hx9' k9
                  go_wp2
                  go_roundg (qn - (q + 1))
                  case measure => have := HLT.out; omega
                  case rel => exact ⟨q + 1, by go_num, HLT.out, rfl, Lib.hid ⟨HX9.out, HLE.out⟩⟩
            · have d1 : decide ((q : Int) < (qn : Int)) = false := decide_eq_false (by omega)
              have d1' : decide (q < qn) = false := decide_eq_false hlt
              obtain rfl : q = qn := by omega
              have HY : Hid (RightP c s) := Lib.hid (RightL_iff.1 ⟨HM1.out, HL.out, HL2.out, inR_iff.1 H1.out, inR_iff.1 H2.out, inR_iff.1 H3.out, inR_iff.1 H4.out, HND.out, HJD.out, fun i hi => HR.out.2 i (by have := HQN.out; omega)⟩)
              have HX6 := Lib.hid (HX1.out.trans HR.out.1)
              go_wp2
              go_ret
              exact ⟨true, rfl, ⟨fun _ => HY.out, fun _ => rfl⟩, HX6.out⟩

end Go.Proofs.YtkpcjdhnbjkaaaaDoor

/- Layer 17: whether a number is a time. -/
namespace Go.Proofs.YtkpcjdhnbjkaaaaDoor
open Go.RowKit

set_option maxRecDepth 100000 in
theorem time17_any (now : Int) (w : World) : Calls Tryd.prog 7 #[.int .i64 now] w fun e w' => e = .returned (.bool (decide (0 ≤ now) && decide (now ≤ 1000000))) ∧ w = w' := by
  by_cases h1 : 0 ≤ now
  · have d1 : decide (0 ≤ now) = true := decide_eq_true h1
    by_cases h2 : now ≤ 1000000
    · have d2 : decide (now ≤ 1000000) = true := decide_eq_true h2
      rw [d1, d2]
      clear h1 h2
      go_enter Tryd.func7, Tryd.ntmps7
      go_wp2
      go_ret
      exact ⟨rfl, rfl⟩
    · have d2 : decide (now ≤ 1000000) = false := decide_eq_false h2
      rw [d1, d2]
      clear h1 h2
      go_enter Tryd.func7, Tryd.ntmps7
      go_wp2
      go_ret
      exact ⟨rfl, rfl⟩
  · have d1 : decide (0 ≤ now) = false := decide_eq_false h1
    rw [d1, Bool.false_and]
    clear h1
    go_enter Tryd.func7, Tryd.ntmps7
    go_wp2
    go_ret
    exact ⟨rfl, rfl⟩

end Go.Proofs.YtkpcjdhnbjkaaaaDoor

/- A job and a node as this translation knows them. -/
namespace Go.Proofs.YtkpcjdhnbjkaaaaDoor
open Go.RowKit

theorem Tryd.infoJob : (Tryd.prog.info? 58).map (fun i => (i.zero, i.size, i.bytes)) = some (some (.agg #[.int .i64 0, .int .i64 0, .int .i64 0, .int .i64 0, .int .i64 0, .int .i64 0, .int .i64 0, .int .i64 0, .int .i64 0, .int .i64 0, .int .i64 0, .int .i64 0]), 12, 96) := by kernel_rfl
theorem Tryd.infoNode : (Tryd.prog.info? 41).map (fun i => (i.zero, i.size, i.bytes)) = some (some (.agg #[.bool false, .bool false, .bool false, .int .i64 0, .int .i64 0]), 5, 24) := by kernel_rfl

end Go.Proofs.YtkpcjdhnbjkaaaaDoor
