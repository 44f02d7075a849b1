/- Texts that the proof of A rests on, one behind the other. -/
import Derived.Test.YtkpcjdhnbjkaaaaAQ1
import Derived.Test.YtkpcjdhnbjkaaaaAQ3
import Derived.Test.YtkpcjdhnbjkaaaaAQ4
import Derived.Test.YtkpcjdhnbjkaaaaAQ5
import Derived.Test.YtkpcjdhnbjkaaaaAQ7
import Derived.Test.YtkpcjdhnbjkaaaaAQ9
import Derived.Laws.EntriesVeiled
import Derived.Test.YtkpcjdhnbjkaaaaRows
import Derived.Deep.QuietTactic
import Derived.BigQuiet
import Derived.Test.YtkpcjdhnbjkaaaaChecked
import Derived.Lay
import Derived.PinnedBridge
import Derived.LaidMore
import Derived.Stop.Joined
import Derived.Stop.LaidErr
import Derived.Shelf.Vars
import Derived.Lib.SmallJoins

/- Package wave: what is next. -/
namespace Go.Proofs.Ytkpcjdhnbjkaaaa
open Go.RowKit

/-- The ways, in their order. -/
def wayA : Array Value := #[.func (.func 38) #[] #[], .func (.func 39) #[] #[], .func (.func 40) #[] #[]]
theorem wayA_one : wayA.all (·.oneCell') = true := by decide +kernel

set_option maxRecDepth 100000 in
theorem ways_any (w : World) :
    Calls Try.prog 32 #[] w fun e w' => e = .returned (.agg wayA) ∧ Ext w w' := by
  have hb := Blk.new w 54 #[.nilFunc, .nilFunc, .nilFunc]
  have hx : Ext w (w.alloc (.cells #[.nilFunc, .nilFunc, .nilFunc] 54)) := (Below.refl _ _).alloc (Nat.le_refl _) _
  have hi : (Try.prog.info? 54).map (·.size) = some wayA.size := by kernel_rfl
  have HB := Lib.hid hb
  have HX := Lib.hid hx
  have HI := Lib.hid hi
  clear hb hx hi
  go_enter Try.func32, Try.ntmps32
  go_wp2_with (refine wpList_storeB rfl 54 _ _ rfl w.heap.size wayA rfl rfl 54 _ HB.out HI.out rfl wayA_one w.heap.size w HX.out (Nat.le_refl _) ?_; intro w2 hb2 hx2)
  exact bodyPost_ret (results_cell_row rfl _ _ w.heap.size 54 _ (0, 0) _ rfl hb2 rfl rfl (by kernel_rfl)) rfl ⟨rfl, hx2⟩


set_option maxRecDepth 100000 in
set_option maxHeartbeats 16000000 in
theorem Next17_any (c : Cf) (vn vj : Value) (s : St) (now : Int) (w : World) (hr : RdNd w vn s.nodes) (hrj : RdJb w vj s.jobs) (hN : s.nodes.length ≤ 6) (hM : s.jobs.length ≤ 24) (hJ : OkJ s) (hP : OkB s) (hn0 : 0 ≤ now) (hn1 : now ≤ 1000000) (hd0 : 0 ≤ c.deadline) (hd1 : c.deadline ≤ 60) :
    Calls Try.prog 18 #[cfV c, stV vn vj s, .int .i64 now] w fun e w' => e = .returned (optV (nextW c s now)) ∧ Ext w w' := by
  have HW1 : Hid (∀ (i : Nat) n W, s.nodes[i]? = some n → Ext w W → Calls Try.prog 38 #[cfV c, stV vn vj s, .int .i64 now, .int .i64 (i : Int)] W fun e w' => e = .returned (optV (way1 s i n)) ∧ Ext W w') := Lib.hid fun i n W hi hW => way1_any c vn vj s now i n W (hr.ext hW) (hrj.ext hW) hi hN hM hJ hP
  have HW2 : Hid (∀ (i : Nat) n W, s.nodes[i]? = some n → Ext w W → Calls Try.prog 39 #[cfV c, stV vn vj s, .int .i64 now, .int .i64 (i : Int)] W fun e w' => e = .returned (optV (way2 c s now i n)) ∧ Ext W w') := Lib.hid fun i n W hi hW => way2_any c vn vj s now i n W (hr.ext hW) (hrj.ext hW) hi hN hM hJ hP hn0 hn1 hd0 hd1
  have HW3 : Hid (∀ (i : Nat) n W, s.nodes[i]? = some n → Ext w W → Calls Try.prog 40 #[cfV c, stV vn vj s, .int .i64 now, .int .i64 (i : Int)] W fun e w' => e = .returned (optV (way3 c s i n)) ∧ Ext W w') := Lib.hid fun i n W hi hW => way3_any c vn vj s now i n W (hr.ext hW) (hrj.ext hW) hi hN hM hJ hP
  have HWY := Lib.hid fun W => ways_any W
  have HIX : Hid (∀ (z : Nat), z < 3 → ∀ v, wayA[z]? = some v → ∀ W : World, (Instr.index 54 (.agg wayA) (.int .i64 (z : Int))).run Try.prog W = .ok v W) := Lib.hid fun z hz v hv W =>
    run_index_arr _ 53 3 _ _ z _ Try.underlying54 (Try.sizeOf53 W) (Try.isAgg53 W) hz hv
  unfold cfV stV at HW1 HW2 HW3
  unfold cfV stV
  obtain ⟨A, ca, rfl, hnc, hcm, -⟩ := has_cells hr
  obtain ⟨R, hR⟩ : ∃ R, R = nextW c s now := ⟨_, rfl⟩
  rw [← hR]
  have HR := Lib.hid hR
  obtain ⟨W1, hW1⟩ : ∃ W, W = w.alloc (.cells #[.int .i64 c.nodes, .int .i64 c.queues, .int .i64 c.quota, .int .i64 c.wave, .int .i64 c.lease, .int .i64 c.retry, .int .i64 c.deadline, .int .i64 c.room, .int .i64 c.disk] 23) := ⟨_, rfl⟩
  obtain ⟨W2, hW2⟩ : ∃ W, W = W1.alloc (.cells #[.slice A s.nodes.length ca, vj, .int .i64 s.goal, .int .i64 s.prior, .int .i64 s.mode, .int .i64 s.term] 27) := ⟨_, rfl⟩
  obtain ⟨W3, hW3⟩ : ∃ W, W = W2.alloc (.cells #[.int .i64 0, .int .i64 0, .int .i64 0, .int .i64 0, .int .i64 0, .int .i64 0, .int .i64 0] 39) := ⟨_, rfl⟩
  have s1 : W1.heap.size = w.heap.size + 1 := by rw [hW1]; simp
  have s2 : W2.heap.size = w.heap.size + 1 + 1 := by rw [hW2]; simp [s1]
  have x1 : Ext w W1 := by rw [hW1]; exact (Below.refl _ _).alloc (Nat.le_refl _) _
  have x2 : Ext W1 W2 := by rw [hW2]; exact (Below.refl _ _).alloc (Nat.le_refl _) _
  have x3 : Ext W2 W3 := by rw [hW3]; exact (Below.refl _ _).alloc (Nat.le_refl _) _
  have b1 : Blk W3 w.heap.size 23 #[.int .i64 c.nodes, .int .i64 c.queues, .int .i64 c.quota, .int .i64 c.wave, .int .i64 c.lease, .int .i64 c.retry, .int .i64 c.deadline, .int .i64 c.room, .int .i64 c.disk] := by
    have h : Blk W1 w.heap.size 23 #[.int .i64 c.nodes, .int .i64 c.queues, .int .i64 c.quota, .int .i64 c.wave, .int .i64 c.lease, .int .i64 c.retry, .int .i64 c.deadline, .int .i64 c.room, .int .i64 c.disk] := by rw [hW1]; exact Blk.new _ _ _
    exact h.ext (Ext.trans x2 x3)
  have b2 : Blk W3 (w.heap.size + 1) 27 #[.slice A s.nodes.length ca, vj, .int .i64 s.goal, .int .i64 s.prior, .int .i64 s.mode, .int .i64 s.term] := by
    have h : Blk W2 W1.heap.size 27 #[.slice A s.nodes.length ca, vj, .int .i64 s.goal, .int .i64 s.prior, .int .i64 s.mode, .int .i64 s.term] := by rw [hW2]; exact Blk.new _ _ _
    rw [s1] at h
    exact h.ext x3
  have b3 : Blk W3 (w.heap.size + 1 + 1) 39 #[.int .i64 0, .int .i64 0, .int .i64 0, .int .i64 0, .int .i64 0, .int .i64 0, .int .i64 0] := by
    have h : Blk W3 W2.heap.size 39 #[.int .i64 0, .int .i64 0, .int .i64 0, .int .i64 0, .int .i64 0, .int .i64 0, .int .i64 0] := by rw [hW3]; exact Blk.new _ _ _
    rw [s2] at h
    exact h
  have HX : Hid (Ext w W3) := Lib.hid (Ext.trans x1 (Ext.trans x2 x3))
  have HB1 := Lib.hid b1
  have HB2 := Lib.hid b2
  have HB3 := Lib.hid b3
  have HW9 : Hid (W3 = ((w.alloc (.cells #[.int .i64 c.nodes, .int .i64 c.queues, .int .i64 c.quota, .int .i64 c.wave, .int .i64 c.lease, .int .i64 c.retry, .int .i64 c.deadline, .int .i64 c.room, .int .i64 c.disk] 23)).alloc (.cells #[.slice A s.nodes.length ca, vj, .int .i64 s.goal, .int .i64 s.prior, .int .i64 s.mode, .int .i64 s.term] 27)).alloc (.cells #[.int .i64 0, .int .i64 0, .int .i64 0, .int .i64 0, .int .i64 0, .int .i64 0, .int .i64 0] 39)) := Lib.hid (by rw [hW3, hW2, hW1])
  clear hW3 hW2 hW1 s1 s2 x1 x2 x3 b1 b2 b3 hR hr hrj hP hJ
  go_enter Try.func18, Try.ntmps18
  go_wp2_with fail
  go_step3
  go_upto_region 1 with (fail)
  rw [← HW9.out]
  obtain ⟨gc, hgc⟩ : ∃ g, g = w.heap.size := ⟨_, rfl⟩
  obtain ⟨gs, hgs⟩ : ∃ g, g = w.heap.size + 1 := ⟨_, rfl⟩
  obtain ⟨gr, hgr⟩ : ∃ g, g = w.heap.size + 1 + 1 := ⟨_, rfl⟩
  rw [← hgr, ← hgs, ← hgc]
  rw [← hgr] at HB3
  rw [← hgs] at HB2
  rw [← hgc] at HB1
  have HGR : Hid (w.heap.size ≤ gr) := Lib.hid (by omega)
  clear HW9 hgc hgs hgr
  have g4 := HB2.out.cell 4
  by_cases hm : s.mode = 1
  · have m1 : (s.mode == 1) = true := by rw [hm]; rfl
    have HZ : Hid (R = none) := Lib.hid (by rw [HR.out]; unfold nextW; rw [if_pos hm])
    clear hm
    have HI5 : Hid ((Try.prog.info? 39).map (·.size) = some (#[.int .i64 0, .int .i64 0, .int .i64 0, .int .i64 0, .int .i64 0, .int .i64 0, .int .i64 0] : Array Value).size) := Lib.hid infoOp
    have HO5 : Hid ((#[.int .i64 0, .int .i64 0, .int .i64 0, .int .i64 0, .int .i64 0, .int .i64 0, .int .i64 0] : Array Value).all (·.oneCell') = true) := Lib.hid (by simp [Value.oneCell'])
    go_wp2_with (refine wpList_storeB rfl 39 _ _ rfl gr #[.int .i64 0, .int .i64 0, .int .i64 0, .int .i64 0, .int .i64 0, .int .i64 0, .int .i64 0] rfl rfl 39 _ HB3.out HI5.out rfl HO5.out w.heap.size w HX.out HGR.out ?_; intro w5 hb5 hx5)
    rw [Exit.noGoto_ret]
    exact bodyPost_ret (run_op rfl rfl rfl hb5 rfl) rfl ⟨by rw [HZ.out]; rfl, hx5⟩
  · have m1 : (s.mode == 1) = false := by simpa using hm
    obtain ⟨L1, hL1⟩ : ∃ L, L = firstO s.nodes (way1 s) := ⟨_, rfl⟩
    obtain ⟨L2, hL2⟩ : ∃ L, L = firstO s.nodes (way2 c s now) := ⟨_, rfl⟩
    obtain ⟨L3, hL3⟩ : ∃ L, L = firstO s.nodes (way3 c s) := ⟨_, rfl⟩
    obtain ⟨r1, r2, r3⟩ := nextW_at (c := c) (now := now) hm hL1 hL2 hL3
    rw [← HR.out] at r1 r2 r3
    have HF1 : Hid (∀ o, L1 = some o → R = some o) := Lib.hid r1
    have HF2 : Hid (L1 = none → ∀ o, L2 = some o → R = some o) := Lib.hid r2
    have HF3 : Hid (L1 = none → L2 = none → R = L3) := Lib.hid r3
    have HL10 : Hid (L1 = fromO s.nodes (way1 s) (s.nodes.length - 0) 0) := Lib.hid (by rw [hL1]; rfl)
    have HL20 : Hid (L2 = fromO s.nodes (way2 c s now) (s.nodes.length - 0) 0) := Lib.hid (by rw [hL2]; rfl)
    have HL30 : Hid (L3 = fromO s.nodes (way3 c s) (s.nodes.length - 0) 0) := Lib.hid (by rw [hL3]; rfl)
    clear hL1 hL2 hL3 r1 r2 r3 hm HR
    go_upto_region 4 with (fail)
    obtain ⟨W4, hW4⟩ : ∃ W, W = W3.alloc (.cells #[.int .i64 0, .int .i64 0, .int .i64 0, .int .i64 0, .int .i64 0, .int .i64 0, .int .i64 0] 39) := ⟨_, rfl⟩
    have HX4 : Hid (Ext W3 W4) := Lib.hid (by rw [hW4]; exact (Below.refl _ _).alloc (Nat.le_refl _) _)
    have HBO : Hid (Blk W4 W3.heap.size 39 #[.int .i64 0, .int .i64 0, .int .i64 0, .int .i64 0, .int .i64 0, .int .i64 0, .int .i64 0]) := Lib.hid (by rw [hW4]; exact Blk.new _ _ _)
    rw [← hW4]
    obtain ⟨go, hgo⟩ : ∃ g, g = W3.heap.size := ⟨_, rfl⟩
    rw [← hgo] at HBO ⊢
    have HGO : Hid (W3.heap.size ≤ go) := Lib.hid (by omega)
    clear hW4 hgo g4 m1
    go_wp2_with fail
    go_step3
    have HCC := Lib.hid (HWY.out W4)
    go_wp2_with fail
    refine HCC.out.mono ?_
    rintro e5 w5 ⟨rfl, hx5⟩
    have HX5 : Hid (Ext W3 w5) := Lib.hid (Ext.trans HX4.out hx5)
    have HBO5 := Lib.hid (HBO.out.ext hx5)
    clear hx5 HCC HWY HX4 HBO
    simp only []
    go_wp2_with fail
    go_loopw [9, 18] (fun k i wr => ∃ z : Int, i = .int .i64 z ∧ k = .bool false ∧ (z = 0 ∨ z = 1 ∨ z = 2 ∨ z = 3) ∧ Hid ((1 ≤ z → L1 = none) ∧ (2 ≤ z → L2 = none) ∧ (3 ≤ z → L3 = none)) ∧ Hid (Ext W3 wr) ∧ Hid (Blk wr go 39 #[.int .i64 0, .int .i64 0, .int .i64 0, .int .i64 0, .int .i64 0, .int .i64 0, .int .i64 0])) (fun _ i _ => 3 - (intOf i).toNat)
    case atStart => exact ⟨0, rfl, rfl, .inl rfl, Lib.hid ⟨fun h => by omega, fun h => by omega, fun h => by omega⟩, HX5, HBO5⟩
    case round =>
      obtain ⟨z, rfl, rfl, hz, HLL, HXR, HBR⟩ := hrel
      clear HX5 HBO5
      rcases hz with rfl | rfl | rfl | rfl
      · have hix : ∀ W : World, (Instr.index 54 (.agg wayA) (.int .i64 0)).run Try.prog W = .ok (.func (.func 38) #[] #[]) W := HIX.out 0 (by omega) _ rfl
        have g0 := HB2.out.ext HXR.out |>.cell 0
        go_wp2_with fail
        go_loopw [9, 24] (fun k i wr => ∃ q : Nat, i = .int .i64 q ∧ k = .bool false ∧ q ≤ s.nodes.length ∧ Hid (L1 = fromO s.nodes (way1 s) (s.nodes.length - q) q) ∧ Hid (Ext W3 wr) ∧ Hid (Blk wr go 39 #[.int .i64 0, .int .i64 0, .int .i64 0, .int .i64 0, .int .i64 0, .int .i64 0, .int .i64 0])) (fun _ i _ => s.nodes.length - (intOf i).toNat)
        case atStart => exact ⟨0, rfl, rfl, Nat.zero_le _, HL10, HXR, HBR⟩
        case round =>
          obtain ⟨q, rfl, rfl, hq, HL, HXQ, HBQ⟩ := hrel
          by_cases hlt : q < s.nodes.length
          · have d1 : decide ((q : Int) < (s.nodes.length : Int)) = true := decide_eq_true (by omega)
            have d1' : decide (q < s.nodes.length) = true := decide_eq_true hlt
            obtain ⟨n, hn⟩ : ∃ n, s.nodes[q]? = some n := ⟨_, List.getElem?_eq_getElem hlt⟩
            have HLT := Lib.hid hlt
            have wq9 : wrap64 ((q : Int) + 1) = (q : Int) + 1 := IntWalk.wrap64_in _ (by omega)
            have HHIT : Hid (∀ o, way1 s q n = some o → L1 = some o) := Lib.hid fun o h => by rw [HL.out]; exact fromO_hit2 hlt hn h
            have HMIS : Hid (way1 s q n = none → L1 = fromO s.nodes (way1 s) (s.nodes.length - (q + 1)) (q + 1)) := Lib.hid fun h => by rw [HL.out]; exact fromO_miss2 hlt hn h
            have HBC := Lib.hid (HW1.out q n wr hn (Ext.trans HX.out HXQ.out))
            obtain ⟨g0, g1, g2, g3, g4, g5⟩ := Blk.six (HB2.out.ext HXQ.out)
            obtain ⟨k0, k1, k2, k3, k4, k5, k6, k7, k8⟩ := Blk.nine (HB1.out.ext HXQ.out)
            clear hn hlt hq HL
            go_wp2_with fail
            refine HBC.out.mono ?_
            rintro e6 w6 ⟨rfl, hx6⟩
            replace HXQ := Lib.hid (Ext.trans HXQ.out hx6)
            replace HBQ := Lib.hid (HBQ.out.ext hx6)
            clear hx6 HBC g0 g1 g2 g3 g4 g5 k0 k1 k2 k3 k4 k5 k6 k7 k8
            simp only []
            obtain ⟨x, hx⟩ : ∃ x, x = way1 s q n := ⟨_, rfl⟩
            rw [← hx]
            rw [← hx] at HHIT HMIS
            clear hx
            cases x with
            | none =>
              have HS := Lib.hid (HMIS.out rfl)
              unfold optV opA zeroO
              have HI5 : Hid ((Try.prog.info? 39).map (·.size) = some (#[.int .i64 0, .int .i64 0, .int .i64 0, .int .i64 0, .int .i64 0, .int .i64 0, .int .i64 0] : Array Value).size) := Lib.hid infoOp
              have HO5 : Hid ((#[.int .i64 0, .int .i64 0, .int .i64 0, .int .i64 0, .int .i64 0, .int .i64 0, .int .i64 0] : Array Value).all (·.oneCell') = true) := Lib.hid (by simp [Value.oneCell'])
              go_wp2_with (refine wpList_storeB rfl 39 _ _ rfl go #[.int .i64 0, .int .i64 0, .int .i64 0, .int .i64 0, .int .i64 0, .int .i64 0, .int .i64 0] rfl rfl 39 _ HBQ.out HI5.out rfl HO5.out W3.heap.size W3 HXQ.out HGO.out ?_; intro w7 hb7 hx7)
              go_roundw
              case rel => exact ⟨q + 1, by first | (rw [wq9]; rfl) | rfl, rfl, HLT.out, HS, Lib.hid hx7, Lib.hid hb7⟩
              case measure => first | (rw [wq9]; exact measQ HLT.out) | exact measQ HLT.out
            | some o1 =>
              have HZ : Hid (R = some o1) := Lib.hid (HF1.out _ (HHIT.out _ rfl))
              unfold optV opA
              have HI5 : Hid ((Try.prog.info? 39).map (·.size) = some (#[.int .i64 o1.1, .int .i64 o1.2.1, .int .i64 o1.2.2.1, .int .i64 o1.2.2.2.1, .int .i64 o1.2.2.2.2.1, .int .i64 o1.2.2.2.2.2.1, .int .i64 o1.2.2.2.2.2.2] : Array Value).size) := Lib.hid infoOp
              have HO5 : Hid ((#[.int .i64 o1.1, .int .i64 o1.2.1, .int .i64 o1.2.2.1, .int .i64 o1.2.2.2.1, .int .i64 o1.2.2.2.2.1, .int .i64 o1.2.2.2.2.2.1, .int .i64 o1.2.2.2.2.2.2] : Array Value).all (·.oneCell') = true) := Lib.hid (by simp [Value.oneCell'])
              go_wp2_with (first | (refine wpList_storeB rfl 39 _ _ rfl go #[.int .i64 o1.1, .int .i64 o1.2.1, .int .i64 o1.2.2.1, .int .i64 o1.2.2.2.1, .int .i64 o1.2.2.2.2.1, .int .i64 o1.2.2.2.2.2.1, .int .i64 o1.2.2.2.2.2.2] rfl rfl 39 _ HBQ.out HI5.out rfl HO5.out W3.heap.size W3 HXQ.out HGO.out ?_; intro w8 hb8 hx8; obtain ⟨p0, p1, p2, p3, p4, p5, p6⟩ := Blk.seven hb8; have hbr := HB3.out.ext hx8; have hxr := Ext.trans HX.out hx8) | (refine wpList_storeB rfl 39 _ _ rfl gr #[.int .i64 o1.1, .int .i64 o1.2.1, .int .i64 o1.2.2.1, .int .i64 o1.2.2.2.1, .int .i64 o1.2.2.2.2.1, .int .i64 o1.2.2.2.2.2.1, .int .i64 o1.2.2.2.2.2.2] rfl rfl 39 _ hbr HI5.out rfl HO5.out w.heap.size w hxr HGR.out ?_; intro w9 hb9 hx9))
              rw [Exit.noGoto_ret]
              exact bodyPost_ret (run_op rfl rfl rfl hb9 rfl) rfl ⟨by rw [HZ.out]; rfl, hx9⟩
          · have d1 : decide ((q : Int) < (s.nodes.length : Int)) = false := decide_eq_false (by omega)
            have d1' : decide (q < s.nodes.length) = false := decide_eq_false hlt
            have HN : Hid (L1 = none) := Lib.hid (by rw [HL.out, fromO_end hlt])
            clear hlt hq HL
            go_wp2
            go_roundw
            case rel => exact ⟨1, rfl, rfl, .inr (.inl rfl), Lib.hid ⟨fun _ => HN.out, fun h => by omega, fun h => by omega⟩, HXQ, HBQ⟩
            case measure => simp [intOf]
      · have hix : ∀ W : World, (Instr.index 54 (.agg wayA) (.int .i64 1)).run Try.prog W = .ok (.func (.func 39) #[] #[]) W := HIX.out 1 (by omega) _ rfl
        have g0 := HB2.out.ext HXR.out |>.cell 0
        go_wp2_with fail
        go_loopw [9, 24] (fun k i wr => ∃ q : Nat, i = .int .i64 q ∧ k = .bool false ∧ q ≤ s.nodes.length ∧ Hid (L2 = fromO s.nodes (way2 c s now) (s.nodes.length - q) q) ∧ Hid (Ext W3 wr) ∧ Hid (Blk wr go 39 #[.int .i64 0, .int .i64 0, .int .i64 0, .int .i64 0, .int .i64 0, .int .i64 0, .int .i64 0])) (fun _ i _ => s.nodes.length - (intOf i).toNat)
        case atStart => exact ⟨0, rfl, rfl, Nat.zero_le _, HL20, HXR, HBR⟩
        case round =>
          obtain ⟨q, rfl, rfl, hq, HL, HXQ, HBQ⟩ := hrel
          by_cases hlt : q < s.nodes.length
          · have d1 : decide ((q : Int) < (s.nodes.length : Int)) = true := decide_eq_true (by omega)
            have d1' : decide (q < s.nodes.length) = true := decide_eq_true hlt
            obtain ⟨n, hn⟩ : ∃ n, s.nodes[q]? = some n := ⟨_, List.getElem?_eq_getElem hlt⟩
            have HLT := Lib.hid hlt
            have wq9 : wrap64 ((q : Int) + 1) = (q : Int) + 1 := IntWalk.wrap64_in _ (by omega)
            have HHIT : Hid (∀ o, way2 c s now q n = some o → L2 = some o) := Lib.hid fun o h => by rw [HL.out]; exact fromO_hit2 hlt hn h
            have HMIS : Hid (way2 c s now q n = none → L2 = fromO s.nodes (way2 c s now) (s.nodes.length - (q + 1)) (q + 1)) := Lib.hid fun h => by rw [HL.out]; exact fromO_miss2 hlt hn h
            have HBC := Lib.hid (HW2.out q n wr hn (Ext.trans HX.out HXQ.out))
            obtain ⟨g0, g1, g2, g3, g4, g5⟩ := Blk.six (HB2.out.ext HXQ.out)
            obtain ⟨k0, k1, k2, k3, k4, k5, k6, k7, k8⟩ := Blk.nine (HB1.out.ext HXQ.out)
            clear hn hlt hq HL
            go_wp2_with fail
            refine HBC.out.mono ?_
            rintro e6 w6 ⟨rfl, hx6⟩
            replace HXQ := Lib.hid (Ext.trans HXQ.out hx6)
            replace HBQ := Lib.hid (HBQ.out.ext hx6)
            clear hx6 HBC g0 g1 g2 g3 g4 g5 k0 k1 k2 k3 k4 k5 k6 k7 k8
            simp only []
            obtain ⟨x, hx⟩ : ∃ x, x = way2 c s now q n := ⟨_, rfl⟩
            rw [← hx]
            rw [← hx] at HHIT HMIS
            clear hx
            cases x with
            | none =>
              have HS := Lib.hid (HMIS.out rfl)
              unfold optV opA zeroO
              have HI5 : Hid ((Try.prog.info? 39).map (·.size) = some (#[.int .i64 0, .int .i64 0, .int .i64 0, .int .i64 0, .int .i64 0, .int .i64 0, .int .i64 0] : Array Value).size) := Lib.hid infoOp
              have HO5 : Hid ((#[.int .i64 0, .int .i64 0, .int .i64 0, .int .i64 0, .int .i64 0, .int .i64 0, .int .i64 0] : Array Value).all (·.oneCell') = true) := Lib.hid (by simp [Value.oneCell'])
              go_wp2_with (refine wpList_storeB rfl 39 _ _ rfl go #[.int .i64 0, .int .i64 0, .int .i64 0, .int .i64 0, .int .i64 0, .int .i64 0, .int .i64 0] rfl rfl 39 _ HBQ.out HI5.out rfl HO5.out W3.heap.size W3 HXQ.out HGO.out ?_; intro w7 hb7 hx7)
              go_roundw
              case rel => exact ⟨q + 1, by first | (rw [wq9]; rfl) | rfl, rfl, HLT.out, HS, Lib.hid hx7, Lib.hid hb7⟩
              case measure => first | (rw [wq9]; exact measQ HLT.out) | exact measQ HLT.out
            | some o1 =>
              have HZ : Hid (R = some o1) := Lib.hid (HF2.out (HLL.out.1 (by omega)) _ (HHIT.out _ rfl))
              unfold optV opA
              have HI5 : Hid ((Try.prog.info? 39).map (·.size) = some (#[.int .i64 o1.1, .int .i64 o1.2.1, .int .i64 o1.2.2.1, .int .i64 o1.2.2.2.1, .int .i64 o1.2.2.2.2.1, .int .i64 o1.2.2.2.2.2.1, .int .i64 o1.2.2.2.2.2.2] : Array Value).size) := Lib.hid infoOp
              have HO5 : Hid ((#[.int .i64 o1.1, .int .i64 o1.2.1, .int .i64 o1.2.2.1, .int .i64 o1.2.2.2.1, .int .i64 o1.2.2.2.2.1, .int .i64 o1.2.2.2.2.2.1, .int .i64 o1.2.2.2.2.2.2] : Array Value).all (·.oneCell') = true) := Lib.hid (by simp [Value.oneCell'])
              go_wp2_with (first | (refine wpList_storeB rfl 39 _ _ rfl go #[.int .i64 o1.1, .int .i64 o1.2.1, .int .i64 o1.2.2.1, .int .i64 o1.2.2.2.1, .int .i64 o1.2.2.2.2.1, .int .i64 o1.2.2.2.2.2.1, .int .i64 o1.2.2.2.2.2.2] rfl rfl 39 _ HBQ.out HI5.out rfl HO5.out W3.heap.size W3 HXQ.out HGO.out ?_; intro w8 hb8 hx8; obtain ⟨p0, p1, p2, p3, p4, p5, p6⟩ := Blk.seven hb8; have hbr := HB3.out.ext hx8; have hxr := Ext.trans HX.out hx8) | (refine wpList_storeB rfl 39 _ _ rfl gr #[.int .i64 o1.1, .int .i64 o1.2.1, .int .i64 o1.2.2.1, .int .i64 o1.2.2.2.1, .int .i64 o1.2.2.2.2.1, .int .i64 o1.2.2.2.2.2.1, .int .i64 o1.2.2.2.2.2.2] rfl rfl 39 _ hbr HI5.out rfl HO5.out w.heap.size w hxr HGR.out ?_; intro w9 hb9 hx9))
              rw [Exit.noGoto_ret]
              exact bodyPost_ret (run_op rfl rfl rfl hb9 rfl) rfl ⟨by rw [HZ.out]; rfl, hx9⟩
          · have d1 : decide ((q : Int) < (s.nodes.length : Int)) = false := decide_eq_false (by omega)
            have d1' : decide (q < s.nodes.length) = false := decide_eq_false hlt
            have HN : Hid (L2 = none) := Lib.hid (by rw [HL.out, fromO_end hlt])
            clear hlt hq HL
            go_wp2
            go_roundw
            case rel => exact ⟨2, rfl, rfl, .inr (.inr (.inl rfl)), Lib.hid ⟨fun _ => (HLL.out.1) (by omega), fun _ => HN.out, fun h => by omega⟩, HXQ, HBQ⟩
            case measure => simp [intOf]
      · have hix : ∀ W : World, (Instr.index 54 (.agg wayA) (.int .i64 2)).run Try.prog W = .ok (.func (.func 40) #[] #[]) W := HIX.out 2 (by omega) _ rfl
        have g0 := HB2.out.ext HXR.out |>.cell 0
        go_wp2_with fail
        go_loopw [9, 24] (fun k i wr => ∃ q : Nat, i = .int .i64 q ∧ k = .bool false ∧ q ≤ s.nodes.length ∧ Hid (L3 = fromO s.nodes (way3 c s) (s.nodes.length - q) q) ∧ Hid (Ext W3 wr) ∧ Hid (Blk wr go 39 #[.int .i64 0, .int .i64 0, .int .i64 0, .int .i64 0, .int .i64 0, .int .i64 0, .int .i64 0])) (fun _ i _ => s.nodes.length - (intOf i).toNat)
        case atStart => exact ⟨0, rfl, rfl, Nat.zero_le _, HL30, HXR, HBR⟩
        case round =>
          obtain ⟨q, rfl, rfl, hq, HL, HXQ, HBQ⟩ := hrel
          by_cases hlt : q < s.nodes.length
          · have d1 : decide ((q : Int) < (s.nodes.length : Int)) = true := decide_eq_true (by omega)
            have d1' : decide (q < s.nodes.length) = true := decide_eq_true hlt
            obtain ⟨n, hn⟩ : ∃ n, s.nodes[q]? = some n := ⟨_, List.getElem?_eq_getElem hlt⟩
            have HLT := Lib.hid hlt
            have wq9 : wrap64 ((q : Int) + 1) = (q : Int) + 1 := IntWalk.wrap64_in _ (by omega)
            have HHIT : Hid (∀ o, way3 c s q n = some o → L3 = some o) := Lib.hid fun o h => by rw [HL.out]; exact fromO_hit2 hlt hn h
            have HMIS : Hid (way3 c s q n = none → L3 = fromO s.nodes (way3 c s) (s.nodes.length - (q + 1)) (q + 1)) := Lib.hid fun h => by rw [HL.out]; exact fromO_miss2 hlt hn h
            have HBC := Lib.hid (HW3.out q n wr hn (Ext.trans HX.out HXQ.out))
            obtain ⟨g0, g1, g2, g3, g4, g5⟩ := Blk.six (HB2.out.ext HXQ.out)
            obtain ⟨k0, k1, k2, k3, k4, k5, k6, k7, k8⟩ := Blk.nine (HB1.out.ext HXQ.out)
            clear hn hlt hq HL
            go_wp2_with fail
            refine HBC.out.mono ?_
            rintro e6 w6 ⟨rfl, hx6⟩
            replace HXQ := Lib.hid (Ext.trans HXQ.out hx6)
            replace HBQ := Lib.hid (HBQ.out.ext hx6)
            clear hx6 HBC g0 g1 g2 g3 g4 g5 k0 k1 k2 k3 k4 k5 k6 k7 k8
            simp only []
            obtain ⟨x, hx⟩ : ∃ x, x = way3 c s q n := ⟨_, rfl⟩
            rw [← hx]
            rw [← hx] at HHIT HMIS
            clear hx
            cases x with
            | none =>
              have HS := Lib.hid (HMIS.out rfl)
              unfold optV opA zeroO
              have HI5 : Hid ((Try.prog.info? 39).map (·.size) = some (#[.int .i64 0, .int .i64 0, .int .i64 0, .int .i64 0, .int .i64 0, .int .i64 0, .int .i64 0] : Array Value).size) := Lib.hid infoOp
              have HO5 : Hid ((#[.int .i64 0, .int .i64 0, .int .i64 0, .int .i64 0, .int .i64 0, .int .i64 0, .int .i64 0] : Array Value).all (·.oneCell') = true) := Lib.hid (by simp [Value.oneCell'])
              go_wp2_with (refine wpList_storeB rfl 39 _ _ rfl go #[.int .i64 0, .int .i64 0, .int .i64 0, .int .i64 0, .int .i64 0, .int .i64 0, .int .i64 0] rfl rfl 39 _ HBQ.out HI5.out rfl HO5.out W3.heap.size W3 HXQ.out HGO.out ?_; intro w7 hb7 hx7)
              go_roundw
              case rel => exact ⟨q + 1, by first | (rw [wq9]; rfl) | rfl, rfl, HLT.out, HS, Lib.hid hx7, Lib.hid hb7⟩
              case measure => first | (rw [wq9]; exact measQ HLT.out) | exact measQ HLT.out
            | some o1 =>
              have HZ : Hid (R = some o1) := Lib.hid (by rw [HF3.out (HLL.out.1 (by omega)) (HLL.out.2.1 (by omega))]; exact HHIT.out _ rfl)
              unfold optV opA
              have HI5 : Hid ((Try.prog.info? 39).map (·.size) = some (#[.int .i64 o1.1, .int .i64 o1.2.1, .int .i64 o1.2.2.1, .int .i64 o1.2.2.2.1, .int .i64 o1.2.2.2.2.1, .int .i64 o1.2.2.2.2.2.1, .int .i64 o1.2.2.2.2.2.2] : Array Value).size) := Lib.hid infoOp
              have HO5 : Hid ((#[.int .i64 o1.1, .int .i64 o1.2.1, .int .i64 o1.2.2.1, .int .i64 o1.2.2.2.1, .int .i64 o1.2.2.2.2.1, .int .i64 o1.2.2.2.2.2.1, .int .i64 o1.2.2.2.2.2.2] : Array Value).all (·.oneCell') = true) := Lib.hid (by simp [Value.oneCell'])
              go_wp2_with (first | (refine wpList_storeB rfl 39 _ _ rfl go #[.int .i64 o1.1, .int .i64 o1.2.1, .int .i64 o1.2.2.1, .int .i64 o1.2.2.2.1, .int .i64 o1.2.2.2.2.1, .int .i64 o1.2.2.2.2.2.1, .int .i64 o1.2.2.2.2.2.2] rfl rfl 39 _ HBQ.out HI5.out rfl HO5.out W3.heap.size W3 HXQ.out HGO.out ?_; intro w8 hb8 hx8; obtain ⟨p0, p1, p2, p3, p4, p5, p6⟩ := Blk.seven hb8; have hbr := HB3.out.ext hx8; have hxr := Ext.trans HX.out hx8) | (refine wpList_storeB rfl 39 _ _ rfl gr #[.int .i64 o1.1, .int .i64 o1.2.1, .int .i64 o1.2.2.1, .int .i64 o1.2.2.2.1, .int .i64 o1.2.2.2.2.1, .int .i64 o1.2.2.2.2.2.1, .int .i64 o1.2.2.2.2.2.2] rfl rfl 39 _ hbr HI5.out rfl HO5.out w.heap.size w hxr HGR.out ?_; intro w9 hb9 hx9))
              rw [Exit.noGoto_ret]
              exact bodyPost_ret (run_op rfl rfl rfl hb9 rfl) rfl ⟨by rw [HZ.out]; rfl, hx9⟩
          · have d1 : decide ((q : Int) < (s.nodes.length : Int)) = false := decide_eq_false (by omega)
            have d1' : decide (q < s.nodes.length) = false := decide_eq_false hlt
            have HN : Hid (L3 = none) := Lib.hid (by rw [HL.out, fromO_end hlt])
            clear hlt hq HL
            go_wp2
            go_roundw
            case rel => exact ⟨3, rfl, rfl, .inr (.inr (.inr rfl)), Lib.hid ⟨fun _ => (HLL.out.1) (by omega), fun _ => (HLL.out.2.1) (by omega), fun _ => HN.out⟩, HXQ, HBQ⟩
            case measure => simp [intOf]
      · have HZ : Hid (R = none) := Lib.hid (by rw [HF3.out (HLL.out.1 (by omega)) (HLL.out.2.1 (by omega))]; exact HLL.out.2.2 (by omega))
        obtain ⟨p0, p1, p2, p3, p4, p5, p6⟩ := Blk.seven HBR.out
        have hbr := HB3.out.ext HXR.out
        have hxr := Ext.trans HX.out HXR.out
        have HI5 : Hid ((Try.prog.info? 39).map (·.size) = some (#[.int .i64 0, .int .i64 0, .int .i64 0, .int .i64 0, .int .i64 0, .int .i64 0, .int .i64 0] : Array Value).size) := Lib.hid infoOp
        have HO5 : Hid ((#[.int .i64 0, .int .i64 0, .int .i64 0, .int .i64 0, .int .i64 0, .int .i64 0, .int .i64 0] : Array Value).all (·.oneCell') = true) := Lib.hid (by simp [Value.oneCell'])
        go_wp2_with (refine wpList_storeB rfl 39 _ _ rfl gr #[.int .i64 0, .int .i64 0, .int .i64 0, .int .i64 0, .int .i64 0, .int .i64 0, .int .i64 0] rfl rfl 39 _ hbr HI5.out rfl HO5.out w.heap.size w hxr HGR.out ?_; intro w9 hb9 hx9)
        rw [Exit.noGoto_ret]
        exact bodyPost_ret (run_op rfl rfl rfl hb9 rfl) rfl ⟨by rw [HZ.out]; rfl, hx9⟩

end Go.Proofs.Ytkpcjdhnbjkaaaa

/- Package wave: what each function answers, of a state that may be. -/
namespace Go.Proofs.Ytkpcjdhnbjkaaaa
open Go.RowKit

theorem WAlone_any (c : Cf) (vn vj : Value) (s : St) (i : Int) (w : World) (hr : RdSt w vn vj s) (hR : RightP c s) :
    Calls Try.prog 11 #[stV vn vj s, .int .i64 i] w fun e w' => e = .returned (.bool (aloneI s i)) ∧ Ext w w' := by
  obtain ⟨z1, z2, z3, -, -⟩ := hR.w17
  exact WAlone_of vn vj s i w hr.nodes hr.jobs z1 z2 z3 fun k x h => (OkB.of_right hR k x h).1
theorem WWave_any (c : Cf) (vn vj : Value) (s : St) (w : World) (hr : RdSt w vn vj s) (hR : RightP c s) :
    Calls Try.prog 13 #[stV vn vj s] w fun e w' => e = .returned (.int .i64 (waveS s : Int)) ∧ Ext w w' :=
  Wave_any vn vj s w hr.nodes hR.w17.1
theorem WDone_any (c : Cf) (vn vj : Value) (s : St) (w : World) (hr : RdSt w vn vj s) (hR : RightP c s) :
    Calls Try.prog 15 #[stV vn vj s] w fun e w' => e = .returned (.bool (doneW s)) ∧ Ext w w' := by
  obtain ⟨z1, z2, z3, -, -⟩ := hR.w17
  exact Done_any vn vj s w hr.nodes hr.jobs z1 z2 z3 fun k x h => (OkB.of_right hR k x h).1
theorem WNext_any (c : Cf) (vn vj : Value) (s : St) (now : Int) (w : World) (hr : RdSt w vn vj s) (hR : RightP c s) (hn0 : 0 ≤ now) (hn1 : now ≤ 1000000) :
    Calls Try.prog 18 #[cfV c, stV vn vj s, .int .i64 now] w fun e w' => e = .returned (optV (nextW c s now)) ∧ Ext w w' := by
  obtain ⟨z1, z2, z3, z4, z5⟩ := hR.w17
  exact Next17_any c vn vj s now w hr.nodes hr.jobs z1 z2 z3 (OkB.of_right hR) hn0 hn1 z4 z5

end Go.Proofs.Ytkpcjdhnbjkaaaa

/- Layer 17, the statements: what all of them ask first. -/
namespace Go.Proofs.Ytkpcjdhnbjkaaaa
open Go.RowKit

set_option maxRecDepth 100000 in
set_option maxHeartbeats 8000000 in
theorem alive17_any (w : World) : Calls Try.prog 6 #[] w fun e w' => e = .returned (.bool true) ∧ Ext w w' := by
  obtain ⟨W1, hW1⟩ : ∃ W, W = w.alloc (.cells #[.int .i64 1, .int .i64 1, .int .i64 0, .int .i64 1, .int .i64 2, .int .i64 1, .int .i64 1, .int .i64 0, .int .i64 2000] 23) := ⟨_, rfl⟩
  obtain ⟨W2, hW2⟩ : ∃ W, W = W1.alloc (.cells #[.bool true, .bool false, .bool false, .int .i64 1, .int .i64 0] 46) := ⟨_, rfl⟩
  obtain ⟨W3, hW3⟩ : ∃ W, W = W2.alloc (.cells #[.slice (some ⟨w.heap.size + 1, 0, none⟩) 1 1, .slice none 0 0, .int .i64 2, .int .i64 1, .int .i64 0, .int .i64 0] 27) := ⟨_, rfl⟩
  have s1 : W1.heap.size = w.heap.size + 1 := by rw [hW1]; simp
  have s2 : W2.heap.size = w.heap.size + 1 + 1 := by rw [hW2]; simp [s1]
  have x1 : Ext w W1 := by rw [hW1]; exact (Below.refl _ _).alloc (Nat.le_refl _) _
  have x2 : Ext W1 W2 := by rw [hW2]; exact (Below.refl _ _).alloc (Nat.le_refl _) _
  have x3 : Ext W2 W3 := by rw [hW3]; exact (Below.refl _ _).alloc (Nat.le_refl _) _
  have b1 : Blk W3 w.heap.size 23 #[.int .i64 1, .int .i64 1, .int .i64 0, .int .i64 1, .int .i64 2, .int .i64 1, .int .i64 1, .int .i64 0, .int .i64 2000] := by
    have h : Blk W1 w.heap.size 23 #[.int .i64 1, .int .i64 1, .int .i64 0, .int .i64 1, .int .i64 2, .int .i64 1, .int .i64 1, .int .i64 0, .int .i64 2000] := by rw [hW1]; exact Blk.new _ _ _
    exact h.ext (Ext.trans x2 x3)
  have b2 : Blk W3 (w.heap.size + 1) 46 #[.bool true, .bool false, .bool false, .int .i64 1, .int .i64 0] := by
    have h : Blk W2 W1.heap.size 46 #[.bool true, .bool false, .bool false, .int .i64 1, .int .i64 0] := by rw [hW2]; exact Blk.new _ _ _
    rw [s1] at h
    exact h.ext x3
  have b3 : Blk W3 (w.heap.size + 1 + 1) 27 #[.slice (some ⟨w.heap.size + 1, 0, none⟩) 1 1, .slice none 0 0, .int .i64 2, .int .i64 1, .int .i64 0, .int .i64 0] := by
    have h : Blk W3 W2.heap.size 27 #[.slice (some ⟨w.heap.size + 1, 0, none⟩) 1 1, .slice none 0 0, .int .i64 2, .int .i64 1, .int .i64 0, .int .i64 0] := by rw [hW3]; exact Blk.new _ _ _
    rw [s2] at h
    exact h
  have HX3 : Hid (Ext w W3) := Lib.hid (Ext.trans x1 (Ext.trans x2 x3))
  have HW3 : Hid (W3 = ((w.alloc (.cells #[.int .i64 1, .int .i64 1, .int .i64 0, .int .i64 1, .int .i64 2, .int .i64 1, .int .i64 1, .int .i64 0, .int .i64 2000] 23)).alloc (.cells #[.bool true, .bool false, .bool false, .int .i64 1, .int .i64 0] 46)).alloc (.cells #[.slice (some ⟨w.heap.size + 1, 0, none⟩) 1 1, .slice none 0 0, .int .i64 2, .int .i64 1, .int .i64 0, .int .i64 0] 27)) := Lib.hid (by rw [hW3, hW2, hW1])
  have HB1 := Lib.hid b1
  have HB2 := Lib.hid b2
  have HB3 := Lib.hid b3
  clear hW3 hW2 hW1 s1 s2 x1 x2 x3 b1 b2 b3
  have HNA : Hid (∀ W A, Blk W A 46 #[.bool true, .bool false, .bool false, .int .i64 1, .int .i64 0] → Calls Try.prog 18 #[.agg #[.int .i64 1, .int .i64 1, .int .i64 0, .int .i64 1, .int .i64 2, .int .i64 1, .int .i64 1, .int .i64 0, .int .i64 2000], .agg #[.slice (some ⟨A, 0, none⟩) 1 1, .slice none 0 0, .int .i64 2, .int .i64 1, .int .i64 0, .int .i64 0], .int .i64 0] W fun e w' => e = .returned (.tuple #[.agg #[.int .i64 16, .int .i64 0, .int .i64 0, .int .i64 0, .int .i64 0, .int .i64 0, .int .i64 0], .bool true]) ∧ Ext W w') := Lib.hid fun W A hb => by
    have h := WNext_any exWc (.slice (some ⟨A, 0, none⟩) 1 1) (.slice none 0 0) exWs 0 W ⟨rdS_made (K := 5) (n := 1) hb rfl (by decide), rdS_nil _ _⟩ exWs_right (by omega) (by omega)
    rw [exWs_next] at h
    exact h
  have HRT : Hid (∀ W A, Blk W A 46 #[.bool true, .bool true, .bool false, .int .i64 1, .int .i64 0] → RdSt W (.slice (some ⟨A, 0, none⟩) 1 1) (.slice none 0 0) exWt) := Lib.hid fun W A hb => ⟨rdS_made (K := 5) (n := 1) hb rfl (by decide), rdS_nil _ _⟩
  have HNB : Hid (∀ W A, Blk W A 46 #[.bool true, .bool true, .bool false, .int .i64 1, .int .i64 0] → Calls Try.prog 18 #[.agg #[.int .i64 1, .int .i64 1, .int .i64 0, .int .i64 1, .int .i64 2, .int .i64 1, .int .i64 1, .int .i64 0, .int .i64 2000], .agg #[.slice (some ⟨A, 0, none⟩) 1 1, .slice none 0 0, .int .i64 2, .int .i64 1, .int .i64 0, .int .i64 0], .int .i64 0] W fun e w' => e = .returned (.tuple #[.agg #[.int .i64 18, .int .i64 0, .int .i64 0, .int .i64 0, .int .i64 0, .int .i64 0, .int .i64 0], .bool true]) ∧ Ext W w') := Lib.hid fun W A hb => by
    have h := WNext_any exWc (.slice (some ⟨A, 0, none⟩) 1 1) (.slice none 0 0) exWt 0 W (HRT.out W A hb) exWt_right (by omega) (by omega)
    rw [exWt_next] at h
    exact h
  have HWA : Hid (∀ W A, Blk W A 46 #[.bool true, .bool true, .bool false, .int .i64 1, .int .i64 0] → Calls Try.prog 13 #[.agg #[.slice (some ⟨A, 0, none⟩) 1 1, .slice none 0 0, .int .i64 2, .int .i64 1, .int .i64 0, .int .i64 0]] W fun e w' => e = .returned (.int .i64 1) ∧ Ext W w') := Lib.hid fun W A hb => by
    have h := WWave_any exWc (.slice (some ⟨A, 0, none⟩) 1 1) (.slice none 0 0) exWt W (HRT.out W A hb) exWt_right
    rw [exWt_wave] at h
    exact h
  have HBH : Hid (∀ W A, Blk W A 46 #[.bool true, .bool true, .bool false, .int .i64 1, .int .i64 0] → Calls Try.prog 10 #[.agg #[.slice (some ⟨A, 0, none⟩) 1 1, .slice none 0 0, .int .i64 2, .int .i64 1, .int .i64 0, .int .i64 0]] W fun e w' => ∃ B c', e = .returned (.slice B 1 c') ∧ Ext W w') := Lib.hid fun W A hb => by
    have h := WBehind_any exWc (.slice (some ⟨A, 0, none⟩) 1 1) (.slice none 0 0) exWt W (HRT.out W A hb) exWt_right
    rw [exWt_behind] at h
    exact h.mono (by rintro e w' ⟨B, c', h1, -, h2⟩; exact ⟨B, c', h1, h2⟩)
  have HDO : Hid (∀ W A, Blk W A 46 #[.bool true, .bool true, .bool false, .int .i64 1, .int .i64 0] → Calls Try.prog 15 #[.agg #[.slice (some ⟨A, 0, none⟩) 1 1, .slice none 0 0, .int .i64 2, .int .i64 1, .int .i64 0, .int .i64 0]] W fun e w' => e = .returned (.bool false) ∧ Ext W w') := Lib.hid fun W A hb => by
    have h := WDone_any exWc (.slice (some ⟨A, 0, none⟩) 1 1) (.slice none 0 0) exWt W (HRT.out W A hb) exWt_right
    rw [exWt_done] at h
    exact h
  have HAO : Hid (∀ W A, Blk W A 46 #[.bool true, .bool true, .bool false, .int .i64 1, .int .i64 0] → Calls Try.prog 11 #[.agg #[.slice (some ⟨A, 0, none⟩) 1 1, .slice none 0 0, .int .i64 2, .int .i64 1, .int .i64 0, .int .i64 0], .int .i64 0] W fun e w' => e = .returned (.bool false) ∧ Ext W w') := Lib.hid fun W A hb => by
    have h := WAlone_any exWc (.slice (some ⟨A, 0, none⟩) 1 1) (.slice none 0 0) exWt 0 W (HRT.out W A hb) exWt_right
    rw [exWt_alone] at h
    exact h
  go_enter Try.func6, Try.ntmps6
  go_upto_region 3 with (fail)
  rw [← HW3.out]
  obtain ⟨gc, hgc⟩ : ∃ g, g = w.heap.size := ⟨_, rfl⟩
  obtain ⟨gn, hgn⟩ : ∃ g, g = w.heap.size + 1 := ⟨_, rfl⟩
  obtain ⟨gs, hgs⟩ : ∃ g, g = w.heap.size + 1 + 1 := ⟨_, rfl⟩
  rw [← hgs, ← hgn, ← hgc]
  rw [← hgs, ← hgn] at HB3
  rw [← hgn] at HB2
  rw [← hgc] at HB1
  have HG : Hid (w.heap.size ≤ gn ∧ gc ≠ gn ∧ gs ≠ gn) := Lib.hid (by omega)
  clear HW3 hgc hgs hgn
  obtain ⟨g0, g1, g2, g3, g4, g5⟩ := Blk.six HB3.out
  obtain ⟨k0, k1, k2, k3, k4, k5, k6, k7, k8⟩ := Blk.nine HB1.out
  have HC1 := Lib.hid (HNA.out W3 gn HB2.out)
  go_wp2_with fail
  refine HC1.out.mono ?_
  rintro e4 w4 ⟨rfl, hx4⟩
  have HX4 : Hid (Ext W3 w4) := Lib.hid hx4
  clear hx4 HC1 HNA g0 g1 g2 g3 g4 g5 k0 k1 k2 k3 k4 k5 k6 k7 k8
  simp only []
  go_upto_region 4 with (fail)
  obtain ⟨W5, hW5⟩ : ∃ W, W = w4.alloc (.cells #[.int .i64 16, .int .i64 0, .int .i64 0, .int .i64 0, .int .i64 0, .int .i64 0, .int .i64 0] 39) := ⟨_, rfl⟩
  have HX5 : Hid (Ext W3 W5) := Lib.hid (by rw [hW5]; exact Ext.trans HX4.out ((Below.refl _ _).alloc (Nat.le_refl _) _))
  have HO1 : Hid (Blk W5 w4.heap.size 39 #[.int .i64 16, .int .i64 0, .int .i64 0, .int .i64 0, .int .i64 0, .int .i64 0, .int .i64 0]) := Lib.hid (by rw [hW5]; exact Blk.new _ _ _)
  rw [← hW5]
  obtain ⟨g3, hg3⟩ : ∃ g, g = w4.heap.size := ⟨_, rfl⟩
  have HG3 : Hid (g3 ≠ gn) := Lib.hid (by have := HX4.out.size; have := HB2.out.lt; omega)
  rw [← hg3] at HO1 ⊢
  clear hW5 hg3
  have g0 := (HB3.out.ext HX5.out).cell 0
  have n1 := (HB2.out.ext HX5.out).cell 1
  have fz := (HB2.out.ext HX5.out).frozen 1
  go_upto_region 5 with (fail)
  obtain ⟨W6, hW6⟩ : ∃ W, W = W5.setCell ⟨gn, 1, none⟩ (.bool true) := ⟨_, rfl⟩
  have HX6 : Hid (Ext w W6) := Lib.hid (by rw [hW6]; exact Below.setCell (Ext.trans HX3.out HX5.out) HG.out.1 _)
  replace HB1 : Hid (Blk W6 gc 23 #[.int .i64 1, .int .i64 1, .int .i64 0, .int .i64 1, .int .i64 2, .int .i64 1, .int .i64 1, .int .i64 0, .int .i64 2000]) := Lib.hid (by rw [hW6]; exact (HB1.out.ext HX5.out).far HG.out.2.1 _)
  replace HB3 : Hid (Blk W6 gs 27 #[.slice (some ⟨gn, 0, none⟩) 1 1, .slice none 0 0, .int .i64 2, .int .i64 1, .int .i64 0, .int .i64 0]) := Lib.hid (by rw [hW6]; exact (HB3.out.ext HX5.out).far HG.out.2.2 _)
  replace HO1 : Hid (Blk W6 g3 39 #[.int .i64 16, .int .i64 0, .int .i64 0, .int .i64 0, .int .i64 0, .int .i64 0, .int .i64 0]) := Lib.hid (by rw [hW6]; exact HO1.out.far HG3.out _)
  replace HB2 : Hid (Blk W6 gn 46 #[.bool true, .bool true, .bool false, .int .i64 1, .int .i64 0]) := Lib.hid (by rw [hW6]; exact (HB2.out.ext HX5.out).set_ 1 (.bool true))
  rw [← hW6]
  clear hW6 g0 n1 fz HX5 HX4 HX3 HG HG3
  obtain ⟨g0, g1, g2, g3', g4, g5⟩ := Blk.six HB3.out
  obtain ⟨k0, k1, k2, k3, k4, k5, k6, k7, k8⟩ := Blk.nine HB1.out
  have HC2 := Lib.hid (HNB.out W6 gn HB2.out)
  go_wp2_with fail
  refine HC2.out.mono ?_
  rintro e7 w7 ⟨rfl, hx7⟩
  have HX7 : Hid (Ext W6 w7) := Lib.hid hx7
  clear hx7 HC2 HNB g0 g1 g2 g3' g4 g5 k0 k1 k2 k3 k4 k5 k6 k7 k8
  simp only []
  go_upto_region 6 with (fail)
  obtain ⟨W8, hW8⟩ : ∃ W, W = w7.alloc (.cells #[.int .i64 18, .int .i64 0, .int .i64 0, .int .i64 0, .int .i64 0, .int .i64 0, .int .i64 0] 39) := ⟨_, rfl⟩
  have HX8 : Hid (Ext W6 W8) := Lib.hid (by rw [hW8]; exact Ext.trans HX7.out ((Below.refl _ _).alloc (Nat.le_refl _) _))
  have HO2 : Hid (Blk W8 w7.heap.size 39 #[.int .i64 18, .int .i64 0, .int .i64 0, .int .i64 0, .int .i64 0, .int .i64 0, .int .i64 0]) := Lib.hid (by rw [hW8]; exact Blk.new _ _ _)
  rw [← hW8]
  obtain ⟨g8, hg8⟩ : ∃ g, g = w7.heap.size := ⟨_, rfl⟩
  rw [← hg8] at HO2 ⊢
  clear hW8 hg8
  obtain ⟨g0, g1, g2, g3', g4, g5⟩ := Blk.six (HB3.out.ext HX8.out)
  obtain ⟨p0, p1, p2, p3, p4, p5, p6⟩ := Blk.seven (HO1.out.ext HX8.out)
  obtain ⟨r0, r1, r2, r3, r4, r5, r6⟩ := Blk.seven HO2.out
  have HC := Lib.hid (HWA.out W8 gn (HB2.out.ext HX8.out))
  go_wp2_with fail
  refine HC.out.mono ?_
  rintro e9 v0 ⟨rfl, hx9⟩
  have HY0 : Hid (Ext W6 v0) := Lib.hid (Ext.trans HX8.out hx9)
  clear hx9 HC g0 g1 g2 g3' g4 g5 p0 p1 p2 p3 p4 p5 p6 r0 r1 r2 r3 r4 r5 r6
  simp only []
  obtain ⟨g0, g1, g2, g3', g4, g5⟩ := Blk.six (HB3.out.ext HY0.out)
  have HC := Lib.hid (HBH.out v0 gn (HB2.out.ext HY0.out))
  go_wp2_with fail
  refine HC.out.mono ?_
  rintro e9 v1 ⟨B9, c9, rfl, hx9⟩
  have HY1 : Hid (Ext W6 v1) := Lib.hid (Ext.trans HY0.out hx9)
  clear hx9 HC g0 g1 g2 g3' g4 g5
  simp only []
  obtain ⟨g0, g1, g2, g3', g4, g5⟩ := Blk.six (HB3.out.ext HY1.out)
  have HC := Lib.hid (HDO.out v1 gn (HB2.out.ext HY1.out))
  go_wp2_with fail
  refine HC.out.mono ?_
  rintro e9 v2 ⟨rfl, hx9⟩
  have HY2 : Hid (Ext W6 v2) := Lib.hid (Ext.trans HY1.out hx9)
  clear hx9 HC g0 g1 g2 g3' g4 g5
  simp only []
  obtain ⟨g0, g1, g2, g3', g4, g5⟩ := Blk.six (HB3.out.ext HY2.out)
  have HC := Lib.hid (HAO.out v2 gn (HB2.out.ext HY2.out))
  go_wp2_with fail
  refine HC.out.mono ?_
  rintro e9 v3 ⟨rfl, hx9⟩
  have HY3 : Hid (Ext W6 v3) := Lib.hid (Ext.trans HY2.out hx9)
  clear hx9 HC g0 g1 g2 g3' g4 g5
  simp only []
  go_wp2
  go_ret
  exact ⟨rfl, Ext.trans HX6.out HY3.out⟩

end Go.Proofs.Ytkpcjdhnbjkaaaa

/- Layer 17: whether a number is a time. -/
namespace Go.Proofs.Ytkpcjdhnbjkaaaa
open Go.RowKit

set_option maxRecDepth 100000 in
theorem time17_any (now : Int) (w : World) : Calls Try.prog 17 #[.int .i64 now] w fun e w' => e = .returned (.bool (decide (0 ≤ now) && decide (now ≤ 1000000))) ∧ w = w' := by
  by_cases h1 : 0 ≤ now
  · have d1 : decide (0 ≤ now) = true := decide_eq_true h1
    by_cases h2 : now ≤ 1000000
    · have d2 : decide (now ≤ 1000000) = true := decide_eq_true h2
      rw [d1, d2]
      clear h1 h2
      go_enter Try.func17, Try.ntmps17
      go_wp2
      go_ret
      exact ⟨rfl, rfl⟩
    · have d2 : decide (now ≤ 1000000) = false := decide_eq_false h2
      rw [d1, d2]
      clear h1 h2
      go_enter Try.func17, Try.ntmps17
      go_wp2
      go_ret
      exact ⟨rfl, rfl⟩
  · have d1 : decide (0 ≤ now) = false := decide_eq_false h1
    rw [d1, Bool.false_and]
    clear h1
    go_enter Try.func17, Try.ntmps17
    go_wp2
    go_ret
    exact ⟨rfl, rfl⟩

end Go.Proofs.Ytkpcjdhnbjkaaaa

/- The reference's words for 'the same numbers'. -/
namespace Go.Proofs.Ytkpcjdhnbjkaaaa
open Go.RowKit

set_option maxHeartbeats 1000000 in
theorem Ints_any (xs ys : List Int) (u v : Value) (w : World) (hu : Rd w u (xs.map I)) (hv : Rd w v (ys.map I)) :
    Calls Try.prog 9 #[u, v] w fun e w' => e = .returned (.bool (decide (xs = ys))) ∧ ∃ n, w' = w.drewN n := by
  obtain ⟨A, c, rfl, hlc, hcm, hca⟩ := hu
  obtain ⟨A', c', rfl, hlc', hcm', hcb⟩ := hv
  simp only [List.length_map] at *
  unfold maxLen at hcm hcm'
  by_cases hl : xs.length = ys.length
  · have HL := Lib.hid hl
    rw [hl] at hlc hca ⊢
    clear hl
    go_enter Try.func9, Try.ntmps9
    go_wp2
    go_loopw [5] (fun i' wr => ∃ i k : Nat, i' = .int .i64 i ∧ i ≤ ys.length ∧ xs.take i = ys.take i ∧ wr = w.drewN k) (fun i' _ => ys.length - (intOf i').toNat)
    case atStart => exact ⟨0, 0, rfl, by omega, rfl, rfl⟩
    case round =>
      obtain ⟨i, k, rfl, hi, htk, rfl⟩ := hrel
      have HT := Lib.hid htk
      clear htk
      by_cases hlt : i < ys.length
      · have hlx : i < xs.length := by have := HL.out; omega
        obtain ⟨b, o, rfl, hb, hc1⟩ := hca (by omega)
        obtain ⟨b', o', rfl, hb', hc2⟩ := hcb (by omega)
        have e1 : w.cell? ⟨b, o + i, none⟩ = some (I xs[i]) := hc1 i _ (by simp [hlx])
        have e2 : w.cell? ⟨b', o' + i, none⟩ = some (I ys[i]) := hc2 i _ (by simp [hlt])
        clear hc1 hc2 hca hcb
        generalize hx : xs[i] = x at e1
        generalize hy : ys[i] = y at e2
        have HX := Lib.hid hx
        have HY := Lib.hid hy
        clear hx hy
        simp only [I] at e1 e2
        by_cases hxy : x = y
        · subst hxy
          go_wp2
          go_quiet (fail)
          go_wp2
          go_roundw
          case rel => exact ⟨i + 1, _, by go_num, by omega, by rw [take_snoc _ _ hlx, take_snoc _ _ hlt, HT.out, HX.out, HY.out], rfl⟩
          case measure => simp [intOf]; omega
        · have hne : ((x : Int) == (y : Int)) = false := by rw [beq_eq_false_iff_ne]; intro e; exact hxy (by first | exact UInt8.toNat_inj.1 (by omega) | omega)
          have hne2 : ((x : Int) != (y : Int)) = true := by rw [bne_iff_ne]; intro e; exact hxy (by first | exact UInt8.toNat_inj.1 (by omega) | omega)
          have HN := Lib.hid hxy
          clear hxy
          go_wp2
          go_quiet (fail)
          go_wp2
          go_ret
          refine ⟨?_, _, World.drewN_drewN _ _ _⟩
          rw [decide_eq_false (fun e => HN.out (by rw [← HX.out, ← HY.out]; simp only [e]))]
          rfl
      · obtain rfl : i = ys.length := by omega
        go_wp2
        go_ret
        refine ⟨?_, _, rfl⟩
        have := HT.out
        rw [List.take_length, ← HL.out, List.take_length] at this
        rw [decide_eq_true this]
        rfl
  · have hlb : ((xs.length : Int) == (ys.length : Int)) = false := by rw [beq_eq_false_iff_ne]; omega
    have H := Lib.hid hl
    clear hl
    go_enter Try.func9, Try.ntmps9
    go_wp2
    go_ret
    exact ⟨by rw [decide_eq_false (fun e => H.out (by rw [e]))]; rfl, 0, rfl⟩

end Go.Proofs.Ytkpcjdhnbjkaaaa

/- Layer 17: who is behind, and the rest: the law, walked. -/
namespace Go.Proofs.Ytkpcjdhnbjkaaaa
open Go.RowKit

set_option maxRecDepth 100000 in
set_option maxHeartbeats 16000000 in
theorem WaveLooks_calls (c : Cf) (vn vj : Value) (s : St) (node : Int) (w : World) (hr : RdSt w vn vj s) :
    Calls Try.prog 3 #[cfV c, stV vn vj s, .int .i64 node] w fun e w' => e = .returned (.bool true) ∧ Ext w w' := by
  have HR := Lib.hid hr
  have HAL := Lib.hid fun W => alive17_any W
  have HRI : Hid (∀ W, Ext w W → Calls Try.prog 7 #[cfV c, stV vn vj s] W fun e w' => ∃ b : Bool, e = .returned (.bool b) ∧ (b = true ↔ RightP c s) ∧ Ext W w') := Lib.hid fun W hW => RightS_any c vn vj s W (HR.out.nodes.ext hW) (HR.out.jobs.ext hW)
  unfold cfV stV at HRI
  unfold cfV stV
  obtain ⟨W1, hW1⟩ : ∃ W, W = w.alloc (.cells #[.int .i64 c.nodes, .int .i64 c.queues, .int .i64 c.quota, .int .i64 c.wave, .int .i64 c.lease, .int .i64 c.retry, .int .i64 c.deadline, .int .i64 c.room, .int .i64 c.disk] 23) := ⟨_, rfl⟩
  obtain ⟨W2, hW2⟩ : ∃ W, W = W1.alloc (.cells #[vn, vj, .int .i64 s.goal, .int .i64 s.prior, .int .i64 s.mode, .int .i64 s.term] 27) := ⟨_, rfl⟩
  have s1 : W1.heap.size = w.heap.size + 1 := by rw [hW1]; simp
  have x1 : Ext w W1 := by rw [hW1]; exact (Below.refl _ _).alloc (Nat.le_refl _) _
  have x2 : Ext W1 W2 := by rw [hW2]; exact (Below.refl _ _).alloc (Nat.le_refl _) _
  have HX2 : Hid (Ext w W2) := Lib.hid (Ext.trans x1 x2)
  have b1 : Blk W2 w.heap.size 23 #[.int .i64 c.nodes, .int .i64 c.queues, .int .i64 c.quota, .int .i64 c.wave, .int .i64 c.lease, .int .i64 c.retry, .int .i64 c.deadline, .int .i64 c.room, .int .i64 c.disk] := by
    have h : Blk W1 w.heap.size 23 #[.int .i64 c.nodes, .int .i64 c.queues, .int .i64 c.quota, .int .i64 c.wave, .int .i64 c.lease, .int .i64 c.retry, .int .i64 c.deadline, .int .i64 c.room, .int .i64 c.disk] := by rw [hW1]; exact Blk.new _ _ _
    exact h.ext x2
  have b2 : Blk W2 (w.heap.size + 1) 27 #[vn, vj, .int .i64 s.goal, .int .i64 s.prior, .int .i64 s.mode, .int .i64 s.term] := by
    have h : Blk W2 W1.heap.size 27 #[vn, vj, .int .i64 s.goal, .int .i64 s.prior, .int .i64 s.mode, .int .i64 s.term] := by rw [hW2]; exact Blk.new _ _ _
    rw [s1] at h
    exact h
  have HB1 := Lib.hid b1
  have HB2 := Lib.hid b2
  have HW2 : Hid (W2 = (w.alloc (.cells #[.int .i64 c.nodes, .int .i64 c.queues, .int .i64 c.quota, .int .i64 c.wave, .int .i64 c.lease, .int .i64 c.retry, .int .i64 c.deadline, .int .i64 c.room, .int .i64 c.disk] 23)).alloc (.cells #[vn, vj, .int .i64 s.goal, .int .i64 s.prior, .int .i64 s.mode, .int .i64 s.term] 27)) := Lib.hid (by rw [hW2, hW1])
  clear hW2 hW1 s1 x1 x2 b1 b2 hr
  go_enter Try.func3, Try.ntmps3
  go_upto_region 1 with (fail)
  rw [← HW2.out]
  obtain ⟨gc, hgc⟩ : ∃ g, g = w.heap.size := ⟨_, rfl⟩
  obtain ⟨gs, hgs⟩ : ∃ g, g = w.heap.size + 1 := ⟨_, rfl⟩
  rw [← hgs, ← hgc]
  rw [← hgs] at HB2
  rw [← hgc] at HB1
  clear HW2 hgc hgs
  have HC1 := Lib.hid (HAL.out W2)
  go_wp2_with fail
  refine HC1.out.mono ?_
  rintro e3 w3 ⟨rfl, hx3⟩
  have HX3 : Hid (Ext W2 w3) := Lib.hid hx3
  clear hx3 HC1 HAL
  simp only []
  have HC2 := Lib.hid (HRI.out w3 (Ext.trans HX2.out HX3.out))
  obtain ⟨g0, g1, g2, g3, g4, g5⟩ := Blk.six (HB2.out.ext HX3.out)
  obtain ⟨k0, k1, k2, k3, k4, k5, k6, k7, k8⟩ := Blk.nine (HB1.out.ext HX3.out)
  go_wp2_with fail
  refine HC2.out.mono ?_
  rintro e4 w4 ⟨b, rfl, hb, hx4⟩
  have HX4 : Hid (Ext W2 w4) := Lib.hid (Ext.trans HX3.out hx4)
  have HBB := Lib.hid hb
  clear hx4 hb HC2 HRI g0 g1 g2 g3 g4 g5 k0 k1 k2 k3 k4 k5 k6 k7 k8
  simp only []
  cases b with
  | false =>
    go_wp2
    go_ret
    exact ⟨rfl, Ext.trans HX2.out HX4.out⟩
  | true =>
    have hR : RightP c s := HBB.out.1 rfl
    obtain ⟨z1, z2, z3, -, -⟩ := hR.w17
    have HBE : Hid (∀ (i : Nat) n W, s.nodes[i]? = some n → Ext w W → Calls Try.prog 8 #[stV vn vj s, .int .i64 (i : Int)] W fun e w' => e = .returned (.bool (behindN s n)) ∧ Ext W w') := Lib.hid fun i n W hi hW => RefBehind_any vn vj s i n W (HR.out.nodes.ext hW) hi z1
    have HBH : Hid (∀ W, Ext w W → Calls Try.prog 10 #[stV vn vj s] W fun e w' => ∃ A c', e = .returned (.slice A (behI s).length c') ∧ Rd w' (.slice A (behI s).length c') ((behI s).map I) ∧ Ext W w') := Lib.hid fun W hW => WBehind_any c vn vj s W (HR.out.ext hW) hR
    have HA1 : Hid (∀ W, Ext w W → Calls Try.prog 11 #[stV vn vj s, .int .i64 node] W fun e w' => e = .returned (.bool (aloneI s node)) ∧ Ext W w') := Lib.hid fun W hW => WAlone_any c vn vj s node W (HR.out.ext hW) hR
    have HA2 : Hid (∀ W, Ext w W → Calls Try.prog 12 #[stV vn vj s, .int .i64 node] W fun e w' => e = .returned (.bool (aloneI s node)) ∧ Ext W w') := Lib.hid fun W hW => RefAlone_any vn vj s node W (HR.out.nodes.ext hW) (HR.out.jobs.ext hW) z1 z2 z3
    have HV1 : Hid (∀ W, Ext w W → Calls Try.prog 13 #[stV vn vj s] W fun e w' => e = .returned (.int .i64 (waveS s : Int)) ∧ Ext W w') := Lib.hid fun W hW => WWave_any c vn vj s W (HR.out.ext hW) hR
    have HV2 : Hid (∀ W, Ext w W → Calls Try.prog 14 #[stV vn vj s] W fun e w' => e = .returned (.int .i64 (waveS s : Int)) ∧ Ext W w') := Lib.hid fun W hW => RefWave_any vn vj s W (HR.out.nodes.ext hW) z1
    have HD1 : Hid (∀ W, Ext w W → Calls Try.prog 15 #[stV vn vj s] W fun e w' => e = .returned (.bool (doneW s)) ∧ Ext W w') := Lib.hid fun W hW => WDone_any c vn vj s W (HR.out.ext hW) hR
    have HD2 : Hid (∀ W, Ext w W → Calls Try.prog 16 #[stV vn vj s] W fun e w' => e = .returned (.bool (doneW s)) ∧ Ext W w') := Lib.hid fun W hW => RefDone_any vn vj s W (HR.out.nodes.ext hW) (HR.out.jobs.ext hW) z1 z2 z3
    have HIN : Hid (∀ W u v, Rd W u ((behI s).map I) → Rd W v ((behI s).map I) → Calls Try.prog 9 #[u, v] W fun e w' => e = .returned (.bool true) ∧ Ext W w') := Lib.hid fun W u v h1 h2 => (Ints_any (behI s) (behI s) u v W h1 h2).mono (by rintro e w' ⟨q1, n, rfl⟩; rw [decide_eq_true rfl] at q1; exact ⟨q1, Below.drewN' (Ext.refl W) n⟩)
    unfold stV at HBE HBH HA1 HA2 HV1 HV2 HD1 HD2
    have HN6 : Hid (s.nodes.length ≤ 6) := Lib.hid z1
    obtain ⟨A, ca, rfl, hnc, hcm, hcell⟩ := has_cells HR.out.nodes
    obtain ⟨D, hD⟩ : ∃ D, D = behI s := ⟨_, rfl⟩
    rw [← hD] at HBH HIN
    unfold behI at hD
    obtain ⟨f, hf⟩ : ∃ f : Nat → Bool, f = nodeIs s.nodes (behindN s) := ⟨_, rfl⟩
    rw [← hf] at hD
    have HFF : Hid (∀ (q : Nat) n, s.nodes[q]? = some n → f q = behindN s n) := Lib.hid fun q n hn => by rw [hf, nodeIs_at hn]
    have HD := Lib.hid hD
    obtain ⟨al, hal⟩ : ∃ x, x = aloneI s node := ⟨_, rfl⟩
    rw [← hal] at HA1 HA2
    obtain ⟨wv, hwv⟩ : ∃ x : Int, x = (waveS s : Int) := ⟨_, rfl⟩
    rw [← hwv] at HV1 HV2
    obtain ⟨dn, hdn⟩ : ∃ x, x = doneW s := ⟨_, rfl⟩
    rw [← hdn] at HD1 HD2
    obtain ⟨NB, hNB⟩ : ∃ n, n = D.length := ⟨_, rfl⟩
    rw [← hNB] at HBH
    have HNB := Lib.hid hNB
    have q1 : (al == al) = true := by simp
    have q2 : (wv == wv) = true := by simp
    have q3 : (dn == dn) = true := by simp
    clear hD hf hal hwv hdn hNB hcell hcm hnc z1 z2 z3 hR HBB
    go_wp2_with fail
    go_loopw [7, 8] (fun v i wr => ∃ q : Nat, i = .int .i64 q ∧ q ≤ s.nodes.length ∧ Hid (Grew w4.heap.size 3 (.slice none 0 0) w4 ((listI f q).map I) v wr)) (fun _ i _ => s.nodes.length - (intOf i).toNat)
    case atStart => exact ⟨0, rfl, Nat.zero_le _, Lib.hid (Grew.nil _)⟩
    case round =>
      obtain ⟨q, rfl, hq, HK⟩ := hrel
      have HXR : Hid (Ext W2 wr) := Lib.hid (Ext.trans HX4.out HK.out.ext)
      have HXW : Hid (Ext w wr) := Lib.hid (Ext.trans HX2.out HXR.out)
      obtain ⟨g0, g1, g2, g3, g4, g5⟩ := Blk.six (HB2.out.ext HXR.out)
      by_cases hlt : q < s.nodes.length
      · have d1 : decide ((q : Int) < (s.nodes.length : Int)) = true := decide_eq_true (by omega)
        have d1' : decide (q < s.nodes.length) = true := decide_eq_true hlt
        obtain ⟨n, hn⟩ : ∃ n, s.nodes[q]? = some n := ⟨_, List.getElem?_eq_getElem hlt⟩
        have HLT := Lib.hid hlt
        have HLN : Hid (((listI f q).map I).length < 17592186044416) := Lib.hid (by rw [List.length_map]; have := listI_len f q; have := HN6.out; omega)
        have wq : wrap64 ((q : Int) + 1) = (q : Int) + 1 := IntWalk.wrap64_in _ (by have := HN6.out; omega)
        have HFQ := Lib.hid (HFF.out q n hn)
        have HST := Lib.hid (listI_step f q)
        have HBC := Lib.hid (HBE.out q n wr hn HXW.out)
        clear hn hlt hq q1 q2 q3 HBE HBH HA1 HA2 HV1 HV2 HD1 HD2 HIN
        go_wp2_with fail
        refine HBC.out.mono ?_
        rintro e3 w5 ⟨rfl, hx3⟩
        have HKN := Lib.hid (HK.out.step hx3)
        clear hx3 HBC g0 g1 g2 g3 g4 g5
        simp only []
        cases hf : behindN s n
        · have HS1 : Hid (listI f (q + 1) = listI f q) := Lib.hid (by rw [HST.out, HFQ.out, hf, if_neg (by simp), List.append_nil])
          clear hf
          repeat (first | go_values | go_skip | go_guarded | go_step | go_upon | (simp only []))
          go_roundw
          case rel => exact ⟨q + 1, by first | (rw [wq]; rfl) | rfl, HLT.out, Lib.hid (by rw [HS1.out]; exact HKN.out)⟩
          case measure => first | (rw [wq]; exact measQ HLT.out) | exact measQ HLT.out
        · have HS1 : Hid ((listI f (q + 1)).map I = (listI f q).map I ++ [.int .i64 (q : Int)]) := Lib.hid (by rw [HST.out, HFQ.out, hf, if_pos rfl, List.map_append]; rfl)
          have hown := HKN.out.own
          have hbr := HKN.out.size
          have hl2 := HLN.out
          clear hf
          obtain ⟨M, hM⟩ : ∃ M, M = ((listI f q).map I).length := ⟨_, rfl⟩
          obtain ⟨Av, cv, rfl⟩ := own_slice (n := M) (by rw [hM]; exact hown)
          clear hM
          go_wp2_with (at_builtin; refine push_int rfl _ _ rfl w4.heap.size _ _ rfl hown _ rfl rfl hl2 hbr ?_; intro v2 w6 hg2)
          have hk2 : Grew w4.heap.size 3 (.slice none 0 0) w4 ((listI f (q + 1)).map I) v2 w6 := by rw [HS1.out]; exact HKN.out.trans hg2
          go_roundw
          case rel => exact ⟨q + 1, by first | (rw [wq]; rfl) | rfl, HLT.out, Lib.hid hk2⟩
          case measure => first | (rw [wq]; exact measQ HLT.out) | exact measQ HLT.out
      · have d1 : decide ((q : Int) < (s.nodes.length : Int)) = false := decide_eq_false (by omega)
        have d1' : decide (q < s.nodes.length) = false := decide_eq_false hlt
        have HE : Hid (listI f q = D) := Lib.hid (by rw [HD.out, show q = s.nodes.length by omega])
        have hrd := Rd.own HK.out.own
        rw [HE.out] at hrd
        have HRD := Lib.hid hrd
        clear hrd
        obtain ⟨Av, cv, rfl⟩ := own_slice (n := NB) (by rw [HNB.out, ← HE.out, ← List.length_map (f := I)]; exact HK.out.own)
        clear hlt hq HK HE
        go_upto_region 11 with (fail)
        clear d1 d1' g0 g1 g2 g3 g4 g5
        refine held_begin (by kernel_rfl) ?_
        refine held_more (S' := fun W' : World => Ext wr W') (fun _ _ => True.intro) ?_
        have hSx : (fun W' : World => Ext wr W') wr.drew := Below.drewN' (Ext.refl wr) 1
        refine held_take (i := 0) (v := ?_) rfl (by kernel_rfl) (by kernel_rfl) (by kernel_rfl) (by rfl) (by first | assumption | exact True.intro) ?_ ?_
        rotate_left
        · (intro W hSw; obtain ⟨g0, g1, g2, g3, g4, g5⟩ := Blk.six ((HB2.out.ext HXR.out).ext hSw); go_simp; (try with_reducible rfl))
        try simp only [Act.put, List.setIfInBounds_toArray, List.set_cons_zero, List.set_cons_succ]
        refine held_take (i := 2) (v := ?_) rfl (by kernel_rfl) (by kernel_rfl) (by kernel_rfl) (by rfl) (by first | assumption | exact True.intro) ?_ ?_
        rotate_left
        · (intro W hSw; obtain ⟨g0, g1, g2, g3, g4, g5⟩ := Blk.six ((HB2.out.ext HXR.out).ext hSw); go_simp; (try with_reducible rfl))
        try simp only [Act.put, List.setIfInBounds_toArray, List.set_cons_zero, List.set_cons_succ]
        clear hSx
        refine held_op (i := 1) (by kernel_rfl) rfl (fun K hK => ?_)
        go_simp
        go_at_call 10
        refine (HBH.out _ (Ext.trans HXW.out (Below.drewN' (Ext.refl wr) 1))).mono ?_
        rintro e9 x1 ⟨A8, c8, rfl, hr9, hx9⟩
        have HE1 : Hid (Ext wr x1) := Lib.hid (Ext.trans (Below.drewN' (Ext.refl wr) 1) hx9)
        have HR8 := Lib.hid hr9
        clear hr9
        clear hx9
        refine hK _ _ (HE1.out) (fun hSx => ?_)
        clear hK K
        try simp only [Act.put, List.setIfInBounds_toArray, List.set_cons_zero, List.set_cons_succ]
        clear hSx
        refine held_op (i := 3) (by kernel_rfl) rfl (fun K hK => ?_)
        go_simp
        go_at_call 9
        refine (HIN.out _ _ _ HR8.out (HRD.out.ext HE1.out)).mono ?_
        rintro e9 x2 ⟨rfl, hx9⟩
        have HE2 : Hid (Ext wr x2) := Lib.hid (Ext.trans HE1.out hx9)
        clear hx9
        refine hK _ _ (HE2.out) (fun hSx => ?_)
        clear hK K
        try simp only [Act.put, List.setIfInBounds_toArray, List.set_cons_zero, List.set_cons_succ]
        refine held_take (i := 4) (v := ?_) rfl (by kernel_rfl) (by kernel_rfl) (by kernel_rfl) (by rfl) (by first | assumption | exact True.intro) ?_ ?_
        rotate_left
        · (intro W hSw; obtain ⟨g0, g1, g2, g3, g4, g5⟩ := Blk.six ((HB2.out.ext HXR.out).ext hSw); go_simp; (try with_reducible rfl))
        try simp only [Act.put, List.setIfInBounds_toArray, List.set_cons_zero, List.set_cons_succ]
        refine held_take (i := 5) (v := ?_) rfl (by kernel_rfl) (by kernel_rfl) (by kernel_rfl) (by rfl) (by first | assumption | exact True.intro) ?_ ?_
        rotate_left
        · (intro W hSw; obtain ⟨g0, g1, g2, g3, g4, g5⟩ := Blk.six ((HB2.out.ext HXR.out).ext hSw); go_simp; (try with_reducible rfl))
        try simp only [Act.put, List.setIfInBounds_toArray, List.set_cons_zero, List.set_cons_succ]
        refine held_take (i := 6) (v := ?_) rfl (by kernel_rfl) (by kernel_rfl) (by kernel_rfl) (by rfl) (by first | assumption | exact True.intro) ?_ ?_
        rotate_left
        · (intro W hSw; obtain ⟨g0, g1, g2, g3, g4, g5⟩ := Blk.six ((HB2.out.ext HXR.out).ext hSw); go_simp; (try with_reducible rfl))
        try simp only [Act.put, List.setIfInBounds_toArray, List.set_cons_zero, List.set_cons_succ]
        refine held_take (i := 8) (v := ?_) rfl (by kernel_rfl) (by kernel_rfl) (by kernel_rfl) (by rfl) (by first | assumption | exact True.intro) ?_ ?_
        rotate_left
        · (intro W hSw; obtain ⟨g0, g1, g2, g3, g4, g5⟩ := Blk.six ((HB2.out.ext HXR.out).ext hSw); go_simp; (try with_reducible rfl))
        try simp only [Act.put, List.setIfInBounds_toArray, List.set_cons_zero, List.set_cons_succ]
        refine held_take (i := 9) (v := ?_) rfl (by kernel_rfl) (by kernel_rfl) (by kernel_rfl) (by rfl) (by first | assumption | exact True.intro) ?_ ?_
        rotate_left
        · (intro W hSw; obtain ⟨g0, g1, g2, g3, g4, g5⟩ := Blk.six ((HB2.out.ext HXR.out).ext hSw); go_simp; (try with_reducible rfl))
        try simp only [Act.put, List.setIfInBounds_toArray, List.set_cons_zero, List.set_cons_succ]
        clear hSx
        refine held_op (i := 7) (by kernel_rfl) rfl (fun K hK => ?_)
        go_simp
        go_at_call 11
        refine (HA1.out _ (Ext.trans HXW.out HE2.out)).mono ?_
        rintro e9 x3 ⟨rfl, hx9⟩
        have HE3 : Hid (Ext wr x3) := Lib.hid (Ext.trans HE2.out hx9)
        clear hx9
        refine hK _ _ (HE3.out) (fun hSx => ?_)
        clear hK K
        try simp only [Act.put, List.setIfInBounds_toArray, List.set_cons_zero, List.set_cons_succ]
        clear hSx
        refine held_op (i := 10) (by kernel_rfl) rfl (fun K hK => ?_)
        go_simp
        go_at_call 12
        refine (HA2.out _ (Ext.trans HXW.out HE3.out)).mono ?_
        rintro e9 x4 ⟨rfl, hx9⟩
        have HE4 : Hid (Ext wr x4) := Lib.hid (Ext.trans HE3.out hx9)
        clear hx9
        refine hK _ _ (HE4.out) (fun hSx => ?_)
        clear hK K
        try simp only [Act.put, List.setIfInBounds_toArray, List.set_cons_zero, List.set_cons_succ]
        refine held_take (i := 11) (v := ?_) rfl (by kernel_rfl) (by kernel_rfl) (by kernel_rfl) (by rfl) (by first | assumption | exact True.intro) ?_ ?_
        rotate_left
        · (intro W hSw; obtain ⟨g0, g1, g2, g3, g4, g5⟩ := Blk.six ((HB2.out.ext HXR.out).ext hSw); go_simp; (try with_reducible rfl))
        try simp only [Act.put, List.setIfInBounds_toArray, List.set_cons_zero, List.set_cons_succ]
        refine held_take (i := 12) (v := ?_) rfl (by kernel_rfl) (by kernel_rfl) (by kernel_rfl) (by rfl) (by first | assumption | exact True.intro) ?_ ?_
        rotate_left
        · (intro W hSw; obtain ⟨g0, g1, g2, g3, g4, g5⟩ := Blk.six ((HB2.out.ext HXR.out).ext hSw); go_simp; (try with_reducible rfl))
        try simp only [Act.put, List.setIfInBounds_toArray, List.set_cons_zero, List.set_cons_succ]
        refine held_take (i := 13) (v := ?_) rfl (by kernel_rfl) (by kernel_rfl) (by kernel_rfl) (by rfl) (by first | assumption | exact True.intro) ?_ ?_
        rotate_left
        · (intro W hSw; obtain ⟨g0, g1, g2, g3, g4, g5⟩ := Blk.six ((HB2.out.ext HXR.out).ext hSw); go_simp; (try with_reducible rfl))
        try simp only [Act.put, List.setIfInBounds_toArray, List.set_cons_zero, List.set_cons_succ]
        refine held_take (i := 14) (v := ?_) rfl (by kernel_rfl) (by kernel_rfl) (by kernel_rfl) (by rfl) (by first | assumption | exact True.intro) ?_ ?_
        rotate_left
        · (intro W hSw; obtain ⟨g0, g1, g2, g3, g4, g5⟩ := Blk.six ((HB2.out.ext HXR.out).ext hSw); go_simp; (try with_reducible rfl))
        try simp only [Act.put, List.setIfInBounds_toArray, List.set_cons_zero, List.set_cons_succ]
        refine held_take (i := 16) (v := ?_) rfl (by kernel_rfl) (by kernel_rfl) (by kernel_rfl) (by rfl) (by first | assumption | exact True.intro) ?_ ?_
        rotate_left
        · (intro W hSw; obtain ⟨g0, g1, g2, g3, g4, g5⟩ := Blk.six ((HB2.out.ext HXR.out).ext hSw); go_simp; (try with_reducible rfl))
        try simp only [Act.put, List.setIfInBounds_toArray, List.set_cons_zero, List.set_cons_succ]
        clear hSx
        refine held_op (i := 15) (by kernel_rfl) rfl (fun K hK => ?_)
        go_simp
        go_at_call 13
        refine (HV1.out _ (Ext.trans HXW.out HE4.out)).mono ?_
        rintro e9 x5 ⟨rfl, hx9⟩
        have HE5 : Hid (Ext wr x5) := Lib.hid (Ext.trans HE4.out hx9)
        clear hx9
        refine hK _ _ (HE5.out) (fun hSx => ?_)
        clear hK K
        try simp only [Act.put, List.setIfInBounds_toArray, List.set_cons_zero, List.set_cons_succ]
        clear hSx
        refine held_op (i := 17) (by kernel_rfl) rfl (fun K hK => ?_)
        go_simp
        go_at_call 14
        refine (HV2.out _ (Ext.trans HXW.out HE5.out)).mono ?_
        rintro e9 x6 ⟨rfl, hx9⟩
        have HE6 : Hid (Ext wr x6) := Lib.hid (Ext.trans HE5.out hx9)
        clear hx9
        refine hK _ _ (HE6.out) (fun hSx => ?_)
        clear hK K
        try simp only [Act.put, List.setIfInBounds_toArray, List.set_cons_zero, List.set_cons_succ]
        refine held_take (i := 18) (v := ?_) rfl (by kernel_rfl) (by kernel_rfl) (by kernel_rfl) (by rfl) (by first | assumption | exact True.intro) ?_ ?_
        rotate_left
        · (intro W hSw; obtain ⟨g0, g1, g2, g3, g4, g5⟩ := Blk.six ((HB2.out.ext HXR.out).ext hSw); go_simp; (try with_reducible rfl))
        try simp only [Act.put, List.setIfInBounds_toArray, List.set_cons_zero, List.set_cons_succ]
        refine held_take (i := 19) (v := ?_) rfl (by kernel_rfl) (by kernel_rfl) (by kernel_rfl) (by rfl) (by first | assumption | exact True.intro) ?_ ?_
        rotate_left
        · (intro W hSw; obtain ⟨g0, g1, g2, g3, g4, g5⟩ := Blk.six ((HB2.out.ext HXR.out).ext hSw); go_simp; (try with_reducible rfl))
        try simp only [Act.put, List.setIfInBounds_toArray, List.set_cons_zero, List.set_cons_succ]
        refine held_take (i := 20) (v := ?_) rfl (by kernel_rfl) (by kernel_rfl) (by kernel_rfl) (by rfl) (by first | assumption | exact True.intro) ?_ ?_
        rotate_left
        · (intro W hSw; obtain ⟨g0, g1, g2, g3, g4, g5⟩ := Blk.six ((HB2.out.ext HXR.out).ext hSw); go_simp; (try with_reducible rfl))
        try simp only [Act.put, List.setIfInBounds_toArray, List.set_cons_zero, List.set_cons_succ]
        refine held_take (i := 21) (v := ?_) rfl (by kernel_rfl) (by kernel_rfl) (by kernel_rfl) (by rfl) (by first | assumption | exact True.intro) ?_ ?_
        rotate_left
        · (intro W hSw; obtain ⟨g0, g1, g2, g3, g4, g5⟩ := Blk.six ((HB2.out.ext HXR.out).ext hSw); go_simp; (try with_reducible rfl))
        try simp only [Act.put, List.setIfInBounds_toArray, List.set_cons_zero, List.set_cons_succ]
        refine held_take (i := 23) (v := ?_) rfl (by kernel_rfl) (by kernel_rfl) (by kernel_rfl) (by rfl) (by first | assumption | exact True.intro) ?_ ?_
        rotate_left
        · (intro W hSw; obtain ⟨g0, g1, g2, g3, g4, g5⟩ := Blk.six ((HB2.out.ext HXR.out).ext hSw); go_simp; (try with_reducible rfl))
        try simp only [Act.put, List.setIfInBounds_toArray, List.set_cons_zero, List.set_cons_succ]
        clear hSx
        refine held_op (i := 22) (by kernel_rfl) rfl (fun K hK => ?_)
        go_simp
        go_at_call 15
        refine (HD1.out _ (Ext.trans HXW.out HE6.out)).mono ?_
        rintro e9 x7 ⟨rfl, hx9⟩
        have HE7 : Hid (Ext wr x7) := Lib.hid (Ext.trans HE6.out hx9)
        clear hx9
        refine hK _ _ (HE7.out) (fun hSx => ?_)
        clear hK K
        try simp only [Act.put, List.setIfInBounds_toArray, List.set_cons_zero, List.set_cons_succ]
        clear hSx
        refine held_op (i := 24) (by kernel_rfl) rfl (fun K hK => ?_)
        go_simp
        go_at_call 16
        refine (HD2.out _ (Ext.trans HXW.out HE7.out)).mono ?_
        rintro e9 x8 ⟨rfl, hx9⟩
        have HE8 : Hid (Ext wr x8) := Lib.hid (Ext.trans HE7.out hx9)
        clear hx9
        refine hK _ _ (HE8.out) (fun hSx => ?_)
        clear hK K
        try simp only [Act.put, List.setIfInBounds_toArray, List.set_cons_zero, List.set_cons_succ]
        refine held_take (i := 25) (v := ?_) rfl (by kernel_rfl) (by kernel_rfl) (by kernel_rfl) (by rfl) (by first | assumption | exact True.intro) ?_ ?_
        rotate_left
        · (intro W hSw; obtain ⟨g0, g1, g2, g3, g4, g5⟩ := Blk.six ((HB2.out.ext HXR.out).ext hSw); go_simp; (try with_reducible rfl))
        try simp only [Act.put, List.setIfInBounds_toArray, List.set_cons_zero, List.set_cons_succ]
        refine held_take (i := 26) (v := ?_) rfl (by kernel_rfl) (by kernel_rfl) (by kernel_rfl) (by rfl) (by first | assumption | exact True.intro) ?_ ?_
        rotate_left
        · (intro W hSw; obtain ⟨g0, g1, g2, g3, g4, g5⟩ := Blk.six ((HB2.out.ext HXR.out).ext hSw); go_simp; (try with_reducible rfl))
        try simp only [Act.put, List.setIfInBounds_toArray, List.set_cons_zero, List.set_cons_succ]
        refine held_take (i := 27) (v := ?_) rfl (by kernel_rfl) (by kernel_rfl) (by kernel_rfl) (by rfl) (by first | assumption | exact True.intro) ?_ ?_
        rotate_left
        · (intro W hSw; obtain ⟨g0, g1, g2, g3, g4, g5⟩ := Blk.six ((HB2.out.ext HXR.out).ext hSw); go_simp; (try with_reducible rfl))
        try simp only [Act.put, List.setIfInBounds_toArray, List.set_cons_zero, List.set_cons_succ]
        clear hSx
        refine wpAnyH_done (by kernel_rfl) ?_ _
        refine NoPanic.normal ?_
        go_wp2
        go_ret
        exact ⟨rfl, Ext.trans HXW.out HE8.out⟩

end Go.Proofs.Ytkpcjdhnbjkaaaa

/- From a contract to the row of a law that lists package-level variables; structs of numbers, slices of structs, and states as arguments. No function of the program is named here. -/
namespace Go.Proofs.Ytkpcjdhnbjkaaaa
open Go.Joins Go.ChangeShapes Go.WideShapes Go.ChangeAt Go.RowKit Go.Deep

section
variable {H : Type} {enc : TypeId × Value → H} {P : Program}
theorem law_liftL {C : Checked} {os : Os} {f : FuncId} {fn : Func} {s : ChangeSpec} {tb : TypeId} (L : List (String × DataW Unit)) (own : ownKnob C.prog.godebug = none) (started : os.Started) (noInit : C.prog.inits.idxOf? f = none) (hfn : C.prog.funcs[f]? = some fn)
    (hl : laidOutB C.prog = true) (hp : (fn.params.toList.all fun t => C.prog.readableRec t && decide (t < C.prog.types.size)) = true) (hres : fn.resultTypes = #[tb]) (htb : C.prog.underlying tb = some .bool) (hv : s.vars = []) (hpv : s.plain.varTypes C.prog = [])
    (hs : ∀ ds : List (DataW H), ds.length = fn.params.toList.length → s.fn H ds = { results := [.lit (.bool true)], args := ds })
    (witness : ∃ (w : World) (tape : Tape) (i : Input), w.os = os ∧ (w.forCall tape i).Shaped C.prog ∧ i.vars = [] ∧ Input.okWide C.prog (w.forCall tape i) .any w.heap.size f i ∧
      ((s.pre enc C.prog fn [] false (w.forCall tape i).memory i.args ∧ laidMetH C.prog L (w.forCall tape i).memory) ∧ sizedMet enc C.prog fn (OpenSpec.ofChange s) false (w.forCall tape i).memory i.args) ∧ ({} : Assume).holds C.prog (lone (Frame.enter C.prog f i.args .normal) [] (w.forCall tape i)))
    (contract : ∀ (W : World) (base : Nat) (args : Array Value) (ds : List (DataW H)) (p : List MemPlace), (∀ (j : Nat) t v, fn.params[j]? = some t → args[j]? = some v → Value.okWide C.prog W .any base t v) →
      DataW.TrodAll enc C.prog W 0 (fun _ => true) true fn.params.toList args.toList ds p → (DataW.weightsEach C.prog fn.params.toList ds).all (· ≤ reachBytes) = true → laidMetH C.prog L W → W.ShapedOpen C.prog →
      Calls C.prog f args W fun e W' => e = .returned (.bool true) ∧ Ext W W') :
    ReturnsInHanded {} C os f .any (fun w args => (s.pre enc C.prog fn [] false w args ∧ laidMetH C.prog L w) ∧ sizedMet enc C.prog fn (OpenSpec.ofChange s) false w args) (s.post enc C.prog fn false true false false) := by
  refine returnsInHanded_of_calls own started noInit witness ?_
  intro w tape i _ hsh _ hok hpre _
  obtain ⟨_, _, _, fn', hfn', _, _, _, _, hval⟩ := hok
  have e : fn' = fn := Option.some.inj (hfn'.symm.trans hfn)
  subst e
  obtain ⟨⟨⟨ds, gs, before, hw, _⟩, hx⟩, hz⟩ := hpre
  have hW := DataW.Whole.of_heap (w' := w.forCall tape i) (by rfl) hw
  have hL : laidMetH C.prog L (w.forCall tape i) := laidMetH.of_heap (by rfl) hx
  have hsz := hz.weights hw
  have hg : gs = [] := by
    obtain ⟨_, _, _, hV, _⟩ := hW
    rw [hv] at hV
    cases gs with
    | nil => rfl
    | cons _ _ => exact hV.elim
  subst hg
  have hsz' : (DataW.weightsEach C.prog fn'.params.toList ds).all (· ≤ reachBytes) = true := by
    have h1 : (DataW.weightsEach C.prog (fn'.params.toList ++ s.plain.varTypes C.prog) (ds ++ [])).all (· ≤ reachBytes) = true := hsz
    rwa [hpv, List.append_nil, List.append_nil] at h1
  have hW' := hW
  obtain ⟨p, q, hA, _, _, _, _⟩ := hW
  have hlen := trodAll_len _ _ _ _ hA
  refine (contract (w.forCall tape i) w.heap.size i.args ds p hval hA hsz' hL hsh).mono fun e W' ⟨he, hx⟩ => ?_
  subst he
  exact ChangeSpec.post_blind (post_true hl hp hres htb hv hW' (hs ds hlen) hx)

/-- A listed variable, wherever it stands on the list. -/
theorem laid_at {n : String} {d : DataW Unit} {W : World} : ∀ (L : List (String × DataW Unit)), (n, d) ∈ L → laidMet P L W → ∃ r, laidMet P ((n, d) :: r) W
  | x :: L, hm, h => by
    rcases List.mem_cons.1 hm with e | hm
    · rw [e]
      exact ⟨L, h⟩
    · exact laid_at L hm h.tail


/-! ### Structs of numbers -/

theorem dec_nums {w : World} {base : Nat} {held : Bool} {r : Reach} {b0 : Nat} {t : TypeId} {fs : Array Field} {v : Value} {d : DataW H} {p : List MemPlace} (hs : P.underlying t = some (.struct fs)) (hone : oneCellFields P fs = true) (hC : P.cellsOf t = fs.size)
    {ti : TypeId} (hta : (fs.all fun f => f.type == ti) = true) (hi : P.underlying ti = some (.int .i64)) (hv : Value.okWide P w r b0 t v) (h : DataW.Trod enc P w base (fun _ => true) held t v d p) : ∃ l : List Int, l.length = fs.size ∧ v = .agg (l.map (Value.int .i64)).toArray := by
  obtain ⟨cs, rfl, hsz⟩ := okWide_struct hs hv
  obtain ⟨fuel, hf⟩ := h
  have hti : ∀ f ∈ fs, P.underlying f.type = some (.int .i64) := fun f hf => by
    obtain ⟨i, hlt, rfl⟩ := Array.getElem_of_mem hf
    have := Array.all_eq_true.1 hta i hlt
    rw [beq_iff_eq] at this
    rw [this]
    exact hi
  obtain ⟨hl, hp⟩ := struct_parts hs hone hC hf
  have hl' : cs.size = fs.size := hsz.trans hC
  refine ⟨cs.toList.map intOf, by simpa using hl', ?_⟩
  congr 1
  apply Array.ext'
  apply List.ext_getElem?
  intro i
  by_cases hi : i < fs.size
  · obtain ⟨u, n, y, hu, hy⟩ := hp i fs[i] (Array.getElem?_eq_getElem hi)
    obtain ⟨z, hz, _, _⟩ := DataW.trod_int (hti _ (Array.getElem_mem hi)) hy
    simp only [List.cons.injEq, and_true] at hz
    subst hz
    have hu' : cs.toList[i]? = some (.int .i64 z) := hu
    simp only [List.getElem?_map, hu', Option.map_some, intOf]
  · rw [List.getElem?_eq_none (by simp; omega), List.getElem?_eq_none (by simp; omega)]

/-! ### Slices of structs -/
/-- As structs_at, of a cell that holds the slice. -/
theorem structs_tr {w : World} {base : Nat} {held : Bool} {m0 : Nat} {t e : TypeId} {fs : Array Field} {V : Value} {x : DataW H × List MemPlace} (ht : P.underlying t = some (.slice e)) (he : P.underlying e = some (.struct fs)) (hone : oneCellFields P fs = true)
    (hC : P.cellsOf e = fs.size) (h0 : 0 < fs.size) (hf : DataW.trod enc P w base (fun _ => true) held m0 t [V] = some x) :
    ∃ A n c, V = .slice A n c ∧ n ≤ c ∧ c ≤ maxLen ∧ (0 < n → ∃ b o, A = some ⟨b, o, none⟩ ∧ b < w.heap.size ∧
      ∀ i, i < n → ∀ (j : Nat) (f : Field), fs[j]? = some f → ∃ u k y, w.cell? ⟨b, o + (i * fs.size + j), none⟩ = some u ∧ DataW.trod enc P w base (fun _ => true) held k f.type [u] = some y) := by
  rcases open_slice ht hf with ⟨hcs, _⟩ | ⟨a, len, cap, m, n, D, Pl, hcs, _, hl, hm, hmm, _, hx⟩
  · simp only [List.cons.injEq, and_true] at hcs
    subst hcs
    exact ⟨none, 0, 0, rfl, Nat.le_refl _, Nat.zero_le _, fun h => absurd h (by omega)⟩
  · simp only [List.cons.injEq, and_true] at hcs
    subst hcs
    simp only [if_true] at hmm
    subst hmm
    have hcell : ∀ i, i < m → ∀ (j : Nat) (f : Field), fs[j]? = some f → ∃ u k y, w.cell? (a.add (i * fs.size + j)) = some u ∧ DataW.trod enc P w base (fun _ => true) held k f.type [u] = some y := by
      intro i hi j f hj
      obtain ⟨cs', hc, htr⟩ := hx i hi
      obtain ⟨hlen, hparts⟩ := struct_parts he hone hC htr
      obtain ⟨u, k, y, hu, hy⟩ := hparts j f hj
      obtain ⟨_, hcl, hat⟩ := World.cells?_some hc
      have hjf : j < fs.size := (Array.getElem?_eq_some_iff.1 hj).1
      have h1 := hat j (by rw [hC]; exact hjf)
      rw [hC, add_of_add, hu] at h1
      exact ⟨u, k, y, h1, hy⟩
    refine ⟨some a, len, m, rfl, hl, hm, fun hn0 => ?_⟩
    obtain ⟨u, _, _, hu, _⟩ := hcell 0 (by omega) 0 fs[0] (Array.getElem?_eq_getElem h0)
    obtain ⟨b, o, spot⟩ := a
    have hspot : spot = none := by simpa [Addr.add] using World.cell?_spot hu
    subst hspot
    refine ⟨b, o, rfl, ?_, fun i hi j f hj => ?_⟩
    · have := World.block_lt_of_cell? w _ hu
      simpa [block_of_add] using this
    · obtain ⟨u, k, y, h1, h2⟩ := hcell i (by omega) j f hj
      rw [Addr.add_lit] at h1
      exact ⟨u, k, y, h1, h2⟩

theorem list_of {α : Type} {n : Nat} {R : Nat → α → Prop} (h : ∀ i, i < n → ∃ x, R i x) : ∃ l : List α, l.length = n ∧ ∀ i x, l[i]? = some x → R i x := by
  induction n with
  | zero => exact ⟨[], rfl, fun i x hx => by simp at hx⟩
  | succ n ih =>
    obtain ⟨l, hl, hr⟩ := ih fun i hi => h i (by omega)
    obtain ⟨y, hy⟩ := h n (by omega)
    refine ⟨l ++ [y], by simp [hl], fun i x hx => ?_⟩
    by_cases hi : i < l.length
    · rw [List.getElem?_append_left hi] at hx
      exact hr i x hx
    · rw [List.getElem?_append_right (by omega)] at hx
      have : i - l.length = 0 := by
        rcases Nat.eq_zero_or_pos (i - l.length) with h0 | h0
        · exact h0
        · rw [List.getElem?_eq_none (by simp; omega)] at hx
          cases hx
      rw [this] at hx
      simp at hx
      subst hx
      have : i = n := by omega
      subst this
      exact hy

theorem flat_inv {α : Type} {f : α → List Value} {K : Nat} (hf : ∀ x, (f x).length = K) {l : List α} {j : Nat} {u : Value} (h : (l.flatMap f)[j]? = some u) : ∃ (i r : Nat) (x : α), l[i]? = some x ∧ r < K ∧ j = i * K + r ∧ (f x)[r]? = some u := by
  induction l generalizing j with
  | nil => simp at h
  | cons y l ih =>
    rw [List.flatMap_cons] at h
    by_cases hj : j < (f y).length
    · rw [List.getElem?_append_left hj] at h
      exact ⟨0, j, y, rfl, by rw [← hf y]; exact hj, by omega, h⟩
    · rw [List.getElem?_append_right (by omega)] at h
      obtain ⟨i, r, x, h1, h2, h3, h4⟩ := ih h
      rw [hf] at h3 hj
      exact ⟨i + 1, r, x, by simpa using h1, h2, by rw [Nat.succ_mul]; omega, h4⟩

/-- A slice of structs whose cells are those of plain things reads as a list of these. -/
theorem rdS_of {α : Type} {w : World} {K : Nat} {f : α → List Value} (hf : ∀ x, (f x).length = K) {V A : _} {n c : Nat} (hV : V = Value.slice A n c) (hnc : n ≤ c) (hcm : c ≤ maxLen)
    (h : 0 < n → ∃ b o, A = some ⟨b, o, none⟩ ∧ b < w.heap.size ∧ ∀ i, i < n → ∃ x : α, ∀ (r : Nat) u, (f x)[r]? = some u → w.cell? ⟨b, o + (i * K + r), none⟩ = some u) :
    ∃ l : List α, l.length = n ∧ RdS K w V l.length (l.flatMap f) := by
  by_cases hn : 0 < n
  · obtain ⟨b, o, hA, hb, hc⟩ := h hn
    obtain ⟨l, hl, hr⟩ := list_of hc
    refine ⟨l, hl, flat_len hf l, A, c, by rw [hV, hl], by omega, hcm, fun _ => ⟨b, o, hA, hb, fun j u hu => ?_⟩⟩
    obtain ⟨i, r, x, h1, _, h3, h4⟩ := flat_inv hf hu
    rw [h3]
    exact hr i x h1 r u h4
  · have : n = 0 := by omega
    subst this
    exact ⟨[], rfl, by simp, A, c, hV, by simp, hcm, fun h => absurd h (by simp)⟩
end

end Go.Proofs.Ytkpcjdhnbjkaaaa

/- Two closed facts on the program that every row asks. -/
namespace Go.Proofs.Ytkpcjdhnbjkaaaa
open Go.RowKit

theorem Try.ownKnob : ownKnob Try.prog.godebug = none := by kernel_rfl

theorem Try.laidOut : laidOutB Try.prog = true := by kernel_rfl

end Go.Proofs.Ytkpcjdhnbjkaaaa

/- Layers 14 to 20, the statements: fleets and states as arguments. -/
namespace Go.Proofs.Ytkpcjdhnbjkaaaa
open Go.Joins Go.ChangeShapes Go.WideShapes Go.ChangeAt Go.RowKit Go.Deep

section
variable {H : Type} {enc : TypeId × Value → H} {w : World} {base : Nat} {held : Bool} {r : Reach} {b0 : Nat}
set_option maxRecDepth 100000 in
theorem dec_conf {v : Value} {d : DataW H} {p : List MemPlace} (hv : Value.okWide Try.prog w r b0 23 v) (h : DataW.Trod enc Try.prog w base (fun _ => true) held 23 v d p) : ∃ c : Cf, v = cfV c := by
  obtain ⟨l, hl, rfl⟩ := dec_nums Try.underlying23 (by kernel_rfl) (by kernel_rfl) (ti := 3) (by kernel_rfl) Try.underlying3 hv h
  match l, hl with
  | [a, b, c, d, e, f, g, h, i], _ => exact ⟨⟨a, b, c, d, e, f, g, h, i⟩, rfl⟩
theorem tr_int {m : Nat} {u : Value} {y : DataW H × List MemPlace} (h : DataW.trod enc Try.prog w base (fun _ => true) held m 3 [u] = some y) : ∃ z : Int, u = .int .i64 z := by
  obtain ⟨z, hz, _, _⟩ := DataW.trod_int Try.underlying3 h
  simp only [List.cons.injEq, and_true] at hz
  exact ⟨z, hz⟩
theorem tr_bool {m : Nat} {u : Value} {y : DataW H × List MemPlace} (h : DataW.trod enc Try.prog w base (fun _ => true) held m 4 [u] = some y) : ∃ z : Bool, u = .bool z := by
  obtain ⟨z, hz, _⟩ := DataW.trod_bool Try.underlying4 h
  simp only [List.cons.injEq, and_true] at hz
  exact ⟨z, hz⟩
theorem tr_nodes {m : Nat} {V : Value} {x : DataW H × List MemPlace} (h : DataW.trod enc Try.prog w base (fun _ => true) held m 24 [V] = some x) : ∃ l : List Nd, RdNd w V l := by
  obtain ⟨A, n, c, hV, hnc, hcm, hx⟩ := structs_tr Try.underlying24 Try.underlying46 (by kernel_rfl) (by kernel_rfl) (by decide) h
  obtain ⟨l, _, hr⟩ := rdS_of (f := Nd.cells) (K := 5) Nd.len hV hnc hcm fun hn => by
    obtain ⟨b, o, hA, hb, hc⟩ := hx hn
    refine ⟨b, o, hA, hb, fun i hi => ?_⟩
    obtain ⟨u0, k0, y0, c0, t0⟩ := hc i hi 0 _ rfl
    obtain ⟨u1, k1, y1, c1, t1⟩ := hc i hi 1 _ rfl
    obtain ⟨u2, k2, y2, c2, t2⟩ := hc i hi 2 _ rfl
    obtain ⟨u3, k3, y3, c3, t3⟩ := hc i hi 3 _ rfl
    obtain ⟨u4, k4, y4, c4, t4⟩ := hc i hi 4 _ rfl
    obtain ⟨z0, rfl⟩ := tr_bool t0
    obtain ⟨z1, rfl⟩ := tr_bool t1
    obtain ⟨z2, rfl⟩ := tr_bool t2
    obtain ⟨z3, rfl⟩ := tr_int t3
    obtain ⟨z4, rfl⟩ := tr_int t4
    refine ⟨⟨z0, z1, z2, z3, z4⟩, fun r u hu => ?_⟩
    have hr := (List.getElem?_eq_some_iff.1 hu).1
    rw [Nd.len] at hr
    match r, hr, hu with
    | 0, _, hu => cases hu; exact c0
    | 1, _, hu => cases hu; exact c1
    | 2, _, hu => cases hu; exact c2
    | 3, _, hu => cases hu; exact c3
    | 4, _, hu => cases hu; exact c4
  exact ⟨l, hr⟩
theorem tr_jobs {m : Nat} {V : Value} {x : DataW H × List MemPlace} (h : DataW.trod enc Try.prog w base (fun _ => true) held m 25 [V] = some x) : ∃ l : List Jb, RdJb w V l := by
  obtain ⟨A, n, c, hV, hnc, hcm, hx⟩ := structs_tr Try.underlying25 Try.underlying44 (by kernel_rfl) (by kernel_rfl) (by decide) h
  obtain ⟨l, _, hr⟩ := rdS_of (f := Jb.cells) (K := 12) Jb.len hV hnc hcm fun hn => by
    obtain ⟨b, o, hA, hb, hc⟩ := hx hn
    refine ⟨b, o, hA, hb, fun i hi => ?_⟩
    obtain ⟨u0, k0, y0, c0, t0⟩ := hc i hi 0 _ rfl
    obtain ⟨u1, k1, y1, c1, t1⟩ := hc i hi 1 _ rfl
    obtain ⟨u2, k2, y2, c2, t2⟩ := hc i hi 2 _ rfl
    obtain ⟨u3, k3, y3, c3, t3⟩ := hc i hi 3 _ rfl
    obtain ⟨u4, k4, y4, c4, t4⟩ := hc i hi 4 _ rfl
    obtain ⟨u5, k5, y5, c5, t5⟩ := hc i hi 5 _ rfl
    obtain ⟨u6, k6, y6, c6, t6⟩ := hc i hi 6 _ rfl
    obtain ⟨u7, k7, y7, c7, t7⟩ := hc i hi 7 _ rfl
    obtain ⟨u8, k8, y8, c8, t8⟩ := hc i hi 8 _ rfl
    obtain ⟨u9, k9, y9, c9, t9⟩ := hc i hi 9 _ rfl
    obtain ⟨ua, ka, ya, ca, ta⟩ := hc i hi 10 _ rfl
    obtain ⟨ub, kb, yb, cb, tb⟩ := hc i hi 11 _ rfl
    obtain ⟨z0, rfl⟩ := tr_int t0
    obtain ⟨z1, rfl⟩ := tr_int t1
    obtain ⟨z2, rfl⟩ := tr_int t2
    obtain ⟨z3, rfl⟩ := tr_int t3
    obtain ⟨z4, rfl⟩ := tr_int t4
    obtain ⟨z5, rfl⟩ := tr_int t5
    obtain ⟨z6, rfl⟩ := tr_int t6
    obtain ⟨z7, rfl⟩ := tr_int t7
    obtain ⟨z8, rfl⟩ := tr_int t8
    obtain ⟨z9, rfl⟩ := tr_int t9
    obtain ⟨za, rfl⟩ := tr_int ta
    obtain ⟨zb, rfl⟩ := tr_int tb
    refine ⟨⟨z0, z1, z2, z3, z4, z5, z6, z7, z8, z9, za, zb⟩, fun r u hu => ?_⟩
    have hr := (List.getElem?_eq_some_iff.1 hu).1
    rw [Jb.len] at hr
    match r, hr, hu with
    | 0, _, hu => cases hu; exact c0
    | 1, _, hu => cases hu; exact c1
    | 2, _, hu => cases hu; exact c2
    | 3, _, hu => cases hu; exact c3
    | 4, _, hu => cases hu; exact c4
    | 5, _, hu => cases hu; exact c5
    | 6, _, hu => cases hu; exact c6
    | 7, _, hu => cases hu; exact c7
    | 8, _, hu => cases hu; exact c8
    | 9, _, hu => cases hu; exact c9
    | 10, _, hu => cases hu; exact ca
    | 11, _, hu => cases hu; exact cb
  exact ⟨l, hr⟩
set_option maxRecDepth 100000 in
theorem dec_state {v : Value} {d : DataW H} {p : List MemPlace} (hv : Value.okWide Try.prog w r b0 27 v) (h : DataW.Trod enc Try.prog w base (fun _ => true) held 27 v d p) : ∃ vn vj s, v = stV vn vj s ∧ RdSt w vn vj s := by
  obtain ⟨cs, rfl, hsz⟩ := okWide_struct Try.underlying27 hv
  obtain ⟨fuel, hf⟩ := h
  obtain ⟨hl, hp⟩ := struct_parts Try.underlying27 (by kernel_rfl) (by kernel_rfl) hf
  obtain ⟨u0, k0, y0, c0, t0⟩ := hp 0 _ rfl
  obtain ⟨u1, k1, y1, c1, t1⟩ := hp 1 _ rfl
  obtain ⟨u2, k2, y2, c2, t2⟩ := hp 2 _ rfl
  obtain ⟨u3, k3, y3, c3, t3⟩ := hp 3 _ rfl
  obtain ⟨u4, k4, y4, c4, t4⟩ := hp 4 _ rfl
  obtain ⟨u5, k5, y5, c5, t5⟩ := hp 5 _ rfl
  obtain ⟨ln, hn⟩ := tr_nodes t0
  obtain ⟨lj, hj⟩ := tr_jobs t1
  obtain ⟨z2, rfl⟩ := tr_int t2
  obtain ⟨z3, rfl⟩ := tr_int t3
  obtain ⟨z4, rfl⟩ := tr_int t4
  obtain ⟨z5, rfl⟩ := tr_int t5
  refine ⟨u0, u1, ⟨ln, lj, z2, z3, z4, z5⟩, ?_, hn, hj⟩
  have hsz' : cs.toList.length = 6 := hl
  obtain ⟨l⟩ := cs
  match l, hsz' with
  | [a, b, c, d, e, f], _ =>
    simp only [Value.cells, List.getElem?_cons_zero, List.getElem?_cons_succ, Option.some.injEq] at c0 c1 c2 c3 c4 c5
    subst c0 c1 c2 c3 c4 c5
    rfl
end

end Go.Proofs.Ytkpcjdhnbjkaaaa
