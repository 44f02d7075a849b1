/- Texts that the proof of B rests on, one behind the other. -/
import Derived.Test.YtkpcjdhnbjkaaaaDoorBQ6

/- Package wave: the three ways. -/
namespace Go.Proofs.YtkpcjdhnbjkaaaaDoor
open Go.RowKit

/-- Jobs' pins and sets are numbers of theirs. -/
def OkB (s : St) : Prop := ∀ (k : Nat) x, s.jobs[k]? = some x → 0 ≤ x.pin ∧ 0 ≤ x.nodes ∧ x.nodes < 64
theorem OkB.of_right {c : Cf} {s : St} (h : RightP c s) : OkB s := fun k x hk => by
  have h1 := h.job k x hk
  have h2 := h1.lt64 h.len.2
  have h3 := h1.asked
  simp only [askedJ, Bool.and_eq_true, inR_iff] at h3
  exact ⟨by omega, h2.1, h2.2⟩
theorem goes_iff {s : St} {n : Nd} : goesN s n = true ↔ behindN s n = true ∧ aloneN s n = false := by
  unfold goesN
  cases behindN s n <;> cases aloneN s n <;> simp
theorem way1_goes {s : St} {i : Nat} {n : Nd} : way1 s i n = if n.cordon = true ∧ n.up = true ∧ n.moving = false ∧ goesN s n = false then some (17, (i : Int), 0, 0, 0, 0, 0) else none := by
  unfold way1 goesN
  cases behindN s n <;> cases aloneN s n <;> simp
theorem way2_goes {c : Cf} {s : St} {now : Int} {i : Nat} {n : Nd} : way2 c s now i n = if n.cordon = true ∧ goesN s n = true then secondS c s now i n else none := by
  unfold way2 goesN
  cases n.cordon <;> cases behindN s n <;> cases aloneN s n <;> simp
theorem way3_goes {c : Cf} {s : St} {i : Nat} {n : Nd} : way3 c s i n = if n.cordon = false ∧ goesN s n = true ∧ (waveS s : Int) < c.wave then some (16, (i : Int), 0, 0, 0, 0, 0) else none := by
  unfold way3 goesN
  cases n.cordon <;> cases behindN s n <;> cases aloneN s n <;> simp


set_option maxRecDepth 100000 in
set_option maxHeartbeats 8000000 in
theorem way1_any (c : Cf) (vn vj : Value) (s : St) (now : Int) (i : Nat) (n : Nd) (w : World) (hr : RdNd w vn s.nodes) (hrj : RdJb w vj s.jobs) (hi : s.nodes[i]? = some n) (hN : s.nodes.length ≤ 6) (hM : s.jobs.length ≤ 24) (hJ : OkJ s) (hP : OkB s) :
    Calls Tryd.prog 31 #[cfV c, stV vn vj s, .int .i64 now, .int .i64 (i : Int)] w fun e w' => e = .returned (optV (way1 s i n)) ∧ Ext w w' := by
  have HGO : Hid (∀ W, Ext w W → Calls Tryd.prog 24 #[stV vn vj s, .int .i64 (i : Int)] W fun e w' => e = .returned (.bool (goesN s n)) ∧ Ext W w') := Lib.hid fun W hW => goes_any vn vj s i n W (hr.ext hW) (hrj.ext hW) hi hN hM hJ (fun k x h => (hP k x h).1)
  unfold stV at HGO
  unfold cfV stV
  obtain ⟨A, ca, rfl, hnc, hcm, hcell⟩ := has_cells hr
  obtain ⟨b, o, rfl, hlt, hat⟩ := hcell i n hi
  have hil := (List.getElem?_eq_some_iff.1 hi).1
  have d5 : decide (i < s.nodes.length) = true := decide_eq_true hil
  have d6 : (i : Int) < (s.nodes.length : Int) := by omega
  have d7 : (0 : Int) ≤ (i : Int) := by omega
  obtain ⟨R, hR⟩ : ∃ R, R = way1 s i n := ⟨_, rfl⟩
  rw [← hR]
  have HR := Lib.hid hR
  obtain ⟨W1, hW1⟩ : ∃ W, W = w.alloc (.cells #[.int .i64 c.nodes, .int .i64 c.queues, .int .i64 c.quota, .int .i64 c.wave, .int .i64 c.lease, .int .i64 c.retry, .int .i64 c.deadline, .int .i64 c.room, .int .i64 c.disk] 23) := ⟨_, rfl⟩
  obtain ⟨W2, hW2⟩ : ∃ W, W = W1.alloc (.cells #[.slice (some ⟨b, o, none⟩) s.nodes.length ca, vj, .int .i64 s.goal, .int .i64 s.prior, .int .i64 s.mode, .int .i64 s.term] 27) := ⟨_, rfl⟩
  obtain ⟨W3, hW3⟩ : ∃ W, W = W2.alloc (.cells #[.int .i64 0, .int .i64 0, .int .i64 0, .int .i64 0, .int .i64 0, .int .i64 0, .int .i64 0] 32) := ⟨_, rfl⟩
  have s1 : W1.heap.size = w.heap.size + 1 := by rw [hW1]; simp
  have s2 : W2.heap.size = w.heap.size + 1 + 1 := by rw [hW2]; simp [s1]
  have x1 : Ext w W1 := by rw [hW1]; exact (Below.refl _ _).alloc (Nat.le_refl _) _
  have x2 : Ext W1 W2 := by rw [hW2]; exact (Below.refl _ _).alloc (Nat.le_refl _) _
  have x3 : Ext W2 W3 := by rw [hW3]; exact (Below.refl _ _).alloc (Nat.le_refl _) _
  have b1 : Blk W3 w.heap.size 23 #[.int .i64 c.nodes, .int .i64 c.queues, .int .i64 c.quota, .int .i64 c.wave, .int .i64 c.lease, .int .i64 c.retry, .int .i64 c.deadline, .int .i64 c.room, .int .i64 c.disk] := by
    have h : Blk W1 w.heap.size 23 #[.int .i64 c.nodes, .int .i64 c.queues, .int .i64 c.quota, .int .i64 c.wave, .int .i64 c.lease, .int .i64 c.retry, .int .i64 c.deadline, .int .i64 c.room, .int .i64 c.disk] := by rw [hW1]; exact Blk.new _ _ _
    exact h.ext (Ext.trans x2 x3)
  have b2 : Blk W3 (w.heap.size + 1) 27 #[.slice (some ⟨b, o, none⟩) s.nodes.length ca, vj, .int .i64 s.goal, .int .i64 s.prior, .int .i64 s.mode, .int .i64 s.term] := by
    have h : Blk W2 W1.heap.size 27 #[.slice (some ⟨b, o, none⟩) s.nodes.length ca, vj, .int .i64 s.goal, .int .i64 s.prior, .int .i64 s.mode, .int .i64 s.term] := by rw [hW2]; exact Blk.new _ _ _
    rw [s1] at h
    exact h.ext x3
  have b3 : Blk W3 (w.heap.size + 1 + 1) 32 #[.int .i64 0, .int .i64 0, .int .i64 0, .int .i64 0, .int .i64 0, .int .i64 0, .int .i64 0] := by
    have h : Blk W3 W2.heap.size 32 #[.int .i64 0, .int .i64 0, .int .i64 0, .int .i64 0, .int .i64 0, .int .i64 0, .int .i64 0] := by rw [hW3]; exact Blk.new _ _ _
    rw [s2] at h
    exact h
  have HX3 : Hid (Ext w W3) := Lib.hid (Ext.trans x1 (Ext.trans x2 x3))
  have HB1 := Lib.hid b1
  have HB2 := Lib.hid b2
  have HB3 := Lib.hid b3
  have HW3 : Hid (W3 = ((w.alloc (.cells #[.int .i64 c.nodes, .int .i64 c.queues, .int .i64 c.quota, .int .i64 c.wave, .int .i64 c.lease, .int .i64 c.retry, .int .i64 c.deadline, .int .i64 c.room, .int .i64 c.disk] 23)).alloc (.cells #[.slice (some ⟨b, o, none⟩) s.nodes.length ca, vj, .int .i64 s.goal, .int .i64 s.prior, .int .i64 s.mode, .int .i64 s.term] 27)).alloc (.cells #[.int .i64 0, .int .i64 0, .int .i64 0, .int .i64 0, .int .i64 0, .int .i64 0, .int .i64 0] 32)) := Lib.hid (by rw [hW3, hW2, hW1])
  have HAT := Lib.hid hat
  have HLT := Lib.hid hlt
  clear hW3 hW2 hW1 s1 s2 x1 x2 x3 b1 b2 b3 hR hr hrj hcell hat hlt hi hil hP hJ
  go_enter Tryd.func31, Tryd.ntmps31
  go_upto_region 1 with (fail)
  rw [← HW3.out]
  obtain ⟨gc, hgc⟩ : ∃ g, g = w.heap.size := ⟨_, rfl⟩
  obtain ⟨gs, hgs⟩ : ∃ g, g = w.heap.size + 1 := ⟨_, rfl⟩
  obtain ⟨gr, hgr⟩ : ∃ g, g = w.heap.size + 1 + 1 := ⟨_, rfl⟩
  rw [← hgr, ← hgs, ← hgc]
  rw [← hgr] at HB3
  rw [← hgs] at HB2
  rw [← hgc] at HB1
  have HGR : Hid (w.heap.size ≤ gr) := Lib.hid (by omega)
  clear HW3 hgc hgs hgr
  have h0 := HB2.out.cell 0
  obtain ⟨q0, q1, q2, q3, q4⟩ := HAT.out.ext HX3.out HLT.out
  go_upto_region 2 with (fail)
  obtain ⟨wn, hwn⟩ : ∃ wn, wn = W3.alloc (.cells #[.bool n.up, .bool n.cordon, .bool n.moving, .int .i64 n.version, .int .i64 n.job] 41) := ⟨_, rfl⟩
  have HXN : Hid (Ext W3 wn) := Lib.hid (by rw [hwn]; exact (Below.refl _ _).alloc (Nat.le_refl _) _)
  have HBN : Hid (Blk wn W3.heap.size 41 #[.bool n.up, .bool n.cordon, .bool n.moving, .int .i64 n.version, .int .i64 n.job]) := Lib.hid (by rw [hwn]; exact Blk.new _ _ _)
  rw [← hwn]
  obtain ⟨gx, hgx⟩ : ∃ g, g = W3.heap.size := ⟨_, rfl⟩
  rw [← hgx] at HBN ⊢
  clear hwn hgx
  have HXW : Hid (Ext w wn) := Lib.hid (Ext.trans HX3.out HXN.out)
  replace HB1 := Lib.hid (HB1.out.ext HXN.out)
  replace HB2 := Lib.hid (HB2.out.ext HXN.out)
  replace HB3 := Lib.hid (HB3.out.ext HXN.out)
  clear q0 q1 q2 q3 q4 h0 d5 d6 d7 HAT HLT HXN HX3
  rw [way1_goes] at HR
  have c0 := HBN.out.cell 0
  have c1 := HBN.out.cell 1
  have c2 := HBN.out.cell 2
  cases hco : n.cordon
  · rw [hco] at c1
    have HZ : Hid (R = none) := Lib.hid (by rw [HR.out, if_neg (by rw [hco]; simp)])
    clear hco
    have HI5 : Hid ((Tryd.prog.info? 32).map (·.size) = some (#[.int .i64 0, .int .i64 0, .int .i64 0, .int .i64 0, .int .i64 0, .int .i64 0, .int .i64 0] : Array Value).size) := Lib.hid infoOp
    have HO5 : Hid ((#[.int .i64 0, .int .i64 0, .int .i64 0, .int .i64 0, .int .i64 0, .int .i64 0, .int .i64 0] : Array Value).all (·.oneCell') = true) := Lib.hid (by simp [Value.oneCell'])
    go_wp2_with (refine wpList_storeB rfl 32 _ _ rfl gr #[.int .i64 0, .int .i64 0, .int .i64 0, .int .i64 0, .int .i64 0, .int .i64 0, .int .i64 0] rfl rfl 32 _ HB3.out HI5.out rfl HO5.out w.heap.size w HXW.out HGR.out ?_; intro w5 hb5 hx5)
    exact bodyPost_ret (run_op rfl rfl rfl hb5 rfl) rfl ⟨by rw [HZ.out]; rfl, hx5⟩
  · rw [hco] at c1
    cases hup : n.up
    · rw [hup] at c0
      have HZ : Hid (R = none) := Lib.hid (by rw [HR.out, if_neg (by rw [hup]; simp)])
      clear hco hup
      have HI5 : Hid ((Tryd.prog.info? 32).map (·.size) = some (#[.int .i64 0, .int .i64 0, .int .i64 0, .int .i64 0, .int .i64 0, .int .i64 0, .int .i64 0] : Array Value).size) := Lib.hid infoOp
      have HO5 : Hid ((#[.int .i64 0, .int .i64 0, .int .i64 0, .int .i64 0, .int .i64 0, .int .i64 0, .int .i64 0] : Array Value).all (·.oneCell') = true) := Lib.hid (by simp [Value.oneCell'])
      go_wp2_with (refine wpList_storeB rfl 32 _ _ rfl gr #[.int .i64 0, .int .i64 0, .int .i64 0, .int .i64 0, .int .i64 0, .int .i64 0, .int .i64 0] rfl rfl 32 _ HB3.out HI5.out rfl HO5.out w.heap.size w HXW.out HGR.out ?_; intro w5 hb5 hx5)
      exact bodyPost_ret (run_op rfl rfl rfl hb5 rfl) rfl ⟨by rw [HZ.out]; rfl, hx5⟩
    · rw [hup] at c0
      cases hmv : n.moving
      · rw [hmv] at c2
        obtain ⟨g0, g1, g2, g3, g4, g5⟩ := Blk.six HB2.out
        have HBC := Lib.hid (HGO.out wn HXW.out)
        go_wp2_with fail
        refine HBC.out.mono ?_
        rintro e4 w4 ⟨rfl, hx4⟩
        replace HXW := Lib.hid (Ext.trans HXW.out hx4)
        replace HB1 := Lib.hid (HB1.out.ext hx4)
        replace HB2 := Lib.hid (HB2.out.ext hx4)
        replace HB3 := Lib.hid (HB3.out.ext hx4)
        replace HBN := Lib.hid (HBN.out.ext hx4)
        clear hx4 HBC g0 g1 g2 g3 g4 g5
        simp only []
        cases hgo : goesN s n
        · have HZ : Hid (R = some (17, (i : Int), 0, 0, 0, 0, 0)) := Lib.hid (by rw [HR.out, if_pos ⟨hco, hup, hmv, hgo⟩])
          clear hco hup hmv hgo
          have HI5 : Hid ((Tryd.prog.info? 32).map (·.size) = some (#[.int .i64 17, .int .i64 (i : Int), .int .i64 0, .int .i64 0, .int .i64 0, .int .i64 0, .int .i64 0] : Array Value).size) := Lib.hid infoOp
          have HO5 : Hid ((#[.int .i64 17, .int .i64 (i : Int), .int .i64 0, .int .i64 0, .int .i64 0, .int .i64 0, .int .i64 0] : Array Value).all (·.oneCell') = true) := Lib.hid (by simp [Value.oneCell'])
          go_wp2_with (refine wpList_storeB rfl 32 _ _ rfl gr #[.int .i64 17, .int .i64 (i : Int), .int .i64 0, .int .i64 0, .int .i64 0, .int .i64 0, .int .i64 0] rfl rfl 32 _ HB3.out HI5.out rfl HO5.out w.heap.size w HXW.out HGR.out ?_; intro w5 hb5 hx5)
          exact bodyPost_ret (run_op rfl rfl rfl hb5 rfl) rfl ⟨by rw [HZ.out]; rfl, hx5⟩
        · have HZ : Hid (R = none) := Lib.hid (by rw [HR.out, if_neg (by rw [hgo]; simp)])
          clear hco hup hmv hgo
          have HI5 : Hid ((Tryd.prog.info? 32).map (·.size) = some (#[.int .i64 0, .int .i64 0, .int .i64 0, .int .i64 0, .int .i64 0, .int .i64 0, .int .i64 0] : Array Value).size) := Lib.hid infoOp
          have HO5 : Hid ((#[.int .i64 0, .int .i64 0, .int .i64 0, .int .i64 0, .int .i64 0, .int .i64 0, .int .i64 0] : Array Value).all (·.oneCell') = true) := Lib.hid (by simp [Value.oneCell'])
          go_wp2_with (refine wpList_storeB rfl 32 _ _ rfl gr #[.int .i64 0, .int .i64 0, .int .i64 0, .int .i64 0, .int .i64 0, .int .i64 0, .int .i64 0] rfl rfl 32 _ HB3.out HI5.out rfl HO5.out w.heap.size w HXW.out HGR.out ?_; intro w5 hb5 hx5)
          exact bodyPost_ret (run_op rfl rfl rfl hb5 rfl) rfl ⟨by rw [HZ.out]; rfl, hx5⟩
      · rw [hmv] at c2
        have HZ : Hid (R = none) := Lib.hid (by rw [HR.out, if_neg (by rw [hmv]; simp)])
        clear hco hup hmv
        have HI5 : Hid ((Tryd.prog.info? 32).map (·.size) = some (#[.int .i64 0, .int .i64 0, .int .i64 0, .int .i64 0, .int .i64 0, .int .i64 0, .int .i64 0] : Array Value).size) := Lib.hid infoOp
        have HO5 : Hid ((#[.int .i64 0, .int .i64 0, .int .i64 0, .int .i64 0, .int .i64 0, .int .i64 0, .int .i64 0] : Array Value).all (·.oneCell') = true) := Lib.hid (by simp [Value.oneCell'])
        go_wp2_with (refine wpList_storeB rfl 32 _ _ rfl gr #[.int .i64 0, .int .i64 0, .int .i64 0, .int .i64 0, .int .i64 0, .int .i64 0, .int .i64 0] rfl rfl 32 _ HB3.out HI5.out rfl HO5.out w.heap.size w HXW.out HGR.out ?_; intro w5 hb5 hx5)
        exact bodyPost_ret (run_op rfl rfl rfl hb5 rfl) rfl ⟨by rw [HZ.out]; rfl, hx5⟩

set_option maxRecDepth 100000 in
set_option maxHeartbeats 8000000 in
theorem way3_any (c : Cf) (vn vj : Value) (s : St) (now : Int) (i : Nat) (n : Nd) (w : World) (hr : RdNd w vn s.nodes) (hrj : RdJb w vj s.jobs) (hi : s.nodes[i]? = some n) (hN : s.nodes.length ≤ 6) (hM : s.jobs.length ≤ 24) (hJ : OkJ s) (hP : OkB s) :
    Calls Tryd.prog 33 #[cfV c, stV vn vj s, .int .i64 now, .int .i64 (i : Int)] w fun e w' => e = .returned (optV (way3 c s i n)) ∧ Ext w w' := by
  have HGO : Hid (∀ W, Ext w W → Calls Tryd.prog 24 #[stV vn vj s, .int .i64 (i : Int)] W fun e w' => e = .returned (.bool (goesN s n)) ∧ Ext W w') := Lib.hid fun W hW => goes_any vn vj s i n W (hr.ext hW) (hrj.ext hW) hi hN hM hJ (fun k x h => (hP k x h).1)
  unfold stV at HGO
  have HWV : Hid (∀ W, Ext w W → Calls Tryd.prog 10 #[stV vn vj s] W fun e w' => e = .returned (.int .i64 (waveS s : Int)) ∧ Ext W w') := Lib.hid fun W hW => Wave_any vn vj s W (hr.ext hW) hN
  unfold stV at HWV
  unfold cfV stV
  obtain ⟨A, ca, rfl, hnc, hcm, hcell⟩ := has_cells hr
  obtain ⟨b, o, rfl, hlt, hat⟩ := hcell i n hi
  have hil := (List.getElem?_eq_some_iff.1 hi).1
  have d5 : decide (i < s.nodes.length) = true := decide_eq_true hil
  have d6 : (i : Int) < (s.nodes.length : Int) := by omega
  have d7 : (0 : Int) ≤ (i : Int) := by omega
  obtain ⟨R, hR⟩ : ∃ R, R = way3 c s i n := ⟨_, rfl⟩
  rw [← hR]
  have HR := Lib.hid hR
  obtain ⟨W1, hW1⟩ : ∃ W, W = w.alloc (.cells #[.int .i64 c.nodes, .int .i64 c.queues, .int .i64 c.quota, .int .i64 c.wave, .int .i64 c.lease, .int .i64 c.retry, .int .i64 c.deadline, .int .i64 c.room, .int .i64 c.disk] 23) := ⟨_, rfl⟩
  obtain ⟨W2, hW2⟩ : ∃ W, W = W1.alloc (.cells #[.slice (some ⟨b, o, none⟩) s.nodes.length ca, vj, .int .i64 s.goal, .int .i64 s.prior, .int .i64 s.mode, .int .i64 s.term] 27) := ⟨_, rfl⟩
  obtain ⟨W3, hW3⟩ : ∃ W, W = W2.alloc (.cells #[.int .i64 0, .int .i64 0, .int .i64 0, .int .i64 0, .int .i64 0, .int .i64 0, .int .i64 0] 32) := ⟨_, rfl⟩
  have s1 : W1.heap.size = w.heap.size + 1 := by rw [hW1]; simp
  have s2 : W2.heap.size = w.heap.size + 1 + 1 := by rw [hW2]; simp [s1]
  have x1 : Ext w W1 := by rw [hW1]; exact (Below.refl _ _).alloc (Nat.le_refl _) _
  have x2 : Ext W1 W2 := by rw [hW2]; exact (Below.refl _ _).alloc (Nat.le_refl _) _
  have x3 : Ext W2 W3 := by rw [hW3]; exact (Below.refl _ _).alloc (Nat.le_refl _) _
  have b1 : Blk W3 w.heap.size 23 #[.int .i64 c.nodes, .int .i64 c.queues, .int .i64 c.quota, .int .i64 c.wave, .int .i64 c.lease, .int .i64 c.retry, .int .i64 c.deadline, .int .i64 c.room, .int .i64 c.disk] := by
    have h : Blk W1 w.heap.size 23 #[.int .i64 c.nodes, .int .i64 c.queues, .int .i64 c.quota, .int .i64 c.wave, .int .i64 c.lease, .int .i64 c.retry, .int .i64 c.deadline, .int .i64 c.room, .int .i64 c.disk] := by rw [hW1]; exact Blk.new _ _ _
    exact h.ext (Ext.trans x2 x3)
  have b2 : Blk W3 (w.heap.size + 1) 27 #[.slice (some ⟨b, o, none⟩) s.nodes.length ca, vj, .int .i64 s.goal, .int .i64 s.prior, .int .i64 s.mode, .int .i64 s.term] := by
    have h : Blk W2 W1.heap.size 27 #[.slice (some ⟨b, o, none⟩) s.nodes.length ca, vj, .int .i64 s.goal, .int .i64 s.prior, .int .i64 s.mode, .int .i64 s.term] := by rw [hW2]; exact Blk.new _ _ _
    rw [s1] at h
    exact h.ext x3
  have b3 : Blk W3 (w.heap.size + 1 + 1) 32 #[.int .i64 0, .int .i64 0, .int .i64 0, .int .i64 0, .int .i64 0, .int .i64 0, .int .i64 0] := by
    have h : Blk W3 W2.heap.size 32 #[.int .i64 0, .int .i64 0, .int .i64 0, .int .i64 0, .int .i64 0, .int .i64 0, .int .i64 0] := by rw [hW3]; exact Blk.new _ _ _
    rw [s2] at h
    exact h
  have HX3 : Hid (Ext w W3) := Lib.hid (Ext.trans x1 (Ext.trans x2 x3))
  have HB1 := Lib.hid b1
  have HB2 := Lib.hid b2
  have HB3 := Lib.hid b3
  have HW3 : Hid (W3 = ((w.alloc (.cells #[.int .i64 c.nodes, .int .i64 c.queues, .int .i64 c.quota, .int .i64 c.wave, .int .i64 c.lease, .int .i64 c.retry, .int .i64 c.deadline, .int .i64 c.room, .int .i64 c.disk] 23)).alloc (.cells #[.slice (some ⟨b, o, none⟩) s.nodes.length ca, vj, .int .i64 s.goal, .int .i64 s.prior, .int .i64 s.mode, .int .i64 s.term] 27)).alloc (.cells #[.int .i64 0, .int .i64 0, .int .i64 0, .int .i64 0, .int .i64 0, .int .i64 0, .int .i64 0] 32)) := Lib.hid (by rw [hW3, hW2, hW1])
  have HAT := Lib.hid hat
  have HLT := Lib.hid hlt
  clear hW3 hW2 hW1 s1 s2 x1 x2 x3 b1 b2 b3 hR hr hrj hcell hat hlt hi hil hP hJ
  go_enter Tryd.func33, Tryd.ntmps33
  go_upto_region 1 with (fail)
  rw [← HW3.out]
  obtain ⟨gc, hgc⟩ : ∃ g, g = w.heap.size := ⟨_, rfl⟩
  obtain ⟨gs, hgs⟩ : ∃ g, g = w.heap.size + 1 := ⟨_, rfl⟩
  obtain ⟨gr, hgr⟩ : ∃ g, g = w.heap.size + 1 + 1 := ⟨_, rfl⟩
  rw [← hgr, ← hgs, ← hgc]
  rw [← hgr] at HB3
  rw [← hgs] at HB2
  rw [← hgc] at HB1
  have HGR : Hid (w.heap.size ≤ gr) := Lib.hid (by omega)
  clear HW3 hgc hgs hgr
  rw [way3_goes] at HR
  have HD5 := Lib.hid d5
  have HD6 := Lib.hid d6
  have HD7 := Lib.hid d7
  clear d5 d6 d7
  cases hco : n.cordon
  · refine held_begin (by kernel_rfl) ?_
    refine held_more (S' := fun W' : World => Ext W3 W') (fun _ _ => True.intro) ?_
    have hSx : (fun W' : World => Ext W3 W') W3.drew := Below.drewN' (Ext.refl W3) 1
    refine held_take (i := 0) (v := ?_) rfl (by kernel_rfl) (by kernel_rfl) (by kernel_rfl) (by rfl) (by first | assumption | exact True.intro) ?_ ?_
    rotate_left
    · (intro W hSw; obtain ⟨g0, g1, g2, g3, g4, g5⟩ := Blk.six (HB2.out.ext hSw); obtain ⟨q0, q1, q2, q3, q4⟩ := HAT.out.ext (Ext.trans HX3.out hSw) HLT.out; rw [hco] at q1; have k3 := (HB1.out.ext hSw).cell 3; have d5 := HD5.out; have d6 := HD6.out; have d7 := HD7.out; go_simp; (try with_reducible rfl))
    try simp only [Act.put, List.setIfInBounds_toArray, List.set_cons_zero, List.set_cons_succ]
    refine held_take (i := 1) (v := ?_) rfl (by kernel_rfl) (by kernel_rfl) (by kernel_rfl) (by rfl) (by first | assumption | exact True.intro) ?_ ?_
    rotate_left
    · (intro W hSw; obtain ⟨g0, g1, g2, g3, g4, g5⟩ := Blk.six (HB2.out.ext hSw); obtain ⟨q0, q1, q2, q3, q4⟩ := HAT.out.ext (Ext.trans HX3.out hSw) HLT.out; rw [hco] at q1; have k3 := (HB1.out.ext hSw).cell 3; have d5 := HD5.out; have d6 := HD6.out; have d7 := HD7.out; go_simp; (try with_reducible rfl))
    try simp only [Act.put, List.setIfInBounds_toArray, List.set_cons_zero, List.set_cons_succ]
    refine held_take (i := 2) (v := ?_) rfl (by kernel_rfl) (by kernel_rfl) (by kernel_rfl) (by rfl) (by first | assumption | exact True.intro) ?_ ?_
    rotate_left
    · (intro W hSw; obtain ⟨g0, g1, g2, g3, g4, g5⟩ := Blk.six (HB2.out.ext hSw); obtain ⟨q0, q1, q2, q3, q4⟩ := HAT.out.ext (Ext.trans HX3.out hSw) HLT.out; rw [hco] at q1; have k3 := (HB1.out.ext hSw).cell 3; have d5 := HD5.out; have d6 := HD6.out; have d7 := HD7.out; go_simp; (try with_reducible rfl))
    try simp only [Act.put, List.setIfInBounds_toArray, List.set_cons_zero, List.set_cons_succ]
    refine held_take (i := 3) (v := ?_) rfl (by kernel_rfl) (by kernel_rfl) (by kernel_rfl) (by rfl) (by first | assumption | exact True.intro) ?_ ?_
    rotate_left
    · (intro W hSw; obtain ⟨g0, g1, g2, g3, g4, g5⟩ := Blk.six (HB2.out.ext hSw); obtain ⟨q0, q1, q2, q3, q4⟩ := HAT.out.ext (Ext.trans HX3.out hSw) HLT.out; rw [hco] at q1; have k3 := (HB1.out.ext hSw).cell 3; have d5 := HD5.out; have d6 := HD6.out; have d7 := HD7.out; go_simp; (try with_reducible rfl))
    try simp only [Act.put, List.setIfInBounds_toArray, List.set_cons_zero, List.set_cons_succ]
    refine held_take (i := 4) (v := ?_) rfl (by kernel_rfl) (by kernel_rfl) (by kernel_rfl) (by rfl) (by first | assumption | exact True.intro) ?_ ?_
    rotate_left
    · (intro W hSw; obtain ⟨g0, g1, g2, g3, g4, g5⟩ := Blk.six (HB2.out.ext hSw); obtain ⟨q0, q1, q2, q3, q4⟩ := HAT.out.ext (Ext.trans HX3.out hSw) HLT.out; rw [hco] at q1; have k3 := (HB1.out.ext hSw).cell 3; have d5 := HD5.out; have d6 := HD6.out; have d7 := HD7.out; go_simp; (try with_reducible rfl))
    try simp only [Act.put, List.setIfInBounds_toArray, List.set_cons_zero, List.set_cons_succ]
    refine held_take (i := 5) (v := ?_) rfl (by kernel_rfl) (by kernel_rfl) (by kernel_rfl) (by rfl) (by first | assumption | exact True.intro) ?_ ?_
    rotate_left
    · (intro W hSw; obtain ⟨g0, g1, g2, g3, g4, g5⟩ := Blk.six (HB2.out.ext hSw); obtain ⟨q0, q1, q2, q3, q4⟩ := HAT.out.ext (Ext.trans HX3.out hSw) HLT.out; rw [hco] at q1; have k3 := (HB1.out.ext hSw).cell 3; have d5 := HD5.out; have d6 := HD6.out; have d7 := HD7.out; go_simp; (try with_reducible rfl))
    try simp only [Act.put, List.setIfInBounds_toArray, List.set_cons_zero, List.set_cons_succ]
    refine held_take (i := 6) (v := ?_) rfl (by kernel_rfl) (by kernel_rfl) (by kernel_rfl) (by rfl) (by first | assumption | exact True.intro) ?_ ?_
    rotate_left
    · (intro W hSw; obtain ⟨g0, g1, g2, g3, g4, g5⟩ := Blk.six (HB2.out.ext hSw); obtain ⟨q0, q1, q2, q3, q4⟩ := HAT.out.ext (Ext.trans HX3.out hSw) HLT.out; rw [hco] at q1; have k3 := (HB1.out.ext hSw).cell 3; have d5 := HD5.out; have d6 := HD6.out; have d7 := HD7.out; go_simp; (try with_reducible rfl))
    try simp only [Act.put, List.setIfInBounds_toArray, List.set_cons_zero, List.set_cons_succ]
    refine held_take (i := 7) (v := ?_) rfl (by kernel_rfl) (by kernel_rfl) (by kernel_rfl) (by rfl) (by first | assumption | exact True.intro) ?_ ?_
    rotate_left
    · (intro W hSw; obtain ⟨g0, g1, g2, g3, g4, g5⟩ := Blk.six (HB2.out.ext hSw); obtain ⟨q0, q1, q2, q3, q4⟩ := HAT.out.ext (Ext.trans HX3.out hSw) HLT.out; rw [hco] at q1; have k3 := (HB1.out.ext hSw).cell 3; have d5 := HD5.out; have d6 := HD6.out; have d7 := HD7.out; go_simp; (try with_reducible rfl))
    try simp only [Act.put, List.setIfInBounds_toArray, List.set_cons_zero, List.set_cons_succ]
    refine held_take (i := 8) (v := ?_) rfl (by kernel_rfl) (by kernel_rfl) (by kernel_rfl) (by rfl) (by first | assumption | exact True.intro) ?_ ?_
    rotate_left
    · (intro W hSw; obtain ⟨g0, g1, g2, g3, g4, g5⟩ := Blk.six (HB2.out.ext hSw); obtain ⟨q0, q1, q2, q3, q4⟩ := HAT.out.ext (Ext.trans HX3.out hSw) HLT.out; rw [hco] at q1; have k3 := (HB1.out.ext hSw).cell 3; have d5 := HD5.out; have d6 := HD6.out; have d7 := HD7.out; go_simp; (try with_reducible rfl))
    try simp only [Act.put, List.setIfInBounds_toArray, List.set_cons_zero, List.set_cons_succ]
    clear hSx
    refine held_op (i := 9) (by kernel_rfl) rfl (fun K hK => ?_)
    go_simp
    go_at_call 24
    refine (HGO.out _ (Ext.trans HX3.out (Below.drewN' (Ext.refl W3) 1))).mono ?_
    rintro e3 w3 ⟨rfl, hx3⟩
    have HX4 : Hid (Ext W3 w3) := Lib.hid (Ext.trans (Below.drewN' (Ext.refl W3) 1) hx3)
    clear hx3
    refine hK _ _ (HX4.out) (fun hSx => ?_)
    clear hK K
    try simp only [Act.put, List.setIfInBounds_toArray, List.set_cons_zero, List.set_cons_succ]
    cases hgo : goesN s n
    · have HZ : Hid (R = none) := Lib.hid (by rw [HR.out, if_neg (by rw [hgo]; simp)])
      refine held_take (i := 10) (v := ?_) rfl (by kernel_rfl) (by kernel_rfl) (by kernel_rfl) (by rfl) (by first | assumption | exact True.intro) ?_ ?_
      rotate_left
      · (intro W hSw; obtain ⟨g0, g1, g2, g3, g4, g5⟩ := Blk.six (HB2.out.ext hSw); obtain ⟨q0, q1, q2, q3, q4⟩ := HAT.out.ext (Ext.trans HX3.out hSw) HLT.out; rw [hco] at q1; have k3 := (HB1.out.ext hSw).cell 3; have d5 := HD5.out; have d6 := HD6.out; have d7 := HD7.out; go_simp; (try with_reducible rfl))
      try simp only [Act.put, List.setIfInBounds_toArray, List.set_cons_zero, List.set_cons_succ]
      refine held_take (i := 11) (v := ?_) rfl (by kernel_rfl) (by kernel_rfl) (by kernel_rfl) (by rfl) (by first | assumption | exact True.intro) ?_ ?_
      rotate_left
      · (intro W hSw; obtain ⟨g0, g1, g2, g3, g4, g5⟩ := Blk.six (HB2.out.ext hSw); obtain ⟨q0, q1, q2, q3, q4⟩ := HAT.out.ext (Ext.trans HX3.out hSw) HLT.out; rw [hco] at q1; have k3 := (HB1.out.ext hSw).cell 3; have d5 := HD5.out; have d6 := HD6.out; have d7 := HD7.out; go_simp; (try with_reducible rfl))
      try simp only [Act.put, List.setIfInBounds_toArray, List.set_cons_zero, List.set_cons_succ]
      refine held_take (i := 12) (v := ?_) rfl (by kernel_rfl) (by kernel_rfl) (by kernel_rfl) (by rfl) (by first | assumption | exact True.intro) ?_ ?_
      rotate_left
      · (intro W hSw; obtain ⟨g0, g1, g2, g3, g4, g5⟩ := Blk.six (HB2.out.ext hSw); obtain ⟨q0, q1, q2, q3, q4⟩ := HAT.out.ext (Ext.trans HX3.out hSw) HLT.out; rw [hco] at q1; have k3 := (HB1.out.ext hSw).cell 3; have d5 := HD5.out; have d6 := HD6.out; have d7 := HD7.out; go_simp; (try with_reducible rfl))
      try simp only [Act.put, List.setIfInBounds_toArray, List.set_cons_zero, List.set_cons_succ]
      refine held_skip (i := 13) rfl (by kernel_rfl) (by kernel_rfl) (by kernel_rfl) (by rfl) (by first | assumption | exact True.intro) ?_
      try simp only [Act.put, List.setIfInBounds_toArray, List.set_cons_zero, List.set_cons_succ]
      refine held_skip (i := 14) rfl (by kernel_rfl) (by kernel_rfl) (by kernel_rfl) (by rfl) (by first | assumption | exact True.intro) ?_
      try simp only [Act.put, List.setIfInBounds_toArray, List.set_cons_zero, List.set_cons_succ]
      refine held_skip (i := 15) rfl (by kernel_rfl) (by kernel_rfl) (by kernel_rfl) (by rfl) (by first | assumption | exact True.intro) ?_
      try simp only [Act.put, List.setIfInBounds_toArray, List.set_cons_zero, List.set_cons_succ]
      refine held_skip (i := 16) rfl (by kernel_rfl) (by kernel_rfl) (by kernel_rfl) (by rfl) (by first | assumption | exact True.intro) ?_
      try simp only [Act.put, List.setIfInBounds_toArray, List.set_cons_zero, List.set_cons_succ]
      refine held_skip (i := 17) rfl (by kernel_rfl) (by kernel_rfl) (by kernel_rfl) (by rfl) (by first | assumption | exact True.intro) ?_
      try simp only [Act.put, List.setIfInBounds_toArray, List.set_cons_zero, List.set_cons_succ]
      refine held_take (i := 18) (v := ?_) rfl (by kernel_rfl) (by kernel_rfl) (by kernel_rfl) (by rfl) (by first | assumption | exact True.intro) ?_ ?_
      rotate_left
      · (intro W hSw; obtain ⟨g0, g1, g2, g3, g4, g5⟩ := Blk.six (HB2.out.ext hSw); obtain ⟨q0, q1, q2, q3, q4⟩ := HAT.out.ext (Ext.trans HX3.out hSw) HLT.out; rw [hco] at q1; have k3 := (HB1.out.ext hSw).cell 3; have d5 := HD5.out; have d6 := HD6.out; have d7 := HD7.out; go_simp; (try with_reducible rfl))
      try simp only [Act.put, List.setIfInBounds_toArray, List.set_cons_zero, List.set_cons_succ]
      clear hSx
      refine wpAnyH_done (by kernel_rfl) ?_ _
      refine NoPanic.normal ?_
      have HXZ := Lib.hid (Ext.trans HX3.out (HX4.out))
      replace HB3 := Lib.hid (HB3.out.ext (HX4.out))
      clear hco hgo
      have HI5 : Hid ((Tryd.prog.info? 32).map (·.size) = some (#[.int .i64 0, .int .i64 0, .int .i64 0, .int .i64 0, .int .i64 0, .int .i64 0, .int .i64 0] : Array Value).size) := Lib.hid infoOp
      have HO5 : Hid ((#[.int .i64 0, .int .i64 0, .int .i64 0, .int .i64 0, .int .i64 0, .int .i64 0, .int .i64 0] : Array Value).all (·.oneCell') = true) := Lib.hid (by simp [Value.oneCell'])
      go_wp2_with (refine wpList_storeB rfl 32 _ _ rfl gr #[.int .i64 0, .int .i64 0, .int .i64 0, .int .i64 0, .int .i64 0, .int .i64 0, .int .i64 0] rfl rfl 32 _ HB3.out HI5.out rfl HO5.out w.heap.size w HXZ.out HGR.out ?_; intro w5 hb5 hx5)
      exact bodyPost_ret (run_op rfl rfl rfl hb5 rfl) rfl ⟨by rw [HZ.out]; rfl, hx5⟩
    · refine held_take (i := 10) (v := ?_) rfl (by kernel_rfl) (by kernel_rfl) (by kernel_rfl) (by rfl) (by first | assumption | exact True.intro) ?_ ?_
      rotate_left
      · (intro W hSw; obtain ⟨g0, g1, g2, g3, g4, g5⟩ := Blk.six (HB2.out.ext hSw); obtain ⟨q0, q1, q2, q3, q4⟩ := HAT.out.ext (Ext.trans HX3.out hSw) HLT.out; rw [hco] at q1; have k3 := (HB1.out.ext hSw).cell 3; have d5 := HD5.out; have d6 := HD6.out; have d7 := HD7.out; go_simp; (try with_reducible rfl))
      try simp only [Act.put, List.setIfInBounds_toArray, List.set_cons_zero, List.set_cons_succ]
      refine held_take (i := 11) (v := ?_) rfl (by kernel_rfl) (by kernel_rfl) (by kernel_rfl) (by rfl) (by first | assumption | exact True.intro) ?_ ?_
      rotate_left
      · (intro W hSw; obtain ⟨g0, g1, g2, g3, g4, g5⟩ := Blk.six (HB2.out.ext hSw); obtain ⟨q0, q1, q2, q3, q4⟩ := HAT.out.ext (Ext.trans HX3.out hSw) HLT.out; rw [hco] at q1; have k3 := (HB1.out.ext hSw).cell 3; have d5 := HD5.out; have d6 := HD6.out; have d7 := HD7.out; go_simp; (try with_reducible rfl))
      try simp only [Act.put, List.setIfInBounds_toArray, List.set_cons_zero, List.set_cons_succ]
      refine held_take (i := 12) (v := ?_) rfl (by kernel_rfl) (by kernel_rfl) (by kernel_rfl) (by rfl) (by first | assumption | exact True.intro) ?_ ?_
      rotate_left
      · (intro W hSw; obtain ⟨g0, g1, g2, g3, g4, g5⟩ := Blk.six (HB2.out.ext hSw); obtain ⟨q0, q1, q2, q3, q4⟩ := HAT.out.ext (Ext.trans HX3.out hSw) HLT.out; rw [hco] at q1; have k3 := (HB1.out.ext hSw).cell 3; have d5 := HD5.out; have d6 := HD6.out; have d7 := HD7.out; go_simp; (try with_reducible rfl))
      try simp only [Act.put, List.setIfInBounds_toArray, List.set_cons_zero, List.set_cons_succ]
      refine held_take (i := 13) (v := ?_) rfl (by kernel_rfl) (by kernel_rfl) (by kernel_rfl) (by rfl) (by first | assumption | exact True.intro) ?_ ?_
      rotate_left
      · (intro W hSw; obtain ⟨g0, g1, g2, g3, g4, g5⟩ := Blk.six (HB2.out.ext hSw); obtain ⟨q0, q1, q2, q3, q4⟩ := HAT.out.ext (Ext.trans HX3.out hSw) HLT.out; rw [hco] at q1; have k3 := (HB1.out.ext hSw).cell 3; have d5 := HD5.out; have d6 := HD6.out; have d7 := HD7.out; go_simp; (try with_reducible rfl))
      try simp only [Act.put, List.setIfInBounds_toArray, List.set_cons_zero, List.set_cons_succ]
      refine held_take (i := 15) (v := ?_) rfl (by kernel_rfl) (by kernel_rfl) (by kernel_rfl) (by rfl) (by first | assumption | exact True.intro) ?_ ?_
      rotate_left
      · (intro W hSw; obtain ⟨g0, g1, g2, g3, g4, g5⟩ := Blk.six (HB2.out.ext hSw); obtain ⟨q0, q1, q2, q3, q4⟩ := HAT.out.ext (Ext.trans HX3.out hSw) HLT.out; rw [hco] at q1; have k3 := (HB1.out.ext hSw).cell 3; have d5 := HD5.out; have d6 := HD6.out; have d7 := HD7.out; go_simp; (try with_reducible rfl))
      try simp only [Act.put, List.setIfInBounds_toArray, List.set_cons_zero, List.set_cons_succ]
      refine held_take (i := 16) (v := ?_) rfl (by kernel_rfl) (by kernel_rfl) (by kernel_rfl) (by rfl) (by first | assumption | exact True.intro) ?_ ?_
      rotate_left
      · (intro W hSw; obtain ⟨g0, g1, g2, g3, g4, g5⟩ := Blk.six (HB2.out.ext hSw); obtain ⟨q0, q1, q2, q3, q4⟩ := HAT.out.ext (Ext.trans HX3.out hSw) HLT.out; rw [hco] at q1; have k3 := (HB1.out.ext hSw).cell 3; have d5 := HD5.out; have d6 := HD6.out; have d7 := HD7.out; go_simp; (try with_reducible rfl))
      try simp only [Act.put, List.setIfInBounds_toArray, List.set_cons_zero, List.set_cons_succ]
      clear hSx
      refine held_op (i := 14) (by kernel_rfl) rfl (fun K hK => ?_)
      go_simp
      go_at_call 10
      refine (HWV.out _ (Ext.trans HX3.out HX4.out)).mono ?_
      rintro e5 w5 ⟨rfl, hx5⟩
      have HX6 : Hid (Ext W3 w5) := Lib.hid (Ext.trans HX4.out hx5)
      clear hx5
      refine hK _ _ (HX6.out) (fun hSx => ?_)
      clear hK K
      try simp only [Act.put, List.setIfInBounds_toArray, List.set_cons_zero, List.set_cons_succ]
      refine held_take (i := 17) (v := ?_) rfl (by kernel_rfl) (by kernel_rfl) (by kernel_rfl) (by rfl) (by first | assumption | exact True.intro) ?_ ?_
      rotate_left
      · (intro W hSw; obtain ⟨g0, g1, g2, g3, g4, g5⟩ := Blk.six (HB2.out.ext hSw); obtain ⟨q0, q1, q2, q3, q4⟩ := HAT.out.ext (Ext.trans HX3.out hSw) HLT.out; rw [hco] at q1; have k3 := (HB1.out.ext hSw).cell 3; have d5 := HD5.out; have d6 := HD6.out; have d7 := HD7.out; go_simp; (try with_reducible rfl))
      try simp only [Act.put, List.setIfInBounds_toArray, List.set_cons_zero, List.set_cons_succ]
      refine held_take (i := 18) (v := ?_) rfl (by kernel_rfl) (by kernel_rfl) (by kernel_rfl) (by rfl) (by first | assumption | exact True.intro) ?_ ?_
      rotate_left
      · (intro W hSw; obtain ⟨g0, g1, g2, g3, g4, g5⟩ := Blk.six (HB2.out.ext hSw); obtain ⟨q0, q1, q2, q3, q4⟩ := HAT.out.ext (Ext.trans HX3.out hSw) HLT.out; rw [hco] at q1; have k3 := (HB1.out.ext hSw).cell 3; have d5 := HD5.out; have d6 := HD6.out; have d7 := HD7.out; go_simp; (try with_reducible rfl))
      try simp only [Act.put, List.setIfInBounds_toArray, List.set_cons_zero, List.set_cons_succ]
      clear hSx
      refine wpAnyH_done (by kernel_rfl) ?_ _
      refine NoPanic.normal ?_
      have HXZ := Lib.hid (Ext.trans HX3.out (HX6.out))
      replace HB3 := Lib.hid (HB3.out.ext (HX6.out))
      by_cases hw : (waveS s : Int) < c.wave
      · have f1 : decide (c.wave ≤ (waveS s : Int)) = false := decide_eq_false (by omega)
        have HZ : Hid (R = some (16, (i : Int), 0, 0, 0, 0, 0)) := Lib.hid (by rw [HR.out, if_pos ⟨hco, hgo, hw⟩])
        rw [f1]
        clear f1 hw hco hgo
        have HI5 : Hid ((Tryd.prog.info? 32).map (·.size) = some (#[.int .i64 16, .int .i64 (i : Int), .int .i64 0, .int .i64 0, .int .i64 0, .int .i64 0, .int .i64 0] : Array Value).size) := Lib.hid infoOp
        have HO5 : Hid ((#[.int .i64 16, .int .i64 (i : Int), .int .i64 0, .int .i64 0, .int .i64 0, .int .i64 0, .int .i64 0] : Array Value).all (·.oneCell') = true) := Lib.hid (by simp [Value.oneCell'])
        go_wp2_with (refine wpList_storeB rfl 32 _ _ rfl gr #[.int .i64 16, .int .i64 (i : Int), .int .i64 0, .int .i64 0, .int .i64 0, .int .i64 0, .int .i64 0] rfl rfl 32 _ HB3.out HI5.out rfl HO5.out w.heap.size w HXZ.out HGR.out ?_; intro w5 hb5 hx5)
        exact bodyPost_ret (run_op rfl rfl rfl hb5 rfl) rfl ⟨by rw [HZ.out]; rfl, hx5⟩
      · have f1 : decide (c.wave ≤ (waveS s : Int)) = true := decide_eq_true (by omega)
        have HZ : Hid (R = none) := Lib.hid (by rw [HR.out, if_neg (by rintro ⟨-, -, h⟩; exact hw h)])
        rw [f1]
        clear f1 hw hco hgo
        have HI5 : Hid ((Tryd.prog.info? 32).map (·.size) = some (#[.int .i64 0, .int .i64 0, .int .i64 0, .int .i64 0, .int .i64 0, .int .i64 0, .int .i64 0] : Array Value).size) := Lib.hid infoOp
        have HO5 : Hid ((#[.int .i64 0, .int .i64 0, .int .i64 0, .int .i64 0, .int .i64 0, .int .i64 0, .int .i64 0] : Array Value).all (·.oneCell') = true) := Lib.hid (by simp [Value.oneCell'])
        go_wp2_with (refine wpList_storeB rfl 32 _ _ rfl gr #[.int .i64 0, .int .i64 0, .int .i64 0, .int .i64 0, .int .i64 0, .int .i64 0, .int .i64 0] rfl rfl 32 _ HB3.out HI5.out rfl HO5.out w.heap.size w HXZ.out HGR.out ?_; intro w5 hb5 hx5)
        exact bodyPost_ret (run_op rfl rfl rfl hb5 rfl) rfl ⟨by rw [HZ.out]; rfl, hx5⟩
  · have HZ : Hid (R = none) := Lib.hid (by rw [HR.out, if_neg (by rw [hco]; simp)])
    refine held_begin (by kernel_rfl) ?_
    refine held_more (S' := fun W' : World => Ext W3 W') (fun _ _ => True.intro) ?_
    have hSx : (fun W' : World => Ext W3 W') W3.drew := Below.drewN' (Ext.refl W3) 1
    refine held_take (i := 0) (v := ?_) rfl (by kernel_rfl) (by kernel_rfl) (by kernel_rfl) (by rfl) (by first | assumption | exact True.intro) ?_ ?_
    rotate_left
    · (intro W hSw; obtain ⟨g0, g1, g2, g3, g4, g5⟩ := Blk.six (HB2.out.ext hSw); obtain ⟨q0, q1, q2, q3, q4⟩ := HAT.out.ext (Ext.trans HX3.out hSw) HLT.out; rw [hco] at q1; have k3 := (HB1.out.ext hSw).cell 3; have d5 := HD5.out; have d6 := HD6.out; have d7 := HD7.out; go_simp; (try with_reducible rfl))
    try simp only [Act.put, List.setIfInBounds_toArray, List.set_cons_zero, List.set_cons_succ]
    refine held_take (i := 1) (v := ?_) rfl (by kernel_rfl) (by kernel_rfl) (by kernel_rfl) (by rfl) (by first | assumption | exact True.intro) ?_ ?_
    rotate_left
    · (intro W hSw; obtain ⟨g0, g1, g2, g3, g4, g5⟩ := Blk.six (HB2.out.ext hSw); obtain ⟨q0, q1, q2, q3, q4⟩ := HAT.out.ext (Ext.trans HX3.out hSw) HLT.out; rw [hco] at q1; have k3 := (HB1.out.ext hSw).cell 3; have d5 := HD5.out; have d6 := HD6.out; have d7 := HD7.out; go_simp; (try with_reducible rfl))
    try simp only [Act.put, List.setIfInBounds_toArray, List.set_cons_zero, List.set_cons_succ]
    refine held_take (i := 2) (v := ?_) rfl (by kernel_rfl) (by kernel_rfl) (by kernel_rfl) (by rfl) (by first | assumption | exact True.intro) ?_ ?_
    rotate_left
    · (intro W hSw; obtain ⟨g0, g1, g2, g3, g4, g5⟩ := Blk.six (HB2.out.ext hSw); obtain ⟨q0, q1, q2, q3, q4⟩ := HAT.out.ext (Ext.trans HX3.out hSw) HLT.out; rw [hco] at q1; have k3 := (HB1.out.ext hSw).cell 3; have d5 := HD5.out; have d6 := HD6.out; have d7 := HD7.out; go_simp; (try with_reducible rfl))
    try simp only [Act.put, List.setIfInBounds_toArray, List.set_cons_zero, List.set_cons_succ]
    refine held_take (i := 3) (v := ?_) rfl (by kernel_rfl) (by kernel_rfl) (by kernel_rfl) (by rfl) (by first | assumption | exact True.intro) ?_ ?_
    rotate_left
    · (intro W hSw; obtain ⟨g0, g1, g2, g3, g4, g5⟩ := Blk.six (HB2.out.ext hSw); obtain ⟨q0, q1, q2, q3, q4⟩ := HAT.out.ext (Ext.trans HX3.out hSw) HLT.out; rw [hco] at q1; have k3 := (HB1.out.ext hSw).cell 3; have d5 := HD5.out; have d6 := HD6.out; have d7 := HD7.out; go_simp; (try with_reducible rfl))
    try simp only [Act.put, List.setIfInBounds_toArray, List.set_cons_zero, List.set_cons_succ]
    refine held_take (i := 4) (v := ?_) rfl (by kernel_rfl) (by kernel_rfl) (by kernel_rfl) (by rfl) (by first | assumption | exact True.intro) ?_ ?_
    rotate_left
    · (intro W hSw; obtain ⟨g0, g1, g2, g3, g4, g5⟩ := Blk.six (HB2.out.ext hSw); obtain ⟨q0, q1, q2, q3, q4⟩ := HAT.out.ext (Ext.trans HX3.out hSw) HLT.out; rw [hco] at q1; have k3 := (HB1.out.ext hSw).cell 3; have d5 := HD5.out; have d6 := HD6.out; have d7 := HD7.out; go_simp; (try with_reducible rfl))
    try simp only [Act.put, List.setIfInBounds_toArray, List.set_cons_zero, List.set_cons_succ]
    refine held_take (i := 5) (v := ?_) rfl (by kernel_rfl) (by kernel_rfl) (by kernel_rfl) (by rfl) (by first | assumption | exact True.intro) ?_ ?_
    rotate_left
    · (intro W hSw; obtain ⟨g0, g1, g2, g3, g4, g5⟩ := Blk.six (HB2.out.ext hSw); obtain ⟨q0, q1, q2, q3, q4⟩ := HAT.out.ext (Ext.trans HX3.out hSw) HLT.out; rw [hco] at q1; have k3 := (HB1.out.ext hSw).cell 3; have d5 := HD5.out; have d6 := HD6.out; have d7 := HD7.out; go_simp; (try with_reducible rfl))
    try simp only [Act.put, List.setIfInBounds_toArray, List.set_cons_zero, List.set_cons_succ]
    refine held_take (i := 6) (v := ?_) rfl (by kernel_rfl) (by kernel_rfl) (by kernel_rfl) (by rfl) (by first | assumption | exact True.intro) ?_ ?_
    rotate_left
    · (intro W hSw; obtain ⟨g0, g1, g2, g3, g4, g5⟩ := Blk.six (HB2.out.ext hSw); obtain ⟨q0, q1, q2, q3, q4⟩ := HAT.out.ext (Ext.trans HX3.out hSw) HLT.out; rw [hco] at q1; have k3 := (HB1.out.ext hSw).cell 3; have d5 := HD5.out; have d6 := HD6.out; have d7 := HD7.out; go_simp; (try with_reducible rfl))
    try simp only [Act.put, List.setIfInBounds_toArray, List.set_cons_zero, List.set_cons_succ]
    refine held_skip (i := 7) rfl (by kernel_rfl) (by kernel_rfl) (by kernel_rfl) (by rfl) (by first | assumption | exact True.intro) ?_
    try simp only [Act.put, List.setIfInBounds_toArray, List.set_cons_zero, List.set_cons_succ]
    refine held_skip (i := 8) rfl (by kernel_rfl) (by kernel_rfl) (by kernel_rfl) (by rfl) (by first | assumption | exact True.intro) ?_
    try simp only [Act.put, List.setIfInBounds_toArray, List.set_cons_zero, List.set_cons_succ]
    refine held_skip (i := 9) rfl (by kernel_rfl) (by kernel_rfl) (by kernel_rfl) (by rfl) (by first | assumption | exact True.intro) ?_
    try simp only [Act.put, List.setIfInBounds_toArray, List.set_cons_zero, List.set_cons_succ]
    refine held_skip (i := 10) rfl (by kernel_rfl) (by kernel_rfl) (by kernel_rfl) (by rfl) (by first | assumption | exact True.intro) ?_
    try simp only [Act.put, List.setIfInBounds_toArray, List.set_cons_zero, List.set_cons_succ]
    refine held_take (i := 11) (v := ?_) rfl (by kernel_rfl) (by kernel_rfl) (by kernel_rfl) (by rfl) (by first | assumption | exact True.intro) ?_ ?_
    rotate_left
    · (intro W hSw; obtain ⟨g0, g1, g2, g3, g4, g5⟩ := Blk.six (HB2.out.ext hSw); obtain ⟨q0, q1, q2, q3, q4⟩ := HAT.out.ext (Ext.trans HX3.out hSw) HLT.out; rw [hco] at q1; have k3 := (HB1.out.ext hSw).cell 3; have d5 := HD5.out; have d6 := HD6.out; have d7 := HD7.out; go_simp; (try with_reducible rfl))
    try simp only [Act.put, List.setIfInBounds_toArray, List.set_cons_zero, List.set_cons_succ]
    refine held_take (i := 12) (v := ?_) rfl (by kernel_rfl) (by kernel_rfl) (by kernel_rfl) (by rfl) (by first | assumption | exact True.intro) ?_ ?_
    rotate_left
    · (intro W hSw; obtain ⟨g0, g1, g2, g3, g4, g5⟩ := Blk.six (HB2.out.ext hSw); obtain ⟨q0, q1, q2, q3, q4⟩ := HAT.out.ext (Ext.trans HX3.out hSw) HLT.out; rw [hco] at q1; have k3 := (HB1.out.ext hSw).cell 3; have d5 := HD5.out; have d6 := HD6.out; have d7 := HD7.out; go_simp; (try with_reducible rfl))
    try simp only [Act.put, List.setIfInBounds_toArray, List.set_cons_zero, List.set_cons_succ]
    refine held_skip (i := 13) rfl (by kernel_rfl) (by kernel_rfl) (by kernel_rfl) (by rfl) (by first | assumption | exact True.intro) ?_
    try simp only [Act.put, List.setIfInBounds_toArray, List.set_cons_zero, List.set_cons_succ]
    refine held_skip (i := 14) rfl (by kernel_rfl) (by kernel_rfl) (by kernel_rfl) (by rfl) (by first | assumption | exact True.intro) ?_
    try simp only [Act.put, List.setIfInBounds_toArray, List.set_cons_zero, List.set_cons_succ]
    refine held_skip (i := 15) rfl (by kernel_rfl) (by kernel_rfl) (by kernel_rfl) (by rfl) (by first | assumption | exact True.intro) ?_
    try simp only [Act.put, List.setIfInBounds_toArray, List.set_cons_zero, List.set_cons_succ]
    refine held_skip (i := 16) rfl (by kernel_rfl) (by kernel_rfl) (by kernel_rfl) (by rfl) (by first | assumption | exact True.intro) ?_
    try simp only [Act.put, List.setIfInBounds_toArray, List.set_cons_zero, List.set_cons_succ]
    refine held_skip (i := 17) rfl (by kernel_rfl) (by kernel_rfl) (by kernel_rfl) (by rfl) (by first | assumption | exact True.intro) ?_
    try simp only [Act.put, List.setIfInBounds_toArray, List.set_cons_zero, List.set_cons_succ]
    refine held_take (i := 18) (v := ?_) rfl (by kernel_rfl) (by kernel_rfl) (by kernel_rfl) (by rfl) (by first | assumption | exact True.intro) ?_ ?_
    rotate_left
    · (intro W hSw; obtain ⟨g0, g1, g2, g3, g4, g5⟩ := Blk.six (HB2.out.ext hSw); obtain ⟨q0, q1, q2, q3, q4⟩ := HAT.out.ext (Ext.trans HX3.out hSw) HLT.out; rw [hco] at q1; have k3 := (HB1.out.ext hSw).cell 3; have d5 := HD5.out; have d6 := HD6.out; have d7 := HD7.out; go_simp; (try with_reducible rfl))
    try simp only [Act.put, List.setIfInBounds_toArray, List.set_cons_zero, List.set_cons_succ]
    clear hSx
    refine wpAnyH_done (by kernel_rfl) ?_ _
    refine NoPanic.normal ?_
    have HXZ := Lib.hid (Ext.trans HX3.out (Below.drewN' (Ext.refl W3) 1))
    replace HB3 := Lib.hid (HB3.out.ext (Below.drewN' (Ext.refl W3) 1))
    clear hco
    have HI5 : Hid ((Tryd.prog.info? 32).map (·.size) = some (#[.int .i64 0, .int .i64 0, .int .i64 0, .int .i64 0, .int .i64 0, .int .i64 0, .int .i64 0] : Array Value).size) := Lib.hid infoOp
    have HO5 : Hid ((#[.int .i64 0, .int .i64 0, .int .i64 0, .int .i64 0, .int .i64 0, .int .i64 0, .int .i64 0] : Array Value).all (·.oneCell') = true) := Lib.hid (by simp [Value.oneCell'])
    go_wp2_with (refine wpList_storeB rfl 32 _ _ rfl gr #[.int .i64 0, .int .i64 0, .int .i64 0, .int .i64 0, .int .i64 0, .int .i64 0, .int .i64 0] rfl rfl 32 _ HB3.out HI5.out rfl HO5.out w.heap.size w HXZ.out HGR.out ?_; intro w5 hb5 hx5)
    exact bodyPost_ret (run_op rfl rfl rfl hb5 rfl) rfl ⟨by rw [HZ.out]; rfl, hx5⟩

end Go.Proofs.YtkpcjdhnbjkaaaaDoor

/- Package wave: the second way. -/
namespace Go.Proofs.YtkpcjdhnbjkaaaaDoor
open Go.RowKit


set_option maxRecDepth 100000 in
set_option maxHeartbeats 8000000 in
theorem way2_any (c : Cf) (vn vj : Value) (s : St) (now : Int) (i : Nat) (n : Nd) (w : World) (hr : RdNd w vn s.nodes) (hrj : RdJb w vj s.jobs) (hi : s.nodes[i]? = some n) (hN : s.nodes.length ≤ 6) (hM : s.jobs.length ≤ 24) (hJ : OkJ s) (hP : OkB s) (hn0 : 0 ≤ now) (hn1 : now ≤ 1000000) (hd0 : 0 ≤ c.deadline) (hd1 : c.deadline ≤ 60) :
    Calls Tryd.prog 32 #[cfV c, stV vn vj s, .int .i64 now, .int .i64 (i : Int)] w fun e w' => e = .returned (optV (way2 c s now i n)) ∧ Ext w w' := by
  have HGO : Hid (∀ W, Ext w W → Calls Tryd.prog 24 #[stV vn vj s, .int .i64 (i : Int)] W fun e w' => e = .returned (.bool (goesN s n)) ∧ Ext W w') := Lib.hid fun W hW => goes_any vn vj s i n W (hr.ext hW) (hrj.ext hW) hi hN hM hJ (fun k x h => (hP k x h).1)
  unfold stV at HGO
  have HJO : Hid (∀ W, Ext w W → Calls Tryd.prog 25 #[stV vn vj s, .int .i64 (i : Int)] W fun e w' => e = .returned (optJ (jobOf s n.job)) ∧ Ext W w') := Lib.hid fun W hW => jobOf_any vn vj s i n W (hr.ext hW) (hrj.ext hW) hi hN hM hJ
  have HDR : Hid (∀ q W, Ext w W → Calls Tryd.prog 19 #[stV vn vj s, .int .i64 q] W fun e w' => e = .returned (.int .i64 (drainsS s q : Int)) ∧ Ext W w') := Lib.hid fun q W hW => Drains_any vn vj s q W (hrj.ext hW)
  have HPB : Hid (OkB s) := Lib.hid hP
  unfold stV at HJO HDR
  unfold cfV stV
  obtain ⟨A, ca, rfl, hnc, hcm, hcell⟩ := has_cells hr
  obtain ⟨b, o, rfl, hlt, hat⟩ := hcell i n hi
  have hil := (List.getElem?_eq_some_iff.1 hi).1
  have d5 : decide (i < s.nodes.length) = true := decide_eq_true hil
  have d6 : (i : Int) < (s.nodes.length : Int) := by omega
  have d7 : (0 : Int) ≤ (i : Int) := by omega
  obtain ⟨R, hR⟩ : ∃ R, R = way2 c s now i n := ⟨_, rfl⟩
  rw [← hR]
  have HR := Lib.hid hR
  obtain ⟨W1, hW1⟩ : ∃ W, W = w.alloc (.cells #[.int .i64 c.nodes, .int .i64 c.queues, .int .i64 c.quota, .int .i64 c.wave, .int .i64 c.lease, .int .i64 c.retry, .int .i64 c.deadline, .int .i64 c.room, .int .i64 c.disk] 23) := ⟨_, rfl⟩
  obtain ⟨W2, hW2⟩ : ∃ W, W = W1.alloc (.cells #[.slice (some ⟨b, o, none⟩) s.nodes.length ca, vj, .int .i64 s.goal, .int .i64 s.prior, .int .i64 s.mode, .int .i64 s.term] 27) := ⟨_, rfl⟩
  obtain ⟨W3, hW3⟩ : ∃ W, W = W2.alloc (.cells #[.int .i64 0, .int .i64 0, .int .i64 0, .int .i64 0, .int .i64 0, .int .i64 0, .int .i64 0] 32) := ⟨_, rfl⟩
  have s1 : W1.heap.size = w.heap.size + 1 := by rw [hW1]; simp
  have s2 : W2.heap.size = w.heap.size + 1 + 1 := by rw [hW2]; simp [s1]
  have x1 : Ext w W1 := by rw [hW1]; exact (Below.refl _ _).alloc (Nat.le_refl _) _
  have x2 : Ext W1 W2 := by rw [hW2]; exact (Below.refl _ _).alloc (Nat.le_refl _) _
  have x3 : Ext W2 W3 := by rw [hW3]; exact (Below.refl _ _).alloc (Nat.le_refl _) _
  have b1 : Blk W3 w.heap.size 23 #[.int .i64 c.nodes, .int .i64 c.queues, .int .i64 c.quota, .int .i64 c.wave, .int .i64 c.lease, .int .i64 c.retry, .int .i64 c.deadline, .int .i64 c.room, .int .i64 c.disk] := by
    have h : Blk W1 w.heap.size 23 #[.int .i64 c.nodes, .int .i64 c.queues, .int .i64 c.quota, .int .i64 c.wave, .int .i64 c.lease, .int .i64 c.retry, .int .i64 c.deadline, .int .i64 c.room, .int .i64 c.disk] := by rw [hW1]; exact Blk.new _ _ _
    exact h.ext (Ext.trans x2 x3)
  have b2 : Blk W3 (w.heap.size + 1) 27 #[.slice (some ⟨b, o, none⟩) s.nodes.length ca, vj, .int .i64 s.goal, .int .i64 s.prior, .int .i64 s.mode, .int .i64 s.term] := by
    have h : Blk W2 W1.heap.size 27 #[.slice (some ⟨b, o, none⟩) s.nodes.length ca, vj, .int .i64 s.goal, .int .i64 s.prior, .int .i64 s.mode, .int .i64 s.term] := by rw [hW2]; exact Blk.new _ _ _
    rw [s1] at h
    exact h.ext x3
  have b3 : Blk W3 (w.heap.size + 1 + 1) 32 #[.int .i64 0, .int .i64 0, .int .i64 0, .int .i64 0, .int .i64 0, .int .i64 0, .int .i64 0] := by
    have h : Blk W3 W2.heap.size 32 #[.int .i64 0, .int .i64 0, .int .i64 0, .int .i64 0, .int .i64 0, .int .i64 0, .int .i64 0] := by rw [hW3]; exact Blk.new _ _ _
    rw [s2] at h
    exact h
  have HX3 : Hid (Ext w W3) := Lib.hid (Ext.trans x1 (Ext.trans x2 x3))
  have HB1 := Lib.hid b1
  have HB2 := Lib.hid b2
  have HB3 := Lib.hid b3
  have HW3 : Hid (W3 = ((w.alloc (.cells #[.int .i64 c.nodes, .int .i64 c.queues, .int .i64 c.quota, .int .i64 c.wave, .int .i64 c.lease, .int .i64 c.retry, .int .i64 c.deadline, .int .i64 c.room, .int .i64 c.disk] 23)).alloc (.cells #[.slice (some ⟨b, o, none⟩) s.nodes.length ca, vj, .int .i64 s.goal, .int .i64 s.prior, .int .i64 s.mode, .int .i64 s.term] 27)).alloc (.cells #[.int .i64 0, .int .i64 0, .int .i64 0, .int .i64 0, .int .i64 0, .int .i64 0, .int .i64 0] 32)) := Lib.hid (by rw [hW3, hW2, hW1])
  have HAT := Lib.hid hat
  have HLT := Lib.hid hlt
  clear hW3 hW2 hW1 s1 s2 x1 x2 x3 b1 b2 b3 hR hr hrj hcell hat hlt hi hil hP hJ
  go_enter Tryd.func32, Tryd.ntmps32
  go_upto_region 1 with (fail)
  rw [← HW3.out]
  obtain ⟨gc, hgc⟩ : ∃ g, g = w.heap.size := ⟨_, rfl⟩
  obtain ⟨gs, hgs⟩ : ∃ g, g = w.heap.size + 1 := ⟨_, rfl⟩
  obtain ⟨gr, hgr⟩ : ∃ g, g = w.heap.size + 1 + 1 := ⟨_, rfl⟩
  rw [← hgr, ← hgs, ← hgc]
  rw [← hgr] at HB3
  rw [← hgs] at HB2
  rw [← hgc] at HB1
  have HGR : Hid (w.heap.size ≤ gr) := Lib.hid (by omega)
  clear HW3 hgc hgs hgr
  have h0 := HB2.out.cell 0
  obtain ⟨q0, q1, q2, q3, q4⟩ := HAT.out.ext HX3.out HLT.out
  go_upto_region 2 with (fail)
  obtain ⟨wn, hwn⟩ : ∃ wn, wn = W3.alloc (.cells #[.bool n.up, .bool n.cordon, .bool n.moving, .int .i64 n.version, .int .i64 n.job] 41) := ⟨_, rfl⟩
  have HXN : Hid (Ext W3 wn) := Lib.hid (by rw [hwn]; exact (Below.refl _ _).alloc (Nat.le_refl _) _)
  have HBN : Hid (Blk wn W3.heap.size 41 #[.bool n.up, .bool n.cordon, .bool n.moving, .int .i64 n.version, .int .i64 n.job]) := Lib.hid (by rw [hwn]; exact Blk.new _ _ _)
  rw [← hwn]
  obtain ⟨gx, hgx⟩ : ∃ g, g = W3.heap.size := ⟨_, rfl⟩
  rw [← hgx] at HBN ⊢
  clear hwn hgx
  have HXW : Hid (Ext w wn) := Lib.hid (Ext.trans HX3.out HXN.out)
  replace HB1 := Lib.hid (HB1.out.ext HXN.out)
  replace HB2 := Lib.hid (HB2.out.ext HXN.out)
  replace HB3 := Lib.hid (HB3.out.ext HXN.out)
  clear q0 q1 q2 q3 q4 h0 d5 d6 d7 HAT HLT HXN HX3
  rw [way2_goes] at HR
  have c1 := HBN.out.cell 1
  cases hco : n.cordon
  · rw [hco] at c1
    have HZ : Hid (R = none) := Lib.hid (by rw [HR.out, if_neg (by rw [hco]; simp)])
    clear hco
    have HI5 : Hid ((Tryd.prog.info? 32).map (·.size) = some (#[.int .i64 0, .int .i64 0, .int .i64 0, .int .i64 0, .int .i64 0, .int .i64 0, .int .i64 0] : Array Value).size) := Lib.hid infoOp
    have HO5 : Hid ((#[.int .i64 0, .int .i64 0, .int .i64 0, .int .i64 0, .int .i64 0, .int .i64 0, .int .i64 0] : Array Value).all (·.oneCell') = true) := Lib.hid (by simp [Value.oneCell'])
    go_wp2_with (refine wpList_storeB rfl 32 _ _ rfl gr #[.int .i64 0, .int .i64 0, .int .i64 0, .int .i64 0, .int .i64 0, .int .i64 0, .int .i64 0] rfl rfl 32 _ HB3.out HI5.out rfl HO5.out w.heap.size w HXW.out HGR.out ?_; intro w5 hb5 hx5)
    exact bodyPost_ret (run_op rfl rfl rfl hb5 rfl) rfl ⟨by rw [HZ.out]; rfl, hx5⟩
  · rw [hco] at c1
    obtain ⟨g0, g1, g2, g3, g4, g5⟩ := Blk.six HB2.out
    have HBC := Lib.hid (HGO.out wn HXW.out)
    go_wp2_with fail
    refine HBC.out.mono ?_
    rintro e4 w4 ⟨rfl, hx4⟩
    replace HXW := Lib.hid (Ext.trans HXW.out hx4)
    replace HB1 := Lib.hid (HB1.out.ext hx4)
    replace HB2 := Lib.hid (HB2.out.ext hx4)
    replace HB3 := Lib.hid (HB3.out.ext hx4)
    replace HBN := Lib.hid (HBN.out.ext hx4)
    clear hx4 HBC g0 g1 g2 g3 g4 g5
    simp only []
    cases hgo : goesN s n
    · have HZ : Hid (R = none) := Lib.hid (by rw [HR.out, if_neg (by rw [hgo]; simp)])
      clear hco hgo
      have HI5 : Hid ((Tryd.prog.info? 32).map (·.size) = some (#[.int .i64 0, .int .i64 0, .int .i64 0, .int .i64 0, .int .i64 0, .int .i64 0, .int .i64 0] : Array Value).size) := Lib.hid infoOp
      have HO5 : Hid ((#[.int .i64 0, .int .i64 0, .int .i64 0, .int .i64 0, .int .i64 0, .int .i64 0, .int .i64 0] : Array Value).all (·.oneCell') = true) := Lib.hid (by simp [Value.oneCell'])
      go_wp2_with (refine wpList_storeB rfl 32 _ _ rfl gr #[.int .i64 0, .int .i64 0, .int .i64 0, .int .i64 0, .int .i64 0, .int .i64 0, .int .i64 0] rfl rfl 32 _ HB3.out HI5.out rfl HO5.out w.heap.size w HXW.out HGR.out ?_; intro w5 hb5 hx5)
      exact bodyPost_ret (run_op rfl rfl rfl hb5 rfl) rfl ⟨by rw [HZ.out]; rfl, hx5⟩
    · have HRS : Hid (R = secondS c s now i n) := Lib.hid (by rw [HR.out, if_pos ⟨hco, hgo⟩])
      clear hco hgo HR c1
      obtain ⟨J, hJJ⟩ : ∃ J, J = jobOf s n.job := ⟨_, rfl⟩
      rw [← hJJ] at HJO
      have HJE := Lib.hid hJJ
      clear hJJ
      obtain ⟨g0, g1, g2, g3, g4, g5⟩ := Blk.six HB2.out
      have HBC := Lib.hid (HJO.out w4 HXW.out)
      go_wp2_with fail
      refine HBC.out.mono ?_
      rintro e5 w5 ⟨rfl, hx5⟩
      replace HXW := Lib.hid (Ext.trans HXW.out hx5)
      replace HB1 := Lib.hid (HB1.out.ext hx5)
      replace HB2 := Lib.hid (HB2.out.ext hx5)
      replace HB3 := Lib.hid (HB3.out.ext hx5)
      replace HBN := Lib.hid (HBN.out.ext hx5)
      clear hx5 HBC HJO g0 g1 g2 g3 g4 g5
      simp only []
      cases J with
      | none =>
        have HZ : Hid (R = some (18, (i : Int), 0, 0, 0, 0, 0)) := Lib.hid (by rw [HRS.out]; unfold secondS; rw [← HJE.out])
        clear HRS HJE
        unfold optJ jbV zeroJ
        go_upto_region 5 with (fail)
        obtain ⟨W5, hW5⟩ : ∃ W, W = w5.alloc (.cells #[.int .i64 0, .int .i64 0, .int .i64 0, .int .i64 0, .int .i64 0, .int .i64 0, .int .i64 0, .int .i64 0, .int .i64 0, .int .i64 0, .int .i64 0, .int .i64 0] 58) := ⟨_, rfl⟩
        have hx6 : Ext w5 W5 := by rw [hW5]; exact (Below.refl _ _).alloc (Nat.le_refl _) _
        have HBJ : Hid (Blk W5 w5.heap.size 58 #[.int .i64 0, .int .i64 0, .int .i64 0, .int .i64 0, .int .i64 0, .int .i64 0, .int .i64 0, .int .i64 0, .int .i64 0, .int .i64 0, .int .i64 0, .int .i64 0]) := Lib.hid (by rw [hW5]; exact Blk.new _ _ _)
        rw [← hW5]
        obtain ⟨gj, hgj⟩ : ∃ g, g = w5.heap.size := ⟨_, rfl⟩
        rw [← hgj] at HBJ ⊢
        clear hW5 hgj
        replace HXW := Lib.hid (Ext.trans HXW.out hx6)
        replace HB1 := Lib.hid (HB1.out.ext hx6)
        replace HB2 := Lib.hid (HB2.out.ext hx6)
        replace HB3 := Lib.hid (HB3.out.ext hx6)
        replace HBN := Lib.hid (HBN.out.ext hx6)
        clear hx6
        have HI5 : Hid ((Tryd.prog.info? 32).map (·.size) = some (#[.int .i64 18, .int .i64 (i : Int), .int .i64 0, .int .i64 0, .int .i64 0, .int .i64 0, .int .i64 0] : Array Value).size) := Lib.hid infoOp
        have HO5 : Hid ((#[.int .i64 18, .int .i64 (i : Int), .int .i64 0, .int .i64 0, .int .i64 0, .int .i64 0, .int .i64 0] : Array Value).all (·.oneCell') = true) := Lib.hid (by simp [Value.oneCell'])
        go_wp2_with (refine wpList_storeB rfl 32 _ _ rfl gr #[.int .i64 18, .int .i64 (i : Int), .int .i64 0, .int .i64 0, .int .i64 0, .int .i64 0, .int .i64 0] rfl rfl 32 _ HB3.out HI5.out rfl HO5.out w.heap.size w HXW.out HGR.out ?_; intro w5 hb5 hx5)
        exact bodyPost_ret (run_op rfl rfl rfl hb5 rfl) rfl ⟨by rw [HZ.out]; rfl, hx5⟩
      | some x =>
        have HRX : Hid (R = if x.phase = 1 then some (11, n.job, 0, 0, 0, 0, 0) else if x.phase ≠ 2 then none else if x.least < (manyS x.nodes : Int) then some (20, n.job, (i : Int), 0, 0, 0, 0) else if c.quota ≤ (drainsS s x.queue : Int) then none else some (12, n.job, if 1000000 < now + c.deadline then 1000000 else now + c.deadline, 0, 0, 0, 0)) := Lib.hid (by rw [HRS.out]; unfold secondS; rw [← HJE.out])
        obtain ⟨hk0, -⟩ := jobOf_some HJE.out.symm
        obtain ⟨-, hs0, hs1⟩ := HPB.out _ _ hk0
        obtain ⟨m8, hm8⟩ : ∃ m : Nat, x.nodes = (m : Int) := ⟨x.nodes.toNat, by omega⟩
        have hm64 : m8 < 64 := by omega
        rw [hm8] at HRX
        have HMC : Hid (∀ W, Calls Tryd.prog 38 #[.int .i64 (m8 : Int)] W fun e w' => e = .returned (.int .i64 (manyS (m8 : Int) : Int)) ∧ W = w') := Lib.hid (fun W => Count_any m8 hm64 W)
        obtain ⟨M, hM⟩ : ∃ M, M = manyS (m8 : Int) := ⟨_, rfl⟩
        rw [← hM] at HMC HRX
        have HM8 := Lib.hid hm8
        clear hM hk0 hs0 hs1 hm64 hm8 HPB HRS HJE
        unfold optJ jbV
        go_upto_region 5 with (fail)
        obtain ⟨W5, hW5⟩ : ∃ W, W = w5.alloc (.cells #[.int .i64 x.queue, .int .i64 x.prio, .int .i64 x.least, .int .i64 x.most, .int .i64 x.work, .int .i64 x.pin, .int .i64 x.phase, .int .i64 x.inc, .int .i64 x.nodes, .int .i64 x.since, .int .i64 x.til, .int .i64 x.epoch] 58) := ⟨_, rfl⟩
        have hx6 : Ext w5 W5 := by rw [hW5]; exact (Below.refl _ _).alloc (Nat.le_refl _) _
        have HBJ : Hid (Blk W5 w5.heap.size 58 #[.int .i64 x.queue, .int .i64 x.prio, .int .i64 x.least, .int .i64 x.most, .int .i64 x.work, .int .i64 x.pin, .int .i64 x.phase, .int .i64 x.inc, .int .i64 x.nodes, .int .i64 x.since, .int .i64 x.til, .int .i64 x.epoch]) := Lib.hid (by rw [hW5]; exact Blk.new _ _ _)
        rw [← hW5]
        obtain ⟨gj, hgj⟩ : ∃ g, g = w5.heap.size := ⟨_, rfl⟩
        rw [← hgj] at HBJ ⊢
        clear hW5 hgj
        replace HXW := Lib.hid (Ext.trans HXW.out hx6)
        replace HB1 := Lib.hid (HB1.out.ext hx6)
        replace HB2 := Lib.hid (HB2.out.ext hx6)
        replace HB3 := Lib.hid (HB3.out.ext hx6)
        replace HBN := Lib.hid (HBN.out.ext hx6)
        clear hx6
        rw [HM8.out] at HBJ
        clear HM8
        have k4 := HBN.out.cell 4
        have j6 := HBJ.out.cell 6
        by_cases ph1 : x.phase = 1
        · have f1 : (x.phase == 1) = true := by rw [ph1]; rfl
          have HZ : Hid (R = some (11, n.job, 0, 0, 0, 0, 0)) := Lib.hid (by rw [HRX.out, if_pos ph1])
          clear ph1
          have HI5 : Hid ((Tryd.prog.info? 32).map (·.size) = some (#[.int .i64 11, .int .i64 (n.job), .int .i64 0, .int .i64 0, .int .i64 0, .int .i64 0, .int .i64 0] : Array Value).size) := Lib.hid infoOp
          have HO5 : Hid ((#[.int .i64 11, .int .i64 (n.job), .int .i64 0, .int .i64 0, .int .i64 0, .int .i64 0, .int .i64 0] : Array Value).all (·.oneCell') = true) := Lib.hid (by simp [Value.oneCell'])
          go_wp2_with (refine wpList_storeB rfl 32 _ _ rfl gr #[.int .i64 11, .int .i64 (n.job), .int .i64 0, .int .i64 0, .int .i64 0, .int .i64 0, .int .i64 0] rfl rfl 32 _ HB3.out HI5.out rfl HO5.out w.heap.size w HXW.out HGR.out ?_; intro w5 hb5 hx5)
          exact bodyPost_ret (run_op rfl rfl rfl hb5 rfl) rfl ⟨by rw [HZ.out]; rfl, hx5⟩
        · have f1 : (x.phase == 1) = false := by simpa using ph1
          by_cases ph2 : x.phase = 2
          · have f2 : (x.phase != 2) = false := by rw [ph2]; rfl
            have HRY : Hid (R = if x.least < (M : Int) then some (20, n.job, (i : Int), 0, 0, 0, 0) else if c.quota ≤ (drainsS s x.queue : Int) then none else some (12, n.job, if 1000000 < now + c.deadline then 1000000 else now + c.deadline, 0, 0, 0, 0)) := Lib.hid (by rw [HRX.out, if_neg ph1, if_neg (fun h => h ph2)])
            clear ph1 ph2 HRX
            go_upto_region 11 with (fail)
            clear f1 f2 j6 k4
            refine held_begin (by kernel_rfl) ?_
            refine held_more (S' := fun W' : World => Ext W5 W') (fun _ _ => True.intro) ?_
            have hSx : (fun W' : World => Ext W5 W') W5.drew := Below.drewN' (Ext.refl W5) 1
            refine held_take (i := 0) (v := ?_) rfl (by kernel_rfl) (by kernel_rfl) (by kernel_rfl) (by rfl) (by first | assumption | exact True.intro) ?_ ?_
            rotate_left
            · (intro W hSw; have j2 := (HBJ.out.ext hSw).cell 2; have j8 := (HBJ.out.ext hSw).cell 8; have j0 := (HBJ.out.ext hSw).cell 0; have k2 := (HB1.out.ext hSw).cell 2; obtain ⟨g0, g1, g2, g3, g4, g5⟩ := Blk.six (HB2.out.ext hSw); go_simp; (try with_reducible rfl))
            try simp only [Act.put, List.setIfInBounds_toArray, List.set_cons_zero, List.set_cons_succ]
            refine held_take (i := 1) (v := ?_) rfl (by kernel_rfl) (by kernel_rfl) (by kernel_rfl) (by rfl) (by first | assumption | exact True.intro) ?_ ?_
            rotate_left
            · (intro W hSw; have j2 := (HBJ.out.ext hSw).cell 2; have j8 := (HBJ.out.ext hSw).cell 8; have j0 := (HBJ.out.ext hSw).cell 0; have k2 := (HB1.out.ext hSw).cell 2; obtain ⟨g0, g1, g2, g3, g4, g5⟩ := Blk.six (HB2.out.ext hSw); go_simp; (try with_reducible rfl))
            try simp only [Act.put, List.setIfInBounds_toArray, List.set_cons_zero, List.set_cons_succ]
            refine held_take (i := 3) (v := ?_) rfl (by kernel_rfl) (by kernel_rfl) (by kernel_rfl) (by rfl) (by first | assumption | exact True.intro) ?_ ?_
            rotate_left
            · (intro W hSw; have j2 := (HBJ.out.ext hSw).cell 2; have j8 := (HBJ.out.ext hSw).cell 8; have j0 := (HBJ.out.ext hSw).cell 0; have k2 := (HB1.out.ext hSw).cell 2; obtain ⟨g0, g1, g2, g3, g4, g5⟩ := Blk.six (HB2.out.ext hSw); go_simp; (try with_reducible rfl))
            try simp only [Act.put, List.setIfInBounds_toArray, List.set_cons_zero, List.set_cons_succ]
            refine held_take (i := 4) (v := ?_) rfl (by kernel_rfl) (by kernel_rfl) (by kernel_rfl) (by rfl) (by first | assumption | exact True.intro) ?_ ?_
            rotate_left
            · (intro W hSw; have j2 := (HBJ.out.ext hSw).cell 2; have j8 := (HBJ.out.ext hSw).cell 8; have j0 := (HBJ.out.ext hSw).cell 0; have k2 := (HB1.out.ext hSw).cell 2; obtain ⟨g0, g1, g2, g3, g4, g5⟩ := Blk.six (HB2.out.ext hSw); go_simp; (try with_reducible rfl))
            try simp only [Act.put, List.setIfInBounds_toArray, List.set_cons_zero, List.set_cons_succ]
            clear hSx
            refine held_op (i := 2) (by kernel_rfl) rfl (fun K hK => ?_)
            go_simp
            go_at_call 38
            refine (HMC.out _).mono ?_
            rintro e6 w6 ⟨rfl, rfl⟩
            have HX6 : Hid (Ext W5 W5.drew) := Lib.hid (Below.drewN' (Ext.refl W5) 1)
            refine hK _ _ (HX6.out) (fun hSx => ?_)
            clear hK K
            try simp only [Act.put, List.setIfInBounds_toArray, List.set_cons_zero, List.set_cons_succ]
            refine held_take (i := 5) (v := ?_) rfl (by kernel_rfl) (by kernel_rfl) (by kernel_rfl) (by rfl) (by first | assumption | exact True.intro) ?_ ?_
            rotate_left
            · (intro W hSw; go_simp; (try with_reducible rfl))
            try simp only [Act.put, List.setIfInBounds_toArray, List.set_cons_zero, List.set_cons_succ]
            refine held_take (i := 6) (v := ?_) rfl (by kernel_rfl) (by kernel_rfl) (by kernel_rfl) (by rfl) (by first | assumption | exact True.intro) ?_ ?_
            rotate_left
            · (intro W hSw; go_simp; (try with_reducible rfl))
            try simp only [Act.put, List.setIfInBounds_toArray, List.set_cons_zero, List.set_cons_succ]
            clear hSx
            refine wpAnyH_done (by kernel_rfl) ?_ _
            refine NoPanic.normal ?_
            obtain ⟨W6, hW6⟩ : ∃ W, W = W5.drew := ⟨_, rfl⟩
            rw [← hW6] at HX6 ⊢
            clear hW6
            replace HXW := Lib.hid (Ext.trans HXW.out HX6.out)
            replace HB1 := Lib.hid (HB1.out.ext HX6.out)
            replace HB2 := Lib.hid (HB2.out.ext HX6.out)
            replace HB3 := Lib.hid (HB3.out.ext HX6.out)
            replace HBN := Lib.hid (HBN.out.ext HX6.out)
            replace HBJ := Lib.hid (HBJ.out.ext HX6.out)
            have k4 := HBN.out.cell 4
            by_cases hl : x.least < (M : Int)
            · have f1 : decide (x.least < (M : Int)) = true := decide_eq_true hl
              rw [f1]
              have HZ : Hid (R = some (20, n.job, (i : Int), 0, 0, 0, 0)) := Lib.hid (by rw [HRY.out, if_pos hl])
              clear hl
              have HI5 : Hid ((Tryd.prog.info? 32).map (·.size) = some (#[.int .i64 20, .int .i64 (n.job), .int .i64 (i : Int), .int .i64 0, .int .i64 0, .int .i64 0, .int .i64 0] : Array Value).size) := Lib.hid infoOp
              have HO5 : Hid ((#[.int .i64 20, .int .i64 (n.job), .int .i64 (i : Int), .int .i64 0, .int .i64 0, .int .i64 0, .int .i64 0] : Array Value).all (·.oneCell') = true) := Lib.hid (by simp [Value.oneCell'])
              go_wp2_with (refine wpList_storeB rfl 32 _ _ rfl gr #[.int .i64 20, .int .i64 (n.job), .int .i64 (i : Int), .int .i64 0, .int .i64 0, .int .i64 0, .int .i64 0] rfl rfl 32 _ HB3.out HI5.out rfl HO5.out w.heap.size w HXW.out HGR.out ?_; intro w5 hb5 hx5)
              exact bodyPost_ret (run_op rfl rfl rfl hb5 rfl) rfl ⟨by rw [HZ.out]; rfl, hx5⟩
            · have f1 : decide (x.least < (M : Int)) = false := decide_eq_false hl
              rw [f1]
              obtain ⟨DD, hDD⟩ : ∃ d, d = drainsS s x.queue := ⟨_, rfl⟩
              have HDC := Lib.hid (fun W hW => HDR.out x.queue W hW)
              rw [← hDD] at HDC
              have HRV : Hid (R = if c.quota ≤ (DD : Int) then none else some (12, n.job, if 1000000 < now + c.deadline then 1000000 else now + c.deadline, 0, 0, 0, 0)) := Lib.hid (by rw [HRY.out, if_neg hl, hDD])
              clear hl hDD HRY
              go_upto_region 13 with (fail)
              clear f1 k4
              refine held_begin (by kernel_rfl) ?_
              refine held_more (S' := fun W' : World => Ext W6 W') (fun _ _ => True.intro) ?_
              have hSx : (fun W' : World => Ext W6 W') W6.drew := Below.drewN' (Ext.refl W6) 1
              refine held_take (i := 0) (v := ?_) rfl (by kernel_rfl) (by kernel_rfl) (by kernel_rfl) (by rfl) (by first | assumption | exact True.intro) ?_ ?_
              rotate_left
              · (intro W hSw; have j2 := (HBJ.out.ext hSw).cell 2; have j8 := (HBJ.out.ext hSw).cell 8; have j0 := (HBJ.out.ext hSw).cell 0; have k2 := (HB1.out.ext hSw).cell 2; obtain ⟨g0, g1, g2, g3, g4, g5⟩ := Blk.six (HB2.out.ext hSw); go_simp; (try with_reducible rfl))
              try simp only [Act.put, List.setIfInBounds_toArray, List.set_cons_zero, List.set_cons_succ]
              refine held_take (i := 1) (v := ?_) rfl (by kernel_rfl) (by kernel_rfl) (by kernel_rfl) (by rfl) (by first | assumption | exact True.intro) ?_ ?_
              rotate_left
              · (intro W hSw; have j2 := (HBJ.out.ext hSw).cell 2; have j8 := (HBJ.out.ext hSw).cell 8; have j0 := (HBJ.out.ext hSw).cell 0; have k2 := (HB1.out.ext hSw).cell 2; obtain ⟨g0, g1, g2, g3, g4, g5⟩ := Blk.six (HB2.out.ext hSw); go_simp; (try with_reducible rfl))
              try simp only [Act.put, List.setIfInBounds_toArray, List.set_cons_zero, List.set_cons_succ]
              refine held_take (i := 2) (v := ?_) rfl (by kernel_rfl) (by kernel_rfl) (by kernel_rfl) (by rfl) (by first | assumption | exact True.intro) ?_ ?_
              rotate_left
              · (intro W hSw; have j2 := (HBJ.out.ext hSw).cell 2; have j8 := (HBJ.out.ext hSw).cell 8; have j0 := (HBJ.out.ext hSw).cell 0; have k2 := (HB1.out.ext hSw).cell 2; obtain ⟨g0, g1, g2, g3, g4, g5⟩ := Blk.six (HB2.out.ext hSw); go_simp; (try with_reducible rfl))
              try simp only [Act.put, List.setIfInBounds_toArray, List.set_cons_zero, List.set_cons_succ]
              refine held_take (i := 4) (v := ?_) rfl (by kernel_rfl) (by kernel_rfl) (by kernel_rfl) (by rfl) (by first | assumption | exact True.intro) ?_ ?_
              rotate_left
              · (intro W hSw; have j2 := (HBJ.out.ext hSw).cell 2; have j8 := (HBJ.out.ext hSw).cell 8; have j0 := (HBJ.out.ext hSw).cell 0; have k2 := (HB1.out.ext hSw).cell 2; obtain ⟨g0, g1, g2, g3, g4, g5⟩ := Blk.six (HB2.out.ext hSw); go_simp; (try with_reducible rfl))
              try simp only [Act.put, List.setIfInBounds_toArray, List.set_cons_zero, List.set_cons_succ]
              refine held_take (i := 5) (v := ?_) rfl (by kernel_rfl) (by kernel_rfl) (by kernel_rfl) (by rfl) (by first | assumption | exact True.intro) ?_ ?_
              rotate_left
              · (intro W hSw; have j2 := (HBJ.out.ext hSw).cell 2; have j8 := (HBJ.out.ext hSw).cell 8; have j0 := (HBJ.out.ext hSw).cell 0; have k2 := (HB1.out.ext hSw).cell 2; obtain ⟨g0, g1, g2, g3, g4, g5⟩ := Blk.six (HB2.out.ext hSw); go_simp; (try with_reducible rfl))
              try simp only [Act.put, List.setIfInBounds_toArray, List.set_cons_zero, List.set_cons_succ]
              clear hSx
              refine held_op (i := 3) (by kernel_rfl) rfl (fun K hK => ?_)
              go_simp
              go_at_call 19
              refine (HDC.out _ (Ext.trans HXW.out (Below.drewN' (Ext.refl W6) 1))).mono ?_
              rintro e7 w7 ⟨rfl, hx7⟩
              have HX7 : Hid (Ext W6 w7) := Lib.hid (Ext.trans (Below.drewN' (Ext.refl W6) 1) hx7)
              clear hx7
              refine hK _ _ (HX7.out) (fun hSx => ?_)
              clear hK K
              try simp only [Act.put, List.setIfInBounds_toArray, List.set_cons_zero, List.set_cons_succ]
              refine held_take (i := 6) (v := ?_) rfl (by kernel_rfl) (by kernel_rfl) (by kernel_rfl) (by rfl) (by first | assumption | exact True.intro) ?_ ?_
              rotate_left
              · (intro W hSw; go_simp; (try with_reducible rfl))
              try simp only [Act.put, List.setIfInBounds_toArray, List.set_cons_zero, List.set_cons_succ]
              refine held_take (i := 7) (v := ?_) rfl (by kernel_rfl) (by kernel_rfl) (by kernel_rfl) (by rfl) (by first | assumption | exact True.intro) ?_ ?_
              rotate_left
              · (intro W hSw; go_simp; (try with_reducible rfl))
              try simp only [Act.put, List.setIfInBounds_toArray, List.set_cons_zero, List.set_cons_succ]
              clear hSx
              refine wpAnyH_done (by kernel_rfl) ?_ _
              refine NoPanic.normal ?_
              replace HXW := Lib.hid (Ext.trans HXW.out HX7.out)
              replace HB1 := Lib.hid (HB1.out.ext HX7.out)
              replace HB3 := Lib.hid (HB3.out.ext HX7.out)
              replace HBN := Lib.hid (HBN.out.ext HX7.out)
              have k4 := HBN.out.cell 4
              have k6 := HB1.out.cell 6
              by_cases hq : (DD : Int) < c.quota
              · have f1 : decide ((DD : Int) < c.quota) = true := decide_eq_true hq
                rw [f1]
                have ww : wrap64 (now + c.deadline) = now + c.deadline := IntWalk.wrap64_in _ (by omega)
                obtain ⟨u, hu⟩ : ∃ u : Int, u = if 1000000 < now + c.deadline then 1000000 else now + c.deadline := ⟨_, rfl⟩
                have hmin : (if (1000000 : Int) < now + c.deadline then (1000000 : Int) else now + c.deadline) = u := hu.symm
                have HZ : Hid (R = some (12, n.job, u, 0, 0, 0, 0)) := Lib.hid (by rw [HRV.out, if_neg (by omega), hu])
                clear hq hu
                have HI5 : Hid ((Tryd.prog.info? 32).map (·.size) = some (#[.int .i64 12, .int .i64 (n.job), .int .i64 u, .int .i64 0, .int .i64 0, .int .i64 0, .int .i64 0] : Array Value).size) := Lib.hid infoOp
                have HO5 : Hid ((#[.int .i64 12, .int .i64 (n.job), .int .i64 u, .int .i64 0, .int .i64 0, .int .i64 0, .int .i64 0] : Array Value).all (·.oneCell') = true) := Lib.hid (by simp [Value.oneCell'])
                go_wp2_with (refine wpList_storeB rfl 32 _ _ rfl gr #[.int .i64 12, .int .i64 (n.job), .int .i64 u, .int .i64 0, .int .i64 0, .int .i64 0, .int .i64 0] rfl rfl 32 _ HB3.out HI5.out rfl HO5.out w.heap.size w HXW.out HGR.out ?_; intro w5 hb5 hx5)
                exact bodyPost_ret (run_op rfl rfl rfl hb5 rfl) rfl ⟨by rw [HZ.out]; rfl, hx5⟩
              · have f1 : decide ((DD : Int) < c.quota) = false := decide_eq_false hq
                rw [f1]
                have HZ : Hid (R = none) := Lib.hid (by rw [HRV.out, if_pos (by omega)])
                clear hq
                have HI5 : Hid ((Tryd.prog.info? 32).map (·.size) = some (#[.int .i64 0, .int .i64 0, .int .i64 0, .int .i64 0, .int .i64 0, .int .i64 0, .int .i64 0] : Array Value).size) := Lib.hid infoOp
                have HO5 : Hid ((#[.int .i64 0, .int .i64 0, .int .i64 0, .int .i64 0, .int .i64 0, .int .i64 0, .int .i64 0] : Array Value).all (·.oneCell') = true) := Lib.hid (by simp [Value.oneCell'])
                go_wp2_with (refine wpList_storeB rfl 32 _ _ rfl gr #[.int .i64 0, .int .i64 0, .int .i64 0, .int .i64 0, .int .i64 0, .int .i64 0, .int .i64 0] rfl rfl 32 _ HB3.out HI5.out rfl HO5.out w.heap.size w HXW.out HGR.out ?_; intro w5 hb5 hx5)
                exact bodyPost_ret (run_op rfl rfl rfl hb5 rfl) rfl ⟨by rw [HZ.out]; rfl, hx5⟩
          · have f2 : (x.phase != 2) = true := by simp only [bne_iff_ne, ne_eq]; exact ph2
            have HZ : Hid (R = none) := Lib.hid (by rw [HRX.out, if_neg ph1, if_pos ph2])
            clear ph1 ph2
            have HI5 : Hid ((Tryd.prog.info? 32).map (·.size) = some (#[.int .i64 0, .int .i64 0, .int .i64 0, .int .i64 0, .int .i64 0, .int .i64 0, .int .i64 0] : Array Value).size) := Lib.hid infoOp
            have HO5 : Hid ((#[.int .i64 0, .int .i64 0, .int .i64 0, .int .i64 0, .int .i64 0, .int .i64 0, .int .i64 0] : Array Value).all (·.oneCell') = true) := Lib.hid (by simp [Value.oneCell'])
            go_wp2_with (refine wpList_storeB rfl 32 _ _ rfl gr #[.int .i64 0, .int .i64 0, .int .i64 0, .int .i64 0, .int .i64 0, .int .i64 0, .int .i64 0] rfl rfl 32 _ HB3.out HI5.out rfl HO5.out w.heap.size w HXW.out HGR.out ?_; intro w5 hb5 hx5)
            exact bodyPost_ret (run_op rfl rfl rfl hb5 rfl) rfl ⟨by rw [HZ.out]; rfl, hx5⟩

end Go.Proofs.YtkpcjdhnbjkaaaaDoor
