/- Texts that the proof of B rests on, one behind the other. -/
import Derived.Test.YtkpcjdhnbjkaaaaDoorBQ2
import Derived.Test.YtkpcjdhnbjkaaaaDoorBQ4
import Derived.Test.YtkpcjdhnbjkaaaaDoorBQ5
import Derived.Deep.CutBlock
import Derived.Deep.DeepCutAuto

/- Package wave: whether a node is behind; the job that it has; whether it is left alone; whether it goes. -/
namespace Go.Proofs.YtkpcjdhnbjkaaaaDoor
open Go.RowKit

set_option maxRecDepth 100000 in
set_option maxHeartbeats 4000000 in
theorem isBehind_any (vn vj : Value) (s : St) (i : Nat) (n : Nd) (w : World) (hr : RdNd w vn s.nodes) (hi : s.nodes[i]? = some n) (hN : s.nodes.length ≤ 6) :
    Calls Tryd.prog 23 #[stV vn vj s, .int .i64 (i : Int)] w fun e w' => e = .returned (.bool (behindN s n)) ∧ Ext w w' := by
  obtain ⟨hx, hb⟩ := boxSt vn vj s w 27
  have HME : Hid (∀ W, Calls Tryd.prog 26 #[stV vn vj s] W fun e w' => e = .returned (.int .i64 (meantS s)) ∧ Ext W w') := Lib.hid fun W => Meant_any vn vj s W
  unfold stV at HME
  unfold stV
  unfold stC at hx hb
  obtain ⟨A, c, rfl, hnc, hcm, hcell⟩ := has_cells hr
  obtain ⟨b, o, rfl, hlt, hat⟩ := hcell i n hi
  have hil := (List.getElem?_eq_some_iff.1 hi).1
  obtain ⟨q0, q1, q2, q3, q4⟩ := hat.ext hx hlt
  have HX := Lib.hid hx
  have HB := Lib.hid hb
  have d5 : decide (i < s.nodes.length) = true := decide_eq_true hil
  have d6 : (i : Int) < (s.nodes.length : Int) := by omega
  have d7 : (0 : Int) ≤ (i : Int) := by omega
  obtain ⟨R, hR⟩ : ∃ R, R = behindN s n := ⟨_, rfl⟩
  rw [← hR]
  unfold behindN at hR
  have HR := Lib.hid hR
  obtain ⟨mt, hmt⟩ : ∃ z, z = meantS s := ⟨_, rfl⟩
  rw [← hmt] at HME HR
  clear hr hcell hat hlt hi hil hR hmt
  have h0 := hb.cell 0
  clear hx hb
  go_enter Tryd.func23, Tryd.ntmps23
  go_upto_region 1 with (fail)
  obtain ⟨W0, hW0⟩ : ∃ W0, W0 = w.alloc (.cells #[.slice (some ⟨b, o, none⟩) s.nodes.length c, vj, .int .i64 s.goal, .int .i64 s.prior, .int .i64 s.mode, .int .i64 s.term] 27) := ⟨_, rfl⟩
  rw [← hW0] at HX HB h0 q0 q1 q2 q3 q4 ⊢
  clear hW0
  go_upto_region 2 with (fail)
  obtain ⟨wn, hwn⟩ : ∃ wn, wn = W0.alloc (.cells #[.bool n.up, .bool n.cordon, .bool n.moving, .int .i64 n.version, .int .i64 n.job] 41) := ⟨_, rfl⟩
  have HXN : Hid (Ext W0 wn) := Lib.hid (by rw [hwn]; exact (Below.refl _ _).alloc (Nat.le_refl _) _)
  have HBN : Hid (Blk wn W0.heap.size 41 #[.bool n.up, .bool n.cordon, .bool n.moving, .int .i64 n.version, .int .i64 n.job]) := Lib.hid (by rw [hwn]; exact Blk.new _ _ _)
  rw [← hwn]
  obtain ⟨gx, hgx⟩ : ∃ g, g = W0.heap.size := ⟨_, rfl⟩
  rw [← hgx] at HBN ⊢
  have HX0 : Hid (Ext w wn) := Lib.hid (Ext.trans HX.out HXN.out)
  have HB0 := Lib.hid (HB.out.ext HXN.out)
  clear hwn hgx q0 q1 q2 q3 q4 h0 d5 d6 d7
  cases hup : n.up
  · rw [hup] at HBN HR
    have HZ : Hid (R = false) := Lib.hid (by rw [HR.out]; rfl)
    refine held_begin (by kernel_rfl) ?_
    refine held_more (S' := fun W' : World => Ext wn W') (fun _ _ => True.intro) ?_
    have hSx : (fun W' : World => Ext wn W') wn.drew := Below.drewN' (Ext.refl wn) 1
    refine held_take (i := 0) (v := ?_) rfl (by kernel_rfl) (by kernel_rfl) (by kernel_rfl) (by rfl) (by first | assumption | exact True.intro) ?_ ?_
    rotate_left
    · (intro W hSw; obtain ⟨g0, g1, g2, g3, g4, g5⟩ := Blk.six (HB0.out.ext hSw); have q0 := (HBN.out.ext hSw).cell 0; have q1 := (HBN.out.ext hSw).cell 1; have q2 := (HBN.out.ext hSw).cell 2; have q3 := (HBN.out.ext hSw).cell 3; have q4 := (HBN.out.ext hSw).cell 4; go_simp; (try with_reducible rfl))
    try simp only [Act.put, List.setIfInBounds_toArray, List.set_cons_zero, List.set_cons_succ]
    refine held_take (i := 1) (v := ?_) rfl (by kernel_rfl) (by kernel_rfl) (by kernel_rfl) (by rfl) (by first | assumption | exact True.intro) ?_ ?_
    rotate_left
    · (intro W hSw; obtain ⟨g0, g1, g2, g3, g4, g5⟩ := Blk.six (HB0.out.ext hSw); have q0 := (HBN.out.ext hSw).cell 0; have q1 := (HBN.out.ext hSw).cell 1; have q2 := (HBN.out.ext hSw).cell 2; have q3 := (HBN.out.ext hSw).cell 3; have q4 := (HBN.out.ext hSw).cell 4; go_simp; (try with_reducible rfl))
    try simp only [Act.put, List.setIfInBounds_toArray, List.set_cons_zero, List.set_cons_succ]
    refine held_take (i := 2) (v := ?_) rfl (by kernel_rfl) (by kernel_rfl) (by kernel_rfl) (by rfl) (by first | assumption | exact True.intro) ?_ ?_
    rotate_left
    · (intro W hSw; obtain ⟨g0, g1, g2, g3, g4, g5⟩ := Blk.six (HB0.out.ext hSw); have q0 := (HBN.out.ext hSw).cell 0; have q1 := (HBN.out.ext hSw).cell 1; have q2 := (HBN.out.ext hSw).cell 2; have q3 := (HBN.out.ext hSw).cell 3; have q4 := (HBN.out.ext hSw).cell 4; go_simp; (try with_reducible rfl))
    try simp only [Act.put, List.setIfInBounds_toArray, List.set_cons_zero, List.set_cons_succ]
    refine held_skip (i := 3) rfl (by kernel_rfl) (by kernel_rfl) (by kernel_rfl) (by rfl) (by first | assumption | exact True.intro) ?_
    try simp only [Act.put, List.setIfInBounds_toArray, List.set_cons_zero, List.set_cons_succ]
    refine held_skip (i := 4) rfl (by kernel_rfl) (by kernel_rfl) (by kernel_rfl) (by rfl) (by first | assumption | exact True.intro) ?_
    try simp only [Act.put, List.setIfInBounds_toArray, List.set_cons_zero, List.set_cons_succ]
    refine held_skip (i := 5) rfl (by kernel_rfl) (by kernel_rfl) (by kernel_rfl) (by rfl) (by first | assumption | exact True.intro) ?_
    try simp only [Act.put, List.setIfInBounds_toArray, List.set_cons_zero, List.set_cons_succ]
    refine held_take (i := 6) (v := ?_) rfl (by kernel_rfl) (by kernel_rfl) (by kernel_rfl) (by rfl) (by first | assumption | exact True.intro) ?_ ?_
    rotate_left
    · (intro W hSw; obtain ⟨g0, g1, g2, g3, g4, g5⟩ := Blk.six (HB0.out.ext hSw); have q0 := (HBN.out.ext hSw).cell 0; have q1 := (HBN.out.ext hSw).cell 1; have q2 := (HBN.out.ext hSw).cell 2; have q3 := (HBN.out.ext hSw).cell 3; have q4 := (HBN.out.ext hSw).cell 4; go_simp; (try with_reducible rfl))
    try simp only [Act.put, List.setIfInBounds_toArray, List.set_cons_zero, List.set_cons_succ]
    refine held_take (i := 7) (v := ?_) rfl (by kernel_rfl) (by kernel_rfl) (by kernel_rfl) (by rfl) (by first | assumption | exact True.intro) ?_ ?_
    rotate_left
    · (intro W hSw; obtain ⟨g0, g1, g2, g3, g4, g5⟩ := Blk.six (HB0.out.ext hSw); have q0 := (HBN.out.ext hSw).cell 0; have q1 := (HBN.out.ext hSw).cell 1; have q2 := (HBN.out.ext hSw).cell 2; have q3 := (HBN.out.ext hSw).cell 3; have q4 := (HBN.out.ext hSw).cell 4; go_simp; (try with_reducible rfl))
    try simp only [Act.put, List.setIfInBounds_toArray, List.set_cons_zero, List.set_cons_succ]
    refine held_skip (i := 8) rfl (by kernel_rfl) (by kernel_rfl) (by kernel_rfl) (by rfl) (by first | assumption | exact True.intro) ?_
    try simp only [Act.put, List.setIfInBounds_toArray, List.set_cons_zero, List.set_cons_succ]
    refine held_skip (i := 9) rfl (by kernel_rfl) (by kernel_rfl) (by kernel_rfl) (by rfl) (by first | assumption | exact True.intro) ?_
    try simp only [Act.put, List.setIfInBounds_toArray, List.set_cons_zero, List.set_cons_succ]
    refine held_skip (i := 10) rfl (by kernel_rfl) (by kernel_rfl) (by kernel_rfl) (by rfl) (by first | assumption | exact True.intro) ?_
    try simp only [Act.put, List.setIfInBounds_toArray, List.set_cons_zero, List.set_cons_succ]
    refine held_skip (i := 11) rfl (by kernel_rfl) (by kernel_rfl) (by kernel_rfl) (by rfl) (by first | assumption | exact True.intro) ?_
    try simp only [Act.put, List.setIfInBounds_toArray, List.set_cons_zero, List.set_cons_succ]
    refine held_skip (i := 12) rfl (by kernel_rfl) (by kernel_rfl) (by kernel_rfl) (by rfl) (by first | assumption | exact True.intro) ?_
    try simp only [Act.put, List.setIfInBounds_toArray, List.set_cons_zero, List.set_cons_succ]
    refine held_take (i := 13) (v := ?_) rfl (by kernel_rfl) (by kernel_rfl) (by kernel_rfl) (by rfl) (by first | assumption | exact True.intro) ?_ ?_
    rotate_left
    · (intro W hSw; obtain ⟨g0, g1, g2, g3, g4, g5⟩ := Blk.six (HB0.out.ext hSw); have q0 := (HBN.out.ext hSw).cell 0; have q1 := (HBN.out.ext hSw).cell 1; have q2 := (HBN.out.ext hSw).cell 2; have q3 := (HBN.out.ext hSw).cell 3; have q4 := (HBN.out.ext hSw).cell 4; go_simp; (try with_reducible rfl))
    try simp only [Act.put, List.setIfInBounds_toArray, List.set_cons_zero, List.set_cons_succ]
    refine held_take (i := 14) (v := ?_) rfl (by kernel_rfl) (by kernel_rfl) (by kernel_rfl) (by rfl) (by first | assumption | exact True.intro) ?_ ?_
    rotate_left
    · (intro W hSw; obtain ⟨g0, g1, g2, g3, g4, g5⟩ := Blk.six (HB0.out.ext hSw); have q0 := (HBN.out.ext hSw).cell 0; have q1 := (HBN.out.ext hSw).cell 1; have q2 := (HBN.out.ext hSw).cell 2; have q3 := (HBN.out.ext hSw).cell 3; have q4 := (HBN.out.ext hSw).cell 4; go_simp; (try with_reducible rfl))
    try simp only [Act.put, List.setIfInBounds_toArray, List.set_cons_zero, List.set_cons_succ]
    clear hSx
    refine wpAnyH_done (by kernel_rfl) ?_ _
    refine NoPanic.normal ?_
    go_wp2
    go_ret
    exact ⟨by rw [HZ.out]; rfl, Ext.trans HX0.out (Below.drewN' (Ext.refl wn) 1)⟩
  · cases hmv : n.moving
    · rw [hup, hmv] at HBN HR
      refine held_begin (by kernel_rfl) ?_
      refine held_more (S' := fun W' : World => Ext wn W') (fun _ _ => True.intro) ?_
      have hSx : (fun W' : World => Ext wn W') wn.drew := Below.drewN' (Ext.refl wn) 1
      refine held_take (i := 0) (v := ?_) rfl (by kernel_rfl) (by kernel_rfl) (by kernel_rfl) (by rfl) (by first | assumption | exact True.intro) ?_ ?_
      rotate_left
      · (intro W hSw; obtain ⟨g0, g1, g2, g3, g4, g5⟩ := Blk.six (HB0.out.ext hSw); have q0 := (HBN.out.ext hSw).cell 0; have q1 := (HBN.out.ext hSw).cell 1; have q2 := (HBN.out.ext hSw).cell 2; have q3 := (HBN.out.ext hSw).cell 3; have q4 := (HBN.out.ext hSw).cell 4; go_simp; (try with_reducible rfl))
      try simp only [Act.put, List.setIfInBounds_toArray, List.set_cons_zero, List.set_cons_succ]
      refine held_take (i := 1) (v := ?_) rfl (by kernel_rfl) (by kernel_rfl) (by kernel_rfl) (by rfl) (by first | assumption | exact True.intro) ?_ ?_
      rotate_left
      · (intro W hSw; obtain ⟨g0, g1, g2, g3, g4, g5⟩ := Blk.six (HB0.out.ext hSw); have q0 := (HBN.out.ext hSw).cell 0; have q1 := (HBN.out.ext hSw).cell 1; have q2 := (HBN.out.ext hSw).cell 2; have q3 := (HBN.out.ext hSw).cell 3; have q4 := (HBN.out.ext hSw).cell 4; go_simp; (try with_reducible rfl))
      try simp only [Act.put, List.setIfInBounds_toArray, List.set_cons_zero, List.set_cons_succ]
      refine held_take (i := 2) (v := ?_) rfl (by kernel_rfl) (by kernel_rfl) (by kernel_rfl) (by rfl) (by first | assumption | exact True.intro) ?_ ?_
      rotate_left
      · (intro W hSw; obtain ⟨g0, g1, g2, g3, g4, g5⟩ := Blk.six (HB0.out.ext hSw); have q0 := (HBN.out.ext hSw).cell 0; have q1 := (HBN.out.ext hSw).cell 1; have q2 := (HBN.out.ext hSw).cell 2; have q3 := (HBN.out.ext hSw).cell 3; have q4 := (HBN.out.ext hSw).cell 4; go_simp; (try with_reducible rfl))
      try simp only [Act.put, List.setIfInBounds_toArray, List.set_cons_zero, List.set_cons_succ]
      refine held_take (i := 3) (v := ?_) rfl (by kernel_rfl) (by kernel_rfl) (by kernel_rfl) (by rfl) (by first | assumption | exact True.intro) ?_ ?_
      rotate_left
      · (intro W hSw; obtain ⟨g0, g1, g2, g3, g4, g5⟩ := Blk.six (HB0.out.ext hSw); have q0 := (HBN.out.ext hSw).cell 0; have q1 := (HBN.out.ext hSw).cell 1; have q2 := (HBN.out.ext hSw).cell 2; have q3 := (HBN.out.ext hSw).cell 3; have q4 := (HBN.out.ext hSw).cell 4; go_simp; (try with_reducible rfl))
      try simp only [Act.put, List.setIfInBounds_toArray, List.set_cons_zero, List.set_cons_succ]
      refine held_take (i := 4) (v := ?_) rfl (by kernel_rfl) (by kernel_rfl) (by kernel_rfl) (by rfl) (by first | assumption | exact True.intro) ?_ ?_
      rotate_left
      · (intro W hSw; obtain ⟨g0, g1, g2, g3, g4, g5⟩ := Blk.six (HB0.out.ext hSw); have q0 := (HBN.out.ext hSw).cell 0; have q1 := (HBN.out.ext hSw).cell 1; have q2 := (HBN.out.ext hSw).cell 2; have q3 := (HBN.out.ext hSw).cell 3; have q4 := (HBN.out.ext hSw).cell 4; go_simp; (try with_reducible rfl))
      try simp only [Act.put, List.setIfInBounds_toArray, List.set_cons_zero, List.set_cons_succ]
      refine held_take (i := 5) (v := ?_) rfl (by kernel_rfl) (by kernel_rfl) (by kernel_rfl) (by rfl) (by first | assumption | exact True.intro) ?_ ?_
      rotate_left
      · (intro W hSw; obtain ⟨g0, g1, g2, g3, g4, g5⟩ := Blk.six (HB0.out.ext hSw); have q0 := (HBN.out.ext hSw).cell 0; have q1 := (HBN.out.ext hSw).cell 1; have q2 := (HBN.out.ext hSw).cell 2; have q3 := (HBN.out.ext hSw).cell 3; have q4 := (HBN.out.ext hSw).cell 4; go_simp; (try with_reducible rfl))
      try simp only [Act.put, List.setIfInBounds_toArray, List.set_cons_zero, List.set_cons_succ]
      refine held_take (i := 6) (v := ?_) rfl (by kernel_rfl) (by kernel_rfl) (by kernel_rfl) (by rfl) (by first | assumption | exact True.intro) ?_ ?_
      rotate_left
      · (intro W hSw; obtain ⟨g0, g1, g2, g3, g4, g5⟩ := Blk.six (HB0.out.ext hSw); have q0 := (HBN.out.ext hSw).cell 0; have q1 := (HBN.out.ext hSw).cell 1; have q2 := (HBN.out.ext hSw).cell 2; have q3 := (HBN.out.ext hSw).cell 3; have q4 := (HBN.out.ext hSw).cell 4; go_simp; (try with_reducible rfl))
      try simp only [Act.put, List.setIfInBounds_toArray, List.set_cons_zero, List.set_cons_succ]
      refine held_take (i := 7) (v := ?_) rfl (by kernel_rfl) (by kernel_rfl) (by kernel_rfl) (by rfl) (by first | assumption | exact True.intro) ?_ ?_
      rotate_left
      · (intro W hSw; obtain ⟨g0, g1, g2, g3, g4, g5⟩ := Blk.six (HB0.out.ext hSw); have q0 := (HBN.out.ext hSw).cell 0; have q1 := (HBN.out.ext hSw).cell 1; have q2 := (HBN.out.ext hSw).cell 2; have q3 := (HBN.out.ext hSw).cell 3; have q4 := (HBN.out.ext hSw).cell 4; go_simp; (try with_reducible rfl))
      try simp only [Act.put, List.setIfInBounds_toArray, List.set_cons_zero, List.set_cons_succ]
      refine held_take (i := 8) (v := ?_) rfl (by kernel_rfl) (by kernel_rfl) (by kernel_rfl) (by rfl) (by first | assumption | exact True.intro) ?_ ?_
      rotate_left
      · (intro W hSw; obtain ⟨g0, g1, g2, g3, g4, g5⟩ := Blk.six (HB0.out.ext hSw); have q0 := (HBN.out.ext hSw).cell 0; have q1 := (HBN.out.ext hSw).cell 1; have q2 := (HBN.out.ext hSw).cell 2; have q3 := (HBN.out.ext hSw).cell 3; have q4 := (HBN.out.ext hSw).cell 4; go_simp; (try with_reducible rfl))
      try simp only [Act.put, List.setIfInBounds_toArray, List.set_cons_zero, List.set_cons_succ]
      refine held_take (i := 9) (v := ?_) rfl (by kernel_rfl) (by kernel_rfl) (by kernel_rfl) (by rfl) (by first | assumption | exact True.intro) ?_ ?_
      rotate_left
      · (intro W hSw; obtain ⟨g0, g1, g2, g3, g4, g5⟩ := Blk.six (HB0.out.ext hSw); have q0 := (HBN.out.ext hSw).cell 0; have q1 := (HBN.out.ext hSw).cell 1; have q2 := (HBN.out.ext hSw).cell 2; have q3 := (HBN.out.ext hSw).cell 3; have q4 := (HBN.out.ext hSw).cell 4; go_simp; (try with_reducible rfl))
      try simp only [Act.put, List.setIfInBounds_toArray, List.set_cons_zero, List.set_cons_succ]
      refine held_take (i := 10) (v := ?_) rfl (by kernel_rfl) (by kernel_rfl) (by kernel_rfl) (by rfl) (by first | assumption | exact True.intro) ?_ ?_
      rotate_left
      · (intro W hSw; obtain ⟨g0, g1, g2, g3, g4, g5⟩ := Blk.six (HB0.out.ext hSw); have q0 := (HBN.out.ext hSw).cell 0; have q1 := (HBN.out.ext hSw).cell 1; have q2 := (HBN.out.ext hSw).cell 2; have q3 := (HBN.out.ext hSw).cell 3; have q4 := (HBN.out.ext hSw).cell 4; go_simp; (try with_reducible rfl))
      try simp only [Act.put, List.setIfInBounds_toArray, List.set_cons_zero, List.set_cons_succ]
      clear hSx
      refine held_op (i := 11) (by kernel_rfl) rfl (fun K hK => ?_)
      go_simp
      go_at_call 26
      refine (HME.out _).mono ?_
      rintro e3 w3 ⟨rfl, hx3⟩
      have HX3 : Hid (Ext wn w3) := Lib.hid (Ext.trans (Below.drewN' (Ext.refl wn) 1) hx3)
      clear hx3
      refine hK _ _ (HX3.out) (fun hSx => ?_)
      clear hK K
      try simp only [Act.put, List.setIfInBounds_toArray, List.set_cons_zero, List.set_cons_succ]
      by_cases hv : n.version = mt
      · have d1 : (n.version != mt) = false := by rw [hv]; simp
        have HZ : Hid (R = false) := Lib.hid (by rw [HR.out, decide_eq_false (fun h => h hv)]; rfl)
        clear hv
        refine held_take (i := 12) (v := ?_) rfl (by kernel_rfl) (by kernel_rfl) (by kernel_rfl) (by rfl) (by first | assumption | exact True.intro) ?_ ?_
        rotate_left
        · (intro W hSw; go_simp; (try with_reducible rfl))
        try simp only [Act.put, List.setIfInBounds_toArray, List.set_cons_zero, List.set_cons_succ]
        refine held_take (i := 13) (v := ?_) rfl (by kernel_rfl) (by kernel_rfl) (by kernel_rfl) (by rfl) (by first | assumption | exact True.intro) ?_ ?_
        rotate_left
        · (intro W hSw; go_simp; (try with_reducible rfl))
        try simp only [Act.put, List.setIfInBounds_toArray, List.set_cons_zero, List.set_cons_succ]
        refine held_take (i := 14) (v := ?_) rfl (by kernel_rfl) (by kernel_rfl) (by kernel_rfl) (by rfl) (by first | assumption | exact True.intro) ?_ ?_
        rotate_left
        · (intro W hSw; go_simp; (try with_reducible rfl))
        try simp only [Act.put, List.setIfInBounds_toArray, List.set_cons_zero, List.set_cons_succ]
        clear hSx
        refine wpAnyH_done (by kernel_rfl) ?_ _
        refine NoPanic.normal ?_
        go_wp2
        go_ret
        exact ⟨by rw [HZ.out]; rfl, Ext.trans HX0.out HX3.out⟩
      · have d1 : (n.version != mt) = true := by simp only [bne_iff_ne, ne_eq]; exact hv
        have HZ : Hid (R = true) := Lib.hid (by rw [HR.out, decide_eq_true hv]; rfl)
        clear hv
        refine held_take (i := 12) (v := ?_) rfl (by kernel_rfl) (by kernel_rfl) (by kernel_rfl) (by rfl) (by first | assumption | exact True.intro) ?_ ?_
        rotate_left
        · (intro W hSw; go_simp; (try with_reducible rfl))
        try simp only [Act.put, List.setIfInBounds_toArray, List.set_cons_zero, List.set_cons_succ]
        refine held_take (i := 13) (v := ?_) rfl (by kernel_rfl) (by kernel_rfl) (by kernel_rfl) (by rfl) (by first | assumption | exact True.intro) ?_ ?_
        rotate_left
        · (intro W hSw; go_simp; (try with_reducible rfl))
        try simp only [Act.put, List.setIfInBounds_toArray, List.set_cons_zero, List.set_cons_succ]
        refine held_take (i := 14) (v := ?_) rfl (by kernel_rfl) (by kernel_rfl) (by kernel_rfl) (by rfl) (by first | assumption | exact True.intro) ?_ ?_
        rotate_left
        · (intro W hSw; go_simp; (try with_reducible rfl))
        try simp only [Act.put, List.setIfInBounds_toArray, List.set_cons_zero, List.set_cons_succ]
        clear hSx
        refine wpAnyH_done (by kernel_rfl) ?_ _
        refine NoPanic.normal ?_
        go_wp2
        go_ret
        exact ⟨by rw [HZ.out]; rfl, Ext.trans HX0.out HX3.out⟩
    · rw [hup, hmv] at HBN HR
      have HZ : Hid (R = false) := Lib.hid (by rw [HR.out]; rfl)
      refine held_begin (by kernel_rfl) ?_
      refine held_more (S' := fun W' : World => Ext wn W') (fun _ _ => True.intro) ?_
      have hSx : (fun W' : World => Ext wn W') wn.drew := Below.drewN' (Ext.refl wn) 1
      refine held_take (i := 0) (v := ?_) rfl (by kernel_rfl) (by kernel_rfl) (by kernel_rfl) (by rfl) (by first | assumption | exact True.intro) ?_ ?_
      rotate_left
      · (intro W hSw; obtain ⟨g0, g1, g2, g3, g4, g5⟩ := Blk.six (HB0.out.ext hSw); have q0 := (HBN.out.ext hSw).cell 0; have q1 := (HBN.out.ext hSw).cell 1; have q2 := (HBN.out.ext hSw).cell 2; have q3 := (HBN.out.ext hSw).cell 3; have q4 := (HBN.out.ext hSw).cell 4; go_simp; (try with_reducible rfl))
      try simp only [Act.put, List.setIfInBounds_toArray, List.set_cons_zero, List.set_cons_succ]
      refine held_take (i := 1) (v := ?_) rfl (by kernel_rfl) (by kernel_rfl) (by kernel_rfl) (by rfl) (by first | assumption | exact True.intro) ?_ ?_
      rotate_left
      · (intro W hSw; obtain ⟨g0, g1, g2, g3, g4, g5⟩ := Blk.six (HB0.out.ext hSw); have q0 := (HBN.out.ext hSw).cell 0; have q1 := (HBN.out.ext hSw).cell 1; have q2 := (HBN.out.ext hSw).cell 2; have q3 := (HBN.out.ext hSw).cell 3; have q4 := (HBN.out.ext hSw).cell 4; go_simp; (try with_reducible rfl))
      try simp only [Act.put, List.setIfInBounds_toArray, List.set_cons_zero, List.set_cons_succ]
      refine held_take (i := 2) (v := ?_) rfl (by kernel_rfl) (by kernel_rfl) (by kernel_rfl) (by rfl) (by first | assumption | exact True.intro) ?_ ?_
      rotate_left
      · (intro W hSw; obtain ⟨g0, g1, g2, g3, g4, g5⟩ := Blk.six (HB0.out.ext hSw); have q0 := (HBN.out.ext hSw).cell 0; have q1 := (HBN.out.ext hSw).cell 1; have q2 := (HBN.out.ext hSw).cell 2; have q3 := (HBN.out.ext hSw).cell 3; have q4 := (HBN.out.ext hSw).cell 4; go_simp; (try with_reducible rfl))
      try simp only [Act.put, List.setIfInBounds_toArray, List.set_cons_zero, List.set_cons_succ]
      refine held_take (i := 3) (v := ?_) rfl (by kernel_rfl) (by kernel_rfl) (by kernel_rfl) (by rfl) (by first | assumption | exact True.intro) ?_ ?_
      rotate_left
      · (intro W hSw; obtain ⟨g0, g1, g2, g3, g4, g5⟩ := Blk.six (HB0.out.ext hSw); have q0 := (HBN.out.ext hSw).cell 0; have q1 := (HBN.out.ext hSw).cell 1; have q2 := (HBN.out.ext hSw).cell 2; have q3 := (HBN.out.ext hSw).cell 3; have q4 := (HBN.out.ext hSw).cell 4; go_simp; (try with_reducible rfl))
      try simp only [Act.put, List.setIfInBounds_toArray, List.set_cons_zero, List.set_cons_succ]
      refine held_take (i := 4) (v := ?_) rfl (by kernel_rfl) (by kernel_rfl) (by kernel_rfl) (by rfl) (by first | assumption | exact True.intro) ?_ ?_
      rotate_left
      · (intro W hSw; obtain ⟨g0, g1, g2, g3, g4, g5⟩ := Blk.six (HB0.out.ext hSw); have q0 := (HBN.out.ext hSw).cell 0; have q1 := (HBN.out.ext hSw).cell 1; have q2 := (HBN.out.ext hSw).cell 2; have q3 := (HBN.out.ext hSw).cell 3; have q4 := (HBN.out.ext hSw).cell 4; go_simp; (try with_reducible rfl))
      try simp only [Act.put, List.setIfInBounds_toArray, List.set_cons_zero, List.set_cons_succ]
      refine held_take (i := 5) (v := ?_) rfl (by kernel_rfl) (by kernel_rfl) (by kernel_rfl) (by rfl) (by first | assumption | exact True.intro) ?_ ?_
      rotate_left
      · (intro W hSw; obtain ⟨g0, g1, g2, g3, g4, g5⟩ := Blk.six (HB0.out.ext hSw); have q0 := (HBN.out.ext hSw).cell 0; have q1 := (HBN.out.ext hSw).cell 1; have q2 := (HBN.out.ext hSw).cell 2; have q3 := (HBN.out.ext hSw).cell 3; have q4 := (HBN.out.ext hSw).cell 4; go_simp; (try with_reducible rfl))
      try simp only [Act.put, List.setIfInBounds_toArray, List.set_cons_zero, List.set_cons_succ]
      refine held_take (i := 6) (v := ?_) rfl (by kernel_rfl) (by kernel_rfl) (by kernel_rfl) (by rfl) (by first | assumption | exact True.intro) ?_ ?_
      rotate_left
      · (intro W hSw; obtain ⟨g0, g1, g2, g3, g4, g5⟩ := Blk.six (HB0.out.ext hSw); have q0 := (HBN.out.ext hSw).cell 0; have q1 := (HBN.out.ext hSw).cell 1; have q2 := (HBN.out.ext hSw).cell 2; have q3 := (HBN.out.ext hSw).cell 3; have q4 := (HBN.out.ext hSw).cell 4; go_simp; (try with_reducible rfl))
      try simp only [Act.put, List.setIfInBounds_toArray, List.set_cons_zero, List.set_cons_succ]
      refine held_take (i := 7) (v := ?_) rfl (by kernel_rfl) (by kernel_rfl) (by kernel_rfl) (by rfl) (by first | assumption | exact True.intro) ?_ ?_
      rotate_left
      · (intro W hSw; obtain ⟨g0, g1, g2, g3, g4, g5⟩ := Blk.six (HB0.out.ext hSw); have q0 := (HBN.out.ext hSw).cell 0; have q1 := (HBN.out.ext hSw).cell 1; have q2 := (HBN.out.ext hSw).cell 2; have q3 := (HBN.out.ext hSw).cell 3; have q4 := (HBN.out.ext hSw).cell 4; go_simp; (try with_reducible rfl))
      try simp only [Act.put, List.setIfInBounds_toArray, List.set_cons_zero, List.set_cons_succ]
      refine held_skip (i := 8) rfl (by kernel_rfl) (by kernel_rfl) (by kernel_rfl) (by rfl) (by first | assumption | exact True.intro) ?_
      try simp only [Act.put, List.setIfInBounds_toArray, List.set_cons_zero, List.set_cons_succ]
      refine held_skip (i := 9) rfl (by kernel_rfl) (by kernel_rfl) (by kernel_rfl) (by rfl) (by first | assumption | exact True.intro) ?_
      try simp only [Act.put, List.setIfInBounds_toArray, List.set_cons_zero, List.set_cons_succ]
      refine held_skip (i := 10) rfl (by kernel_rfl) (by kernel_rfl) (by kernel_rfl) (by rfl) (by first | assumption | exact True.intro) ?_
      try simp only [Act.put, List.setIfInBounds_toArray, List.set_cons_zero, List.set_cons_succ]
      refine held_skip (i := 11) rfl (by kernel_rfl) (by kernel_rfl) (by kernel_rfl) (by rfl) (by first | assumption | exact True.intro) ?_
      try simp only [Act.put, List.setIfInBounds_toArray, List.set_cons_zero, List.set_cons_succ]
      refine held_skip (i := 12) rfl (by kernel_rfl) (by kernel_rfl) (by kernel_rfl) (by rfl) (by first | assumption | exact True.intro) ?_
      try simp only [Act.put, List.setIfInBounds_toArray, List.set_cons_zero, List.set_cons_succ]
      refine held_take (i := 13) (v := ?_) rfl (by kernel_rfl) (by kernel_rfl) (by kernel_rfl) (by rfl) (by first | assumption | exact True.intro) ?_ ?_
      rotate_left
      · (intro W hSw; obtain ⟨g0, g1, g2, g3, g4, g5⟩ := Blk.six (HB0.out.ext hSw); have q0 := (HBN.out.ext hSw).cell 0; have q1 := (HBN.out.ext hSw).cell 1; have q2 := (HBN.out.ext hSw).cell 2; have q3 := (HBN.out.ext hSw).cell 3; have q4 := (HBN.out.ext hSw).cell 4; go_simp; (try with_reducible rfl))
      try simp only [Act.put, List.setIfInBounds_toArray, List.set_cons_zero, List.set_cons_succ]
      refine held_take (i := 14) (v := ?_) rfl (by kernel_rfl) (by kernel_rfl) (by kernel_rfl) (by rfl) (by first | assumption | exact True.intro) ?_ ?_
      rotate_left
      · (intro W hSw; obtain ⟨g0, g1, g2, g3, g4, g5⟩ := Blk.six (HB0.out.ext hSw); have q0 := (HBN.out.ext hSw).cell 0; have q1 := (HBN.out.ext hSw).cell 1; have q2 := (HBN.out.ext hSw).cell 2; have q3 := (HBN.out.ext hSw).cell 3; have q4 := (HBN.out.ext hSw).cell 4; go_simp; (try with_reducible rfl))
      try simp only [Act.put, List.setIfInBounds_toArray, List.set_cons_zero, List.set_cons_succ]
      clear hSx
      refine wpAnyH_done (by kernel_rfl) ?_ _
      refine NoPanic.normal ?_
      go_wp2
      go_ret
      exact ⟨by rw [HZ.out]; rfl, Ext.trans HX0.out (Below.drewN' (Ext.refl wn) 1)⟩

def zeroJ : Jb := ⟨0, 0, 0, 0, 0, 0, 0, 0, 0, 0, 0, 0⟩
/-- A job and true, or a zero one and false. -/
def optJ : Option Jb → Value
  | some j => .tuple #[jbV j, .bool true]
  | none => .tuple #[jbV zeroJ, .bool false]
theorem infoJob17 : (Tryd.prog.info? 58).map (·.size) = some 12 := by kernel_rfl
set_option maxRecDepth 100000 in
theorem run_jb {fn : Func} {p q : Tmp} (h : fn.results = #[.cell p 58, .tmp q]) {tmps : Array Value} {w : World} {g : Nat} {cs : Array Value} {b : Bool}
    (h2 : tmps.getD p undef = .pointer (some ⟨g, 0, none⟩)) (h3 : tmps.getD q undef = .bool b) (hb : Blk w g 58 cs) (hs : cs.size = 12) : (results fn tmps).run Tryd.prog w = .ok (.tuple #[.agg cs, .bool b]) w := by
  have i1 : (Tryd.prog.info? 58).map (·.size) = some cs.size := by rw [hs]; exact infoJob17
  rw [results_op h, h2, h3]
  simp only [asAddr, Sem.run_pure, Result.andThen_ok, run_loadVar_row w g 58 58 _ (0, 0) _ hb rfl rfl i1]


set_option maxRecDepth 100000 in
set_option maxHeartbeats 4000000 in
theorem jobOf_any (vn vj : Value) (s : St) (i : Nat) (n : Nd) (w : World) (hr : RdNd w vn s.nodes) (hrj : RdJb w vj s.jobs) (hi : s.nodes[i]? = some n) (hN : s.nodes.length ≤ 6) (hM : s.jobs.length ≤ 24) (hJ : OkJ s) :
    Calls Tryd.prog 25 #[stV vn vj s, .int .i64 (i : Int)] w fun e w' => e = .returned (optJ (jobOf s n.job)) ∧ Ext w w' := by
  obtain ⟨hx, hb⟩ := boxSt vn vj s w 27
  unfold stV
  unfold stC at hx hb
  obtain ⟨A, ca, rfl, hnc, hcm, hcell⟩ := has_cells hr
  obtain ⟨A', cj, rfl, hnc', hcm', hcell'⟩ := jobs_cells hrj
  obtain ⟨b, o, rfl, hlt, hat⟩ := hcell i n hi
  have hil := (List.getElem?_eq_some_iff.1 hi).1
  have hjn := hJ i n hi
  have HC' := Lib.hid hcell'
  obtain ⟨R, hR⟩ : ∃ R, R = jobOf s n.job := ⟨_, rfl⟩
  rw [← hR]
  have HR := Lib.hid hR
  have d5 : decide (i < s.nodes.length) = true := decide_eq_true hil
  have d6 : (i : Int) < (s.nodes.length : Int) := by omega
  have d7 : (0 : Int) ≤ (i : Int) := by omega
  obtain ⟨W0, hW0⟩ : ∃ W, W = w.alloc (.cells #[.slice (some ⟨b, o, none⟩) s.nodes.length ca, .slice A' s.jobs.length cj, .int .i64 s.goal, .int .i64 s.prior, .int .i64 s.mode, .int .i64 s.term] 27) := ⟨_, rfl⟩
  obtain ⟨W1, hW1⟩ : ∃ W, W = W0.alloc (.cells #[.int .i64 0, .int .i64 0, .int .i64 0, .int .i64 0, .int .i64 0, .int .i64 0, .int .i64 0, .int .i64 0, .int .i64 0, .int .i64 0, .int .i64 0, .int .i64 0] 58) := ⟨_, rfl⟩
  rw [← hW0] at hx hb
  have s1 : W0.heap.size = w.heap.size + 1 := by rw [hW0]; simp
  have x1 : Ext W0 W1 := by rw [hW1]; exact (Below.refl _ _).alloc (Nat.le_refl _) _
  have HX : Hid (Ext w W1) := Lib.hid (Ext.trans hx x1)
  have HB := Lib.hid (hb.ext x1)
  have HBR : Hid (Blk W1 (w.heap.size + 1) 58 #[.int .i64 0, .int .i64 0, .int .i64 0, .int .i64 0, .int .i64 0, .int .i64 0, .int .i64 0, .int .i64 0, .int .i64 0, .int .i64 0, .int .i64 0, .int .i64 0]) := Lib.hid (by rw [← s1, hW1]; exact Blk.new _ _ _)
  have HW1 : Hid (W1 = (w.alloc (.cells #[.slice (some ⟨b, o, none⟩) s.nodes.length ca, .slice A' s.jobs.length cj, .int .i64 s.goal, .int .i64 s.prior, .int .i64 s.mode, .int .i64 s.term] 27)).alloc (.cells #[.int .i64 0, .int .i64 0, .int .i64 0, .int .i64 0, .int .i64 0, .int .i64 0, .int .i64 0, .int .i64 0, .int .i64 0, .int .i64 0, .int .i64 0, .int .i64 0] 58)) := Lib.hid (by rw [hW1, hW0])
  have HAT := Lib.hid (hat.ext HX.out hlt)
  clear hr hrj hcell hcell' hat hlt hi hil hR hx hb s1 x1 hW1 hW0 hJ
  go_enter Tryd.func25, Tryd.ntmps25
  go_upto_region 1 with (fail)
  rw [← HW1.out]
  obtain ⟨gs, hgs⟩ : ∃ g, g = w.heap.size := ⟨_, rfl⟩
  obtain ⟨gr, hgr⟩ : ∃ g, g = w.heap.size + 1 := ⟨_, rfl⟩
  rw [← hgr, ← hgs]
  rw [← hgr] at HBR
  rw [← hgs] at HB
  have HGR : Hid (w.heap.size ≤ gr) := Lib.hid (by omega)
  clear HW1 hgs hgr
  have h0 := HB.out.cell 0
  have h1 := HB.out.cell 1
  obtain ⟨q0, q1, q2, q3, q4⟩ := HAT.out
  clear q0 q1 q2 q3
  by_cases j3 : n.job < 1
  · have d1 : decide (n.job < 1) = true := decide_eq_true j3
    have HZ : Hid (R = none) := Lib.hid (by rw [HR.out]; unfold jobOf; rw [if_neg (by omega)])
    clear j3 hjn
    have HI5 : Hid ((Tryd.prog.info? 58).map (·.size) = some (#[.int .i64 0, .int .i64 0, .int .i64 0, .int .i64 0, .int .i64 0, .int .i64 0, .int .i64 0, .int .i64 0, .int .i64 0, .int .i64 0, .int .i64 0, .int .i64 0] : Array Value).size) := Lib.hid infoJob17
    have HO5 : Hid ((#[.int .i64 0, .int .i64 0, .int .i64 0, .int .i64 0, .int .i64 0, .int .i64 0, .int .i64 0, .int .i64 0, .int .i64 0, .int .i64 0, .int .i64 0, .int .i64 0] : Array Value).all (·.oneCell') = true) := Lib.hid (by simp [Value.oneCell'])
    go_wp2_with (refine wpList_storeB rfl 58 _ _ rfl gr #[.int .i64 0, .int .i64 0, .int .i64 0, .int .i64 0, .int .i64 0, .int .i64 0, .int .i64 0, .int .i64 0, .int .i64 0, .int .i64 0, .int .i64 0, .int .i64 0] rfl rfl 58 _ HBR.out HI5.out rfl HO5.out w.heap.size w HX.out HGR.out ?_; intro w5 hb5 hx5)
    exact bodyPost_ret (run_jb rfl rfl rfl hb5 rfl) rfl ⟨by rw [HZ.out]; rfl, hx5⟩
  · have d1 : decide (n.job < 1) = false := decide_eq_false j3
    have d2 : decide ((s.jobs.length : Int) < n.job) = false := decide_eq_false (by omega)
    obtain ⟨m, hm⟩ : ∃ m : Nat, n.job = (m : Int) + 1 := ⟨(n.job - 1).toNat, by omega⟩
    have hml : m < s.jobs.length := by omega
    obtain ⟨x, hxm⟩ : ∃ x, s.jobs[m]? = some x := ⟨_, List.getElem?_eq_getElem hml⟩
    obtain ⟨b2, o2, rfl, hlt2, hat2⟩ := HC'.out m x hxm
    have HZ : Hid (R = some x) := Lib.hid (by rw [HR.out, jobOf_in hxm hm])
    obtain ⟨p0, p1, p2, p3, p4, p5, p6, p7, p8, p9, p10, p11⟩ := hat2.ext HX.out hlt2
    have wp : wrap64 (n.job - 1) = (m : Int) := by rw [IntWalk.wrap64_in _ (by omega)]; omega
    have e6 : (m : Int) < (s.jobs.length : Int) := by omega
    have e7 : (0 : Int) ≤ (m : Int) := by omega
    have e5 : decide (m < s.jobs.length) = true := decide_eq_true hml
    clear hxm hm hml j3 hjn HC' hat2 hlt2 HR
    have HI5 : Hid ((Tryd.prog.info? 58).map (·.size) = some (#[.int .i64 x.queue, .int .i64 x.prio, .int .i64 x.least, .int .i64 x.most, .int .i64 x.work, .int .i64 x.pin, .int .i64 x.phase, .int .i64 x.inc, .int .i64 x.nodes, .int .i64 x.since, .int .i64 x.til, .int .i64 x.epoch] : Array Value).size) := Lib.hid infoJob17
    have HO5 : Hid ((#[.int .i64 x.queue, .int .i64 x.prio, .int .i64 x.least, .int .i64 x.most, .int .i64 x.work, .int .i64 x.pin, .int .i64 x.phase, .int .i64 x.inc, .int .i64 x.nodes, .int .i64 x.since, .int .i64 x.til, .int .i64 x.epoch] : Array Value).all (·.oneCell') = true) := Lib.hid (by simp [Value.oneCell'])
    go_wp2_with (refine wpList_storeB rfl 58 _ _ rfl gr #[.int .i64 x.queue, .int .i64 x.prio, .int .i64 x.least, .int .i64 x.most, .int .i64 x.work, .int .i64 x.pin, .int .i64 x.phase, .int .i64 x.inc, .int .i64 x.nodes, .int .i64 x.since, .int .i64 x.til, .int .i64 x.epoch] rfl rfl 58 _ HBR.out HI5.out rfl HO5.out w.heap.size w HX.out HGR.out ?_; intro w5 hb5 hx5)
    exact bodyPost_ret (run_jb rfl rfl rfl hb5 rfl) rfl ⟨by rw [HZ.out]; rfl, hx5⟩

/-- Is a node to go? -/
def goesN (s : St) (n : Nd) : Bool := behindN s n && !aloneN s n

set_option maxRecDepth 100000 in
set_option maxHeartbeats 4000000 in
theorem WAlone_of (vn vj : Value) (s : St) (i : Int) (w : World) (hr : RdNd w vn s.nodes) (hrj : RdJb w vj s.jobs) (hN : s.nodes.length ≤ 6) (hM : s.jobs.length ≤ 24) (hJ : OkJ s) (hP : ∀ (k : Nat) x, s.jobs[k]? = some x → 0 ≤ x.pin) :
    Calls Tryd.prog 13 #[stV vn vj s, .int .i64 i] w fun e w' => e = .returned (.bool (aloneI s i)) ∧ Ext w w' := by
  obtain ⟨hx, hb⟩ := boxSt vn vj s w 27
  have HME : Hid (∀ W, Calls Tryd.prog 26 #[stV vn vj s] W fun e w' => e = .returned (.int .i64 (meantS s)) ∧ Ext W w') := Lib.hid fun W => Meant_any vn vj s W
  have HJO : Hid (∀ (k : Nat) n W, s.nodes[k]? = some n → Ext w W → Calls Tryd.prog 25 #[stV vn vj s, .int .i64 (k : Int)] W fun e w' => e = .returned (optJ (jobOf s n.job)) ∧ Ext W w') := Lib.hid fun k n W hk hW => jobOf_any vn vj s k n W (hr.ext hW) (hrj.ext hW) hk hN hM hJ
  unfold stV at HME HJO
  unfold stV
  unfold stC at hx hb
  obtain ⟨A, ca, rfl, hnc, hcm, hcell⟩ := has_cells hr
  have HPP := Lib.hid hP
  have HX := Lib.hid hx
  have HB := Lib.hid hb
  obtain ⟨R, hR⟩ : ∃ R, R = aloneI s i := ⟨_, rfl⟩
  rw [← hR]
  have HR := Lib.hid hR
  clear hr hrj hcell hR hP hJ
  obtain ⟨h0, h1, h2, h3, h4, h5⟩ := Blk.six hb
  clear hx hb
  by_cases j1 : i < 0
  · have HZ : Hid (R = false) := Lib.hid (by rw [HR.out]; exact aloneI_out (.inl j1))
    have d1 : decide (i < 0) = true := decide_eq_true j1
    clear j1
    go_enter Tryd.func13, Tryd.ntmps13
    go_wp2
    go_ret
    exact ⟨by rw [HZ.out]; rfl, HX.out⟩
  · have d1 : decide (i < 0) = false := decide_eq_false j1
    by_cases j2 : (s.nodes.length : Int) ≤ i
    · have HZ : Hid (R = false) := Lib.hid (by rw [HR.out]; exact aloneI_out (.inr j2))
      have d2 : decide ((s.nodes.length : Int) ≤ i) = true := decide_eq_true j2
      clear j1 j2
      go_enter Tryd.func13, Tryd.ntmps13
      go_wp2
      go_ret
      exact ⟨by rw [HZ.out]; rfl, HX.out⟩
    · have d2 : decide ((s.nodes.length : Int) ≤ i) = false := decide_eq_false j2
      obtain ⟨k, rfl⟩ : ∃ k : Nat, i = (k : Int) := ⟨i.toNat, by omega⟩
      have hkl : k < s.nodes.length := by omega
      have d2n : decide (s.nodes.length ≤ k) = false := decide_eq_false (by omega)
      obtain ⟨n, hn⟩ : ∃ n, s.nodes[k]? = some n := ⟨_, List.getElem?_eq_getElem hkl⟩
      have HRN : Hid (R = aloneN s n) := Lib.hid (by rw [HR.out, aloneI_at hn])
      have HJC := Lib.hid fun W (hW : Ext w W) => HJO.out k n W hn hW
      obtain ⟨J, hJ⟩ : ∃ J, J = jobOf s n.job := ⟨_, rfl⟩
      rw [← hJ] at HJC
      have HJE := Lib.hid hJ
      clear hn hkl j1 j2 HR HJO hJ
      go_enter Tryd.func13, Tryd.ntmps13
      go_upto_region 3 with (fail)
      obtain ⟨W0, hW0⟩ : ∃ W0, W0 = w.alloc (.cells #[.slice A s.nodes.length ca, vj, .int .i64 s.goal, .int .i64 s.prior, .int .i64 s.mode, .int .i64 s.term] 27) := ⟨_, rfl⟩
      rw [← hW0] at HX HB h0 h1 h2 h3 h4 h5 ⊢
      clear hW0
      have HCC := Lib.hid (HJC.out W0 HX.out)
      go_wp2_with fail
      refine HCC.out.mono ?_
      rintro e1 w1 ⟨rfl, hx1⟩
      have HX1 : Hid (Ext w w1) := Lib.hid (Ext.trans HX.out hx1)
      have HB1 := Lib.hid (HB.out.ext hx1)
      clear hx1 HCC HJC h0 h1 h2 h3 h4 h5
      simp only []
      cases J with
      | none =>
        have HZ : Hid (R = false) := Lib.hid (by rw [HRN.out]; unfold aloneN; rw [← HJE.out])
        unfold optJ jbV zeroJ
        go_upto_region 4 with (fail)
        obtain ⟨W2, hW2⟩ : ∃ W, W = w1.alloc (.cells #[.int .i64 0, .int .i64 0, .int .i64 0, .int .i64 0, .int .i64 0, .int .i64 0, .int .i64 0, .int .i64 0, .int .i64 0, .int .i64 0, .int .i64 0, .int .i64 0] 58) := ⟨_, rfl⟩
        have HX2 : Hid (Ext w1 W2) := Lib.hid (by rw [hW2]; exact (Below.refl _ _).alloc (Nat.le_refl _) _)
        have HBJ : Hid (Blk W2 w1.heap.size 58 #[.int .i64 0, .int .i64 0, .int .i64 0, .int .i64 0, .int .i64 0, .int .i64 0, .int .i64 0, .int .i64 0, .int .i64 0, .int .i64 0, .int .i64 0, .int .i64 0]) := Lib.hid (by rw [hW2]; exact Blk.new _ _ _)
        rw [← hW2]
        obtain ⟨gj, hgj⟩ : ∃ g, g = w1.heap.size := ⟨_, rfl⟩
        rw [← hgj] at HBJ ⊢
        clear hW2 hgj
        have HXW : Hid (Ext w W2) := Lib.hid (Ext.trans HX1.out HX2.out)
        have HB2 := Lib.hid (HB1.out.ext HX2.out)
        refine held_begin (by kernel_rfl) ?_
        refine held_more (S' := fun W' : World => Ext W2 W') (fun _ _ => True.intro) ?_
        have hSx : (fun W' : World => Ext W2 W') W2.drew := Below.drewN' (Ext.refl W2) 1
        refine held_take (i := 0) (v := ?_) rfl (by kernel_rfl) (by kernel_rfl) (by kernel_rfl) (by rfl) (by first | assumption | exact True.intro) ?_ ?_
        rotate_left
        · (intro W hSw; obtain ⟨g0, g1, g2, g3, g4, g5⟩ := Blk.six (HB2.out.ext hSw); have j5 := (HBJ.out.ext hSw).cell 5; go_simp; (try with_reducible rfl))
        try simp only [Act.put, List.setIfInBounds_toArray, List.set_cons_zero, List.set_cons_succ]
        refine held_take (i := 1) (v := ?_) rfl (by kernel_rfl) (by kernel_rfl) (by kernel_rfl) (by rfl) (by first | assumption | exact True.intro) ?_ ?_
        rotate_left
        · (intro W hSw; obtain ⟨g0, g1, g2, g3, g4, g5⟩ := Blk.six (HB2.out.ext hSw); have j5 := (HBJ.out.ext hSw).cell 5; go_simp; (try with_reducible rfl))
        try simp only [Act.put, List.setIfInBounds_toArray, List.set_cons_zero, List.set_cons_succ]
        refine held_skip (i := 2) rfl (by kernel_rfl) (by kernel_rfl) (by kernel_rfl) (by rfl) (by first | assumption | exact True.intro) ?_
        try simp only [Act.put, List.setIfInBounds_toArray, List.set_cons_zero, List.set_cons_succ]
        refine held_skip (i := 3) rfl (by kernel_rfl) (by kernel_rfl) (by kernel_rfl) (by rfl) (by first | assumption | exact True.intro) ?_
        try simp only [Act.put, List.setIfInBounds_toArray, List.set_cons_zero, List.set_cons_succ]
        refine held_skip (i := 4) rfl (by kernel_rfl) (by kernel_rfl) (by kernel_rfl) (by rfl) (by first | assumption | exact True.intro) ?_
        try simp only [Act.put, List.setIfInBounds_toArray, List.set_cons_zero, List.set_cons_succ]
        refine held_take (i := 5) (v := ?_) rfl (by kernel_rfl) (by kernel_rfl) (by kernel_rfl) (by rfl) (by first | assumption | exact True.intro) ?_ ?_
        rotate_left
        · (intro W hSw; obtain ⟨g0, g1, g2, g3, g4, g5⟩ := Blk.six (HB2.out.ext hSw); have j5 := (HBJ.out.ext hSw).cell 5; go_simp; (try with_reducible rfl))
        try simp only [Act.put, List.setIfInBounds_toArray, List.set_cons_zero, List.set_cons_succ]
        refine held_take (i := 6) (v := ?_) rfl (by kernel_rfl) (by kernel_rfl) (by kernel_rfl) (by rfl) (by first | assumption | exact True.intro) ?_ ?_
        rotate_left
        · (intro W hSw; obtain ⟨g0, g1, g2, g3, g4, g5⟩ := Blk.six (HB2.out.ext hSw); have j5 := (HBJ.out.ext hSw).cell 5; go_simp; (try with_reducible rfl))
        try simp only [Act.put, List.setIfInBounds_toArray, List.set_cons_zero, List.set_cons_succ]
        refine held_skip (i := 7) rfl (by kernel_rfl) (by kernel_rfl) (by kernel_rfl) (by rfl) (by first | assumption | exact True.intro) ?_
        try simp only [Act.put, List.setIfInBounds_toArray, List.set_cons_zero, List.set_cons_succ]
        refine held_skip (i := 8) rfl (by kernel_rfl) (by kernel_rfl) (by kernel_rfl) (by rfl) (by first | assumption | exact True.intro) ?_
        try simp only [Act.put, List.setIfInBounds_toArray, List.set_cons_zero, List.set_cons_succ]
        refine held_skip (i := 9) rfl (by kernel_rfl) (by kernel_rfl) (by kernel_rfl) (by rfl) (by first | assumption | exact True.intro) ?_
        try simp only [Act.put, List.setIfInBounds_toArray, List.set_cons_zero, List.set_cons_succ]
        refine held_skip (i := 10) rfl (by kernel_rfl) (by kernel_rfl) (by kernel_rfl) (by rfl) (by first | assumption | exact True.intro) ?_
        try simp only [Act.put, List.setIfInBounds_toArray, List.set_cons_zero, List.set_cons_succ]
        refine held_skip (i := 11) rfl (by kernel_rfl) (by kernel_rfl) (by kernel_rfl) (by rfl) (by first | assumption | exact True.intro) ?_
        try simp only [Act.put, List.setIfInBounds_toArray, List.set_cons_zero, List.set_cons_succ]
        refine held_take (i := 12) (v := ?_) rfl (by kernel_rfl) (by kernel_rfl) (by kernel_rfl) (by rfl) (by first | assumption | exact True.intro) ?_ ?_
        rotate_left
        · (intro W hSw; obtain ⟨g0, g1, g2, g3, g4, g5⟩ := Blk.six (HB2.out.ext hSw); have j5 := (HBJ.out.ext hSw).cell 5; go_simp; (try with_reducible rfl))
        try simp only [Act.put, List.setIfInBounds_toArray, List.set_cons_zero, List.set_cons_succ]
        refine held_take (i := 13) (v := ?_) rfl (by kernel_rfl) (by kernel_rfl) (by kernel_rfl) (by rfl) (by first | assumption | exact True.intro) ?_ ?_
        rotate_left
        · (intro W hSw; obtain ⟨g0, g1, g2, g3, g4, g5⟩ := Blk.six (HB2.out.ext hSw); have j5 := (HBJ.out.ext hSw).cell 5; go_simp; (try with_reducible rfl))
        try simp only [Act.put, List.setIfInBounds_toArray, List.set_cons_zero, List.set_cons_succ]
        clear hSx
        refine wpAnyH_done (by kernel_rfl) ?_ _
        refine NoPanic.normal ?_
        go_wp2
        go_ret
        exact ⟨by rw [HZ.out]; rfl, Ext.trans HXW.out (Below.drewN' (Ext.refl W2) 1)⟩
      | some x =>
        have HPX : Hid (0 ≤ x.pin) := Lib.hid (by obtain ⟨hk, -⟩ := jobOf_some HJE.out.symm; exact HPP.out _ _ hk)
        have HRX : Hid (R = (decide (0 < x.pin) && decide (x.pin ≠ meantS s))) := Lib.hid (by rw [HRN.out]; unfold aloneN; rw [← HJE.out])
        obtain ⟨mt, hmt⟩ : ∃ z, z = meantS s := ⟨_, rfl⟩
        rw [← hmt] at HME HRX
        clear hmt
        unfold optJ jbV
        go_upto_region 4 with (fail)
        obtain ⟨W2, hW2⟩ : ∃ W, W = w1.alloc (.cells #[.int .i64 x.queue, .int .i64 x.prio, .int .i64 x.least, .int .i64 x.most, .int .i64 x.work, .int .i64 x.pin, .int .i64 x.phase, .int .i64 x.inc, .int .i64 x.nodes, .int .i64 x.since, .int .i64 x.til, .int .i64 x.epoch] 58) := ⟨_, rfl⟩
        have HX2 : Hid (Ext w1 W2) := Lib.hid (by rw [hW2]; exact (Below.refl _ _).alloc (Nat.le_refl _) _)
        have HBJ : Hid (Blk W2 w1.heap.size 58 #[.int .i64 x.queue, .int .i64 x.prio, .int .i64 x.least, .int .i64 x.most, .int .i64 x.work, .int .i64 x.pin, .int .i64 x.phase, .int .i64 x.inc, .int .i64 x.nodes, .int .i64 x.since, .int .i64 x.til, .int .i64 x.epoch]) := Lib.hid (by rw [hW2]; exact Blk.new _ _ _)
        rw [← hW2]
        obtain ⟨gj, hgj⟩ : ∃ g, g = w1.heap.size := ⟨_, rfl⟩
        rw [← hgj] at HBJ ⊢
        clear hW2 hgj
        have HXW : Hid (Ext w W2) := Lib.hid (Ext.trans HX1.out HX2.out)
        have HB2 := Lib.hid (HB1.out.ext HX2.out)
        by_cases hp : x.pin = 0
        · have HZ : Hid (R = false) := Lib.hid (by rw [HRX.out, decide_eq_false (by omega)]; rfl)
          have HF1 : Hid ((x.pin != 0) = false) := Lib.hid (by rw [hp]; rfl)
          clear hp
          refine held_begin (by kernel_rfl) ?_
          refine held_more (S' := fun W' : World => Ext W2 W') (fun _ _ => True.intro) ?_
          have hSx : (fun W' : World => Ext W2 W') W2.drew := Below.drewN' (Ext.refl W2) 1
          refine held_take (i := 0) (v := ?_) rfl (by kernel_rfl) (by kernel_rfl) (by kernel_rfl) (by rfl) (by first | assumption | exact True.intro) ?_ ?_
          rotate_left
          · (intro W hSw; obtain ⟨g0, g1, g2, g3, g4, g5⟩ := Blk.six (HB2.out.ext hSw); have j5 := (HBJ.out.ext hSw).cell 5; have f1 := HF1.out; go_simp; (try with_reducible rfl))
          try simp only [Act.put, List.setIfInBounds_toArray, List.set_cons_zero, List.set_cons_succ]
          refine held_take (i := 1) (v := ?_) rfl (by kernel_rfl) (by kernel_rfl) (by kernel_rfl) (by rfl) (by first | assumption | exact True.intro) ?_ ?_
          rotate_left
          · (intro W hSw; obtain ⟨g0, g1, g2, g3, g4, g5⟩ := Blk.six (HB2.out.ext hSw); have j5 := (HBJ.out.ext hSw).cell 5; have f1 := HF1.out; go_simp; (try with_reducible rfl))
          try simp only [Act.put, List.setIfInBounds_toArray, List.set_cons_zero, List.set_cons_succ]
          refine held_take (i := 2) (v := ?_) rfl (by kernel_rfl) (by kernel_rfl) (by kernel_rfl) (by rfl) (by first | assumption | exact True.intro) ?_ ?_
          rotate_left
          · (intro W hSw; obtain ⟨g0, g1, g2, g3, g4, g5⟩ := Blk.six (HB2.out.ext hSw); have j5 := (HBJ.out.ext hSw).cell 5; have f1 := HF1.out; go_simp; (try with_reducible rfl))
          try simp only [Act.put, List.setIfInBounds_toArray, List.set_cons_zero, List.set_cons_succ]
          refine held_take (i := 3) (v := ?_) rfl (by kernel_rfl) (by kernel_rfl) (by kernel_rfl) (by rfl) (by first | assumption | exact True.intro) ?_ ?_
          rotate_left
          · (intro W hSw; obtain ⟨g0, g1, g2, g3, g4, g5⟩ := Blk.six (HB2.out.ext hSw); have j5 := (HBJ.out.ext hSw).cell 5; have f1 := HF1.out; go_simp; (try with_reducible rfl))
          try simp only [Act.put, List.setIfInBounds_toArray, List.set_cons_zero, List.set_cons_succ]
          refine held_take (i := 4) (v := ?_) rfl (by kernel_rfl) (by kernel_rfl) (by kernel_rfl) (by rfl) (by first | assumption | exact True.intro) ?_ ?_
          rotate_left
          · (intro W hSw; obtain ⟨g0, g1, g2, g3, g4, g5⟩ := Blk.six (HB2.out.ext hSw); have j5 := (HBJ.out.ext hSw).cell 5; have f1 := HF1.out; go_simp; (try with_reducible rfl))
          try simp only [Act.put, List.setIfInBounds_toArray, List.set_cons_zero, List.set_cons_succ]
          refine held_take (i := 5) (v := ?_) rfl (by kernel_rfl) (by kernel_rfl) (by kernel_rfl) (by rfl) (by first | assumption | exact True.intro) ?_ ?_
          rotate_left
          · (intro W hSw; obtain ⟨g0, g1, g2, g3, g4, g5⟩ := Blk.six (HB2.out.ext hSw); have j5 := (HBJ.out.ext hSw).cell 5; have f1 := HF1.out; go_simp; (try with_reducible rfl))
          try simp only [Act.put, List.setIfInBounds_toArray, List.set_cons_zero, List.set_cons_succ]
          refine held_take (i := 6) (v := ?_) rfl (by kernel_rfl) (by kernel_rfl) (by kernel_rfl) (by rfl) (by first | assumption | exact True.intro) ?_ ?_
          rotate_left
          · (intro W hSw; obtain ⟨g0, g1, g2, g3, g4, g5⟩ := Blk.six (HB2.out.ext hSw); have j5 := (HBJ.out.ext hSw).cell 5; have f1 := HF1.out; go_simp; (try with_reducible rfl))
          try simp only [Act.put, List.setIfInBounds_toArray, List.set_cons_zero, List.set_cons_succ]
          refine held_skip (i := 7) rfl (by kernel_rfl) (by kernel_rfl) (by kernel_rfl) (by rfl) (by first | assumption | exact True.intro) ?_
          try simp only [Act.put, List.setIfInBounds_toArray, List.set_cons_zero, List.set_cons_succ]
          refine held_skip (i := 8) rfl (by kernel_rfl) (by kernel_rfl) (by kernel_rfl) (by rfl) (by first | assumption | exact True.intro) ?_
          try simp only [Act.put, List.setIfInBounds_toArray, List.set_cons_zero, List.set_cons_succ]
          refine held_skip (i := 9) rfl (by kernel_rfl) (by kernel_rfl) (by kernel_rfl) (by rfl) (by first | assumption | exact True.intro) ?_
          try simp only [Act.put, List.setIfInBounds_toArray, List.set_cons_zero, List.set_cons_succ]
          refine held_skip (i := 10) rfl (by kernel_rfl) (by kernel_rfl) (by kernel_rfl) (by rfl) (by first | assumption | exact True.intro) ?_
          try simp only [Act.put, List.setIfInBounds_toArray, List.set_cons_zero, List.set_cons_succ]
          refine held_skip (i := 11) rfl (by kernel_rfl) (by kernel_rfl) (by kernel_rfl) (by rfl) (by first | assumption | exact True.intro) ?_
          try simp only [Act.put, List.setIfInBounds_toArray, List.set_cons_zero, List.set_cons_succ]
          refine held_take (i := 12) (v := ?_) rfl (by kernel_rfl) (by kernel_rfl) (by kernel_rfl) (by rfl) (by first | assumption | exact True.intro) ?_ ?_
          rotate_left
          · (intro W hSw; obtain ⟨g0, g1, g2, g3, g4, g5⟩ := Blk.six (HB2.out.ext hSw); have j5 := (HBJ.out.ext hSw).cell 5; have f1 := HF1.out; go_simp; (try with_reducible rfl))
          try simp only [Act.put, List.setIfInBounds_toArray, List.set_cons_zero, List.set_cons_succ]
          refine held_take (i := 13) (v := ?_) rfl (by kernel_rfl) (by kernel_rfl) (by kernel_rfl) (by rfl) (by first | assumption | exact True.intro) ?_ ?_
          rotate_left
          · (intro W hSw; obtain ⟨g0, g1, g2, g3, g4, g5⟩ := Blk.six (HB2.out.ext hSw); have j5 := (HBJ.out.ext hSw).cell 5; have f1 := HF1.out; go_simp; (try with_reducible rfl))
          try simp only [Act.put, List.setIfInBounds_toArray, List.set_cons_zero, List.set_cons_succ]
          clear hSx
          refine wpAnyH_done (by kernel_rfl) ?_ _
          refine NoPanic.normal ?_
          go_wp2
          go_ret
          exact ⟨by rw [HZ.out]; rfl, Ext.trans HXW.out (Below.drewN' (Ext.refl W2) 1)⟩
        · have HF1 : Hid ((x.pin != 0) = true) := Lib.hid (by simp only [bne_iff_ne, ne_eq]; exact hp)
          have HRY : Hid (R = decide (x.pin ≠ mt)) := Lib.hid (by rw [HRX.out, decide_eq_true (show 0 < x.pin by have := HPX.out; omega), Bool.true_and])
          clear hp
          refine held_begin (by kernel_rfl) ?_
          refine held_more (S' := fun W' : World => Ext W2 W') (fun _ _ => True.intro) ?_
          have hSx : (fun W' : World => Ext W2 W') W2.drew := Below.drewN' (Ext.refl W2) 1
          refine held_take (i := 0) (v := ?_) rfl (by kernel_rfl) (by kernel_rfl) (by kernel_rfl) (by rfl) (by first | assumption | exact True.intro) ?_ ?_
          rotate_left
          · (intro W hSw; obtain ⟨g0, g1, g2, g3, g4, g5⟩ := Blk.six (HB2.out.ext hSw); have j5 := (HBJ.out.ext hSw).cell 5; have f1 := HF1.out; go_simp; (try with_reducible rfl))
          try simp only [Act.put, List.setIfInBounds_toArray, List.set_cons_zero, List.set_cons_succ]
          refine held_take (i := 1) (v := ?_) rfl (by kernel_rfl) (by kernel_rfl) (by kernel_rfl) (by rfl) (by first | assumption | exact True.intro) ?_ ?_
          rotate_left
          · (intro W hSw; obtain ⟨g0, g1, g2, g3, g4, g5⟩ := Blk.six (HB2.out.ext hSw); have j5 := (HBJ.out.ext hSw).cell 5; have f1 := HF1.out; go_simp; (try with_reducible rfl))
          try simp only [Act.put, List.setIfInBounds_toArray, List.set_cons_zero, List.set_cons_succ]
          refine held_take (i := 2) (v := ?_) rfl (by kernel_rfl) (by kernel_rfl) (by kernel_rfl) (by rfl) (by first | assumption | exact True.intro) ?_ ?_
          rotate_left
          · (intro W hSw; obtain ⟨g0, g1, g2, g3, g4, g5⟩ := Blk.six (HB2.out.ext hSw); have j5 := (HBJ.out.ext hSw).cell 5; have f1 := HF1.out; go_simp; (try with_reducible rfl))
          try simp only [Act.put, List.setIfInBounds_toArray, List.set_cons_zero, List.set_cons_succ]
          refine held_take (i := 3) (v := ?_) rfl (by kernel_rfl) (by kernel_rfl) (by kernel_rfl) (by rfl) (by first | assumption | exact True.intro) ?_ ?_
          rotate_left
          · (intro W hSw; obtain ⟨g0, g1, g2, g3, g4, g5⟩ := Blk.six (HB2.out.ext hSw); have j5 := (HBJ.out.ext hSw).cell 5; have f1 := HF1.out; go_simp; (try with_reducible rfl))
          try simp only [Act.put, List.setIfInBounds_toArray, List.set_cons_zero, List.set_cons_succ]
          refine held_take (i := 4) (v := ?_) rfl (by kernel_rfl) (by kernel_rfl) (by kernel_rfl) (by rfl) (by first | assumption | exact True.intro) ?_ ?_
          rotate_left
          · (intro W hSw; obtain ⟨g0, g1, g2, g3, g4, g5⟩ := Blk.six (HB2.out.ext hSw); have j5 := (HBJ.out.ext hSw).cell 5; have f1 := HF1.out; go_simp; (try with_reducible rfl))
          try simp only [Act.put, List.setIfInBounds_toArray, List.set_cons_zero, List.set_cons_succ]
          refine held_take (i := 5) (v := ?_) rfl (by kernel_rfl) (by kernel_rfl) (by kernel_rfl) (by rfl) (by first | assumption | exact True.intro) ?_ ?_
          rotate_left
          · (intro W hSw; obtain ⟨g0, g1, g2, g3, g4, g5⟩ := Blk.six (HB2.out.ext hSw); have j5 := (HBJ.out.ext hSw).cell 5; have f1 := HF1.out; go_simp; (try with_reducible rfl))
          try simp only [Act.put, List.setIfInBounds_toArray, List.set_cons_zero, List.set_cons_succ]
          refine held_take (i := 6) (v := ?_) rfl (by kernel_rfl) (by kernel_rfl) (by kernel_rfl) (by rfl) (by first | assumption | exact True.intro) ?_ ?_
          rotate_left
          · (intro W hSw; obtain ⟨g0, g1, g2, g3, g4, g5⟩ := Blk.six (HB2.out.ext hSw); have j5 := (HBJ.out.ext hSw).cell 5; have f1 := HF1.out; go_simp; (try with_reducible rfl))
          try simp only [Act.put, List.setIfInBounds_toArray, List.set_cons_zero, List.set_cons_succ]
          refine held_take (i := 7) (v := ?_) rfl (by kernel_rfl) (by kernel_rfl) (by kernel_rfl) (by rfl) (by first | assumption | exact True.intro) ?_ ?_
          rotate_left
          · (intro W hSw; obtain ⟨g0, g1, g2, g3, g4, g5⟩ := Blk.six (HB2.out.ext hSw); have j5 := (HBJ.out.ext hSw).cell 5; have f1 := HF1.out; go_simp; (try with_reducible rfl))
          try simp only [Act.put, List.setIfInBounds_toArray, List.set_cons_zero, List.set_cons_succ]
          refine held_take (i := 8) (v := ?_) rfl (by kernel_rfl) (by kernel_rfl) (by kernel_rfl) (by rfl) (by first | assumption | exact True.intro) ?_ ?_
          rotate_left
          · (intro W hSw; obtain ⟨g0, g1, g2, g3, g4, g5⟩ := Blk.six (HB2.out.ext hSw); have j5 := (HBJ.out.ext hSw).cell 5; have f1 := HF1.out; go_simp; (try with_reducible rfl))
          try simp only [Act.put, List.setIfInBounds_toArray, List.set_cons_zero, List.set_cons_succ]
          refine held_take (i := 9) (v := ?_) rfl (by kernel_rfl) (by kernel_rfl) (by kernel_rfl) (by rfl) (by first | assumption | exact True.intro) ?_ ?_
          rotate_left
          · (intro W hSw; obtain ⟨g0, g1, g2, g3, g4, g5⟩ := Blk.six (HB2.out.ext hSw); have j5 := (HBJ.out.ext hSw).cell 5; have f1 := HF1.out; go_simp; (try with_reducible rfl))
          try simp only [Act.put, List.setIfInBounds_toArray, List.set_cons_zero, List.set_cons_succ]
          clear hSx
          refine held_op (i := 10) (by kernel_rfl) rfl (fun K hK => ?_)
          go_simp
          go_at_call 26
          refine (HME.out _).mono ?_
          rintro e3 w3 ⟨rfl, hx3⟩
          have HX3 : Hid (Ext W2 w3) := Lib.hid (Ext.trans (Below.drewN' (Ext.refl W2) 1) hx3)
          clear hx3
          refine hK _ _ (HX3.out) (fun hSx => ?_)
          clear hK K
          try simp only [Act.put, List.setIfInBounds_toArray, List.set_cons_zero, List.set_cons_succ]
          by_cases hv : x.pin = mt
          · have d1 : (x.pin != mt) = false := by rw [hv]; simp
            have HZ : Hid (R = false) := Lib.hid (by rw [HRY.out, decide_eq_false (fun h => h hv)])
            clear hv
            refine held_take (i := 11) (v := ?_) rfl (by kernel_rfl) (by kernel_rfl) (by kernel_rfl) (by rfl) (by first | assumption | exact True.intro) ?_ ?_
            rotate_left
            · (intro W hSw; go_simp; (try with_reducible rfl))
            try simp only [Act.put, List.setIfInBounds_toArray, List.set_cons_zero, List.set_cons_succ]
            refine held_take (i := 12) (v := ?_) rfl (by kernel_rfl) (by kernel_rfl) (by kernel_rfl) (by rfl) (by first | assumption | exact True.intro) ?_ ?_
            rotate_left
            · (intro W hSw; go_simp; (try with_reducible rfl))
            try simp only [Act.put, List.setIfInBounds_toArray, List.set_cons_zero, List.set_cons_succ]
            refine held_take (i := 13) (v := ?_) rfl (by kernel_rfl) (by kernel_rfl) (by kernel_rfl) (by rfl) (by first | assumption | exact True.intro) ?_ ?_
            rotate_left
            · (intro W hSw; go_simp; (try with_reducible rfl))
            try simp only [Act.put, List.setIfInBounds_toArray, List.set_cons_zero, List.set_cons_succ]
            clear hSx
            refine wpAnyH_done (by kernel_rfl) ?_ _
            refine NoPanic.normal ?_
            go_wp2
            go_ret
            exact ⟨by rw [HZ.out]; rfl, Ext.trans HXW.out HX3.out⟩
          · have d1 : (x.pin != mt) = true := by simp only [bne_iff_ne, ne_eq]; exact hv
            have HZ : Hid (R = true) := Lib.hid (by rw [HRY.out, decide_eq_true hv])
            clear hv
            refine held_take (i := 11) (v := ?_) rfl (by kernel_rfl) (by kernel_rfl) (by kernel_rfl) (by rfl) (by first | assumption | exact True.intro) ?_ ?_
            rotate_left
            · (intro W hSw; go_simp; (try with_reducible rfl))
            try simp only [Act.put, List.setIfInBounds_toArray, List.set_cons_zero, List.set_cons_succ]
            refine held_take (i := 12) (v := ?_) rfl (by kernel_rfl) (by kernel_rfl) (by kernel_rfl) (by rfl) (by first | assumption | exact True.intro) ?_ ?_
            rotate_left
            · (intro W hSw; go_simp; (try with_reducible rfl))
            try simp only [Act.put, List.setIfInBounds_toArray, List.set_cons_zero, List.set_cons_succ]
            refine held_take (i := 13) (v := ?_) rfl (by kernel_rfl) (by kernel_rfl) (by kernel_rfl) (by rfl) (by first | assumption | exact True.intro) ?_ ?_
            rotate_left
            · (intro W hSw; go_simp; (try with_reducible rfl))
            try simp only [Act.put, List.setIfInBounds_toArray, List.set_cons_zero, List.set_cons_succ]
            clear hSx
            refine wpAnyH_done (by kernel_rfl) ?_ _
            refine NoPanic.normal ?_
            go_wp2
            go_ret
            exact ⟨by rw [HZ.out]; rfl, Ext.trans HXW.out HX3.out⟩

set_option maxRecDepth 100000 in
set_option maxHeartbeats 4000000 in
theorem goes_any (vn vj : Value) (s : St) (i : Nat) (n : Nd) (w : World) (hr : RdNd w vn s.nodes) (hrj : RdJb w vj s.jobs) (hi : s.nodes[i]? = some n) (hN : s.nodes.length ≤ 6) (hM : s.jobs.length ≤ 24) (hJ : OkJ s) (hP : ∀ (k : Nat) x, s.jobs[k]? = some x → 0 ≤ x.pin) :
    Calls Tryd.prog 24 #[stV vn vj s, .int .i64 (i : Int)] w fun e w' => e = .returned (.bool (goesN s n)) ∧ Ext w w' := by
  obtain ⟨hx, hb⟩ := boxSt vn vj s w 27
  have HBE : Hid (∀ W, Ext w W → Calls Tryd.prog 23 #[stV vn vj s, .int .i64 (i : Int)] W fun e w' => e = .returned (.bool (behindN s n)) ∧ Ext W w') := Lib.hid fun W hW => isBehind_any vn vj s i n W (hr.ext hW) hi hN
  have HAL : Hid (∀ W, Ext w W → Calls Tryd.prog 13 #[stV vn vj s, .int .i64 (i : Int)] W fun e w' => e = .returned (.bool (aloneN s n)) ∧ Ext W w') := Lib.hid fun W hW => by
    have h := WAlone_of vn vj s (i : Int) W (hr.ext hW) (hrj.ext hW) hN hM hJ hP
    rw [aloneI_at hi] at h
    exact h
  unfold stV at HBE HAL
  unfold stV
  unfold stC at hx hb
  have HX := Lib.hid hx
  have HB := Lib.hid hb
  obtain ⟨R, hR⟩ : ∃ R, R = goesN s n := ⟨_, rfl⟩
  rw [← hR]
  unfold goesN at hR
  have HR := Lib.hid hR
  clear hr hrj hi hR hJ hP hx hb
  go_enter Tryd.func24, Tryd.ntmps24
  go_upto_region 1 with (fail)
  obtain ⟨W0, hW0⟩ : ∃ W0, W0 = w.alloc (.cells #[vn, vj, .int .i64 s.goal, .int .i64 s.prior, .int .i64 s.mode, .int .i64 s.term] 27) := ⟨_, rfl⟩
  rw [← hW0] at HX HB ⊢
  clear hW0
  obtain ⟨g0, g1, g2, g3, g4, g5⟩ := Blk.six HB.out
  have HC1 := Lib.hid (HBE.out W0 HX.out)
  go_wp2_with fail
  refine HC1.out.mono ?_
  rintro e1 w1 ⟨rfl, hx1⟩
  have HX1 : Hid (Ext w w1) := Lib.hid (Ext.trans HX.out hx1)
  have HB1 := Lib.hid (HB.out.ext hx1)
  clear hx1 HC1 HBE g0 g1 g2 g3 g4 g5
  simp only []
  cases hbh : behindN s n
  · have HZ : Hid (R = false) := Lib.hid (by rw [HR.out, hbh]; rfl)
    clear hbh
    go_wp2
    go_ret
    exact ⟨by rw [HZ.out]; rfl, HX1.out⟩
  · have HRA : Hid (R = !aloneN s n) := Lib.hid (by rw [HR.out, hbh]; rfl)
    clear hbh
    obtain ⟨g0, g1, g2, g3, g4, g5⟩ := Blk.six HB1.out
    have HC1 := Lib.hid (HAL.out w1 HX1.out)
    go_wp2_with fail
    refine HC1.out.mono ?_
    rintro e2 w2 ⟨rfl, hx2⟩
    have HX2 : Hid (Ext w w2) := Lib.hid (Ext.trans HX1.out hx2)
    clear hx2 HC1 g0 g1 g2 g3 g4 g5
    simp only []
    go_wp2
    go_ret
    exact ⟨by rw [HRA.out]; rfl, HX2.out⟩


end Go.Proofs.YtkpcjdhnbjkaaaaDoor

/- Package wave: who is behind, how many are cordoned, whether all is done. -/
namespace Go.Proofs.YtkpcjdhnbjkaaaaDoor
open Go.RowKit

set_option maxRecDepth 100000 in
set_option maxHeartbeats 4000000 in
theorem WBehind_any (c : Cf) (vn vj : Value) (s : St) (w : World) (hr : RdSt w vn vj s) (hR : RightP c s) :
    Calls Tryd.prog 11 #[stV vn vj s] w fun e w' => ∃ A c', e = .returned (.slice A (behI s).length c') ∧ Rd w' (.slice A (behI s).length c') ((behI s).map I) ∧ Ext w w' := by
  obtain ⟨hN, -, -, -, -⟩ := hR.w17
  have hrn := hr.nodes
  obtain ⟨hx, hb⟩ := boxSt vn vj s w 27
  have HBE : Hid (∀ (i : Nat) n W, s.nodes[i]? = some n → Ext w W → Calls Tryd.prog 23 #[stV vn vj s, .int .i64 (i : Int)] W fun e w' => e = .returned (.bool (behindN s n)) ∧ Ext W w') := Lib.hid fun i n W hi hW => isBehind_any vn vj s i n W (hr.nodes.ext hW) hi hN
  unfold stV at HBE
  unfold stV
  unfold stC at hx hb
  obtain ⟨A, c, rfl, hnc, hcm, hcell⟩ := has_cells hrn
  have HX := Lib.hid hx
  have HB := Lib.hid hb
  obtain ⟨D, hD⟩ : ∃ D, D = behI s := ⟨_, rfl⟩
  rw [← hD]
  unfold behI at hD
  obtain ⟨F, hF⟩ : ∃ F : Nat → Bool, F = nodeIs s.nodes (behindN s) := ⟨_, rfl⟩
  rw [← hF] at hD
  have HFF : Hid (∀ (q : Nat) n, s.nodes[q]? = some n → F q = behindN s n) := Lib.hid fun q n hn => by rw [hF, nodeIs_at hn]
  have HD := Lib.hid hD
  clear hx hb hr hrn hR hcell hD hF
  go_enter Tryd.func11, Tryd.ntmps11
  go_wp2_with fail
  obtain ⟨W0, hW0⟩ : ∃ W0, W0 = w.alloc (.cells #[.slice A s.nodes.length c, vj, .int .i64 s.goal, .int .i64 s.prior, .int .i64 s.mode, .int .i64 s.term] 27) := ⟨_, rfl⟩
  rw [← hW0] at HX HB ⊢
  clear hW0
  go_loopw [3, 8] (fun v i wr => ∃ q : Nat, i = .int .i64 q ∧ q ≤ s.nodes.length ∧ Hid (Grew W0.heap.size 3 (.slice none 0 0) W0 ((listI F q).map I) v wr)) (fun _ i _ => s.nodes.length - (intOf i).toNat)
  case atStart => exact ⟨0, rfl, Nat.zero_le _, Lib.hid (Grew.nil _)⟩
  case round =>
    obtain ⟨q, rfl, hq, HK⟩ := hrel
    have HXR : Hid (Ext W0 wr) := Lib.hid HK.out.ext
    have HXW : Hid (Ext w wr) := Lib.hid (Ext.trans HX.out HK.out.ext)
    obtain ⟨g0, g1, g2, g3, g4, g5⟩ := Blk.six (HB.out.ext HK.out.ext)
    by_cases hlt : q < s.nodes.length
    · have d1 : decide ((q : Int) < (s.nodes.length : Int)) = true := decide_eq_true (by omega)
      have d1' : decide (q < s.nodes.length) = true := decide_eq_true hlt
      obtain ⟨n, hn⟩ : ∃ n, s.nodes[q]? = some n := ⟨_, List.getElem?_eq_getElem hlt⟩
      have HLT := Lib.hid hlt
      have HLN : Hid (((listI F q).map I).length < 17592186044416) := Lib.hid (by rw [List.length_map]; have := listI_len F q; omega)
      have wq : wrap64 ((q : Int) + 1) = (q : Int) + 1 := IntWalk.wrap64_in _ (by omega)
      have HFQ := Lib.hid (HFF.out q n hn)
      have HST := Lib.hid (listI_step F q)
      have HBC := Lib.hid (HBE.out q n wr hn HXW.out)
      clear hn hlt hq
      go_wp2_with fail
      refine HBC.out.mono ?_
      rintro e3 w3 ⟨rfl, hx3⟩
      have HKN := Lib.hid (HK.out.step hx3)
      clear hx3 HBC g0 g1 g2 g3 g4 g5
      simp only []
      cases hf : behindN s n
      · have HS1 : Hid (listI F (q + 1) = listI F q) := Lib.hid (by rw [HST.out, HFQ.out, hf, if_neg (by simp), List.append_nil])
        clear hf
        repeat (first | go_values | go_skip | go_guarded | go_step | go_upon | (simp only []))
        go_roundw
        case rel => exact ⟨q + 1, by first | (rw [wq]; rfl) | rfl, HLT.out, Lib.hid (by rw [HS1.out]; exact HKN.out)⟩
        case measure => first | (rw [wq]; exact measQ HLT.out) | exact measQ HLT.out
      · have HS1 : Hid ((listI F (q + 1)).map I = (listI F q).map I ++ [.int .i64 (q : Int)]) := Lib.hid (by rw [HST.out, HFQ.out, hf, if_pos rfl, List.map_append]; rfl)
        have hown := HKN.out.own
        have hbr := HKN.out.size
        have hl2 := HLN.out
        clear hf
        obtain ⟨M, hM⟩ : ∃ M, M = ((listI F q).map I).length := ⟨_, rfl⟩
        obtain ⟨Av, cv, rfl⟩ := own_slice (n := M) (by rw [hM]; exact hown)
        clear hM
        go_wp2_with (at_builtin; refine push_int rfl _ _ rfl W0.heap.size _ _ rfl hown _ rfl rfl hl2 hbr ?_; intro v2 w4 hg2)
        have hk2 : Grew W0.heap.size 3 (.slice none 0 0) W0 ((listI F (q + 1)).map I) v2 w4 := by rw [HS1.out]; exact HKN.out.trans hg2
        go_roundw
        case rel => exact ⟨q + 1, by first | (rw [wq]; rfl) | rfl, HLT.out, Lib.hid hk2⟩
        case measure => first | (rw [wq]; exact measQ HLT.out) | exact measQ HLT.out
    · have d1 : decide ((q : Int) < (s.nodes.length : Int)) = false := decide_eq_false (by omega)
      have d1' : decide (q < s.nodes.length) = false := decide_eq_false hlt
      have HE : Hid (listI F q = D) := Lib.hid (by rw [HD.out, show q = s.nodes.length by omega])
      have HRD := Lib.hid (Rd.own HK.out.own)
      obtain ⟨M, hM⟩ : ∃ M, M = D.length := ⟨_, rfl⟩
      obtain ⟨Av, cv, rfl⟩ := own_slice (n := M) (by rw [hM, ← HE.out, ← List.length_map (f := I)]; exact HK.out.own)
      have HM := Lib.hid hM
      clear hM
      go_wp2
      go_ret
      exact ⟨Av, cv, by rw [HM.out]; rfl, by rw [← HM.out, ← HE.out]; exact HRD.out, HXW.out⟩

set_option maxRecDepth 100000 in
set_option maxHeartbeats 2000000 in
theorem Wave_any (vn vj : Value) (s : St) (w : World) (hr : RdNd w vn s.nodes) (hN : s.nodes.length ≤ 6) :
    Calls Tryd.prog 10 #[stV vn vj s] w fun e w' => e = .returned (.int .i64 (waveS s : Int)) ∧ Ext w w' := by
  obtain ⟨hx, hb⟩ := boxSt vn vj s w 27
  unfold stV
  unfold stC at hx hb
  obtain ⟨A, c, rfl, hnc, hcm, hcell⟩ := has_cells hr
  have HC := Lib.hid hcell
  have HX := Lib.hid hx
  have HB := Lib.hid hb
  obtain ⟨D, hD⟩ : ∃ D, D = waveS s := ⟨_, rfl⟩
  rw [← hD]
  unfold waveS at hD
  obtain ⟨F, hF⟩ : ∃ F : Nat → Bool, F = nodeIs s.nodes cordN := ⟨_, rfl⟩
  rw [← hF] at hD
  have HFF : Hid (∀ (q : Nat) n, s.nodes[q]? = some n → F q = n.cordon) := Lib.hid fun q n hn => by rw [hF, nodeIs_at hn]; rfl
  have HD := Lib.hid hD
  have HLE : Hid (∀ q, cntTo F q ≤ q) := Lib.hid fun q => by induction q with | zero => exact Nat.le_refl _ | succ q ih => unfold cntTo; split <;> omega
  clear hx hb hr hcell hD hF
  go_enter Tryd.func10, Tryd.ntmps10
  go_wp2_with fail
  obtain ⟨W0, hW0⟩ : ∃ W0, W0 = w.alloc (.cells #[.slice A s.nodes.length c, vj, .int .i64 s.goal, .int .i64 s.prior, .int .i64 s.mode, .int .i64 s.term] 27) := ⟨_, rfl⟩
  rw [← hW0] at HX HB ⊢
  clear hW0
  go_loopw [3, 9] (fun o i wr => ∃ q : Nat, i = .int .i64 q ∧ o = .int .i64 (cntTo F q : Int) ∧ q ≤ s.nodes.length ∧ Ext W0 wr) (fun _ i _ => s.nodes.length - (intOf i).toNat)
  case atStart => exact ⟨0, rfl, rfl, Nat.zero_le _, Ext.refl _⟩
  case round =>
    obtain ⟨q, rfl, rfl, hq, hxr⟩ := hrel
    have HXR := Lib.hid hxr
    have HXW := Lib.hid (HX.out.trans hxr)
    have g0 := (HB.out.ext hxr).cell 0
    have HST : Hid (cntTo F (q + 1) = cntTo F q + (if F q = true then 1 else 0)) := Lib.hid rfl
    have hle := HLE.out q
    generalize hP : cntTo F q = P at *
    have HP := Lib.hid hP
    clear hxr hP
    by_cases hlt : q < s.nodes.length
    · have d1 : decide ((q : Int) < (s.nodes.length : Int)) = true := decide_eq_true (by omega)
      have d1' : decide (q < s.nodes.length) = true := decide_eq_true hlt
      obtain ⟨n, hn⟩ : ∃ n, s.nodes[q]? = some n := ⟨_, List.getElem?_eq_getElem hlt⟩
      obtain ⟨b, o, rfl, hlt', hat⟩ := HC.out q n hn
      obtain ⟨c0, c1, c2, c3, c4⟩ := hat.ext HXW.out hlt'
      have HLT := Lib.hid hlt
      have wq : wrap64 ((q : Int) + 1) = (q : Int) + 1 := IntWalk.wrap64_in _ (by omega)
      have wp : wrap64 ((P : Int) + 1) = ((P + 1 : Nat) : Int) := IntWalk.wrap64_in _ (by omega)
      have HN := Lib.hid (HFF.out q n hn)
      clear hat hn hle hlt' hq
      go_upto_region 5 with (fail)
      obtain ⟨wn, hwn⟩ : ∃ wn, wn = wr.alloc (.cells #[.bool n.up, .bool n.cordon, .bool n.moving, .int .i64 n.version, .int .i64 n.job] 41) := ⟨_, rfl⟩
      have HXN : Hid (Ext wr wn) := Lib.hid (by rw [hwn]; exact (Below.refl _ _).alloc (Nat.le_refl _) _)
      have HBN : Hid (Blk wn wr.heap.size 41 #[.bool n.up, .bool n.cordon, .bool n.moving, .int .i64 n.version, .int .i64 n.job]) := Lib.hid (by rw [hwn]; exact Blk.new _ _ _)
      rw [← hwn]
      obtain ⟨gx, hgx⟩ : ∃ g, g = wr.heap.size := ⟨_, rfl⟩
      rw [← hgx] at HBN ⊢
      clear hwn hgx
      have HXR' : Hid (Ext W0 wn) := Lib.hid (Ext.trans HXR.out HXN.out)
      clear c0 c1 c2 c3 c4 g0
      have c1 := HBN.out.cell 1
      cases hf : n.cordon
      · rw [hf] at c1
        have HS : Hid (cntTo F (q + 1) = P) := Lib.hid (by rw [HST.out, HN.out, hf, if_neg (by simp), Nat.add_zero])
        clear hf
        repeat (first | go_values | go_skip | go_guarded | go_step | go_upon | (simp only []))
        go_roundw
        case rel => exact ⟨q + 1, by first | (rw [wq]; rfl) | rfl, by rw [HS.out], HLT.out, HXR'.out⟩
        case measure => first | (rw [wq]; exact measQ HLT.out) | exact measQ HLT.out
      · rw [hf] at c1
        have HS : Hid (cntTo F (q + 1) = P + 1) := Lib.hid (by rw [HST.out, HN.out, hf, if_pos rfl])
        clear hf
        repeat (first | go_values | go_skip | go_guarded | go_step | go_upon | (simp only []))
        go_roundw
        case rel => exact ⟨q + 1, by first | (rw [wq]; rfl) | rfl, by rw [HS.out]; first | rfl | rw [wp], HLT.out, HXR'.out⟩
        case measure => first | (rw [wq]; exact measQ HLT.out) | exact measQ HLT.out
    · have d1 : decide ((q : Int) < (s.nodes.length : Int)) = false := decide_eq_false (by omega)
      have d1' : decide (q < s.nodes.length) = false := decide_eq_false hlt
      have HE : Hid (D = P) := Lib.hid (by rw [HD.out, ← HP.out, show q = s.nodes.length by omega])
      go_wp2
      go_ret
      exact ⟨by rw [HE.out]; rfl, HXW.out⟩

set_option maxRecDepth 100000 in
set_option maxHeartbeats 4000000 in
theorem Done_any (vn vj : Value) (s : St) (w : World) (hr : RdNd w vn s.nodes) (hrj : RdJb w vj s.jobs) (hN : s.nodes.length ≤ 6) (hM : s.jobs.length ≤ 24) (hJ : OkJ s) (hP : ∀ (k : Nat) x, s.jobs[k]? = some x → 0 ≤ x.pin) :
    Calls Tryd.prog 12 #[stV vn vj s] w fun e w' => e = .returned (.bool (doneW s)) ∧ Ext w w' := by
  have HRN := Lib.hid hr
  have HRJ := Lib.hid hrj
  obtain ⟨hx, hb⟩ := boxSt vn vj s w 27
  have HGO : Hid (∀ (i : Nat) n W, s.nodes[i]? = some n → Ext w W → Calls Tryd.prog 24 #[stV vn vj s, .int .i64 (i : Int)] W fun e w' => e = .returned (.bool (goesN s n)) ∧ Ext W w') := Lib.hid fun i n W hi hW => goes_any vn vj s i n W (HRN.out.ext hW) (HRJ.out.ext hW) hi hN hM hJ hP
  unfold stV at HGO
  unfold stV
  unfold stC at hx hb
  obtain ⟨A, c, rfl, hnc, hcm, hcell⟩ := has_cells hr
  have HC := Lib.hid hcell
  have HX := Lib.hid hx
  have HB := Lib.hid hb
  obtain ⟨D, hD⟩ : ∃ D, D = doneW s := ⟨_, rfl⟩
  rw [← hD]
  have HNO : Hid (∀ (i : Nat) n, s.nodes[i]? = some n → toDo s n = true → D = false) := Lib.hid fun i n hi h => by rw [hD]; exact doneW_no hi h
  have HYES : Hid ((∀ (i : Nat) n, i < s.nodes.length → s.nodes[i]? = some n → toDo s n = false) → D = true) := Lib.hid fun h => by rw [hD]; exact doneW_yes h
  clear hx hb hr hrj hcell hD HRN HRJ hP
  go_enter Tryd.func12, Tryd.ntmps12
  go_wp2_with fail
  obtain ⟨W0, hW0⟩ : ∃ W0, W0 = w.alloc (.cells #[.slice A s.nodes.length c, vj, .int .i64 s.goal, .int .i64 s.prior, .int .i64 s.mode, .int .i64 s.term] 27) := ⟨_, rfl⟩
  rw [← hW0] at HX HB ⊢
  clear hW0
  go_loopw [8] (fun i wr => ∃ q : Nat, i = .int .i64 q ∧ q ≤ s.nodes.length ∧ Hid (∀ (i : Nat) n, i < q → s.nodes[i]? = some n → toDo s n = false) ∧ Ext W0 wr) (fun i _ => s.nodes.length - (intOf i).toNat)
  case atStart => exact ⟨0, rfl, Nat.zero_le _, Lib.hid fun i n h => absurd h (Nat.not_lt_zero i), Ext.refl _⟩
  case round =>
    obtain ⟨q, rfl, hq, HBF, hxr⟩ := hrel
    have HXR := Lib.hid hxr
    have HXW := Lib.hid (HX.out.trans hxr)
    obtain ⟨g0, g1, g2, g3, g4, g5⟩ := Blk.six (HB.out.ext hxr)
    clear hxr
    by_cases hlt : q < s.nodes.length
    · have d1 : decide ((q : Int) < (s.nodes.length : Int)) = true := decide_eq_true (by omega)
      have d1' : decide (q < s.nodes.length) = true := decide_eq_true hlt
      obtain ⟨n, hn⟩ : ∃ n, s.nodes[q]? = some n := ⟨_, List.getElem?_eq_getElem hlt⟩
      obtain ⟨b, o, rfl, hlt', hat⟩ := HC.out q n hn
      obtain ⟨c0, c1, c2, c3, c4⟩ := hat.ext HXW.out hlt'
      have HLT := Lib.hid hlt
      have wq : wrap64 ((q : Int) + 1) = (q : Int) + 1 := IntWalk.wrap64_in _ (by omega)
      have HNQ := Lib.hid (HNO.out q n hn)
      have HGQ := Lib.hid (fun W hW => HGO.out q n W hn hW)
      have HBN' : Hid (toDo s n = false → ∀ (i : Nat) m, i < q + 1 → s.nodes[i]? = some m → toDo s m = false) := Lib.hid fun h i m hi hm => by
        rcases Nat.lt_or_ge i q with h1 | h1
        · exact HBF.out i m h1 hm
        · obtain rfl : i = q := by omega
          rw [hn] at hm
          cases hm
          exact h
      have HTD : Hid (toDo s n = (n.moving || goesN s n)) := Lib.hid rfl
      clear hat hn hlt' hq HNO HYES HBF
      go_upto_region 4 with (fail)
      obtain ⟨wn, hwn⟩ : ∃ wn, wn = wr.alloc (.cells #[.bool n.up, .bool n.cordon, .bool n.moving, .int .i64 n.version, .int .i64 n.job] 41) := ⟨_, rfl⟩
      have HXN : Hid (Ext wr wn) := Lib.hid (by rw [hwn]; exact (Below.refl _ _).alloc (Nat.le_refl _) _)
      have HBN : Hid (Blk wn wr.heap.size 41 #[.bool n.up, .bool n.cordon, .bool n.moving, .int .i64 n.version, .int .i64 n.job]) := Lib.hid (by rw [hwn]; exact Blk.new _ _ _)
      rw [← hwn]
      obtain ⟨gx, hgx⟩ : ∃ g, g = wr.heap.size := ⟨_, rfl⟩
      rw [← hgx] at HBN ⊢
      clear hwn hgx
      have HXR2 : Hid (Ext W0 wn) := Lib.hid (Ext.trans HXR.out HXN.out)
      have HXW2 : Hid (Ext w wn) := Lib.hid (Ext.trans HXW.out HXN.out)
      clear c0 c1 c2 c3 c4 g0 g1 g2 g3 g4 g5
      have c2 := HBN.out.cell 2
      cases hmv : n.moving
      · rw [hmv] at c2
        obtain ⟨g0, g1, g2, g3, g4, g5⟩ := Blk.six (HB.out.ext HXR2.out)
        have HBC := Lib.hid (HGQ.out wn HXW2.out)
        go_wp2_with fail
        refine HBC.out.mono ?_
        rintro e3 w3 ⟨rfl, hx3⟩
        have HX3 : Hid (Ext W0 w3) := Lib.hid (Ext.trans HXR2.out hx3)
        clear hx3 HBC g0 g1 g2 g3 g4 g5 c2
        simp only []
        cases hgo : goesN s n
        · have HS := Lib.hid (HBN'.out (by rw [HTD.out, hmv, hgo]; rfl))
          clear hmv hgo
          repeat (first | go_values | go_skip | go_guarded | go_step | go_upon | (simp only []))
          go_roundw
          case rel => exact ⟨q + 1, by first | (rw [wq]; rfl) | rfl, HLT.out, HS, HX3.out⟩
          case measure => first | (rw [wq]; exact measQ HLT.out) | exact measQ HLT.out
        · have HZ : Hid (D = false) := Lib.hid (HNQ.out (by rw [HTD.out, hmv, hgo]; rfl))
          clear hmv hgo
          go_wp2
          go_ret
          exact ⟨by rw [HZ.out]; rfl, Ext.trans HX.out HX3.out⟩
      · rw [hmv] at c2
        have HZ : Hid (D = false) := Lib.hid (HNQ.out (by rw [HTD.out, hmv]; rfl))
        clear hmv
        go_wp2
        go_ret
        exact ⟨by rw [HZ.out]; rfl, HXW2.out⟩
    · have d1 : decide ((q : Int) < (s.nodes.length : Int)) = false := decide_eq_false (by omega)
      have d1' : decide (q < s.nodes.length) = false := decide_eq_false hlt
      have HZ : Hid (D = true) := Lib.hid (HYES.out fun i n hi hn => HBF.out i n (by omega) hn)
      go_wp2
      go_ret
      exact ⟨by rw [HZ.out]; rfl, HXW.out⟩

end Go.Proofs.YtkpcjdhnbjkaaaaDoor

/- Layer 15, plain mathematics: sets of nodes as the program reckons them, bit by bit. No program is named here. -/
namespace Go.Proofs.YtkpcjdhnbjkaaaaDoor
open Go.RowKit

/-- A set without its n first. -/
def dropN (r : Nat) : Nat → Nat
  | 0 => r
  | n + 1 => dropN r n &&& (dropN r n - 1)
theorem dropN_lt {r n : Nat} (h : r < 64) : dropN r n < 64 := by
  induction n with
  | zero => exact h
  | succ n ih => exact Nat.lt_of_le_of_lt Nat.and_le_left ih
theorem or_bit : ∀ i : Nat, i < 6 → ∀ m : Nat, m < 64 → m < 2 ^ i → bits .or .i64 (m : Int) (wrap64 (2 ^ i)) = ((m + 2 ^ i : Nat) : Int) := by decide +kernel
theorem and_less : ∀ r : Nat, r < 64 → bits .and .i64 (r : Int) (wrap64 ((r : Int) - 1)) = ((r &&& (r - 1) : Nat) : Int) := by decide +kernel
theorem and_all : ∀ r : Nat, r < 64 → bits .and .i64 (r : Int) 63 = (r : Int) := by decide +kernel
theorem and_nat : ∀ r : Nat, r < 64 → ∀ k : Nat, k < 64 → bits .and .i64 (r : Int) (k : Int) = ((r &&& k : Nat) : Int) := by decide +kernel
/-- Where as many are left out as shall be kept, those that are kept are the lowest. -/
theorem low_drop : ∀ r : Nat, r < 64 → ∀ m : Nat, m < 7 → bits .andNot .i64 (r : Int) (dropN r (min (manyS (r : Int)) m) : Int) = (lowN (r : Int) (m : Int) 6 : Int) := by decide +kernel
theorem and_bits {m n : Nat} (g : Nat → Bool) : m &&& bitsF g n = bitsF (fun i => m.testBit i && g i) n := by
  apply Nat.eq_of_testBit_eq
  intro i
  rw [Nat.testBit_and, bitsF_bit, bitsF_bit]
  cases m.testBit i <;> simp
/-- Can it have a job, and is it of that version? -/
def hostV (v : Int) (n : Nd) : Bool := hostN n && decide (n.version = v)
/-- What the program's 'set & those(..)' is. -/
theorem ofN_and {s : St} {m : Nat} (v : Int) : m &&& bitsF (nodeIs s.nodes (hostV v)) s.nodes.length = ofN s (m : Int) v := by
  rw [and_bits]
  unfold ofN ofTo
  apply bitsF_congr
  intro i _
  rw [hasS_nat]
  rfl

end Go.Proofs.YtkpcjdhnbjkaaaaDoor

/- Package fit: how many nodes a set has. -/
namespace Go.Proofs.YtkpcjdhnbjkaaaaDoor
open Go.RowKit

set_option maxRecDepth 100000 in
theorem Count_any (m : Nat) (h : m < 64) (w : World) :
    Calls Tryd.prog 38 #[.int .i64 (m : Int)] w fun e w' => e = .returned (.int .i64 (manyS (m : Int) : Int)) ∧ w = w' := by
  have hall : ∀ m : Nat, m < 64 → ∀ w : World, Calls Tryd.prog 72 #[.int .u64 (m : Int)] w fun e w' => e = .returned (.int .i64 (manyS (m : Int) : Int)) ∧ w = w' := by
    intro m h w
    go_enter Tryd.func72, Tryd.ntmps72
    go_wp2
    go_ret
    refine ⟨?_, rfl⟩
    refine congrArg (fun n => Ending.returned (.int .i64 n)) ?_
    clear w
    revert m
    decide +kernel
  have hall2 : ∀ W, Calls Tryd.prog 64 #[.int .u64 (m : Int)] W fun e w' => e = .returned (.int .i64 (manyS (m : Int) : Int)) ∧ W = w' := by
    intro W
    have HC := Lib.hid (hall m h W)
    generalize manyS (m : Int) = k at *
    go_enter Tryd.func64, Tryd.ntmps64
    go_wp2_with fail
    refine HC.out.mono ?_
    rintro e1 w1 ⟨rfl, rfl⟩
    go_wp2
    go_ret
    exact ⟨rfl, rfl⟩
  have HC := Lib.hid hall2
  have ha := and_all m h
  clear hall hall2
  generalize manyS (m : Int) = k at *
  go_enter Tryd.func38, Tryd.ntmps38
  go_wp2_with fail
  refine (HC.out _).mono ?_
  rintro e1 w1 ⟨rfl, rfl⟩
  go_wp2
  go_ret
  exact ⟨rfl, rfl⟩

end Go.Proofs.YtkpcjdhnbjkaaaaDoor
