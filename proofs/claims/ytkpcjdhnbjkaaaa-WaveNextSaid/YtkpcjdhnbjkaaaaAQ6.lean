/- Texts that the proof of A rests on, one behind the other. -/
import Derived.Test.YtkpcjdhnbjkaaaaAQ1
import Derived.Test.YtkpcjdhnbjkaaaaAQ4
import Derived.Test.YtkpcjdhnbjkaaaaAQ5
import Derived.Deep.CutBlock
import Derived.Deep.DeepCutAuto
import Derived.Test.YtkpcjdhnbjkaaaaChecked

/- The reference of layer 17: whether a node is behind; whether it is left alone. -/
namespace Go.Proofs.Ytkpcjdhnbjkaaaa
open Go.RowKit

set_option maxRecDepth 100000 in
set_option maxHeartbeats 4000000 in
theorem RefBehind_any (vn vj : Value) (s : St) (i : Nat) (n : Nd) (w : World) (hr : RdNd w vn s.nodes) (hi : s.nodes[i]? = some n) (hN : s.nodes.length ≤ 6) :
    Calls Try.prog 8 #[stV vn vj s, .int .i64 (i : Int)] w fun e w' => e = .returned (.bool (behindN s n)) ∧ Ext w w' := by
  obtain ⟨hx, hb⟩ := boxSt vn vj s w 27
  have HME : Hid (∀ W, Calls Try.prog 28 #[stV vn vj s] W fun e w' => e = .returned (.int .i64 (meantS s)) ∧ Ext W w') := Lib.hid fun W => RefMeant_any vn vj s W
  unfold stV at HME
  unfold stV
  unfold stC at hx hb
  obtain ⟨A, c, rfl, hnc, hcm, hcell⟩ := has_cells hr
  obtain ⟨b, o, rfl, hlt, hat⟩ := hcell i n hi
  have hil := (List.getElem?_eq_some_iff.1 hi).1
  obtain ⟨q0, q1, q2, q3, q4⟩ := hat.ext hx hlt
  have HX := Lib.hid hx
  have HB := Lib.hid hb
  have d5 : decide (i < s.nodes.length) = true := decide_eq_true hil
  have d6 : (i : Int) < (s.nodes.length : Int) := by omega
  have d7 : (0 : Int) ≤ (i : Int) := by omega
  obtain ⟨R, hR⟩ : ∃ R, R = behindN s n := ⟨_, rfl⟩
  rw [← hR]
  unfold behindN at hR
  have HR := Lib.hid hR
  obtain ⟨mt, hmt⟩ : ∃ z, z = meantS s := ⟨_, rfl⟩
  rw [← hmt] at HME HR
  clear hr hcell hat hlt hi hil hR hmt
  have h0 := hb.cell 0
  clear hx hb
  go_enter Try.func8, Try.ntmps8
  go_upto_region 1 with (fail)
  obtain ⟨W0, hW0⟩ : ∃ W0, W0 = w.alloc (.cells #[.slice (some ⟨b, o, none⟩) s.nodes.length c, vj, .int .i64 s.goal, .int .i64 s.prior, .int .i64 s.mode, .int .i64 s.term] 27) := ⟨_, rfl⟩
  rw [← hW0] at HX HB h0 q0 q1 q2 q3 q4 ⊢
  clear hW0
  go_upto_region 2 with (fail)
  obtain ⟨wn, hwn⟩ : ∃ wn, wn = W0.alloc (.cells #[.bool n.up, .bool n.cordon, .bool n.moving, .int .i64 n.version, .int .i64 n.job] 46) := ⟨_, rfl⟩
  have HXN : Hid (Ext W0 wn) := Lib.hid (by rw [hwn]; exact (Below.refl _ _).alloc (Nat.le_refl _) _)
  have HBN : Hid (Blk wn W0.heap.size 46 #[.bool n.up, .bool n.cordon, .bool n.moving, .int .i64 n.version, .int .i64 n.job]) := Lib.hid (by rw [hwn]; exact Blk.new _ _ _)
  rw [← hwn]
  obtain ⟨gx, hgx⟩ : ∃ g, g = W0.heap.size := ⟨_, rfl⟩
  rw [← hgx] at HBN ⊢
  have HX0 : Hid (Ext w wn) := Lib.hid (Ext.trans HX.out HXN.out)
  have HB0 := Lib.hid (HB.out.ext HXN.out)
  clear hwn hgx q0 q1 q2 q3 q4 h0 d5 d6 d7
  cases hup : n.up
  · rw [hup] at HBN HR
    have HZ : Hid (R = false) := Lib.hid (by rw [HR.out]; rfl)
    refine held_begin (by kernel_rfl) ?_
    refine held_more (S' := fun W' : World => Ext wn W') (fun _ _ => True.intro) ?_
    have hSx : (fun W' : World => Ext wn W') wn.drew := Below.drewN' (Ext.refl wn) 1
    refine held_take (i := 0) (v := ?_) rfl (by kernel_rfl) (by kernel_rfl) (by kernel_rfl) (by rfl) (by first | assumption | exact True.intro) ?_ ?_
    rotate_left
    · (intro W hSw; obtain ⟨g0, g1, g2, g3, g4, g5⟩ := Blk.six (HB0.out.ext hSw); have q0 := (HBN.out.ext hSw).cell 0; have q1 := (HBN.out.ext hSw).cell 1; have q2 := (HBN.out.ext hSw).cell 2; have q3 := (HBN.out.ext hSw).cell 3; have q4 := (HBN.out.ext hSw).cell 4; go_simp; (try with_reducible rfl))
    try simp only [Act.put, List.setIfInBounds_toArray, List.set_cons_zero, List.set_cons_succ]
    refine held_take (i := 1) (v := ?_) rfl (by kernel_rfl) (by kernel_rfl) (by kernel_rfl) (by rfl) (by first | assumption | exact True.intro) ?_ ?_
    rotate_left
    · (intro W hSw; obtain ⟨g0, g1, g2, g3, g4, g5⟩ := Blk.six (HB0.out.ext hSw); have q0 := (HBN.out.ext hSw).cell 0; have q1 := (HBN.out.ext hSw).cell 1; have q2 := (HBN.out.ext hSw).cell 2; have q3 := (HBN.out.ext hSw).cell 3; have q4 := (HBN.out.ext hSw).cell 4; go_simp; (try with_reducible rfl))
    try simp only [Act.put, List.setIfInBounds_toArray, List.set_cons_zero, List.set_cons_succ]
    refine held_take (i := 2) (v := ?_) rfl (by kernel_rfl) (by kernel_rfl) (by kernel_rfl) (by rfl) (by first | assumption | exact True.intro) ?_ ?_
    rotate_left
    · (intro W hSw; obtain ⟨g0, g1, g2, g3, g4, g5⟩ := Blk.six (HB0.out.ext hSw); have q0 := (HBN.out.ext hSw).cell 0; have q1 := (HBN.out.ext hSw).cell 1; have q2 := (HBN.out.ext hSw).cell 2; have q3 := (HBN.out.ext hSw).cell 3; have q4 := (HBN.out.ext hSw).cell 4; go_simp; (try with_reducible rfl))
    try simp only [Act.put, List.setIfInBounds_toArray, List.set_cons_zero, List.set_cons_succ]
    refine held_skip (i := 3) rfl (by kernel_rfl) (by kernel_rfl) (by kernel_rfl) (by rfl) (by first | assumption | exact True.intro) ?_
    try simp only [Act.put, List.setIfInBounds_toArray, List.set_cons_zero, List.set_cons_succ]
    refine held_skip (i := 4) rfl (by kernel_rfl) (by kernel_rfl) (by kernel_rfl) (by rfl) (by first | assumption | exact True.intro) ?_
    try simp only [Act.put, List.setIfInBounds_toArray, List.set_cons_zero, List.set_cons_succ]
    refine held_skip (i := 5) rfl (by kernel_rfl) (by kernel_rfl) (by kernel_rfl) (by rfl) (by first | assumption | exact True.intro) ?_
    try simp only [Act.put, List.setIfInBounds_toArray, List.set_cons_zero, List.set_cons_succ]
    refine held_take (i := 6) (v := ?_) rfl (by kernel_rfl) (by kernel_rfl) (by kernel_rfl) (by rfl) (by first | assumption | exact True.intro) ?_ ?_
    rotate_left
    · (intro W hSw; obtain ⟨g0, g1, g2, g3, g4, g5⟩ := Blk.six (HB0.out.ext hSw); have q0 := (HBN.out.ext hSw).cell 0; have q1 := (HBN.out.ext hSw).cell 1; have q2 := (HBN.out.ext hSw).cell 2; have q3 := (HBN.out.ext hSw).cell 3; have q4 := (HBN.out.ext hSw).cell 4; go_simp; (try with_reducible rfl))
    try simp only [Act.put, List.setIfInBounds_toArray, List.set_cons_zero, List.set_cons_succ]
    refine held_take (i := 7) (v := ?_) rfl (by kernel_rfl) (by kernel_rfl) (by kernel_rfl) (by rfl) (by first | assumption | exact True.intro) ?_ ?_
    rotate_left
    · (intro W hSw; obtain ⟨g0, g1, g2, g3, g4, g5⟩ := Blk.six (HB0.out.ext hSw); have q0 := (HBN.out.ext hSw).cell 0; have q1 := (HBN.out.ext hSw).cell 1; have q2 := (HBN.out.ext hSw).cell 2; have q3 := (HBN.out.ext hSw).cell 3; have q4 := (HBN.out.ext hSw).cell 4; go_simp; (try with_reducible rfl))
    try simp only [Act.put, List.setIfInBounds_toArray, List.set_cons_zero, List.set_cons_succ]
    refine held_skip (i := 8) rfl (by kernel_rfl) (by kernel_rfl) (by kernel_rfl) (by rfl) (by first | assumption | exact True.intro) ?_
    try simp only [Act.put, List.setIfInBounds_toArray, List.set_cons_zero, List.set_cons_succ]
    refine held_skip (i := 9) rfl (by kernel_rfl) (by kernel_rfl) (by kernel_rfl) (by rfl) (by first | assumption | exact True.intro) ?_
    try simp only [Act.put, List.setIfInBounds_toArray, List.set_cons_zero, List.set_cons_succ]
    refine held_skip (i := 10) rfl (by kernel_rfl) (by kernel_rfl) (by kernel_rfl) (by rfl) (by first | assumption | exact True.intro) ?_
    try simp only [Act.put, List.setIfInBounds_toArray, List.set_cons_zero, List.set_cons_succ]
    refine held_skip (i := 11) rfl (by kernel_rfl) (by kernel_rfl) (by kernel_rfl) (by rfl) (by first | assumption | exact True.intro) ?_
    try simp only [Act.put, List.setIfInBounds_toArray, List.set_cons_zero, List.set_cons_succ]
    refine held_skip (i := 12) rfl (by kernel_rfl) (by kernel_rfl) (by kernel_rfl) (by rfl) (by first | assumption | exact True.intro) ?_
    try simp only [Act.put, List.setIfInBounds_toArray, List.set_cons_zero, List.set_cons_succ]
    refine held_take (i := 13) (v := ?_) rfl (by kernel_rfl) (by kernel_rfl) (by kernel_rfl) (by rfl) (by first | assumption | exact True.intro) ?_ ?_
    rotate_left
    · (intro W hSw; obtain ⟨g0, g1, g2, g3, g4, g5⟩ := Blk.six (HB0.out.ext hSw); have q0 := (HBN.out.ext hSw).cell 0; have q1 := (HBN.out.ext hSw).cell 1; have q2 := (HBN.out.ext hSw).cell 2; have q3 := (HBN.out.ext hSw).cell 3; have q4 := (HBN.out.ext hSw).cell 4; go_simp; (try with_reducible rfl))
    try simp only [Act.put, List.setIfInBounds_toArray, List.set_cons_zero, List.set_cons_succ]
    refine held_take (i := 14) (v := ?_) rfl (by kernel_rfl) (by kernel_rfl) (by kernel_rfl) (by rfl) (by first | assumption | exact True.intro) ?_ ?_
    rotate_left
    · (intro W hSw; obtain ⟨g0, g1, g2, g3, g4, g5⟩ := Blk.six (HB0.out.ext hSw); have q0 := (HBN.out.ext hSw).cell 0; have q1 := (HBN.out.ext hSw).cell 1; have q2 := (HBN.out.ext hSw).cell 2; have q3 := (HBN.out.ext hSw).cell 3; have q4 := (HBN.out.ext hSw).cell 4; go_simp; (try with_reducible rfl))
    try simp only [Act.put, List.setIfInBounds_toArray, List.set_cons_zero, List.set_cons_succ]
    clear hSx
    refine wpAnyH_done (by kernel_rfl) ?_ _
    refine NoPanic.normal ?_
    go_wp2
    go_ret
    exact ⟨by rw [HZ.out]; rfl, Ext.trans HX0.out (Below.drewN' (Ext.refl wn) 1)⟩
  · cases hmv : n.moving
    · rw [hup, hmv] at HBN HR
      refine held_begin (by kernel_rfl) ?_
      refine held_more (S' := fun W' : World => Ext wn W') (fun _ _ => True.intro) ?_
      have hSx : (fun W' : World => Ext wn W') wn.drew := Below.drewN' (Ext.refl wn) 1
      refine held_take (i := 0) (v := ?_) rfl (by kernel_rfl) (by kernel_rfl) (by kernel_rfl) (by rfl) (by first | assumption | exact True.intro) ?_ ?_
      rotate_left
      · (intro W hSw; obtain ⟨g0, g1, g2, g3, g4, g5⟩ := Blk.six (HB0.out.ext hSw); have q0 := (HBN.out.ext hSw).cell 0; have q1 := (HBN.out.ext hSw).cell 1; have q2 := (HBN.out.ext hSw).cell 2; have q3 := (HBN.out.ext hSw).cell 3; have q4 := (HBN.out.ext hSw).cell 4; go_simp; (try with_reducible rfl))
      try simp only [Act.put, List.setIfInBounds_toArray, List.set_cons_zero, List.set_cons_succ]
      refine held_take (i := 1) (v := ?_) rfl (by kernel_rfl) (by kernel_rfl) (by kernel_rfl) (by rfl) (by first | assumption | exact True.intro) ?_ ?_
      rotate_left
      · (intro W hSw; obtain ⟨g0, g1, g2, g3, g4, g5⟩ := Blk.six (HB0.out.ext hSw); have q0 := (HBN.out.ext hSw).cell 0; have q1 := (HBN.out.ext hSw).cell 1; have q2 := (HBN.out.ext hSw).cell 2; have q3 := (HBN.out.ext hSw).cell 3; have q4 := (HBN.out.ext hSw).cell 4; go_simp; (try with_reducible rfl))
      try simp only [Act.put, List.setIfInBounds_toArray, List.set_cons_zero, List.set_cons_succ]
      refine held_take (i := 2) (v := ?_) rfl (by kernel_rfl) (by kernel_rfl) (by kernel_rfl) (by rfl) (by first | assumption | exact True.intro) ?_ ?_
      rotate_left
      · (intro W hSw; obtain ⟨g0, g1, g2, g3, g4, g5⟩ := Blk.six (HB0.out.ext hSw); have q0 := (HBN.out.ext hSw).cell 0; have q1 := (HBN.out.ext hSw).cell 1; have q2 := (HBN.out.ext hSw).cell 2; have q3 := (HBN.out.ext hSw).cell 3; have q4 := (HBN.out.ext hSw).cell 4; go_simp; (try with_reducible rfl))
      try simp only [Act.put, List.setIfInBounds_toArray, List.set_cons_zero, List.set_cons_succ]
      refine held_take (i := 3) (v := ?_) rfl (by kernel_rfl) (by kernel_rfl) (by kernel_rfl) (by rfl) (by first | assumption | exact True.intro) ?_ ?_
      rotate_left
      · (intro W hSw; obtain ⟨g0, g1, g2, g3, g4, g5⟩ := Blk.six (HB0.out.ext hSw); have q0 := (HBN.out.ext hSw).cell 0; have q1 := (HBN.out.ext hSw).cell 1; have q2 := (HBN.out.ext hSw).cell 2; have q3 := (HBN.out.ext hSw).cell 3; have q4 := (HBN.out.ext hSw).cell 4; go_simp; (try with_reducible rfl))
      try simp only [Act.put, List.setIfInBounds_toArray, List.set_cons_zero, List.set_cons_succ]
      refine held_take (i := 4) (v := ?_) rfl (by kernel_rfl) (by kernel_rfl) (by kernel_rfl) (by rfl) (by first | assumption | exact True.intro) ?_ ?_
      rotate_left
      · (intro W hSw; obtain ⟨g0, g1, g2, g3, g4, g5⟩ := Blk.six (HB0.out.ext hSw); have q0 := (HBN.out.ext hSw).cell 0; have q1 := (HBN.out.ext hSw).cell 1; have q2 := (HBN.out.ext hSw).cell 2; have q3 := (HBN.out.ext hSw).cell 3; have q4 := (HBN.out.ext hSw).cell 4; go_simp; (try with_reducible rfl))
      try simp only [Act.put, List.setIfInBounds_toArray, List.set_cons_zero, List.set_cons_succ]
      refine held_take (i := 5) (v := ?_) rfl (by kernel_rfl) (by kernel_rfl) (by kernel_rfl) (by rfl) (by first | assumption | exact True.intro) ?_ ?_
      rotate_left
      · (intro W hSw; obtain ⟨g0, g1, g2, g3, g4, g5⟩ := Blk.six (HB0.out.ext hSw); have q0 := (HBN.out.ext hSw).cell 0; have q1 := (HBN.out.ext hSw).cell 1; have q2 := (HBN.out.ext hSw).cell 2; have q3 := (HBN.out.ext hSw).cell 3; have q4 := (HBN.out.ext hSw).cell 4; go_simp; (try with_reducible rfl))
      try simp only [Act.put, List.setIfInBounds_toArray, List.set_cons_zero, List.set_cons_succ]
      refine held_take (i := 6) (v := ?_) rfl (by kernel_rfl) (by kernel_rfl) (by kernel_rfl) (by rfl) (by first | assumption | exact True.intro) ?_ ?_
      rotate_left
      · (intro W hSw; obtain ⟨g0, g1, g2, g3, g4, g5⟩ := Blk.six (HB0.out.ext hSw); have q0 := (HBN.out.ext hSw).cell 0; have q1 := (HBN.out.ext hSw).cell 1; have q2 := (HBN.out.ext hSw).cell 2; have q3 := (HBN.out.ext hSw).cell 3; have q4 := (HBN.out.ext hSw).cell 4; go_simp; (try with_reducible rfl))
      try simp only [Act.put, List.setIfInBounds_toArray, List.set_cons_zero, List.set_cons_succ]
      refine held_take (i := 7) (v := ?_) rfl (by kernel_rfl) (by kernel_rfl) (by kernel_rfl) (by rfl) (by first | assumption | exact True.intro) ?_ ?_
      rotate_left
      · (intro W hSw; obtain ⟨g0, g1, g2, g3, g4, g5⟩ := Blk.six (HB0.out.ext hSw); have q0 := (HBN.out.ext hSw).cell 0; have q1 := (HBN.out.ext hSw).cell 1; have q2 := (HBN.out.ext hSw).cell 2; have q3 := (HBN.out.ext hSw).cell 3; have q4 := (HBN.out.ext hSw).cell 4; go_simp; (try with_reducible rfl))
      try simp only [Act.put, List.setIfInBounds_toArray, List.set_cons_zero, List.set_cons_succ]
      refine held_take (i := 8) (v := ?_) rfl (by kernel_rfl) (by kernel_rfl) (by kernel_rfl) (by rfl) (by first | assumption | exact True.intro) ?_ ?_
      rotate_left
      · (intro W hSw; obtain ⟨g0, g1, g2, g3, g4, g5⟩ := Blk.six (HB0.out.ext hSw); have q0 := (HBN.out.ext hSw).cell 0; have q1 := (HBN.out.ext hSw).cell 1; have q2 := (HBN.out.ext hSw).cell 2; have q3 := (HBN.out.ext hSw).cell 3; have q4 := (HBN.out.ext hSw).cell 4; go_simp; (try with_reducible rfl))
      try simp only [Act.put, List.setIfInBounds_toArray, List.set_cons_zero, List.set_cons_succ]
      refine held_take (i := 9) (v := ?_) rfl (by kernel_rfl) (by kernel_rfl) (by kernel_rfl) (by rfl) (by first | assumption | exact True.intro) ?_ ?_
      rotate_left
      · (intro W hSw; obtain ⟨g0, g1, g2, g3, g4, g5⟩ := Blk.six (HB0.out.ext hSw); have q0 := (HBN.out.ext hSw).cell 0; have q1 := (HBN.out.ext hSw).cell 1; have q2 := (HBN.out.ext hSw).cell 2; have q3 := (HBN.out.ext hSw).cell 3; have q4 := (HBN.out.ext hSw).cell 4; go_simp; (try with_reducible rfl))
      try simp only [Act.put, List.setIfInBounds_toArray, List.set_cons_zero, List.set_cons_succ]
      refine held_take (i := 10) (v := ?_) rfl (by kernel_rfl) (by kernel_rfl) (by kernel_rfl) (by rfl) (by first | assumption | exact True.intro) ?_ ?_
      rotate_left
      · (intro W hSw; obtain ⟨g0, g1, g2, g3, g4, g5⟩ := Blk.six (HB0.out.ext hSw); have q0 := (HBN.out.ext hSw).cell 0; have q1 := (HBN.out.ext hSw).cell 1; have q2 := (HBN.out.ext hSw).cell 2; have q3 := (HBN.out.ext hSw).cell 3; have q4 := (HBN.out.ext hSw).cell 4; go_simp; (try with_reducible rfl))
      try simp only [Act.put, List.setIfInBounds_toArray, List.set_cons_zero, List.set_cons_succ]
      clear hSx
      refine held_op (i := 11) (by kernel_rfl) rfl (fun K hK => ?_)
      go_simp
      go_at_call 28
      refine (HME.out _).mono ?_
      rintro e3 w3 ⟨rfl, hx3⟩
      have HX3 : Hid (Ext wn w3) := Lib.hid (Ext.trans (Below.drewN' (Ext.refl wn) 1) hx3)
      clear hx3
      refine hK _ _ (HX3.out) (fun hSx => ?_)
      clear hK K
      try simp only [Act.put, List.setIfInBounds_toArray, List.set_cons_zero, List.set_cons_succ]
      by_cases hv : n.version = mt
      · have d1 : (n.version != mt) = false := by rw [hv]; simp
        have HZ : Hid (R = false) := Lib.hid (by rw [HR.out, decide_eq_false (fun h => h hv)]; rfl)
        clear hv
        refine held_take (i := 12) (v := ?_) rfl (by kernel_rfl) (by kernel_rfl) (by kernel_rfl) (by rfl) (by first | assumption | exact True.intro) ?_ ?_
        rotate_left
        · (intro W hSw; go_simp; (try with_reducible rfl))
        try simp only [Act.put, List.setIfInBounds_toArray, List.set_cons_zero, List.set_cons_succ]
        refine held_take (i := 13) (v := ?_) rfl (by kernel_rfl) (by kernel_rfl) (by kernel_rfl) (by rfl) (by first | assumption | exact True.intro) ?_ ?_
        rotate_left
        · (intro W hSw; go_simp; (try with_reducible rfl))
        try simp only [Act.put, List.setIfInBounds_toArray, List.set_cons_zero, List.set_cons_succ]
        refine held_take (i := 14) (v := ?_) rfl (by kernel_rfl) (by kernel_rfl) (by kernel_rfl) (by rfl) (by first | assumption | exact True.intro) ?_ ?_
        rotate_left
        · (intro W hSw; go_simp; (try with_reducible rfl))
        try simp only [Act.put, List.setIfInBounds_toArray, List.set_cons_zero, List.set_cons_succ]
        clear hSx
        refine wpAnyH_done (by kernel_rfl) ?_ _
        refine NoPanic.normal ?_
        go_wp2
        go_ret
        exact ⟨by rw [HZ.out]; rfl, Ext.trans HX0.out HX3.out⟩
      · have d1 : (n.version != mt) = true := by simp only [bne_iff_ne, ne_eq]; exact hv
        have HZ : Hid (R = true) := Lib.hid (by rw [HR.out, decide_eq_true hv]; rfl)
        clear hv
        refine held_take (i := 12) (v := ?_) rfl (by kernel_rfl) (by kernel_rfl) (by kernel_rfl) (by rfl) (by first | assumption | exact True.intro) ?_ ?_
        rotate_left
        · (intro W hSw; go_simp; (try with_reducible rfl))
        try simp only [Act.put, List.setIfInBounds_toArray, List.set_cons_zero, List.set_cons_succ]
        refine held_take (i := 13) (v := ?_) rfl (by kernel_rfl) (by kernel_rfl) (by kernel_rfl) (by rfl) (by first | assumption | exact True.intro) ?_ ?_
        rotate_left
        · (intro W hSw; go_simp; (try with_reducible rfl))
        try simp only [Act.put, List.setIfInBounds_toArray, List.set_cons_zero, List.set_cons_succ]
        refine held_take (i := 14) (v := ?_) rfl (by kernel_rfl) (by kernel_rfl) (by kernel_rfl) (by rfl) (by first | assumption | exact True.intro) ?_ ?_
        rotate_left
        · (intro W hSw; go_simp; (try with_reducible rfl))
        try simp only [Act.put, List.setIfInBounds_toArray, List.set_cons_zero, List.set_cons_succ]
        clear hSx
        refine wpAnyH_done (by kernel_rfl) ?_ _
        refine NoPanic.normal ?_
        go_wp2
        go_ret
        exact ⟨by rw [HZ.out]; rfl, Ext.trans HX0.out HX3.out⟩
    · rw [hup, hmv] at HBN HR
      have HZ : Hid (R = false) := Lib.hid (by rw [HR.out]; rfl)
      refine held_begin (by kernel_rfl) ?_
      refine held_more (S' := fun W' : World => Ext wn W') (fun _ _ => True.intro) ?_
      have hSx : (fun W' : World => Ext wn W') wn.drew := Below.drewN' (Ext.refl wn) 1
      refine held_take (i := 0) (v := ?_) rfl (by kernel_rfl) (by kernel_rfl) (by kernel_rfl) (by rfl) (by first | assumption | exact True.intro) ?_ ?_
      rotate_left
      · (intro W hSw; obtain ⟨g0, g1, g2, g3, g4, g5⟩ := Blk.six (HB0.out.ext hSw); have q0 := (HBN.out.ext hSw).cell 0; have q1 := (HBN.out.ext hSw).cell 1; have q2 := (HBN.out.ext hSw).cell 2; have q3 := (HBN.out.ext hSw).cell 3; have q4 := (HBN.out.ext hSw).cell 4; go_simp; (try with_reducible rfl))
      try simp only [Act.put, List.setIfInBounds_toArray, List.set_cons_zero, List.set_cons_succ]
      refine held_take (i := 1) (v := ?_) rfl (by kernel_rfl) (by kernel_rfl) (by kernel_rfl) (by rfl) (by first | assumption | exact True.intro) ?_ ?_
      rotate_left
      · (intro W hSw; obtain ⟨g0, g1, g2, g3, g4, g5⟩ := Blk.six (HB0.out.ext hSw); have q0 := (HBN.out.ext hSw).cell 0; have q1 := (HBN.out.ext hSw).cell 1; have q2 := (HBN.out.ext hSw).cell 2; have q3 := (HBN.out.ext hSw).cell 3; have q4 := (HBN.out.ext hSw).cell 4; go_simp; (try with_reducible rfl))
      try simp only [Act.put, List.setIfInBounds_toArray, List.set_cons_zero, List.set_cons_succ]
      refine held_take (i := 2) (v := ?_) rfl (by kernel_rfl) (by kernel_rfl) (by kernel_rfl) (by rfl) (by first | assumption | exact True.intro) ?_ ?_
      rotate_left
      · (intro W hSw; obtain ⟨g0, g1, g2, g3, g4, g5⟩ := Blk.six (HB0.out.ext hSw); have q0 := (HBN.out.ext hSw).cell 0; have q1 := (HBN.out.ext hSw).cell 1; have q2 := (HBN.out.ext hSw).cell 2; have q3 := (HBN.out.ext hSw).cell 3; have q4 := (HBN.out.ext hSw).cell 4; go_simp; (try with_reducible rfl))
      try simp only [Act.put, List.setIfInBounds_toArray, List.set_cons_zero, List.set_cons_succ]
      refine held_take (i := 3) (v := ?_) rfl (by kernel_rfl) (by kernel_rfl) (by kernel_rfl) (by rfl) (by first | assumption | exact True.intro) ?_ ?_
      rotate_left
      · (intro W hSw; obtain ⟨g0, g1, g2, g3, g4, g5⟩ := Blk.six (HB0.out.ext hSw); have q0 := (HBN.out.ext hSw).cell 0; have q1 := (HBN.out.ext hSw).cell 1; have q2 := (HBN.out.ext hSw).cell 2; have q3 := (HBN.out.ext hSw).cell 3; have q4 := (HBN.out.ext hSw).cell 4; go_simp; (try with_reducible rfl))
      try simp only [Act.put, List.setIfInBounds_toArray, List.set_cons_zero, List.set_cons_succ]
      refine held_take (i := 4) (v := ?_) rfl (by kernel_rfl) (by kernel_rfl) (by kernel_rfl) (by rfl) (by first | assumption | exact True.intro) ?_ ?_
      rotate_left
      · (intro W hSw; obtain ⟨g0, g1, g2, g3, g4, g5⟩ := Blk.six (HB0.out.ext hSw); have q0 := (HBN.out.ext hSw).cell 0; have q1 := (HBN.out.ext hSw).cell 1; have q2 := (HBN.out.ext hSw).cell 2; have q3 := (HBN.out.ext hSw).cell 3; have q4 := (HBN.out.ext hSw).cell 4; go_simp; (try with_reducible rfl))
      try simp only [Act.put, List.setIfInBounds_toArray, List.set_cons_zero, List.set_cons_succ]
      refine held_take (i := 5) (v := ?_) rfl (by kernel_rfl) (by kernel_rfl) (by kernel_rfl) (by rfl) (by first | assumption | exact True.intro) ?_ ?_
      rotate_left
      · (intro W hSw; obtain ⟨g0, g1, g2, g3, g4, g5⟩ := Blk.six (HB0.out.ext hSw); have q0 := (HBN.out.ext hSw).cell 0; have q1 := (HBN.out.ext hSw).cell 1; have q2 := (HBN.out.ext hSw).cell 2; have q3 := (HBN.out.ext hSw).cell 3; have q4 := (HBN.out.ext hSw).cell 4; go_simp; (try with_reducible rfl))
      try simp only [Act.put, List.setIfInBounds_toArray, List.set_cons_zero, List.set_cons_succ]
      refine held_take (i := 6) (v := ?_) rfl (by kernel_rfl) (by kernel_rfl) (by kernel_rfl) (by rfl) (by first | assumption | exact True.intro) ?_ ?_
      rotate_left
      · (intro W hSw; obtain ⟨g0, g1, g2, g3, g4, g5⟩ := Blk.six (HB0.out.ext hSw); have q0 := (HBN.out.ext hSw).cell 0; have q1 := (HBN.out.ext hSw).cell 1; have q2 := (HBN.out.ext hSw).cell 2; have q3 := (HBN.out.ext hSw).cell 3; have q4 := (HBN.out.ext hSw).cell 4; go_simp; (try with_reducible rfl))
      try simp only [Act.put, List.setIfInBounds_toArray, List.set_cons_zero, List.set_cons_succ]
      refine held_take (i := 7) (v := ?_) rfl (by kernel_rfl) (by kernel_rfl) (by kernel_rfl) (by rfl) (by first | assumption | exact True.intro) ?_ ?_
      rotate_left
      · (intro W hSw; obtain ⟨g0, g1, g2, g3, g4, g5⟩ := Blk.six (HB0.out.ext hSw); have q0 := (HBN.out.ext hSw).cell 0; have q1 := (HBN.out.ext hSw).cell 1; have q2 := (HBN.out.ext hSw).cell 2; have q3 := (HBN.out.ext hSw).cell 3; have q4 := (HBN.out.ext hSw).cell 4; go_simp; (try with_reducible rfl))
      try simp only [Act.put, List.setIfInBounds_toArray, List.set_cons_zero, List.set_cons_succ]
      refine held_skip (i := 8) rfl (by kernel_rfl) (by kernel_rfl) (by kernel_rfl) (by rfl) (by first | assumption | exact True.intro) ?_
      try simp only [Act.put, List.setIfInBounds_toArray, List.set_cons_zero, List.set_cons_succ]
      refine held_skip (i := 9) rfl (by kernel_rfl) (by kernel_rfl) (by kernel_rfl) (by rfl) (by first | assumption | exact True.intro) ?_
      try simp only [Act.put, List.setIfInBounds_toArray, List.set_cons_zero, List.set_cons_succ]
      refine held_skip (i := 10) rfl (by kernel_rfl) (by kernel_rfl) (by kernel_rfl) (by rfl) (by first | assumption | exact True.intro) ?_
      try simp only [Act.put, List.setIfInBounds_toArray, List.set_cons_zero, List.set_cons_succ]
      refine held_skip (i := 11) rfl (by kernel_rfl) (by kernel_rfl) (by kernel_rfl) (by rfl) (by first | assumption | exact True.intro) ?_
      try simp only [Act.put, List.setIfInBounds_toArray, List.set_cons_zero, List.set_cons_succ]
      refine held_skip (i := 12) rfl (by kernel_rfl) (by kernel_rfl) (by kernel_rfl) (by rfl) (by first | assumption | exact True.intro) ?_
      try simp only [Act.put, List.setIfInBounds_toArray, List.set_cons_zero, List.set_cons_succ]
      refine held_take (i := 13) (v := ?_) rfl (by kernel_rfl) (by kernel_rfl) (by kernel_rfl) (by rfl) (by first | assumption | exact True.intro) ?_ ?_
      rotate_left
      · (intro W hSw; obtain ⟨g0, g1, g2, g3, g4, g5⟩ := Blk.six (HB0.out.ext hSw); have q0 := (HBN.out.ext hSw).cell 0; have q1 := (HBN.out.ext hSw).cell 1; have q2 := (HBN.out.ext hSw).cell 2; have q3 := (HBN.out.ext hSw).cell 3; have q4 := (HBN.out.ext hSw).cell 4; go_simp; (try with_reducible rfl))
      try simp only [Act.put, List.setIfInBounds_toArray, List.set_cons_zero, List.set_cons_succ]
      refine held_take (i := 14) (v := ?_) rfl (by kernel_rfl) (by kernel_rfl) (by kernel_rfl) (by rfl) (by first | assumption | exact True.intro) ?_ ?_
      rotate_left
      · (intro W hSw; obtain ⟨g0, g1, g2, g3, g4, g5⟩ := Blk.six (HB0.out.ext hSw); have q0 := (HBN.out.ext hSw).cell 0; have q1 := (HBN.out.ext hSw).cell 1; have q2 := (HBN.out.ext hSw).cell 2; have q3 := (HBN.out.ext hSw).cell 3; have q4 := (HBN.out.ext hSw).cell 4; go_simp; (try with_reducible rfl))
      try simp only [Act.put, List.setIfInBounds_toArray, List.set_cons_zero, List.set_cons_succ]
      clear hSx
      refine wpAnyH_done (by kernel_rfl) ?_ _
      refine NoPanic.normal ?_
      go_wp2
      go_ret
      exact ⟨by rw [HZ.out]; rfl, Ext.trans HX0.out (Below.drewN' (Ext.refl wn) 1)⟩

set_option maxRecDepth 100000 in
set_option maxHeartbeats 4000000 in
theorem RefAlone_any (vn vj : Value) (s : St) (i : Int) (w : World) (hr : RdNd w vn s.nodes) (hrj : RdJb w vj s.jobs) (hN : s.nodes.length ≤ 6) (hM : s.jobs.length ≤ 24) (hJ : OkJ s) :
    Calls Try.prog 12 #[stV vn vj s, .int .i64 i] w fun e w' => e = .returned (.bool (aloneI s i)) ∧ Ext w w' := by
  obtain ⟨hx, hb⟩ := boxSt vn vj s w 27
  have HME : Hid (∀ W, Calls Try.prog 28 #[stV vn vj s] W fun e w' => e = .returned (.int .i64 (meantS s)) ∧ Ext W w') := Lib.hid fun W => RefMeant_any vn vj s W
  unfold stV at HME
  unfold stV
  unfold stC at hx hb
  obtain ⟨A, c, rfl, hnc, hcm, hcell⟩ := has_cells hr
  obtain ⟨A', c', rfl, hnc', hcm', hcell'⟩ := jobs_cells hrj
  have HC := Lib.hid hcell
  have HC' := Lib.hid hcell'
  have HX := Lib.hid hx
  have HB := Lib.hid hb
  obtain ⟨R, hR⟩ : ∃ R, R = aloneI s i := ⟨_, rfl⟩
  rw [← hR]
  have HR := Lib.hid hR
  clear hr hrj hcell hcell' hR
  have h0 := hb.cell 0
  clear hx hb
  by_cases j1 : i < 0
  · have HZ : Hid (R = false) := Lib.hid (by rw [HR.out]; exact aloneI_out (.inl j1))
    have d1 : decide (i < 0) = true := decide_eq_true j1
    clear j1
    go_enter Try.func12, Try.ntmps12
    go_wp2
    go_ret
    exact ⟨by rw [HZ.out]; rfl, HX.out⟩
  · have d1 : decide (i < 0) = false := decide_eq_false j1
    by_cases j2 : (s.nodes.length : Int) ≤ i
    · have HZ : Hid (R = false) := Lib.hid (by rw [HR.out]; exact aloneI_out (.inr j2))
      have d2 : decide ((s.nodes.length : Int) ≤ i) = true := decide_eq_true j2
      clear j1 j2
      go_enter Try.func12, Try.ntmps12
      go_wp2
      go_ret
      exact ⟨by rw [HZ.out]; rfl, HX.out⟩
    · have d2 : decide ((s.nodes.length : Int) ≤ i) = false := decide_eq_false j2
      obtain ⟨k, rfl⟩ : ∃ k : Nat, i = (k : Int) := ⟨i.toNat, by omega⟩
      have hkl : k < s.nodes.length := by omega
      obtain ⟨n, hn⟩ : ∃ n, s.nodes[k]? = some n := ⟨_, List.getElem?_eq_getElem hkl⟩
      obtain ⟨b, o, rfl, hlt, hat⟩ := HC.out k n hn
      obtain ⟨q0, q1, q2, q3, q4⟩ := hat.ext HX.out hlt
      have HRN : Hid (R = aloneN s n) := Lib.hid (by rw [HR.out, aloneI_at hn])
      have hjn := hJ k n hn
      have d5 : decide (k < s.nodes.length) = true := decide_eq_true hkl
      have d6 : (k : Int) < (s.nodes.length : Int) := by omega
      have d7 : (0 : Int) ≤ (k : Int) := by omega
      have HAT := Lib.hid hat
      have HLT := Lib.hid hlt
      clear hn hkl hat hlt j1 j2 HC HR
      by_cases j3 : n.job = 0
      · have HZ : Hid (R = false) := Lib.hid (by rw [HRN.out]; exact aloneN_no j3)
        have d3 : (n.job == 0) = true := by rw [j3]; rfl
        clear j3 hjn
        go_enter Try.func12, Try.ntmps12
        go_wp2
        go_ret
        exact ⟨by rw [HZ.out]; rfl, HX.out⟩
      · have d3 : (n.job == 0) = false := by simpa using j3
        obtain ⟨m, hm⟩ : ∃ m : Nat, n.job = (m : Int) + 1 := ⟨(n.job - 1).toNat, by omega⟩
        have hml : m < s.jobs.length := by omega
        obtain ⟨x, hxm⟩ : ∃ x, s.jobs[m]? = some x := ⟨_, List.getElem?_eq_getElem hml⟩
        obtain ⟨b2, o2, rfl, hlt2, hat2⟩ := HC'.out m x hxm
        have HRX : Hid (R = (decide (0 < x.pin) && decide (x.pin ≠ meantS s))) := Lib.hid (by rw [HRN.out]; unfold aloneN; rw [jobOf_in hxm hm])
        have HAT2 := Lib.hid hat2
        have HLT2 := Lib.hid hlt2
        have HWP : Hid (wrap64 (n.job - 1) = (m : Int)) := Lib.hid (by rw [IntWalk.wrap64_in _ (by omega)]; omega)
        have e6 : (m : Int) < (s.jobs.length : Int) := by omega
        have e7 : (0 : Int) ≤ (m : Int) := by omega
        have HE5 : Hid (decide (m < s.jobs.length) = true) := Lib.hid (decide_eq_true hml)
        obtain ⟨mt, hmt⟩ : ∃ z, z = meantS s := ⟨_, rfl⟩
        rw [← hmt] at HME HRX
        clear hmt hat2 hlt2 hxm hm hml j3 hjn HC' HRN
        go_enter Try.func12, Try.ntmps12
        go_upto_region 3 with (fail)
        obtain ⟨W0, hW0⟩ : ∃ W0, W0 = w.alloc (.cells #[.slice (some ⟨b, o, none⟩) s.nodes.length c, .slice (some ⟨b2, o2, none⟩) s.jobs.length c', .int .i64 s.goal, .int .i64 s.prior, .int .i64 s.mode, .int .i64 s.term] 27) := ⟨_, rfl⟩
        rw [← hW0] at HX HB ⊢
        clear hW0 q0 q1 q2 q3 q4 h0 d1 d2 d3 d5
        have HD5 : Hid (k < s.nodes.length) := Lib.hid (by omega)
        refine held_begin (by kernel_rfl) ?_
        refine held_more (S' := fun W' : World => Ext W0 W') (fun _ _ => True.intro) ?_
        have hSx : (fun W' : World => Ext W0 W') W0.drew := Below.drewN' (Ext.refl W0) 1
        refine held_take (i := 0) (v := ?_) rfl (by kernel_rfl) (by kernel_rfl) (by kernel_rfl) (by rfl) (by first | assumption | exact True.intro) ?_ ?_
        rotate_left
        · (intro W hSw; have wp := HWP.out; have wp2 : IntKind.i64.wrap (n.job - 1) = (m : Int) := (IntWalk.i64_left _).trans HWP.out; have e5 := HE5.out; have d5 : decide (k < s.nodes.length) = true := decide_eq_true HD5.out; obtain ⟨g0, g1, g2, g3, g4, g5⟩ := Blk.six (HB.out.ext hSw); obtain ⟨q0, q1, q2, q3, q4⟩ := HAT.out.ext (Ext.trans HX.out hSw) HLT.out; obtain ⟨p0, p1, p2, p3, p4, p5, p6, p7, p8, p9, p10, p11⟩ := HAT2.out.ext (Ext.trans HX.out hSw) HLT2.out; go_simp; (try with_reducible rfl))
        try simp only [Act.put, List.setIfInBounds_toArray, List.set_cons_zero, List.set_cons_succ]
        refine held_take (i := 1) (v := ?_) rfl (by kernel_rfl) (by kernel_rfl) (by kernel_rfl) (by rfl) (by first | assumption | exact True.intro) ?_ ?_
        rotate_left
        · (intro W hSw; have wp := HWP.out; have wp2 : IntKind.i64.wrap (n.job - 1) = (m : Int) := (IntWalk.i64_left _).trans HWP.out; have e5 := HE5.out; have d5 : decide (k < s.nodes.length) = true := decide_eq_true HD5.out; obtain ⟨g0, g1, g2, g3, g4, g5⟩ := Blk.six (HB.out.ext hSw); obtain ⟨q0, q1, q2, q3, q4⟩ := HAT.out.ext (Ext.trans HX.out hSw) HLT.out; obtain ⟨p0, p1, p2, p3, p4, p5, p6, p7, p8, p9, p10, p11⟩ := HAT2.out.ext (Ext.trans HX.out hSw) HLT2.out; go_simp; (try with_reducible rfl))
        try simp only [Act.put, List.setIfInBounds_toArray, List.set_cons_zero, List.set_cons_succ]
        refine held_take (i := 2) (v := ?_) rfl (by kernel_rfl) (by kernel_rfl) (by kernel_rfl) (by rfl) (by first | assumption | exact True.intro) ?_ ?_
        rotate_left
        · (intro W hSw; have wp := HWP.out; have wp2 : IntKind.i64.wrap (n.job - 1) = (m : Int) := (IntWalk.i64_left _).trans HWP.out; have e5 := HE5.out; have d5 : decide (k < s.nodes.length) = true := decide_eq_true HD5.out; obtain ⟨g0, g1, g2, g3, g4, g5⟩ := Blk.six (HB.out.ext hSw); obtain ⟨q0, q1, q2, q3, q4⟩ := HAT.out.ext (Ext.trans HX.out hSw) HLT.out; obtain ⟨p0, p1, p2, p3, p4, p5, p6, p7, p8, p9, p10, p11⟩ := HAT2.out.ext (Ext.trans HX.out hSw) HLT2.out; go_simp; (try with_reducible rfl))
        try simp only [Act.put, List.setIfInBounds_toArray, List.set_cons_zero, List.set_cons_succ]
        refine held_take (i := 3) (v := ?_) rfl (by kernel_rfl) (by kernel_rfl) (by kernel_rfl) (by rfl) (by first | assumption | exact True.intro) ?_ ?_
        rotate_left
        · (intro W hSw; have wp := HWP.out; have wp2 : IntKind.i64.wrap (n.job - 1) = (m : Int) := (IntWalk.i64_left _).trans HWP.out; have e5 := HE5.out; have d5 : decide (k < s.nodes.length) = true := decide_eq_true HD5.out; obtain ⟨g0, g1, g2, g3, g4, g5⟩ := Blk.six (HB.out.ext hSw); obtain ⟨q0, q1, q2, q3, q4⟩ := HAT.out.ext (Ext.trans HX.out hSw) HLT.out; obtain ⟨p0, p1, p2, p3, p4, p5, p6, p7, p8, p9, p10, p11⟩ := HAT2.out.ext (Ext.trans HX.out hSw) HLT2.out; go_simp; (try with_reducible rfl))
        try simp only [Act.put, List.setIfInBounds_toArray, List.set_cons_zero, List.set_cons_succ]
        refine held_take (i := 4) (v := ?_) rfl (by kernel_rfl) (by kernel_rfl) (by kernel_rfl) (by rfl) (by first | assumption | exact True.intro) ?_ ?_
        rotate_left
        · (intro W hSw; have wp := HWP.out; have wp2 : IntKind.i64.wrap (n.job - 1) = (m : Int) := (IntWalk.i64_left _).trans HWP.out; have e5 := HE5.out; have d5 : decide (k < s.nodes.length) = true := decide_eq_true HD5.out; obtain ⟨g0, g1, g2, g3, g4, g5⟩ := Blk.six (HB.out.ext hSw); obtain ⟨q0, q1, q2, q3, q4⟩ := HAT.out.ext (Ext.trans HX.out hSw) HLT.out; obtain ⟨p0, p1, p2, p3, p4, p5, p6, p7, p8, p9, p10, p11⟩ := HAT2.out.ext (Ext.trans HX.out hSw) HLT2.out; go_simp; (try with_reducible rfl))
        try simp only [Act.put, List.setIfInBounds_toArray, List.set_cons_zero, List.set_cons_succ]
        refine held_take (i := 5) (v := ?_) rfl (by kernel_rfl) (by kernel_rfl) (by kernel_rfl) (by rfl) (by first | assumption | exact True.intro) ?_ ?_
        rotate_left
        · (intro W hSw; have wp := HWP.out; have wp2 : IntKind.i64.wrap (n.job - 1) = (m : Int) := (IntWalk.i64_left _).trans HWP.out; have e5 := HE5.out; have d5 : decide (k < s.nodes.length) = true := decide_eq_true HD5.out; obtain ⟨g0, g1, g2, g3, g4, g5⟩ := Blk.six (HB.out.ext hSw); obtain ⟨q0, q1, q2, q3, q4⟩ := HAT.out.ext (Ext.trans HX.out hSw) HLT.out; obtain ⟨p0, p1, p2, p3, p4, p5, p6, p7, p8, p9, p10, p11⟩ := HAT2.out.ext (Ext.trans HX.out hSw) HLT2.out; go_simp; (try with_reducible rfl))
        try simp only [Act.put, List.setIfInBounds_toArray, List.set_cons_zero, List.set_cons_succ]
        refine held_take (i := 6) (v := ?_) rfl (by kernel_rfl) (by kernel_rfl) (by kernel_rfl) (by rfl) (by first | assumption | exact True.intro) ?_ ?_
        rotate_left
        · (intro W hSw; have wp := HWP.out; have wp2 : IntKind.i64.wrap (n.job - 1) = (m : Int) := (IntWalk.i64_left _).trans HWP.out; have e5 := HE5.out; have d5 : decide (k < s.nodes.length) = true := decide_eq_true HD5.out; obtain ⟨g0, g1, g2, g3, g4, g5⟩ := Blk.six (HB.out.ext hSw); obtain ⟨q0, q1, q2, q3, q4⟩ := HAT.out.ext (Ext.trans HX.out hSw) HLT.out; obtain ⟨p0, p1, p2, p3, p4, p5, p6, p7, p8, p9, p10, p11⟩ := HAT2.out.ext (Ext.trans HX.out hSw) HLT2.out; go_simp; (try with_reducible rfl))
        try simp only [Act.put, List.setIfInBounds_toArray, List.set_cons_zero, List.set_cons_succ]
        refine held_take (i := 7) (v := ?_) rfl (by kernel_rfl) (by kernel_rfl) (by kernel_rfl) (by rfl) (by first | assumption | exact True.intro) ?_ ?_
        rotate_left
        · (intro W hSw; have wp := HWP.out; have wp2 : IntKind.i64.wrap (n.job - 1) = (m : Int) := (IntWalk.i64_left _).trans HWP.out; have e5 := HE5.out; have d5 : decide (k < s.nodes.length) = true := decide_eq_true HD5.out; obtain ⟨g0, g1, g2, g3, g4, g5⟩ := Blk.six (HB.out.ext hSw); obtain ⟨q0, q1, q2, q3, q4⟩ := HAT.out.ext (Ext.trans HX.out hSw) HLT.out; obtain ⟨p0, p1, p2, p3, p4, p5, p6, p7, p8, p9, p10, p11⟩ := HAT2.out.ext (Ext.trans HX.out hSw) HLT2.out; go_simp; (try with_reducible rfl))
        try simp only [Act.put, List.setIfInBounds_toArray, List.set_cons_zero, List.set_cons_succ]
        refine held_take (i := 8) (v := ?_) rfl (by kernel_rfl) (by kernel_rfl) (by kernel_rfl) (by rfl) (by first | assumption | exact True.intro) ?_ ?_
        rotate_left
        · (intro W hSw; have wp := HWP.out; have wp2 : IntKind.i64.wrap (n.job - 1) = (m : Int) := (IntWalk.i64_left _).trans HWP.out; have e5 := HE5.out; have d5 : decide (k < s.nodes.length) = true := decide_eq_true HD5.out; obtain ⟨g0, g1, g2, g3, g4, g5⟩ := Blk.six (HB.out.ext hSw); obtain ⟨q0, q1, q2, q3, q4⟩ := HAT.out.ext (Ext.trans HX.out hSw) HLT.out; obtain ⟨p0, p1, p2, p3, p4, p5, p6, p7, p8, p9, p10, p11⟩ := HAT2.out.ext (Ext.trans HX.out hSw) HLT2.out; go_simp; (try with_reducible rfl))
        try simp only [Act.put, List.setIfInBounds_toArray, List.set_cons_zero, List.set_cons_succ]
        refine held_take (i := 9) (v := ?_) rfl (by kernel_rfl) (by kernel_rfl) (by kernel_rfl) (by rfl) (by first | assumption | exact True.intro) ?_ ?_
        rotate_left
        · (intro W hSw; have wp := HWP.out; have wp2 : IntKind.i64.wrap (n.job - 1) = (m : Int) := (IntWalk.i64_left _).trans HWP.out; have e5 := HE5.out; have d5 : decide (k < s.nodes.length) = true := decide_eq_true HD5.out; obtain ⟨g0, g1, g2, g3, g4, g5⟩ := Blk.six (HB.out.ext hSw); obtain ⟨q0, q1, q2, q3, q4⟩ := HAT.out.ext (Ext.trans HX.out hSw) HLT.out; obtain ⟨p0, p1, p2, p3, p4, p5, p6, p7, p8, p9, p10, p11⟩ := HAT2.out.ext (Ext.trans HX.out hSw) HLT2.out; go_simp; (try with_reducible rfl))
        try simp only [Act.put, List.setIfInBounds_toArray, List.set_cons_zero, List.set_cons_succ]
        refine held_take (i := 10) (v := ?_) rfl (by kernel_rfl) (by kernel_rfl) (by kernel_rfl) (by rfl) (by first | assumption | exact True.intro) ?_ ?_
        rotate_left
        · (intro W hSw; have wp := HWP.out; have wp2 : IntKind.i64.wrap (n.job - 1) = (m : Int) := (IntWalk.i64_left _).trans HWP.out; have e5 := HE5.out; have d5 : decide (k < s.nodes.length) = true := decide_eq_true HD5.out; obtain ⟨g0, g1, g2, g3, g4, g5⟩ := Blk.six (HB.out.ext hSw); obtain ⟨q0, q1, q2, q3, q4⟩ := HAT.out.ext (Ext.trans HX.out hSw) HLT.out; obtain ⟨p0, p1, p2, p3, p4, p5, p6, p7, p8, p9, p10, p11⟩ := HAT2.out.ext (Ext.trans HX.out hSw) HLT2.out; go_simp; (try with_reducible rfl))
        try simp only [Act.put, List.setIfInBounds_toArray, List.set_cons_zero, List.set_cons_succ]
        refine held_take (i := 11) (v := ?_) rfl (by kernel_rfl) (by kernel_rfl) (by kernel_rfl) (by rfl) (by first | assumption | exact True.intro) ?_ ?_
        rotate_left
        · (intro W hSw; have wp := HWP.out; have wp2 : IntKind.i64.wrap (n.job - 1) = (m : Int) := (IntWalk.i64_left _).trans HWP.out; have e5 := HE5.out; have d5 : decide (k < s.nodes.length) = true := decide_eq_true HD5.out; obtain ⟨g0, g1, g2, g3, g4, g5⟩ := Blk.six (HB.out.ext hSw); obtain ⟨q0, q1, q2, q3, q4⟩ := HAT.out.ext (Ext.trans HX.out hSw) HLT.out; obtain ⟨p0, p1, p2, p3, p4, p5, p6, p7, p8, p9, p10, p11⟩ := HAT2.out.ext (Ext.trans HX.out hSw) HLT2.out; go_simp; (try with_reducible rfl))
        try simp only [Act.put, List.setIfInBounds_toArray, List.set_cons_zero, List.set_cons_succ]
        refine held_take (i := 12) (v := ?_) rfl (by kernel_rfl) (by kernel_rfl) (by kernel_rfl) (by rfl) (by first | assumption | exact True.intro) ?_ ?_
        rotate_left
        · (intro W hSw; have wp := HWP.out; have wp2 : IntKind.i64.wrap (n.job - 1) = (m : Int) := (IntWalk.i64_left _).trans HWP.out; have e5 := HE5.out; have d5 : decide (k < s.nodes.length) = true := decide_eq_true HD5.out; obtain ⟨g0, g1, g2, g3, g4, g5⟩ := Blk.six (HB.out.ext hSw); obtain ⟨q0, q1, q2, q3, q4⟩ := HAT.out.ext (Ext.trans HX.out hSw) HLT.out; obtain ⟨p0, p1, p2, p3, p4, p5, p6, p7, p8, p9, p10, p11⟩ := HAT2.out.ext (Ext.trans HX.out hSw) HLT2.out; go_simp; (try with_reducible rfl))
        try simp only [Act.put, List.setIfInBounds_toArray, List.set_cons_zero, List.set_cons_succ]
        clear hSx
        refine wpAnyH_done (by kernel_rfl) ?_ _
        refine NoPanic.normal ?_
        obtain ⟨wd, hwd⟩ : ∃ z, z = W0.drew := ⟨_, rfl⟩
        have HXD : Hid (Ext w wd) := Lib.hid (by rw [hwd]; exact Ext.trans HX.out (Below.drewN' (Ext.refl W0) 1))
        have HBD : Hid (Blk wd w.heap.size 27 _) := Lib.hid (by rw [hwd]; exact HB.out)
        rw [← hwd]
        clear hwd
        obtain ⟨g0, g1, g2, g3, g4, g5⟩ := Blk.six HBD.out
        have HMC := Lib.hid (HME.out wd)
        by_cases hp : 0 < x.pin
        · have f1 : decide (0 < x.pin) = true := decide_eq_true hp
          clear hp
          go_wp2_with fail
          refine HMC.out.mono ?_
          rintro e3 w3 ⟨rfl, hx3⟩
          have HX3 : Hid (Ext w w3) := Lib.hid (Ext.trans HXD.out hx3)
          clear hx3 HMC
          simp only []
          by_cases hv : x.pin = mt
          · have f2 : (x.pin != mt) = false := by rw [hv]; simp
            have HZ : Hid (R = false) := Lib.hid (by rw [HRX.out, f1, decide_eq_false (fun h => h hv)]; rfl)
            clear hv
            go_wp2
            go_ret
            exact ⟨by rw [HZ.out]; rfl, HX3.out⟩
          · have f2 : (x.pin != mt) = true := by simp only [bne_iff_ne, ne_eq]; exact hv
            have HZ : Hid (R = true) := Lib.hid (by rw [HRX.out, f1, decide_eq_true hv]; rfl)
            clear hv
            go_wp2
            go_ret
            exact ⟨by rw [HZ.out]; rfl, HX3.out⟩
        · have f1 : decide (0 < x.pin) = false := decide_eq_false hp
          have HZ : Hid (R = false) := Lib.hid (by rw [HRX.out, f1]; rfl)
          clear hp
          go_wp2
          go_ret
          exact ⟨by rw [HZ.out]; rfl, HXD.out⟩

end Go.Proofs.Ytkpcjdhnbjkaaaa

/- The reference of layer 17: how many are cordoned; whether all is done. -/
namespace Go.Proofs.Ytkpcjdhnbjkaaaa
open Go.RowKit

set_option maxRecDepth 100000 in
set_option maxHeartbeats 2000000 in
theorem RefWave_any (vn vj : Value) (s : St) (w : World) (hr : RdNd w vn s.nodes) (hN : s.nodes.length ≤ 6) :
    Calls Try.prog 14 #[stV vn vj s] w fun e w' => e = .returned (.int .i64 (waveS s : Int)) ∧ Ext w w' := by
  obtain ⟨hx, hb⟩ := boxSt vn vj s w 27
  unfold stV
  unfold stC at hx hb
  obtain ⟨A, c, rfl, hnc, hcm, hcell⟩ := has_cells hr
  have HC := Lib.hid hcell
  have HX := Lib.hid hx
  have HB := Lib.hid hb
  obtain ⟨D, hD⟩ : ∃ D, D = waveS s := ⟨_, rfl⟩
  rw [← hD]
  unfold waveS at hD
  obtain ⟨F, hF⟩ : ∃ F : Nat → Bool, F = nodeIs s.nodes cordN := ⟨_, rfl⟩
  rw [← hF] at hD
  have HFF : Hid (∀ (q : Nat) n, s.nodes[q]? = some n → F q = n.cordon) := Lib.hid fun q n hn => by rw [hF, nodeIs_at hn]; rfl
  have HD := Lib.hid hD
  have HLE : Hid (∀ q, cntTo F q ≤ q) := Lib.hid fun q => by induction q with | zero => exact Nat.le_refl _ | succ q ih => unfold cntTo; split <;> omega
  clear hx hb hr hcell hD hF
  go_enter Try.func14, Try.ntmps14
  go_wp2_with fail
  obtain ⟨W0, hW0⟩ : ∃ W0, W0 = w.alloc (.cells #[.slice A s.nodes.length c, vj, .int .i64 s.goal, .int .i64 s.prior, .int .i64 s.mode, .int .i64 s.term] 27) := ⟨_, rfl⟩
  rw [← hW0] at HX HB ⊢
  clear hW0
  go_loopw [3, 4] (fun o i wr => ∃ q : Nat, i = .int .i64 q ∧ o = .int .i64 (cntTo F q : Int) ∧ q ≤ s.nodes.length ∧ Ext W0 wr) (fun _ i _ => s.nodes.length - (intOf i).toNat)
  case atStart => exact ⟨0, rfl, rfl, Nat.zero_le _, Ext.refl _⟩
  case round =>
    obtain ⟨q, rfl, rfl, hq, hxr⟩ := hrel
    have HXR := Lib.hid hxr
    have HXW := Lib.hid (HX.out.trans hxr)
    have g0 := (HB.out.ext hxr).cell 0
    have HST : Hid (cntTo F (q + 1) = cntTo F q + (if F q = true then 1 else 0)) := Lib.hid rfl
    have hle := HLE.out q
    generalize hP : cntTo F q = P at *
    have HP := Lib.hid hP
    clear hxr hP
    by_cases hlt : q < s.nodes.length
    · have d1 : decide ((q : Int) < (s.nodes.length : Int)) = true := decide_eq_true (by omega)
      have d1' : decide (q < s.nodes.length) = true := decide_eq_true hlt
      obtain ⟨n, hn⟩ : ∃ n, s.nodes[q]? = some n := ⟨_, List.getElem?_eq_getElem hlt⟩
      obtain ⟨b, o, rfl, hlt', hat⟩ := HC.out q n hn
      obtain ⟨c0, c1, c2, c3, c4⟩ := hat.ext HXW.out hlt'
      have HLT := Lib.hid hlt
      have wq : wrap64 ((q : Int) + 1) = (q : Int) + 1 := IntWalk.wrap64_in _ (by omega)
      have wp : wrap64 ((P : Int) + 1) = ((P + 1 : Nat) : Int) := IntWalk.wrap64_in _ (by omega)
      have HN := Lib.hid (HFF.out q n hn)
      clear hat hn hle hlt' hq
      cases hf : n.cordon
      · rw [hf] at c1
        have HS : Hid (cntTo F (q + 1) = P) := Lib.hid (by rw [HST.out, HN.out, hf, if_neg (by simp), Nat.add_zero])
        clear hf
        repeat (first | go_values | go_skip | go_guarded | go_step | go_upon | (simp only []))
        go_roundw
        case rel => exact ⟨q + 1, by first | (rw [wq]; rfl) | rfl, by rw [HS.out], HLT.out, HXR.out⟩
        case measure => first | (rw [wq]; exact measQ HLT.out) | exact measQ HLT.out
      · rw [hf] at c1
        have HS : Hid (cntTo F (q + 1) = P + 1) := Lib.hid (by rw [HST.out, HN.out, hf, if_pos rfl])
        clear hf
        repeat (first | go_values | go_skip | go_guarded | go_step | go_upon | (simp only []))
        go_roundw
        case rel => exact ⟨q + 1, by first | (rw [wq]; rfl) | rfl, by rw [HS.out]; first | rfl | rw [wp], HLT.out, HXR.out⟩
        case measure => first | (rw [wq]; exact measQ HLT.out) | exact measQ HLT.out
    · have d1 : decide ((q : Int) < (s.nodes.length : Int)) = false := decide_eq_false (by omega)
      have d1' : decide (q < s.nodes.length) = false := decide_eq_false hlt
      have HE : Hid (D = P) := Lib.hid (by rw [HD.out, ← HP.out, show q = s.nodes.length by omega])
      go_wp2
      go_ret
      exact ⟨by rw [HE.out]; rfl, HXW.out⟩

set_option maxRecDepth 100000 in
set_option maxHeartbeats 4000000 in
theorem RefDone_any (vn vj : Value) (s : St) (w : World) (hr : RdNd w vn s.nodes) (hrj : RdJb w vj s.jobs) (hN : s.nodes.length ≤ 6) (hM : s.jobs.length ≤ 24) (hJ : OkJ s) :
    Calls Try.prog 16 #[stV vn vj s] w fun e w' => e = .returned (.bool (doneW s)) ∧ Ext w w' := by
  have HRN := Lib.hid hr
  have HRJ := Lib.hid hrj
  obtain ⟨hx, hb⟩ := boxSt vn vj s w 27
  have HBE : Hid (∀ (i : Nat) n W, s.nodes[i]? = some n → Ext w W → Calls Try.prog 8 #[stV vn vj s, .int .i64 (i : Int)] W fun e w' => e = .returned (.bool (behindN s n)) ∧ Ext W w') := Lib.hid fun i n W hi hW => RefBehind_any vn vj s i n W (HRN.out.ext hW) hi hN
  have HAL : Hid (∀ (i : Nat) n W, s.nodes[i]? = some n → Ext w W → Calls Try.prog 12 #[stV vn vj s, .int .i64 (i : Int)] W fun e w' => e = .returned (.bool (aloneN s n)) ∧ Ext W w') := Lib.hid fun i n W hi hW => by
    have h := RefAlone_any vn vj s (i : Int) W (HRN.out.ext hW) (HRJ.out.ext hW) hN hM hJ
    rw [aloneI_at hi] at h
    exact h
  unfold stV at HBE HAL
  unfold stV
  unfold stC at hx hb
  obtain ⟨A, c, rfl, hnc, hcm, hcell⟩ := has_cells hr
  have HC := Lib.hid hcell
  have HX := Lib.hid hx
  have HB := Lib.hid hb
  obtain ⟨D, hD⟩ : ∃ D, D = doneW s := ⟨_, rfl⟩
  rw [← hD]
  have HNO : Hid (∀ (i : Nat) n, s.nodes[i]? = some n → toDo s n = true → D = false) := Lib.hid fun i n hi h => by rw [hD]; exact doneW_no hi h
  have HYES : Hid ((∀ (i : Nat) n, i < s.nodes.length → s.nodes[i]? = some n → toDo s n = false) → D = true) := Lib.hid fun h => by rw [hD]; exact doneW_yes h
  clear hx hb hr hrj hcell hD HRN HRJ
  go_enter Try.func16, Try.ntmps16
  go_wp2_with fail
  obtain ⟨W0, hW0⟩ : ∃ W0, W0 = w.alloc (.cells #[.slice A s.nodes.length c, vj, .int .i64 s.goal, .int .i64 s.prior, .int .i64 s.mode, .int .i64 s.term] 27) := ⟨_, rfl⟩
  rw [← hW0] at HX HB ⊢
  clear hW0
  go_loopw [3] (fun i wr => ∃ q : Nat, i = .int .i64 q ∧ q ≤ s.nodes.length ∧ Hid (∀ (i : Nat) n, i < q → s.nodes[i]? = some n → toDo s n = false) ∧ Ext W0 wr) (fun i _ => s.nodes.length - (intOf i).toNat)
  case atStart => exact ⟨0, rfl, Nat.zero_le _, Lib.hid fun i n h => absurd h (Nat.not_lt_zero i), Ext.refl _⟩
  case round =>
    obtain ⟨q, rfl, hq, HBF, hxr⟩ := hrel
    have HXR := Lib.hid hxr
    have HXW := Lib.hid (HX.out.trans hxr)
    obtain ⟨g0, g1, g2, g3, g4, g5⟩ := Blk.six (HB.out.ext hxr)
    clear hxr
    by_cases hlt : q < s.nodes.length
    · have d1 : decide ((q : Int) < (s.nodes.length : Int)) = true := decide_eq_true (by omega)
      have d1' : decide (q < s.nodes.length) = true := decide_eq_true hlt
      obtain ⟨n, hn⟩ : ∃ n, s.nodes[q]? = some n := ⟨_, List.getElem?_eq_getElem hlt⟩
      obtain ⟨b, o, rfl, hlt', hat⟩ := HC.out q n hn
      obtain ⟨c0, c1, c2, c3, c4⟩ := hat.ext HXW.out hlt'
      have HLT := Lib.hid hlt
      have wq : wrap64 ((q : Int) + 1) = (q : Int) + 1 := IntWalk.wrap64_in _ (by omega)
      have HNQ := Lib.hid (HNO.out q n hn)
      have HBQ := Lib.hid (fun W hW => HBE.out q n W hn hW)
      have HAQ := Lib.hid (fun W hW => HAL.out q n W hn hW)
      have HBN : Hid (toDo s n = false → ∀ (i : Nat) m, i < q + 1 → s.nodes[i]? = some m → toDo s m = false) := Lib.hid fun h i m hi hm => by
        rcases Nat.lt_or_ge i q with h1 | h1
        · exact HBF.out i m h1 hm
        · obtain rfl : i = q := by omega
          rw [hn] at hm
          cases hm
          exact h
      have HTD : Hid (toDo s n = (n.moving || (behindN s n && !aloneN s n))) := Lib.hid rfl
      clear hat hn hlt' hq HNO HYES HBF
      cases hmv : n.moving
      · rw [hmv] at c2
        have HBC := Lib.hid (HBQ.out wr HXW.out)
        go_wp2_with fail
        refine HBC.out.mono ?_
        rintro e3 w3 ⟨rfl, hx3⟩
        have HX3 : Hid (Ext W0 w3) := Lib.hid (Ext.trans HXR.out hx3)
        clear hx3 HBC g0 g1 g2 g3 g4 g5 c0 c1 c2 c3 c4
        simp only []
        cases hbh : behindN s n
        · have HS := Lib.hid (HBN.out (by rw [HTD.out, hmv, hbh]; rfl))
          clear hmv hbh
          repeat (first | go_values | go_skip | go_guarded | go_step | go_upon | (simp only []))
          go_roundw
          case rel => exact ⟨q + 1, by first | (rw [wq]; rfl) | rfl, HLT.out, HS, HX3.out⟩
          case measure => first | (rw [wq]; exact measQ HLT.out) | exact measQ HLT.out
        · obtain ⟨g0, g1, g2, g3, g4, g5⟩ := Blk.six (HB.out.ext HX3.out)
          have HAC := Lib.hid (HAQ.out w3 (Ext.trans HX.out HX3.out))
          go_wp2_with fail
          refine HAC.out.mono ?_
          rintro e4 w4 ⟨rfl, hx4⟩
          have HX4 : Hid (Ext W0 w4) := Lib.hid (Ext.trans HX3.out hx4)
          clear hx4 HAC g0 g1 g2 g3 g4 g5
          simp only []
          cases hal : aloneN s n
          · have HZ : Hid (D = false) := Lib.hid (HNQ.out (by rw [HTD.out, hmv, hbh, hal]; rfl))
            clear hmv hbh hal
            go_wp2
            go_ret
            exact ⟨by rw [HZ.out]; rfl, Ext.trans HX.out HX4.out⟩
          · have HS := Lib.hid (HBN.out (by rw [HTD.out, hmv, hbh, hal]; rfl))
            clear hmv hbh hal
            repeat (first | go_values | go_skip | go_guarded | go_step | go_upon | (simp only []))
            go_roundw
            case rel => exact ⟨q + 1, by first | (rw [wq]; rfl) | rfl, HLT.out, HS, HX4.out⟩
            case measure => first | (rw [wq]; exact measQ HLT.out) | exact measQ HLT.out
      · rw [hmv] at c2
        have HZ : Hid (D = false) := Lib.hid (HNQ.out (by rw [HTD.out, hmv]; rfl))
        clear hmv
        go_wp2
        go_ret
        exact ⟨by rw [HZ.out]; rfl, HXW.out⟩
    · have d1 : decide ((q : Int) < (s.nodes.length : Int)) = false := decide_eq_false (by omega)
      have d1' : decide (q < s.nodes.length) = false := decide_eq_false hlt
      have HZ : Hid (D = true) := Lib.hid (HYES.out fun i n hi hn => HBF.out i n (by omega) hn)
      go_wp2
      go_ret
      exact ⟨by rw [HZ.out]; rfl, HXW.out⟩

end Go.Proofs.Ytkpcjdhnbjkaaaa

/- An op, or none, as a function of two results tells it. -/
namespace Go.Proofs.Ytkpcjdhnbjkaaaa
open Go.RowKit

def opA (o : OpN) : Value := .agg #[.int .i64 o.1, .int .i64 o.2.1, .int .i64 o.2.2.1, .int .i64 o.2.2.2.1, .int .i64 o.2.2.2.2.1, .int .i64 o.2.2.2.2.2.1, .int .i64 o.2.2.2.2.2.2]
/-- An op and true, or a zero one and false. -/
def optV : Option OpN → Value
  | some o => .tuple #[opA o, .bool true]
  | none => .tuple #[opA zeroO, .bool false]
theorem infoOp : (Try.prog.info? 39).map (·.size) = some 7 := by kernel_rfl
theorem results_op {fn : Func} {p u : Tmp} {t : TypeId} (h : fn.results = #[.cell p t, .tmp u]) (tmps : Array Value) (P : Program) (w : World) :
    (results fn tmps).run P w = ((asAddr (tmps.getD p undef)).run P w).andThen fun a w₁ => ((loadVar t a).run P w₁).andThen fun v w₂ => .ok (.tuple #[v, tmps.getD u undef]) w₂ := by
  simp only [results, h]
  simp [Sem.run_bind, Result.andThen]
set_option maxRecDepth 100000 in
theorem run_op {fn : Func} {p q : Tmp} (h : fn.results = #[.cell p 39, .tmp q]) {tmps : Array Value} {w : World} {g : Nat} {cs : Array Value} {b : Bool}
    (h2 : tmps.getD p undef = .pointer (some ⟨g, 0, none⟩)) (h3 : tmps.getD q undef = .bool b) (hb : Blk w g 39 cs) (hs : cs.size = 7) : (results fn tmps).run Try.prog w = .ok (.tuple #[.agg cs, .bool b]) w := by
  have i1 : (Try.prog.info? 39).map (·.size) = some cs.size := by rw [hs]; exact infoOp
  rw [results_op h, h2, h3]
  simp only [asAddr, Sem.run_pure, Result.andThen_ok, run_loadVar_row w g 39 39 _ (0, 0) _ hb rfl rfl i1]

end Go.Proofs.Ytkpcjdhnbjkaaaa

/- The reference of layer 9: a queue's drains. -/
namespace Go.Proofs.Ytkpcjdhnbjkaaaa
open Go.RowKit

set_option maxRecDepth 100000 in
theorem RefDrains_any (vn vj : Value) (s : St) (q : Int) (w : World) (hj : RdJb w vj s.jobs) :
    Calls Try.prog 42 #[stV vn vj s, .int .i64 q] w fun e w' => e = .returned (.int .i64 (drainsS s q : Int)) ∧ Ext w w' := by
  obtain ⟨hx, hb⟩ := boxSt vn vj s w 27
  unfold stV
  unfold stC at hx hb
  obtain ⟨A, c, rfl, hnc, hcm, hcell⟩ := jobs_cells hj
  have HC := Lib.hid hcell
  have HX := Lib.hid hx
  have h0 : (w.alloc (.cells #[vn, .slice A s.jobs.length c, .int .i64 s.goal, .int .i64 s.prior, .int .i64 s.mode, .int .i64 s.term] 27)).cell? ⟨w.heap.size, 1, none⟩ = some (.slice A s.jobs.length c) := hb.cell 1
  clear hx hj hcell hb
  obtain ⟨D, hD⟩ : ∃ D, D = drainsS s q := ⟨_, rfl⟩
  rw [← hD]
  unfold drainsS at hD
  generalize s.jobs = l at *
  have HD := Lib.hid hD
  clear hD
  obtain ⟨W0, hW0⟩ : ∃ W0, W0 = w.alloc (.cells #[vn, .slice A l.length c, .int .i64 s.goal, .int .i64 s.prior, .int .i64 s.mode, .int .i64 s.term] 27) := ⟨_, rfl⟩
  rw [← hW0] at HX h0
  go_enter Try.func42, Try.ntmps42
  go_wp2_with fail
  rw [← hW0]
  clear hW0
  go_loop [5, 6] (fun n i => ∃ k : Nat, i = .int .i64 k ∧ n = .int .i64 ((((l.take k).filter fun j => decide (j.queue = q ∧ j.phase = 3)).length : Nat) : Int) ∧ k ≤ l.length) (fun _ i => l.length - (intOf i).toNat)
  case atStart => exact ⟨0, rfl, by simp, Nat.zero_le _⟩
  case round =>
    obtain ⟨k, rfl, rfl, hk⟩ := hrel
    generalize hN : ((l.take k).filter fun j => decide (j.queue = q ∧ j.phase = 3)).length = N at *
    by_cases hlt : k < l.length
    · have d1 : decide ((k : Int) < (l.length : Int)) = true := decide_eq_true (by omega)
      have d1' : decide (k < l.length) = true := decide_eq_true hlt
      obtain ⟨j, hj⟩ : ∃ j, l[k]? = some j := ⟨_, List.getElem?_eq_getElem hlt⟩
      obtain ⟨b, o, rfl, hb, hat⟩ := HC.out k j hj
      have q0 := (hat.ext HX.out hb).c0
      have q6 := (hat.ext HX.out hb).c6
      have HN := Lib.hid (drains_step (q := q) hj hN)
      have hNl : N ≤ k := by rw [← hN]; exact Nat.le_trans (List.length_filter_le _ _) (by rw [List.length_take]; exact Nat.min_le_left _ _)
      have HLT := Lib.hid hlt
      clear hN hj hat hb
      by_cases hp : j.phase = 3
      · have e2 : (j.phase == 3) = true := by rw [hp]; rfl
        by_cases hq : j.queue = q
        · have e1 : (j.queue == q) = true := by rw [hq]; exact beq_self_eq_true q
          have HQ := Lib.hid (HN.out.1 ⟨hq, hp⟩)
          have hw : wrap64 ((N : Int) + 1) = ((N + 1 : Nat) : Int) := IntWalk.wrap64_in _ (by omega)
          clear hq hp HN
          go_wp2
          go_round
          case rel => exact ⟨k + 1, by go_num, by rw [HQ.out]; rfl, HLT.out⟩
          case measure => have := HLT.out; simp [intOf]; omega
        · have e1 : (j.queue == q) = false := by rw [beq_eq_false_iff_ne]; exact hq
          have HQ := Lib.hid (HN.out.2 fun h => hq h.1)
          clear hq hp HN
          go_wp2
          go_round
          case rel => exact ⟨k + 1, by go_num, by rw [HQ.out], HLT.out⟩
          case measure => have := HLT.out; simp [intOf]; omega
      · have e2 : (j.phase == 3) = false := by rw [beq_eq_false_iff_ne]; exact hp
        have HQ := Lib.hid (HN.out.2 fun h => hp h.2)
        clear hp HN
        go_wp2
        go_round
        case rel => exact ⟨k + 1, by go_num, by rw [HQ.out], HLT.out⟩
        case measure => have := HLT.out; simp [intOf]; omega
    · have d1 : decide ((k : Int) < (l.length : Int)) = false := decide_eq_false (by omega)
      have d1' : decide (k < l.length) = false := decide_eq_false hlt
      obtain rfl : k = l.length := by omega
      rw [List.take_length] at hN
      have HNN : Hid (D = N) := Lib.hid (HD.out.trans hN)
      clear hN
      go_wp2
      go_ret
      exact ⟨by rw [HNN.out]; rfl, HX.out⟩

end Go.Proofs.Ytkpcjdhnbjkaaaa

/- The reference of layer 17: the second way. -/
namespace Go.Proofs.Ytkpcjdhnbjkaaaa
open Go.RowKit

set_option maxRecDepth 100000 in
set_option maxHeartbeats 8000000 in
theorem RefSecond_any (c : Cf) (vn vj : Value) (s : St) (i : Nat) (n : Nd) (now : Int) (w : World) (hr : RdNd w vn s.nodes) (hrj : RdJb w vj s.jobs) (hi : s.nodes[i]? = some n) (hN : s.nodes.length ≤ 6) (hM : s.jobs.length ≤ 24) (hJ : OkJ s) (hn0 : 0 ≤ now) (hn1 : now ≤ 1000000) (hd0 : 0 ≤ c.deadline) (hd1 : c.deadline ≤ 60) :
    Calls Try.prog 33 #[cfV c, stV vn vj s, .int .i64 (i : Int), .int .i64 now] w fun e w' => e = .returned (optV (secondS c s now i n)) ∧ Ext w w' := by
  have HDR : Hid (∀ q W, Ext w W → Calls Try.prog 42 #[stV vn vj s, .int .i64 q] W fun e w' => e = .returned (.int .i64 (drainsS s q : Int)) ∧ Ext W w') := Lib.hid fun q W hW => RefDrains_any vn vj s q W (hrj.ext hW)
  have HMA := Lib.hid fun set W => RefMany_any set W
  unfold stV at HDR
  unfold cfV stV
  obtain ⟨A, ca, rfl, hnc, hcm, hcell⟩ := has_cells hr
  obtain ⟨A', cj, rfl, hnc', hcm', hcell'⟩ := jobs_cells hrj
  obtain ⟨b, o, rfl, hlt, hat⟩ := hcell i n hi
  have hil := (List.getElem?_eq_some_iff.1 hi).1
  have HC' := Lib.hid hcell'
  have d5 : decide (i < s.nodes.length) = true := decide_eq_true hil
  have d6 : (i : Int) < (s.nodes.length : Int) := by omega
  have d7 : (0 : Int) ≤ (i : Int) := by omega
  have hjn := hJ i n hi
  obtain ⟨R, hR⟩ : ∃ R, R = secondS c s now i n := ⟨_, rfl⟩
  rw [← hR]
  have HR := Lib.hid hR
  obtain ⟨W1, hW1⟩ : ∃ W, W = w.alloc (.cells #[.int .i64 c.nodes, .int .i64 c.queues, .int .i64 c.quota, .int .i64 c.wave, .int .i64 c.lease, .int .i64 c.retry, .int .i64 c.deadline, .int .i64 c.room, .int .i64 c.disk] 23) := ⟨_, rfl⟩
  obtain ⟨W2, hW2⟩ : ∃ W, W = W1.alloc (.cells #[.slice (some ⟨b, o, none⟩) s.nodes.length ca, .slice A' s.jobs.length cj, .int .i64 s.goal, .int .i64 s.prior, .int .i64 s.mode, .int .i64 s.term] 27) := ⟨_, rfl⟩
  obtain ⟨W3, hW3⟩ : ∃ W, W = W2.alloc (.cells #[.int .i64 0, .int .i64 0, .int .i64 0, .int .i64 0, .int .i64 0, .int .i64 0, .int .i64 0] 39) := ⟨_, rfl⟩
  have s1 : W1.heap.size = w.heap.size + 1 := by rw [hW1]; simp
  have s2 : W2.heap.size = w.heap.size + 1 + 1 := by rw [hW2]; simp [s1]
  have x1 : Ext w W1 := by rw [hW1]; exact (Below.refl _ _).alloc (Nat.le_refl _) _
  have x2 : Ext W1 W2 := by rw [hW2]; exact (Below.refl _ _).alloc (Nat.le_refl _) _
  have x3 : Ext W2 W3 := by rw [hW3]; exact (Below.refl _ _).alloc (Nat.le_refl _) _
  have b1 : Blk W3 w.heap.size 23 #[.int .i64 c.nodes, .int .i64 c.queues, .int .i64 c.quota, .int .i64 c.wave, .int .i64 c.lease, .int .i64 c.retry, .int .i64 c.deadline, .int .i64 c.room, .int .i64 c.disk] := by
    have h : Blk W1 w.heap.size 23 #[.int .i64 c.nodes, .int .i64 c.queues, .int .i64 c.quota, .int .i64 c.wave, .int .i64 c.lease, .int .i64 c.retry, .int .i64 c.deadline, .int .i64 c.room, .int .i64 c.disk] := by rw [hW1]; exact Blk.new _ _ _
    exact h.ext (Ext.trans x2 x3)
  have b2 : Blk W3 (w.heap.size + 1) 27 #[.slice (some ⟨b, o, none⟩) s.nodes.length ca, .slice A' s.jobs.length cj, .int .i64 s.goal, .int .i64 s.prior, .int .i64 s.mode, .int .i64 s.term] := by
    have h : Blk W2 W1.heap.size 27 #[.slice (some ⟨b, o, none⟩) s.nodes.length ca, .slice A' s.jobs.length cj, .int .i64 s.goal, .int .i64 s.prior, .int .i64 s.mode, .int .i64 s.term] := by rw [hW2]; exact Blk.new _ _ _
    rw [s1] at h
    exact h.ext x3
  have b3 : Blk W3 (w.heap.size + 1 + 1) 39 #[.int .i64 0, .int .i64 0, .int .i64 0, .int .i64 0, .int .i64 0, .int .i64 0, .int .i64 0] := by
    have h : Blk W3 W2.heap.size 39 #[.int .i64 0, .int .i64 0, .int .i64 0, .int .i64 0, .int .i64 0, .int .i64 0, .int .i64 0] := by rw [hW3]; exact Blk.new _ _ _
    rw [s2] at h
    exact h
  have HX3 : Hid (Ext w W3) := Lib.hid (Ext.trans x1 (Ext.trans x2 x3))
  have HB1 := Lib.hid b1
  have HB2 := Lib.hid b2
  have HB3 := Lib.hid b3
  have HW3 : Hid (W3 = ((w.alloc (.cells #[.int .i64 c.nodes, .int .i64 c.queues, .int .i64 c.quota, .int .i64 c.wave, .int .i64 c.lease, .int .i64 c.retry, .int .i64 c.deadline, .int .i64 c.room, .int .i64 c.disk] 23)).alloc (.cells #[.slice (some ⟨b, o, none⟩) s.nodes.length ca, .slice A' s.jobs.length cj, .int .i64 s.goal, .int .i64 s.prior, .int .i64 s.mode, .int .i64 s.term] 27)).alloc (.cells #[.int .i64 0, .int .i64 0, .int .i64 0, .int .i64 0, .int .i64 0, .int .i64 0, .int .i64 0] 39)) := Lib.hid (by rw [hW3, hW2, hW1])
  have HAT := Lib.hid hat
  have HLT := Lib.hid hlt
  clear hW3 hW2 hW1 s1 s2 x1 x2 x3 b1 b2 b3 hR hr hrj hcell hcell' hat hlt hi hil
  go_enter Try.func33, Try.ntmps33
  go_upto_region 1 with (fail)
  rw [← HW3.out]
  obtain ⟨gc, hgc⟩ : ∃ g, g = w.heap.size := ⟨_, rfl⟩
  obtain ⟨gs, hgs⟩ : ∃ g, g = w.heap.size + 1 := ⟨_, rfl⟩
  obtain ⟨gr, hgr⟩ : ∃ g, g = w.heap.size + 1 + 1 := ⟨_, rfl⟩
  rw [← hgr, ← hgs, ← hgc]
  rw [← hgr] at HB3
  rw [← hgs] at HB2
  rw [← hgc] at HB1
  have HGR : Hid (w.heap.size ≤ gr) := Lib.hid (by omega)
  clear HW3 hgc hgs hgr
  have h0 := HB2.out.cell 0
  obtain ⟨q0, q1, q2, q3, q4⟩ := HAT.out.ext HX3.out HLT.out
  go_upto_region 2 with (fail)
  obtain ⟨W4, hW4⟩ : ∃ W, W = W3.alloc (.cells #[.bool n.up, .bool n.cordon, .bool n.moving, .int .i64 n.version, .int .i64 n.job] 46) := ⟨_, rfl⟩
  have HX4 : Hid (Ext W3 W4) := Lib.hid (by rw [hW4]; exact (Below.refl _ _).alloc (Nat.le_refl _) _)
  have HBN : Hid (Blk W4 W3.heap.size 46 #[.bool n.up, .bool n.cordon, .bool n.moving, .int .i64 n.version, .int .i64 n.job]) := Lib.hid (by rw [hW4]; exact Blk.new _ _ _)
  rw [← hW4]
  obtain ⟨gn, hgn⟩ : ∃ g, g = W3.heap.size := ⟨_, rfl⟩
  rw [← hgn] at HBN ⊢
  have HXW : Hid (Ext w W4) := Lib.hid (Ext.trans HX3.out HX4.out)
  replace HB1 := Lib.hid (HB1.out.ext HX4.out)
  replace HB2 := Lib.hid (HB2.out.ext HX4.out)
  replace HB3 := Lib.hid (HB3.out.ext HX4.out)
  clear hW4 hgn q0 q1 q2 q3 q4 h0 d5 d6 d7 HAT HLT HX4 HX3
  have k4 := HBN.out.cell 4
  by_cases j3 : n.job = 0
  · have HZ : Hid (R = some (18, (i : Int), 0, 0, 0, 0, 0)) := Lib.hid (by rw [HR.out]; unfold secondS jobOf; rw [if_neg (by omega)])
    have d3 : (n.job == 0) = true := by rw [j3]; rfl
    clear j3 hjn
    have HI5 : Hid ((Try.prog.info? 39).map (·.size) = some (#[.int .i64 18, .int .i64 (i : Int), .int .i64 0, .int .i64 0, .int .i64 0, .int .i64 0, .int .i64 0] : Array Value).size) := Lib.hid infoOp
    have HO5 : Hid ((#[.int .i64 18, .int .i64 (i : Int), .int .i64 0, .int .i64 0, .int .i64 0, .int .i64 0, .int .i64 0] : Array Value).all (·.oneCell') = true) := Lib.hid (by simp [Value.oneCell'])
    go_wp2_with (refine wpList_storeB rfl 39 _ _ rfl gr #[.int .i64 18, .int .i64 (i : Int), .int .i64 0, .int .i64 0, .int .i64 0, .int .i64 0, .int .i64 0] rfl rfl 39 _ HB3.out HI5.out rfl HO5.out w.heap.size w HXW.out HGR.out ?_; intro w5 hb5 hx5)
    exact bodyPost_ret (run_op rfl rfl rfl hb5 rfl) rfl ⟨by rw [HZ.out]; rfl, hx5⟩
  · have d3 : (n.job == 0) = false := by simpa using j3
    obtain ⟨m, hm⟩ : ∃ m : Nat, n.job = (m : Int) + 1 := ⟨(n.job - 1).toNat, by omega⟩
    have hml : m < s.jobs.length := by omega
    obtain ⟨x, hxm⟩ : ∃ x, s.jobs[m]? = some x := ⟨_, List.getElem?_eq_getElem hml⟩
    obtain ⟨b2, o2, rfl, hlt2, hat2⟩ := HC'.out m x hxm
    have HRX : Hid (R = if x.phase = 1 then some (11, n.job, 0, 0, 0, 0, 0) else if x.phase ≠ 2 then none else if x.least < (manyS x.nodes : Int) then some (20, n.job, (i : Int), 0, 0, 0, 0) else if c.quota ≤ (drainsS s x.queue : Int) then none else some (12, n.job, if 1000000 < now + c.deadline then 1000000 else now + c.deadline, 0, 0, 0, 0)) := Lib.hid (by rw [HR.out]; unfold secondS; rw [jobOf_in hxm hm])
    obtain ⟨p0, p1, p2, p3, p4, p5, p6, p7, p8, p9, p10, p11⟩ := hat2.ext HXW.out hlt2
    have wp : wrap64 (n.job - 1) = (m : Int) := by rw [IntWalk.wrap64_in _ (by omega)]; omega
    have e6 : (m : Int) < (s.jobs.length : Int) := by omega
    have e7 : (0 : Int) ≤ (m : Int) := by omega
    have e5 : decide (m < s.jobs.length) = true := decide_eq_true hml
    have h1 := HB2.out.cell 1
    clear hxm hm hml j3 hjn HC' hat2 hlt2 HR
    go_upto_region 5 with (fail)
    obtain ⟨W5, hW5⟩ : ∃ W, W = W4.alloc (.cells #[.int .i64 x.queue, .int .i64 x.prio, .int .i64 x.least, .int .i64 x.most, .int .i64 x.work, .int .i64 x.pin, .int .i64 x.phase, .int .i64 x.inc, .int .i64 x.nodes, .int .i64 x.since, .int .i64 x.til, .int .i64 x.epoch] 44) := ⟨_, rfl⟩
    have HX5 : Hid (Ext W4 W5) := Lib.hid (by rw [hW5]; exact (Below.refl _ _).alloc (Nat.le_refl _) _)
    have HBJ : Hid (Blk W5 W4.heap.size 44 #[.int .i64 x.queue, .int .i64 x.prio, .int .i64 x.least, .int .i64 x.most, .int .i64 x.work, .int .i64 x.pin, .int .i64 x.phase, .int .i64 x.inc, .int .i64 x.nodes, .int .i64 x.since, .int .i64 x.til, .int .i64 x.epoch]) := Lib.hid (by rw [hW5]; exact Blk.new _ _ _)
    rw [← hW5]
    obtain ⟨gj, hgj⟩ : ∃ g, g = W4.heap.size := ⟨_, rfl⟩
    rw [← hgj] at HBJ ⊢
    replace HXW := Lib.hid (Ext.trans HXW.out HX5.out)
    replace HB1 := Lib.hid (HB1.out.ext HX5.out)
    replace HB2 := Lib.hid (HB2.out.ext HX5.out)
    replace HB3 := Lib.hid (HB3.out.ext HX5.out)
    replace HBN := Lib.hid (HBN.out.ext HX5.out)
    clear hW5 hgj p0 p1 p2 p3 p4 p5 p6 p7 p8 p9 p10 p11 wp e6 e7 e5 h1 d3 k4 HX5
    have k4 := HBN.out.cell 4
    have j6 := HBJ.out.cell 6
    by_cases ph1 : x.phase = 1
    · have f1 : (x.phase == 1) = true := by rw [ph1]; rfl
      have HZ : Hid (R = some (11, n.job, 0, 0, 0, 0, 0)) := Lib.hid (by rw [HRX.out, if_pos ph1])
      clear ph1
      have HI5 : Hid ((Try.prog.info? 39).map (·.size) = some (#[.int .i64 11, .int .i64 (n.job), .int .i64 0, .int .i64 0, .int .i64 0, .int .i64 0, .int .i64 0] : Array Value).size) := Lib.hid infoOp
      have HO5 : Hid ((#[.int .i64 11, .int .i64 (n.job), .int .i64 0, .int .i64 0, .int .i64 0, .int .i64 0, .int .i64 0] : Array Value).all (·.oneCell') = true) := Lib.hid (by simp [Value.oneCell'])
      go_wp2_with (refine wpList_storeB rfl 39 _ _ rfl gr #[.int .i64 11, .int .i64 (n.job), .int .i64 0, .int .i64 0, .int .i64 0, .int .i64 0, .int .i64 0] rfl rfl 39 _ HB3.out HI5.out rfl HO5.out w.heap.size w HXW.out HGR.out ?_; intro w5 hb5 hx5)
      exact bodyPost_ret (run_op rfl rfl rfl hb5 rfl) rfl ⟨by rw [HZ.out]; rfl, hx5⟩
    · have f1 : (x.phase == 1) = false := by simpa using ph1
      by_cases ph2 : x.phase = 2
      · have f2 : (x.phase != 2) = false := by rw [ph2]; rfl
        obtain ⟨M, hM⟩ : ∃ M, M = manyS x.nodes := ⟨_, rfl⟩
        have HMC : Hid (∀ W, Calls Try.prog 41 #[.int .i64 x.nodes] W fun e w' => e = .returned (.int .i64 (M : Int)) ∧ W = w') := Lib.hid (fun W => by rw [hM]; exact HMA.out x.nodes W)
        have HRY : Hid (R = if x.least < (M : Int) then some (20, n.job, (i : Int), 0, 0, 0, 0) else if c.quota ≤ (drainsS s x.queue : Int) then none else some (12, n.job, if 1000000 < now + c.deadline then 1000000 else now + c.deadline, 0, 0, 0, 0)) := Lib.hid (by rw [HRX.out, if_neg ph1, if_neg (fun h => h ph2), hM])
        clear ph1 ph2 hM HRX HMA
        go_upto_region 9 with (fail)
        clear f1 f2 j6 k4
        refine held_begin (by kernel_rfl) ?_
        refine held_more (S' := fun W' : World => Ext W5 W') (fun _ _ => True.intro) ?_
        have hSx : (fun W' : World => Ext W5 W') W5.drew := Below.drewN' (Ext.refl W5) 1
        refine held_take (i := 0) (v := ?_) rfl (by kernel_rfl) (by kernel_rfl) (by kernel_rfl) (by rfl) (by first | assumption | exact True.intro) ?_ ?_
        rotate_left
        · (intro W hSw; have j2 := (HBJ.out.ext hSw).cell 2; have j8 := (HBJ.out.ext hSw).cell 8; have j0 := (HBJ.out.ext hSw).cell 0; have k2 := (HB1.out.ext hSw).cell 2; obtain ⟨g0, g1, g2, g3, g4, g5⟩ := Blk.six (HB2.out.ext hSw); go_simp; (try with_reducible rfl))
        try simp only [Act.put, List.setIfInBounds_toArray, List.set_cons_zero, List.set_cons_succ]
        refine held_take (i := 1) (v := ?_) rfl (by kernel_rfl) (by kernel_rfl) (by kernel_rfl) (by rfl) (by first | assumption | exact True.intro) ?_ ?_
        rotate_left
        · (intro W hSw; have j2 := (HBJ.out.ext hSw).cell 2; have j8 := (HBJ.out.ext hSw).cell 8; have j0 := (HBJ.out.ext hSw).cell 0; have k2 := (HB1.out.ext hSw).cell 2; obtain ⟨g0, g1, g2, g3, g4, g5⟩ := Blk.six (HB2.out.ext hSw); go_simp; (try with_reducible rfl))
        try simp only [Act.put, List.setIfInBounds_toArray, List.set_cons_zero, List.set_cons_succ]
        refine held_take (i := 3) (v := ?_) rfl (by kernel_rfl) (by kernel_rfl) (by kernel_rfl) (by rfl) (by first | assumption | exact True.intro) ?_ ?_
        rotate_left
        · (intro W hSw; have j2 := (HBJ.out.ext hSw).cell 2; have j8 := (HBJ.out.ext hSw).cell 8; have j0 := (HBJ.out.ext hSw).cell 0; have k2 := (HB1.out.ext hSw).cell 2; obtain ⟨g0, g1, g2, g3, g4, g5⟩ := Blk.six (HB2.out.ext hSw); go_simp; (try with_reducible rfl))
        try simp only [Act.put, List.setIfInBounds_toArray, List.set_cons_zero, List.set_cons_succ]
        refine held_take (i := 4) (v := ?_) rfl (by kernel_rfl) (by kernel_rfl) (by kernel_rfl) (by rfl) (by first | assumption | exact True.intro) ?_ ?_
        rotate_left
        · (intro W hSw; have j2 := (HBJ.out.ext hSw).cell 2; have j8 := (HBJ.out.ext hSw).cell 8; have j0 := (HBJ.out.ext hSw).cell 0; have k2 := (HB1.out.ext hSw).cell 2; obtain ⟨g0, g1, g2, g3, g4, g5⟩ := Blk.six (HB2.out.ext hSw); go_simp; (try with_reducible rfl))
        try simp only [Act.put, List.setIfInBounds_toArray, List.set_cons_zero, List.set_cons_succ]
        clear hSx
        refine held_op (i := 2) (by kernel_rfl) rfl (fun K hK => ?_)
        go_simp
        go_at_call 41
        refine (HMC.out _).mono ?_
        rintro e6 w6 ⟨rfl, rfl⟩
        have HX6 : Hid (Ext W5 W5.drew) := Lib.hid (Below.drewN' (Ext.refl W5) 1)
        refine hK _ _ (HX6.out) (fun hSx => ?_)
        clear hK K
        try simp only [Act.put, List.setIfInBounds_toArray, List.set_cons_zero, List.set_cons_succ]
        refine held_take (i := 5) (v := ?_) rfl (by kernel_rfl) (by kernel_rfl) (by kernel_rfl) (by rfl) (by first | assumption | exact True.intro) ?_ ?_
        rotate_left
        · (intro W hSw; go_simp; (try with_reducible rfl))
        try simp only [Act.put, List.setIfInBounds_toArray, List.set_cons_zero, List.set_cons_succ]
        clear hSx
        refine wpAnyH_done (by kernel_rfl) ?_ _
        refine NoPanic.normal ?_
        obtain ⟨W6, hW6⟩ : ∃ W, W = W5.drew := ⟨_, rfl⟩
        rw [← hW6] at HX6 ⊢
        clear hW6
        replace HXW := Lib.hid (Ext.trans HXW.out HX6.out)
        replace HB1 := Lib.hid (HB1.out.ext HX6.out)
        replace HB2 := Lib.hid (HB2.out.ext HX6.out)
        replace HB3 := Lib.hid (HB3.out.ext HX6.out)
        replace HBN := Lib.hid (HBN.out.ext HX6.out)
        replace HBJ := Lib.hid (HBJ.out.ext HX6.out)
        have k4 := HBN.out.cell 4
        by_cases hl : x.least < (M : Int)
        · have f1 : decide (x.least < (M : Int)) = true := decide_eq_true hl
          rw [f1]
          have HZ : Hid (R = some (20, n.job, (i : Int), 0, 0, 0, 0)) := Lib.hid (by rw [HRY.out, if_pos hl])
          clear hl
          have HI5 : Hid ((Try.prog.info? 39).map (·.size) = some (#[.int .i64 20, .int .i64 (n.job), .int .i64 (i : Int), .int .i64 0, .int .i64 0, .int .i64 0, .int .i64 0] : Array Value).size) := Lib.hid infoOp
          have HO5 : Hid ((#[.int .i64 20, .int .i64 (n.job), .int .i64 (i : Int), .int .i64 0, .int .i64 0, .int .i64 0, .int .i64 0] : Array Value).all (·.oneCell') = true) := Lib.hid (by simp [Value.oneCell'])
          go_wp2_with (refine wpList_storeB rfl 39 _ _ rfl gr #[.int .i64 20, .int .i64 (n.job), .int .i64 (i : Int), .int .i64 0, .int .i64 0, .int .i64 0, .int .i64 0] rfl rfl 39 _ HB3.out HI5.out rfl HO5.out w.heap.size w HXW.out HGR.out ?_; intro w5 hb5 hx5)
          exact bodyPost_ret (run_op rfl rfl rfl hb5 rfl) rfl ⟨by rw [HZ.out]; rfl, hx5⟩
        · have f1 : decide (x.least < (M : Int)) = false := decide_eq_false hl
          rw [f1]
          obtain ⟨DD, hDD⟩ : ∃ d, d = drainsS s x.queue := ⟨_, rfl⟩
          have HDC := Lib.hid (fun W hW => HDR.out x.queue W hW)
          rw [← hDD] at HDC
          have HRV : Hid (R = if c.quota ≤ (DD : Int) then none else some (12, n.job, if 1000000 < now + c.deadline then 1000000 else now + c.deadline, 0, 0, 0, 0)) := Lib.hid (by rw [HRY.out, if_neg hl, hDD])
          clear hl hDD HRY
          go_upto_region 11 with (fail)
          clear f1 k4
          refine held_begin (by kernel_rfl) ?_
          refine held_more (S' := fun W' : World => Ext W6 W') (fun _ _ => True.intro) ?_
          have hSx : (fun W' : World => Ext W6 W') W6.drew := Below.drewN' (Ext.refl W6) 1
          refine held_take (i := 0) (v := ?_) rfl (by kernel_rfl) (by kernel_rfl) (by kernel_rfl) (by rfl) (by first | assumption | exact True.intro) ?_ ?_
          rotate_left
          · (intro W hSw; have j2 := (HBJ.out.ext hSw).cell 2; have j8 := (HBJ.out.ext hSw).cell 8; have j0 := (HBJ.out.ext hSw).cell 0; have k2 := (HB1.out.ext hSw).cell 2; obtain ⟨g0, g1, g2, g3, g4, g5⟩ := Blk.six (HB2.out.ext hSw); go_simp; (try with_reducible rfl))
          try simp only [Act.put, List.setIfInBounds_toArray, List.set_cons_zero, List.set_cons_succ]
          refine held_take (i := 1) (v := ?_) rfl (by kernel_rfl) (by kernel_rfl) (by kernel_rfl) (by rfl) (by first | assumption | exact True.intro) ?_ ?_
          rotate_left
          · (intro W hSw; have j2 := (HBJ.out.ext hSw).cell 2; have j8 := (HBJ.out.ext hSw).cell 8; have j0 := (HBJ.out.ext hSw).cell 0; have k2 := (HB1.out.ext hSw).cell 2; obtain ⟨g0, g1, g2, g3, g4, g5⟩ := Blk.six (HB2.out.ext hSw); go_simp; (try with_reducible rfl))
          try simp only [Act.put, List.setIfInBounds_toArray, List.set_cons_zero, List.set_cons_succ]
          refine held_take (i := 2) (v := ?_) rfl (by kernel_rfl) (by kernel_rfl) (by kernel_rfl) (by rfl) (by first | assumption | exact True.intro) ?_ ?_
          rotate_left
          · (intro W hSw; have j2 := (HBJ.out.ext hSw).cell 2; have j8 := (HBJ.out.ext hSw).cell 8; have j0 := (HBJ.out.ext hSw).cell 0; have k2 := (HB1.out.ext hSw).cell 2; obtain ⟨g0, g1, g2, g3, g4, g5⟩ := Blk.six (HB2.out.ext hSw); go_simp; (try with_reducible rfl))
          try simp only [Act.put, List.setIfInBounds_toArray, List.set_cons_zero, List.set_cons_succ]
          refine held_take (i := 4) (v := ?_) rfl (by kernel_rfl) (by kernel_rfl) (by kernel_rfl) (by rfl) (by first | assumption | exact True.intro) ?_ ?_
          rotate_left
          · (intro W hSw; have j2 := (HBJ.out.ext hSw).cell 2; have j8 := (HBJ.out.ext hSw).cell 8; have j0 := (HBJ.out.ext hSw).cell 0; have k2 := (HB1.out.ext hSw).cell 2; obtain ⟨g0, g1, g2, g3, g4, g5⟩ := Blk.six (HB2.out.ext hSw); go_simp; (try with_reducible rfl))
          try simp only [Act.put, List.setIfInBounds_toArray, List.set_cons_zero, List.set_cons_succ]
          refine held_take (i := 5) (v := ?_) rfl (by kernel_rfl) (by kernel_rfl) (by kernel_rfl) (by rfl) (by first | assumption | exact True.intro) ?_ ?_
          rotate_left
          · (intro W hSw; have j2 := (HBJ.out.ext hSw).cell 2; have j8 := (HBJ.out.ext hSw).cell 8; have j0 := (HBJ.out.ext hSw).cell 0; have k2 := (HB1.out.ext hSw).cell 2; obtain ⟨g0, g1, g2, g3, g4, g5⟩ := Blk.six (HB2.out.ext hSw); go_simp; (try with_reducible rfl))
          try simp only [Act.put, List.setIfInBounds_toArray, List.set_cons_zero, List.set_cons_succ]
          clear hSx
          refine held_op (i := 3) (by kernel_rfl) rfl (fun K hK => ?_)
          go_simp
          go_at_call 42
          refine (HDC.out _ (Ext.trans HXW.out (Below.drewN' (Ext.refl W6) 1))).mono ?_
          rintro e7 w7 ⟨rfl, hx7⟩
          have HX7 : Hid (Ext W6 w7) := Lib.hid (Ext.trans (Below.drewN' (Ext.refl W6) 1) hx7)
          clear hx7
          refine hK _ _ (HX7.out) (fun hSx => ?_)
          clear hK K
          try simp only [Act.put, List.setIfInBounds_toArray, List.set_cons_zero, List.set_cons_succ]
          refine held_take (i := 6) (v := ?_) rfl (by kernel_rfl) (by kernel_rfl) (by kernel_rfl) (by rfl) (by first | assumption | exact True.intro) ?_ ?_
          rotate_left
          · (intro W hSw; go_simp; (try with_reducible rfl))
          try simp only [Act.put, List.setIfInBounds_toArray, List.set_cons_zero, List.set_cons_succ]
          clear hSx
          refine wpAnyH_done (by kernel_rfl) ?_ _
          refine NoPanic.normal ?_
          replace HXW := Lib.hid (Ext.trans HXW.out HX7.out)
          replace HB1 := Lib.hid (HB1.out.ext HX7.out)
          replace HB3 := Lib.hid (HB3.out.ext HX7.out)
          replace HBN := Lib.hid (HBN.out.ext HX7.out)
          have k4 := HBN.out.cell 4
          have k6 := HB1.out.cell 6
          by_cases hq : c.quota ≤ (DD : Int)
          · have f1 : decide (c.quota ≤ (DD : Int)) = true := decide_eq_true hq
            rw [f1]
            have HZ : Hid (R = none) := Lib.hid (by rw [HRV.out, if_pos hq])
            clear hq
            have HI5 : Hid ((Try.prog.info? 39).map (·.size) = some (#[.int .i64 0, .int .i64 0, .int .i64 0, .int .i64 0, .int .i64 0, .int .i64 0, .int .i64 0] : Array Value).size) := Lib.hid infoOp
            have HO5 : Hid ((#[.int .i64 0, .int .i64 0, .int .i64 0, .int .i64 0, .int .i64 0, .int .i64 0, .int .i64 0] : Array Value).all (·.oneCell') = true) := Lib.hid (by simp [Value.oneCell'])
            go_wp2_with (refine wpList_storeB rfl 39 _ _ rfl gr #[.int .i64 0, .int .i64 0, .int .i64 0, .int .i64 0, .int .i64 0, .int .i64 0, .int .i64 0] rfl rfl 39 _ HB3.out HI5.out rfl HO5.out w.heap.size w HXW.out HGR.out ?_; intro w5 hb5 hx5)
            exact bodyPost_ret (run_op rfl rfl rfl hb5 rfl) rfl ⟨by rw [HZ.out]; rfl, hx5⟩
          · have f1 : decide (c.quota ≤ (DD : Int)) = false := decide_eq_false hq
            rw [f1]
            have ww : wrap64 (now + c.deadline) = now + c.deadline := IntWalk.wrap64_in _ (by omega)
            by_cases hu : 1000000 < now + c.deadline
            · have f2 : decide (1000000 < now + c.deadline) = true := decide_eq_true hu
              have HZ : Hid (R = some (12, n.job, 1000000, 0, 0, 0, 0)) := Lib.hid (by rw [HRV.out, if_neg hq, if_pos hu])
              clear hq hu
              have HI5 : Hid ((Try.prog.info? 39).map (·.size) = some (#[.int .i64 12, .int .i64 (n.job), .int .i64 1000000, .int .i64 0, .int .i64 0, .int .i64 0, .int .i64 0] : Array Value).size) := Lib.hid infoOp
              have HO5 : Hid ((#[.int .i64 12, .int .i64 (n.job), .int .i64 1000000, .int .i64 0, .int .i64 0, .int .i64 0, .int .i64 0] : Array Value).all (·.oneCell') = true) := Lib.hid (by simp [Value.oneCell'])
              go_wp2_with (refine wpList_storeB rfl 39 _ _ rfl gr #[.int .i64 12, .int .i64 (n.job), .int .i64 1000000, .int .i64 0, .int .i64 0, .int .i64 0, .int .i64 0] rfl rfl 39 _ HB3.out HI5.out rfl HO5.out w.heap.size w HXW.out HGR.out ?_; intro w5 hb5 hx5)
              exact bodyPost_ret (run_op rfl rfl rfl hb5 rfl) rfl ⟨by rw [HZ.out]; rfl, hx5⟩
            · have f2 : decide (1000000 < now + c.deadline) = false := decide_eq_false hu
              have HZ : Hid (R = some (12, n.job, now + c.deadline, 0, 0, 0, 0)) := Lib.hid (by rw [HRV.out, if_neg hq, if_neg hu])
              clear hq hu
              have HI5 : Hid ((Try.prog.info? 39).map (·.size) = some (#[.int .i64 12, .int .i64 (n.job), .int .i64 (now + c.deadline), .int .i64 0, .int .i64 0, .int .i64 0, .int .i64 0] : Array Value).size) := Lib.hid infoOp
              have HO5 : Hid ((#[.int .i64 12, .int .i64 (n.job), .int .i64 (now + c.deadline), .int .i64 0, .int .i64 0, .int .i64 0, .int .i64 0] : Array Value).all (·.oneCell') = true) := Lib.hid (by simp [Value.oneCell'])
              go_wp2_with (refine wpList_storeB rfl 39 _ _ rfl gr #[.int .i64 12, .int .i64 (n.job), .int .i64 (now + c.deadline), .int .i64 0, .int .i64 0, .int .i64 0, .int .i64 0] rfl rfl 39 _ HB3.out HI5.out rfl HO5.out w.heap.size w HXW.out HGR.out ?_; intro w5 hb5 hx5)
              exact bodyPost_ret (run_op rfl rfl rfl hb5 rfl) rfl ⟨by rw [HZ.out]; rfl, hx5⟩
      · have f2 : (x.phase != 2) = true := by simp only [bne_iff_ne, ne_eq]; exact ph2
        have HZ : Hid (R = none) := Lib.hid (by rw [HRX.out, if_neg ph1, if_pos ph2])
        clear ph1 ph2
        have HI5 : Hid ((Try.prog.info? 39).map (·.size) = some (#[.int .i64 0, .int .i64 0, .int .i64 0, .int .i64 0, .int .i64 0, .int .i64 0, .int .i64 0] : Array Value).size) := Lib.hid infoOp
        have HO5 : Hid ((#[.int .i64 0, .int .i64 0, .int .i64 0, .int .i64 0, .int .i64 0, .int .i64 0, .int .i64 0] : Array Value).all (·.oneCell') = true) := Lib.hid (by simp [Value.oneCell'])
        go_wp2_with (refine wpList_storeB rfl 39 _ _ rfl gr #[.int .i64 0, .int .i64 0, .int .i64 0, .int .i64 0, .int .i64 0, .int .i64 0, .int .i64 0] rfl rfl 39 _ HB3.out HI5.out rfl HO5.out w.heap.size w HXW.out HGR.out ?_; intro w5 hb5 hx5)
        exact bodyPost_ret (run_op rfl rfl rfl hb5 rfl) rfl ⟨by rw [HZ.out]; rfl, hx5⟩

end Go.Proofs.Ytkpcjdhnbjkaaaa
