/- Texts that the proof of X rests on, one behind the other. -/
import Derived.Test.YtgjidkhfnnghiaaXQ3
import Derived.Test.YtgjidkhfnnghiaaXQ4
import Derived.Test.YtgjidkhfnnghiaaXQ5
import Derived.Test.YtgjidkhfnnghiaaXQ6
import Derived.RangeFuncNested
import Derived.RangeFuncBound
import Derived.RangeFuncCalls
import Derived.RangeFuncLeaves
import Derived.RangeFuncBox
import Derived.Shelf.Abstract
import Derived.Shelf.RegionOpen
import Derived.WalkKit
import Derived.OwnWalkIn
import Derived.TacticsInMore
import Derived.LoopNIn
import Derived.LoopIn
import Derived.Sort.Row
import Derived.Deep.LoopGhost
import Derived.Deep.CutBlock
import Derived.Deep.DeepCutAuto
import Derived.Maps.AppendAt
import Derived.Outline
import Derived.Deep.RegionHeld3

/- Package fit: the iterator over a job's choices. -/
namespace Go.Proofs.Ytgjidkhfnnghiaa
open Go.RowKit Go.Shelf

attribute [local go_sem] Oper.semAt_some

/-- A choice as it is handed on: a version, a set. -/
abbrev ChV : Type := {p : Nat × Nat // 1 ≤ p.1 ∧ p.1 ≤ 9 ∧ p.2 < 64}
def isCh (s : St) (x : Jb) (m q : Nat) : Bool := !(x.pin != 0 && x.pin != (q : Int)) && decide (x.least ≤ (manyS (ofN s (m : Int) (q : Int) : Int) : Int))
/-- The choices of the first q versions. -/
def chTo (s : St) (x : Jb) (m q : Nat) : List (Nat × Nat) := ((List.range q).filter fun k => isCh s x m (k + 1)).map fun k => (k + 1, ofN s (m : Int) ((k + 1 : Nat) : Int))

theorem chTo_step (s : St) (x : Jb) (m q : Nat) : chTo s x m (q + 1) = chTo s x m q ++ (if isCh s x m (q + 1) = true then [(q + 1, ofN s (m : Int) ((q + 1 : Nat) : Int))] else []) := by
  unfold chTo
  rw [range_filter_step, List.map_append]
  congr 1
  split <;> rfl
theorem chTo_len (s : St) (x : Jb) (m q : Nat) : (chTo s x m q).length ≤ q := by
  unfold chTo
  rw [List.length_map]
  exact Nat.le_trans (List.length_filter_le _ _) (by simp)

/-- Blocks of cells outside C stand. -/
def KpC (C : Nat → Prop) (W W' : World) : Prop := W.heap.size ≤ W'.heap.size ∧ ∀ k o, W.heap[k]? = some o → o.isCells = true → ¬ C k → W'.heap[k]? = some o
section
variable {C : Nat → Prop} {W W' W'' : World}
theorem KpC.of_ext (h : Ext W W') : KpC C W W' := ⟨h.size, fun k o ho _ _ => (h.block k (Array.getElem?_eq_some_iff.1 ho).1).trans ho⟩
theorem KpC.trans (h : KpC C W W') (k : KpC C W' W'') : KpC C W W'' := ⟨Nat.le_trans h.1 k.1, fun j o ho hc hn => k.2 j o (h.2 j o ho hc hn) hc hn⟩
theorem KpC.blk {g : Nat} {t : TypeId} {cs : Array Value} (h : KpC C W W') (hb : Blk W g t cs) (hg : ¬ C g) : Blk W' g t cs := h.2 g _ hb rfl hg
theorem KpC.cell {b o : Nat} {u : Value} (h : KpC C W W') (hc : W.cell? ⟨b, o, none⟩ = some u) (hb : ¬ C b) : W'.cell? ⟨b, o, none⟩ = some u := by
  obtain ⟨c, e, fr, h1, h2⟩ := Go.Sort.cells_of_cell? hc
  have h3 := h.2 b _ h1 rfl hb
  rw [← hc]
  simp only [World.cell?, h1, h3]
theorem RdS.kp {K : Nat} {wa : World} {v : Value} {n B0 : Nat} {xs : List Value} (hr : RdS K wa v n xs) (hx : Ext wa W) (h : KpC C W W') (hB : wa.heap.size ≤ B0) (hC : ∀ k, C k → B0 ≤ k) : RdS K W' v n xs := by
  obtain ⟨h0, A, c, e, h1, h2, h3⟩ := hr
  refine ⟨h0, A, c, e, h1, h2, fun hn => ?_⟩
  obtain ⟨b, o, hA, hlt, hc⟩ := h3 hn
  refine ⟨b, o, hA, Nat.lt_of_lt_of_le hlt (Nat.le_trans hx.size h.1), fun j u hu => h.cell ((hx.cell (p := ⟨b, o + j, none⟩) hlt).trans (hc j u hu)) (fun hk => by have := hC b hk; omega)⟩
end

set_option maxRecDepth 100000 in
set_option maxHeartbeats 8000000 in
theorem choices1_any (n : Nat) (hn : 1 ≤ n) (l Bj Bm Bs B0 : Nat) (C : Nat → Prop) (vn vj : Value) (s : St) (x : Jb) (m : Nat) (hm : m < 64) (wa W : World) (hrn0 : RdNd wa vn s.nodes) (hxa : Ext wa W) (hB0 : wa.heap.size ≤ B0) (hC0 : ∀ k, C k → B0 ≤ k) (hC1 : ∀ k, C k → k < W.heap.size) (hN : s.nodes.length ≤ 6) (hb1 : Blk W Bj 39 #[.int .i64 x.queue, .int .i64 x.prio, .int .i64 x.least, .int .i64 x.most, .int .i64 x.work, .int .i64 x.pin, .int .i64 x.phase, .int .i64 x.inc, .int .i64 x.nodes, .int .i64 x.since, .int .i64 x.til, .int .i64 x.epoch]) (hb2 : Blk W Bm 3 #[.int .i64 (m : Int)]) (hb3 : Blk W Bs 27 #[vn, vj, .int .i64 s.goal, .int .i64 s.prior, .int .i64 s.mode, .int .i64 s.term]) (n1 : ¬ C Bj) (n2 : ¬ C Bm) (n3 : ¬ C Bs)
    (J Jx : List ChV → World → Prop) (hJ : ∀ pre W W', J pre W → Ext W W' → J pre W')
    (hY : ∀ pre (c : ChV) W, J pre W → pre.length < 9 → YieldAt Fence.wide (n - 1) Try.prog l #[.int .i64 (c.1.1 : Int), .int .i64 (c.1.2 : Int)] W fun e W' =>
      (e = .returned (.bool true) ∧ J (pre ++ [c]) W' ∧ KpC C W W') ∨ (e = .returned (.bool false) ∧ Jx (pre ++ [c]) W'))
    (h0 : J [] W) :
    CallsIn Fence.wide n Try.prog 68 #[.func (.yield l) #[] #[], .pointer (some ⟨Bj, 0, none⟩), .pointer (some ⟨Bm, 0, none⟩), .pointer (some ⟨Bs, 0, none⟩)] W fun e W' => (∃ v, e = .returned v) ∧
      ((∃ xs, xs.map (fun c => c.1) = chTo s x m 9 ∧ J xs W') ∨ (∃ pre, True ∧ Jx pre W')) := by
  have hrn : ∀ X, KpC C W X → RdNd X vn s.nodes := fun X hX => hrn0.kp hxa hX hB0 hC0
  have HX0 : Hid (Ext W (W.alloc (.cells #[.int .i64 1] 3))) := Lib.hid ((Below.refl _ _).alloc (Nat.le_refl _) _)
  have HC1 := Lib.hid hC1
  clear hrn0 hxa hB0 hC0 hC1
  refine callsIn_wide.2 ?_
  go_enter Try.func68, Try.ntmps68
  go_wp2_with fail
  go_loopg [5] 10 (fun gg t wr => ∃ (q g : Nat) (pre : List ChV) (Wl : World), t = .pointer (some ⟨g, 0, none⟩) ∧ gg = 10 - q ∧ q ≤ 9 ∧ Hid (wr.cell? ⟨g, 0, none⟩ = some (.int .i64 ((q : Int) + 1)) ∧ ¬ C g ∧ g < wr.heap.size ∧ pre.map (fun c => c.1) = chTo s x m q ∧ J pre Wl ∧ Ext Wl wr ∧ KpC C W Wl))
  case atStart => exact ⟨0, W.heap.size, [], W, rfl, rfl, Nat.zero_le _, Lib.hid ⟨(Blk.new W 3 #[.int .i64 1]).cell 0, fun h => by have := HC1.out _ h; omega, by simp, rfl, h0, HX0.out, KpC.of_ext (Ext.refl _)⟩⟩
  case round =>
    obtain ⟨q, g, pre, Wl, rfl, rfl, hq, HI⟩ := hrel
    have HXL : Hid (KpC C W wr) := Lib.hid (HI.out.2.2.2.2.2.2.trans (KpC.of_ext HI.out.2.2.2.2.2.1))
    have HB1 := Lib.hid (HXL.out.blk hb1 n1)
    have HB2 := Lib.hid (HXL.out.blk hb2 n2)
    have HB3 := Lib.hid (HXL.out.blk hb3 n3)
    have cg := HI.out.1
    have j5 := HB1.out.cell 5
    by_cases hlt : q < 9
    · have d1 : decide ((q : Int) + 1 ≤ 9) = true := decide_eq_true (by omega)
      by_cases p0 : x.pin = 0
      · have e1 : (x.pin != 0) = false := by rw [p0]; rfl
        have HPN : Hid ((x.pin != 0 && x.pin != ((q + 1 : Nat) : Int)) = false) := Lib.hid (by rw [p0]; rfl)
        have HLT := Lib.hid hlt
        obtain ⟨v, hv⟩ : ∃ v : Int, v = (q : Int) + 1 := ⟨_, rfl⟩
        rw [← hv] at cg d1
        have HV := Lib.hid hv
        clear hv
        have HTH : Hid (∀ W', Ext wr W' → Calls Try.prog 52 #[stV vn vj s, .func (.func 69) #[] #[.pointer (some ⟨g, 0, none⟩)]] W' fun e w' => e = .returned (.int .i64 (bitsF (nodeIs s.nodes (hostV v)) s.nodes.length : Int)) ∧ Ext W' w') := Lib.hid fun W' hW' => thoseHost_any vn vj s g v W' (hrn _ (HXL.out.trans (KpC.of_ext hW'))) hN (hW'.cellOf cg HI.out.2.2.1) (Nat.lt_of_lt_of_le HI.out.2.2.1 hW'.size)
        unfold stV at HTH
        obtain ⟨T, hT⟩ : ∃ T, T = bitsF (nodeIs s.nodes (hostV v)) s.nodes.length := ⟨_, rfl⟩
        rw [← hT] at HTH
        have HT64 : Hid (T < 64) := Lib.hid (by rw [hT]; exact Nat.lt_of_lt_of_le (bitsF_lt _ _) (Nat.pow_le_pow_right (by decide) hN))
        have HAND : Hid (bits .and .i64 (m : Int) (T : Int) = (ofN s (m : Int) v : Int)) := Lib.hid (by rw [and_nat m hm T HT64.out, hT, ofN_and])
        clear hT
        go_upto_region 4 with (fail)
        clear j5 e1 d1
        refine held_begin (by kernel_rfl) ?_
        refine held_more (S' := fun W' : World => Ext wr W') (fun _ _ => True.intro) ?_
        have hSx : (fun W' : World => Ext wr W') wr.drew := Below.drewN' (Ext.refl wr) 1

        refine held_take (i := 0) (v := ?_) rfl (by kernel_rfl) (by kernel_rfl) (by kernel_rfl) (by rfl) (by first | assumption | exact True.intro) ?_ ?_
        rotate_left
        · (intro W hSw; obtain ⟨g0, g1, g2, g3, g4, g5⟩ := Blk.six (HB3.out.ext hSw); have m0 := (HB2.out.ext hSw).cell 0; go_simp; (try with_reducible rfl))
        try simp only [Act.put, List.setIfInBounds_toArray, List.set_cons_zero, List.set_cons_succ]
        refine held_take (i := 1) (v := ?_) rfl (by kernel_rfl) (by kernel_rfl) (by kernel_rfl) (by rfl) (by first | assumption | exact True.intro) ?_ ?_
        rotate_left
        · (intro W hSw; obtain ⟨g0, g1, g2, g3, g4, g5⟩ := Blk.six (HB3.out.ext hSw); have m0 := (HB2.out.ext hSw).cell 0; go_simp; (try with_reducible rfl))
        try simp only [Act.put, List.setIfInBounds_toArray, List.set_cons_zero, List.set_cons_succ]
        refine held_take (i := 2) (v := ?_) rfl (by kernel_rfl) (by kernel_rfl) (by kernel_rfl) (by rfl) (by first | assumption | exact True.intro) ?_ ?_
        rotate_left
        · (intro W hSw; obtain ⟨g0, g1, g2, g3, g4, g5⟩ := Blk.six (HB3.out.ext hSw); have m0 := (HB2.out.ext hSw).cell 0; go_simp; (try with_reducible rfl))
        try simp only [Act.put, List.setIfInBounds_toArray, List.set_cons_zero, List.set_cons_succ]
        clear hSx
        refine held_op (i := 3) (by kernel_rfl) rfl (fun K hK => ?_)
        go_simp
        go_at_call 52
        refine (HTH.out _ (Below.drewN' (Ext.refl wr) 1)).mono ?_
        rintro e3 w3 ⟨rfl, hx3⟩
        have HX3 : Hid (Ext wr w3) := Lib.hid (Ext.trans (Below.drewN' (Ext.refl wr) 1) hx3)
        clear hx3
        have ha := HAND.out
        refine hK _ _ (HX3.out) (fun hSx => ?_)
        clear hK K
        try simp only [Act.put, List.setIfInBounds_toArray, List.set_cons_zero, List.set_cons_succ]
        refine held_take (i := 4) (v := ?_) rfl (by kernel_rfl) (by kernel_rfl) (by kernel_rfl) (by rfl) (by first | assumption | exact True.intro) ?_ ?_
        rotate_left
        · (intro W hSw; go_simp; (try with_reducible rfl))
        try simp only [Act.put, List.setIfInBounds_toArray, List.set_cons_zero, List.set_cons_succ]
        refine held_take (i := 5) (v := ?_) rfl (by kernel_rfl) (by kernel_rfl) (by kernel_rfl) (by rfl) (by first | assumption | exact True.intro) ?_ ?_
        rotate_left
        · (intro W hSw; go_simp; (try with_reducible rfl))
        try simp only [Act.put, List.setIfInBounds_toArray, List.set_cons_zero, List.set_cons_succ]
        clear hSx
        refine wpAnyH_done (by kernel_rfl) ?_ _
        refine NoPanic.normal ?_
        obtain ⟨D, hD⟩ : ∃ D, D = ofN s (m : Int) v := ⟨_, rfl⟩
        rw [← hD]
        have HD := Lib.hid hD
        have HD64 : Hid (D < 64) := Lib.hid (by rw [hD]; exact Nat.lt_of_lt_of_le (bitsF_lt _ _) (Nat.pow_le_pow_right (by decide) hN))
        obtain ⟨M, hM⟩ : ∃ M, M = manyS (D : Int) := ⟨_, rfl⟩
        have HCN : Hid (∀ W, Calls Try.prog 58 #[.int .i64 (D : Int)] W fun e w' => e = .returned (.int .i64 (M : Int)) ∧ W = w') := Lib.hid (fun W => by rw [hM]; exact Count_any D HD64.out W)
        have HM := Lib.hid hM
        clear hD ha hM
        go_upto_region 5 with (fail)
        by_cases a1 : x.least ≤ (M : Int)
        · have f1 : decide (x.least ≤ (M : Int)) = true := decide_eq_true a1
          have HDV : Hid (D = ofN s (m : Int) ((q + 1 : Nat) : Int)) := Lib.hid (by rw [HD.out, HV.out]; rfl)
          have HIS : Hid (isCh s x m (q + 1) = true) := Lib.hid (by unfold isCh; rw [← HDV.out, ← HM.out, decide_eq_true a1, HPN.out]; rfl)
          obtain ⟨ch, hch⟩ : ∃ c : ChV, c.1 = (q + 1, D) := ⟨⟨(q + 1, D), by show 1 ≤ q + 1; omega, by show q + 1 ≤ 9; omega, HD64.out⟩, rfl⟩
          have HY := Lib.hid (hY pre ch w3.drew (hJ pre Wl w3.drew HI.out.2.2.2.2.1 (Ext.trans HI.out.2.2.2.2.2.1 (Ext.trans HX3.out (Below.drewN' (Ext.refl w3) 1)))) (by rw [← List.length_map (f := fun c : ChV => c.1), HI.out.2.2.2.1]; exact Nat.lt_of_le_of_lt (chTo_len s x m q) HLT.out))
          have HXD : Hid (Ext wr w3.drew) := Lib.hid (Ext.trans HX3.out (Below.drewN' (Ext.refl w3) 1))
          have j2 := (HB1.out.ext HXD.out).cell 2
          have cg := HXD.out.cellOf HI.out.1 HI.out.2.2.1
          rw [← HV.out] at cg
          obtain ⟨fn, tmps, assign, body, hy, hR⟩ := HY.out
          rw [hch] at hy
          dsimp only at hy
          rw [show ((q + 1 : Nat) : Int) = v by rw [HV.out]; rfl] at hy
          have hRb := hR.mono (R' := fun e W' => ∃ b : Bool, e = .returned (.bool b) ∧ Hid ((b = true → J (pre ++ [ch]) W' ∧ KpC C w3.drew W') ∧ (b = false → Jx (pre ++ [ch]) W'))) (by rintro e W' (⟨rfl, h1, h2⟩ | ⟨rfl, h1⟩); exact ⟨true, rfl, Lib.hid ⟨fun _ => ⟨h1, h2⟩, fun h => (by cases h)⟩⟩; exact ⟨false, rfl, Lib.hid ⟨fun h => (by cases h), fun _ => h1⟩⟩)
          clear hR
          refine (wpIn_wide (n := n)).1 ?_
          have hmix : Try.prog.follows .mixedOrders = true := by kernel_rfl
          gi_region_with_o (first | (refine ⟨trivial, ?_⟩; gi_at_call 58; refine (callsIn_wide.2 (HCN.out _)).mono ?_; rintro e4 w4 ⟨rfl, rfl⟩) | (refine hRb.mono ?_; rintro e5 w5 ⟨bb, rfl, hbb⟩))
          all_goals go_simp
          all_goals rcases bb with _ | _
          · have hst := hbb.out.2 rfl
            clear hbb hRb hy
            repeat (first | go_values | go_skip | go_guarded | go_step | go_upon | (simp only []))
            refine bodyPost_ret (results_none rfl _ _ _) rfl ?_
            exact ⟨⟨_, rfl⟩, .inr ⟨pre ++ [ch], trivial, hst⟩⟩
          · have HJ5 := Lib.hid (hbb.out.1 rfl)
            have HX5 : Hid (KpC C wr w5) := Lib.hid ((KpC.of_ext HXD.out).trans HJ5.out.2)
            have cg5 := HX5.out.cell HI.out.1 HI.out.2.1
            rw [← HV.out] at cg5
            have hgl : g < w5.heap.size := Nat.lt_of_lt_of_le HI.out.2.2.1 HX5.out.1
            have wv : wrap64 (v + 1) = v + 1 := IntWalk.wrap64_in _ (by have := HV.out; omega)
            clear hbb hRb hy
            repeat (first | go_values | go_skip | go_guarded | go_step | go_upon | (simp only []))
            go_roundg (10 - (q + 1))
            case measure => have := HLT.out; omega
            case rel => exact ⟨q + 1, w5.heap.size, pre ++ [ch], w5, rfl, rfl, HLT.out, Lib.hid ⟨by have h9 := (Blk.new w5 3 #[.int .i64 (v + 1)]).cell 0; rw [show (((q + 1 : Nat) : Int) + 1) = v + 1 by rw [HV.out]; rfl]; exact h9, fun h => (by have := HC1.out _ h; have := HXL.out.1; have := HX5.out.1; omega), by simp, by rw [List.map_append, HI.out.2.2.2.1, chTo_step, if_pos HIS.out]; show _ ++ [ch.1] = _; rw [hch, HDV.out], HJ5.out.1, (Below.refl _ _).alloc (Nat.le_refl _) _, HXL.out.trans HX5.out⟩⟩
          · have hst := hbb.out.2 rfl
            clear hbb hRb hy
            repeat (first | go_values | go_skip | go_guarded | go_step | go_upon | (simp only []))
            refine bodyPost_ret (results_none rfl _ _ _) rfl ?_
            exact ⟨⟨_, rfl⟩, .inr ⟨pre ++ [ch], trivial, hst⟩⟩
          · have HJ5 := Lib.hid (hbb.out.1 rfl)
            have HX5 : Hid (KpC C wr w5) := Lib.hid ((KpC.of_ext HXD.out).trans HJ5.out.2)
            have cg5 := HX5.out.cell HI.out.1 HI.out.2.1
            rw [← HV.out] at cg5
            have hgl : g < w5.heap.size := Nat.lt_of_lt_of_le HI.out.2.2.1 HX5.out.1
            have wv : wrap64 (v + 1) = v + 1 := IntWalk.wrap64_in _ (by have := HV.out; omega)
            clear hbb hRb hy
            repeat (first | go_values | go_skip | go_guarded | go_step | go_upon | (simp only []))
            go_roundg (10 - (q + 1))
            case measure => have := HLT.out; omega
            case rel => exact ⟨q + 1, w5.heap.size, pre ++ [ch], w5, rfl, rfl, HLT.out, Lib.hid ⟨by have h9 := (Blk.new w5 3 #[.int .i64 (v + 1)]).cell 0; rw [show (((q + 1 : Nat) : Int) + 1) = v + 1 by rw [HV.out]; rfl]; exact h9, fun h => (by have := HC1.out _ h; have := HXL.out.1; have := HX5.out.1; omega), by simp, by rw [List.map_append, HI.out.2.2.2.1, chTo_step, if_pos HIS.out]; show _ ++ [ch.1] = _; rw [hch, HDV.out], HJ5.out.1, (Below.refl _ _).alloc (Nat.le_refl _) _, HXL.out.trans HX5.out⟩⟩
        · have f1 : decide (x.least ≤ (M : Int)) = false := decide_eq_false a1
          have HDV : Hid (D = ofN s (m : Int) ((q + 1 : Nat) : Int)) := Lib.hid (by rw [HD.out, HV.out]; rfl)
          have HIS : Hid (isCh s x m (q + 1) = false) := Lib.hid (by unfold isCh; rw [← HDV.out, ← HM.out, decide_eq_false a1, Bool.and_false])
          refine held_begin (by kernel_rfl) ?_
          refine held_more (S' := fun W' : World => Ext w3 W') (fun _ _ => True.intro) ?_
          have hSx : (fun W' : World => Ext w3 W') w3.drew := Below.drewN' (Ext.refl w3) 1
          refine held_take (i := 0) (v := ?_) rfl (by kernel_rfl) (by kernel_rfl) (by kernel_rfl) (by rfl) (by first | assumption | exact True.intro) ?_ ?_
          rotate_left
          · (intro W hSw; have j2 := (HB1.out.ext (Ext.trans HX3.out hSw)).cell 2; go_simp; (try with_reducible rfl))
          try simp only [Act.put, List.setIfInBounds_toArray, List.set_cons_zero, List.set_cons_succ]
          refine held_take (i := 2) (v := ?_) rfl (by kernel_rfl) (by kernel_rfl) (by kernel_rfl) (by rfl) (by first | assumption | exact True.intro) ?_ ?_
          rotate_left
          · (intro W hSw; have j2 := (HB1.out.ext (Ext.trans HX3.out hSw)).cell 2; go_simp; (try with_reducible rfl))
          try simp only [Act.put, List.setIfInBounds_toArray, List.set_cons_zero, List.set_cons_succ]
          refine held_take (i := 3) (v := ?_) rfl (by kernel_rfl) (by kernel_rfl) (by kernel_rfl) (by rfl) (by first | assumption | exact True.intro) ?_ ?_
          rotate_left
          · (intro W hSw; have j2 := (HB1.out.ext (Ext.trans HX3.out hSw)).cell 2; go_simp; (try with_reducible rfl))
          try simp only [Act.put, List.setIfInBounds_toArray, List.set_cons_zero, List.set_cons_succ]
          clear hSx
          refine held_op (i := 1) (by kernel_rfl) rfl (fun K hK => ?_)
          go_simp
          go_at_call 58
          refine (HCN.out _).mono ?_
          rintro e4 w4 ⟨rfl, rfl⟩
          have HX4 : Hid (Ext w3 w3.drew) := Lib.hid (Below.drewN' (Ext.refl w3) 1)
          refine hK _ _ (HX4.out) (fun hSx => ?_)
          clear hK K
          try simp only [Act.put, List.setIfInBounds_toArray, List.set_cons_zero, List.set_cons_succ]
          refine held_take (i := 4) (v := ?_) rfl (by kernel_rfl) (by kernel_rfl) (by kernel_rfl) (by rfl) (by first | assumption | exact True.intro) ?_ ?_
          rotate_left
          · (intro W hSw; go_simp; (try with_reducible rfl))
          try simp only [Act.put, List.setIfInBounds_toArray, List.set_cons_zero, List.set_cons_succ]
          refine held_take (i := 5) (v := ?_) rfl (by kernel_rfl) (by kernel_rfl) (by kernel_rfl) (by rfl) (by first | assumption | exact True.intro) ?_ ?_
          rotate_left
          · (intro W hSw; go_simp; (try with_reducible rfl))
          try simp only [Act.put, List.setIfInBounds_toArray, List.set_cons_zero, List.set_cons_succ]
          refine held_skip (i := 6) rfl (by kernel_rfl) (by kernel_rfl) (by kernel_rfl) (by rfl) (by first | assumption | exact True.intro) ?_
          try simp only [Act.put, List.setIfInBounds_toArray, List.set_cons_zero, List.set_cons_succ]
          refine held_skip (i := 7) rfl (by kernel_rfl) (by kernel_rfl) (by kernel_rfl) (by rfl) (by first | assumption | exact True.intro) ?_
          try simp only [Act.put, List.setIfInBounds_toArray, List.set_cons_zero, List.set_cons_succ]
          refine held_skip (i := 8) rfl (by kernel_rfl) (by kernel_rfl) (by kernel_rfl) (by rfl) (by first | assumption | exact True.intro) ?_
          try simp only [Act.put, List.setIfInBounds_toArray, List.set_cons_zero, List.set_cons_succ]
          refine held_skip (i := 9) rfl (by kernel_rfl) (by kernel_rfl) (by kernel_rfl) (by rfl) (by first | assumption | exact True.intro) ?_
          try simp only [Act.put, List.setIfInBounds_toArray, List.set_cons_zero, List.set_cons_succ]
          refine held_skip (i := 10) rfl (by kernel_rfl) (by kernel_rfl) (by kernel_rfl) (by rfl) (by first | assumption | exact True.intro) ?_
          try simp only [Act.put, List.setIfInBounds_toArray, List.set_cons_zero, List.set_cons_succ]
          refine held_take (i := 11) (v := ?_) rfl (by kernel_rfl) (by kernel_rfl) (by kernel_rfl) (by rfl) (by first | assumption | exact True.intro) ?_ ?_
          rotate_left
          · (intro W hSw; go_simp; (try with_reducible rfl))
          try simp only [Act.put, List.setIfInBounds_toArray, List.set_cons_zero, List.set_cons_succ]
          clear hSx
          refine wpAnyH_done (by kernel_rfl) ?_ _
          refine NoPanic.normal ?_
          have HXE0 : Hid (Ext wr w3.drew) := Lib.hid (Ext.trans HX3.out HX4.out)
          obtain ⟨w4, hw4⟩ : ∃ w, w = w3.drew := ⟨_, rfl⟩
          rw [← hw4] at HXE0 ⊢
          clear hw4
          have HXK : Hid (KpC C wr w4) := Lib.hid (KpC.of_ext HXE0.out)
          have cg5 := HXK.out.cell HI.out.1 HI.out.2.1
          rw [← HV.out] at cg5
          have wv : wrap64 (v + 1) = v + 1 := IntWalk.wrap64_in _ (by have := HV.out; omega)
          repeat (first | go_values | go_skip | go_guarded | go_step | go_upon | (simp only []))
          go_roundg (10 - (q + 1))
          case measure => have := HLT.out; omega
          case rel => exact ⟨q + 1, w4.heap.size, pre, w4, rfl, rfl, HLT.out, Lib.hid ⟨by have h9 := (Blk.new w4 3 #[.int .i64 (v + 1)]).cell 0; rw [show (((q + 1 : Nat) : Int) + 1) = v + 1 by rw [HV.out]; rfl]; exact h9, fun h => (by have := HC1.out _ h; have := HXL.out.1; have := HXK.out.1; omega), by simp, by rw [HI.out.2.2.2.1, chTo_step, if_neg (by rw [HIS.out]; simp), List.append_nil], (hJ pre Wl w4 HI.out.2.2.2.2.1 (Ext.trans HI.out.2.2.2.2.2.1 HXE0.out)), (Below.refl _ _).alloc (Nat.le_refl _) _, HXL.out.trans HXK.out⟩⟩
      · have e1 : (x.pin != 0) = true := by simp only [bne_iff_ne, ne_eq]; exact p0
        by_cases pv : x.pin = (q : Int) + 1
        · have e2 : (x.pin != (q : Int) + 1) = false := by rw [pv]; simp
          have HPN : Hid ((x.pin != 0 && x.pin != ((q + 1 : Nat) : Int)) = false) := Lib.hid (by rw [show ((q + 1 : Nat) : Int) = x.pin by rw [pv]; rfl]; simp)
          clear pv p0
          have HLT := Lib.hid hlt
          obtain ⟨v, hv⟩ : ∃ v : Int, v = (q : Int) + 1 := ⟨_, rfl⟩
          rw [← hv] at cg d1 e2
          have HV := Lib.hid hv
          clear hv
          have HTH : Hid (∀ W', Ext wr W' → Calls Try.prog 52 #[stV vn vj s, .func (.func 69) #[] #[.pointer (some ⟨g, 0, none⟩)]] W' fun e w' => e = .returned (.int .i64 (bitsF (nodeIs s.nodes (hostV v)) s.nodes.length : Int)) ∧ Ext W' w') := Lib.hid fun W' hW' => thoseHost_any vn vj s g v W' (hrn _ (HXL.out.trans (KpC.of_ext hW'))) hN (hW'.cellOf cg HI.out.2.2.1) (Nat.lt_of_lt_of_le HI.out.2.2.1 hW'.size)
          unfold stV at HTH
          obtain ⟨T, hT⟩ : ∃ T, T = bitsF (nodeIs s.nodes (hostV v)) s.nodes.length := ⟨_, rfl⟩
          rw [← hT] at HTH
          have HT64 : Hid (T < 64) := Lib.hid (by rw [hT]; exact Nat.lt_of_lt_of_le (bitsF_lt _ _) (Nat.pow_le_pow_right (by decide) hN))
          have HAND : Hid (bits .and .i64 (m : Int) (T : Int) = (ofN s (m : Int) v : Int)) := Lib.hid (by rw [and_nat m hm T HT64.out, hT, ofN_and])
          clear hT
          go_upto_region 4 with (fail)
          clear j5 e1 e2 d1
          refine held_begin (by kernel_rfl) ?_
          refine held_more (S' := fun W' : World => Ext wr W') (fun _ _ => True.intro) ?_
          have hSx : (fun W' : World => Ext wr W') wr.drew := Below.drewN' (Ext.refl wr) 1
  
          refine held_take (i := 0) (v := ?_) rfl (by kernel_rfl) (by kernel_rfl) (by kernel_rfl) (by rfl) (by first | assumption | exact True.intro) ?_ ?_
          rotate_left
          · (intro W hSw; obtain ⟨g0, g1, g2, g3, g4, g5⟩ := Blk.six (HB3.out.ext hSw); have m0 := (HB2.out.ext hSw).cell 0; go_simp; (try with_reducible rfl))
          try simp only [Act.put, List.setIfInBounds_toArray, List.set_cons_zero, List.set_cons_succ]
          refine held_take (i := 1) (v := ?_) rfl (by kernel_rfl) (by kernel_rfl) (by kernel_rfl) (by rfl) (by first | assumption | exact True.intro) ?_ ?_
          rotate_left
          · (intro W hSw; obtain ⟨g0, g1, g2, g3, g4, g5⟩ := Blk.six (HB3.out.ext hSw); have m0 := (HB2.out.ext hSw).cell 0; go_simp; (try with_reducible rfl))
          try simp only [Act.put, List.setIfInBounds_toArray, List.set_cons_zero, List.set_cons_succ]
          refine held_take (i := 2) (v := ?_) rfl (by kernel_rfl) (by kernel_rfl) (by kernel_rfl) (by rfl) (by first | assumption | exact True.intro) ?_ ?_
          rotate_left
          · (intro W hSw; obtain ⟨g0, g1, g2, g3, g4, g5⟩ := Blk.six (HB3.out.ext hSw); have m0 := (HB2.out.ext hSw).cell 0; go_simp; (try with_reducible rfl))
          try simp only [Act.put, List.setIfInBounds_toArray, List.set_cons_zero, List.set_cons_succ]
          clear hSx
          refine held_op (i := 3) (by kernel_rfl) rfl (fun K hK => ?_)
          go_simp
          go_at_call 52
          refine (HTH.out _ (Below.drewN' (Ext.refl wr) 1)).mono ?_
          rintro e3 w3 ⟨rfl, hx3⟩
          have HX3 : Hid (Ext wr w3) := Lib.hid (Ext.trans (Below.drewN' (Ext.refl wr) 1) hx3)
          clear hx3
          have ha := HAND.out
          refine hK _ _ (HX3.out) (fun hSx => ?_)
          clear hK K
          try simp only [Act.put, List.setIfInBounds_toArray, List.set_cons_zero, List.set_cons_succ]
          refine held_take (i := 4) (v := ?_) rfl (by kernel_rfl) (by kernel_rfl) (by kernel_rfl) (by rfl) (by first | assumption | exact True.intro) ?_ ?_
          rotate_left
          · (intro W hSw; go_simp; (try with_reducible rfl))
          try simp only [Act.put, List.setIfInBounds_toArray, List.set_cons_zero, List.set_cons_succ]
          refine held_take (i := 5) (v := ?_) rfl (by kernel_rfl) (by kernel_rfl) (by kernel_rfl) (by rfl) (by first | assumption | exact True.intro) ?_ ?_
          rotate_left
          · (intro W hSw; go_simp; (try with_reducible rfl))
          try simp only [Act.put, List.setIfInBounds_toArray, List.set_cons_zero, List.set_cons_succ]
          clear hSx
          refine wpAnyH_done (by kernel_rfl) ?_ _
          refine NoPanic.normal ?_
          obtain ⟨D, hD⟩ : ∃ D, D = ofN s (m : Int) v := ⟨_, rfl⟩
          rw [← hD]
          have HD := Lib.hid hD
          have HD64 : Hid (D < 64) := Lib.hid (by rw [hD]; exact Nat.lt_of_lt_of_le (bitsF_lt _ _) (Nat.pow_le_pow_right (by decide) hN))
          obtain ⟨M, hM⟩ : ∃ M, M = manyS (D : Int) := ⟨_, rfl⟩
          have HCN : Hid (∀ W, Calls Try.prog 58 #[.int .i64 (D : Int)] W fun e w' => e = .returned (.int .i64 (M : Int)) ∧ W = w') := Lib.hid (fun W => by rw [hM]; exact Count_any D HD64.out W)
          have HM := Lib.hid hM
          clear hD ha hM
          go_upto_region 5 with (fail)
          by_cases a1 : x.least ≤ (M : Int)
          · have f1 : decide (x.least ≤ (M : Int)) = true := decide_eq_true a1
            have HDV : Hid (D = ofN s (m : Int) ((q + 1 : Nat) : Int)) := Lib.hid (by rw [HD.out, HV.out]; rfl)
            have HIS : Hid (isCh s x m (q + 1) = true) := Lib.hid (by unfold isCh; rw [← HDV.out, ← HM.out, decide_eq_true a1, HPN.out]; rfl)
            obtain ⟨ch, hch⟩ : ∃ c : ChV, c.1 = (q + 1, D) := ⟨⟨(q + 1, D), by show 1 ≤ q + 1; omega, by show q + 1 ≤ 9; omega, HD64.out⟩, rfl⟩
            have HY := Lib.hid (hY pre ch w3.drew (hJ pre Wl w3.drew HI.out.2.2.2.2.1 (Ext.trans HI.out.2.2.2.2.2.1 (Ext.trans HX3.out (Below.drewN' (Ext.refl w3) 1)))) (by rw [← List.length_map (f := fun c : ChV => c.1), HI.out.2.2.2.1]; exact Nat.lt_of_le_of_lt (chTo_len s x m q) HLT.out))
            have HXD : Hid (Ext wr w3.drew) := Lib.hid (Ext.trans HX3.out (Below.drewN' (Ext.refl w3) 1))
            have j2 := (HB1.out.ext HXD.out).cell 2
            have cg := HXD.out.cellOf HI.out.1 HI.out.2.2.1
            rw [← HV.out] at cg
            obtain ⟨fn, tmps, assign, body, hy, hR⟩ := HY.out
            rw [hch] at hy
            dsimp only at hy
            rw [show ((q + 1 : Nat) : Int) = v by rw [HV.out]; rfl] at hy
            have hRb := hR.mono (R' := fun e W' => ∃ b : Bool, e = .returned (.bool b) ∧ Hid ((b = true → J (pre ++ [ch]) W' ∧ KpC C w3.drew W') ∧ (b = false → Jx (pre ++ [ch]) W'))) (by rintro e W' (⟨rfl, h1, h2⟩ | ⟨rfl, h1⟩); exact ⟨true, rfl, Lib.hid ⟨fun _ => ⟨h1, h2⟩, fun h => (by cases h)⟩⟩; exact ⟨false, rfl, Lib.hid ⟨fun h => (by cases h), fun _ => h1⟩⟩)
            clear hR
            refine (wpIn_wide (n := n)).1 ?_
            have hmix : Try.prog.follows .mixedOrders = true := by kernel_rfl
            gi_region_with_o (first | (refine ⟨trivial, ?_⟩; gi_at_call 58; refine (callsIn_wide.2 (HCN.out _)).mono ?_; rintro e4 w4 ⟨rfl, rfl⟩) | (refine hRb.mono ?_; rintro e5 w5 ⟨bb, rfl, hbb⟩))
            all_goals go_simp
            all_goals rcases bb with _ | _
            · have hst := hbb.out.2 rfl
              clear hbb hRb hy
              repeat (first | go_values | go_skip | go_guarded | go_step | go_upon | (simp only []))
              refine bodyPost_ret (results_none rfl _ _ _) rfl ?_
              exact ⟨⟨_, rfl⟩, .inr ⟨pre ++ [ch], trivial, hst⟩⟩
            · have HJ5 := Lib.hid (hbb.out.1 rfl)
              have HX5 : Hid (KpC C wr w5) := Lib.hid ((KpC.of_ext HXD.out).trans HJ5.out.2)
              have cg5 := HX5.out.cell HI.out.1 HI.out.2.1
              rw [← HV.out] at cg5
              have hgl : g < w5.heap.size := Nat.lt_of_lt_of_le HI.out.2.2.1 HX5.out.1
              have wv : wrap64 (v + 1) = v + 1 := IntWalk.wrap64_in _ (by have := HV.out; omega)
              clear hbb hRb hy
              repeat (first | go_values | go_skip | go_guarded | go_step | go_upon | (simp only []))
              go_roundg (10 - (q + 1))
              case measure => have := HLT.out; omega
              case rel => exact ⟨q + 1, w5.heap.size, pre ++ [ch], w5, rfl, rfl, HLT.out, Lib.hid ⟨by have h9 := (Blk.new w5 3 #[.int .i64 (v + 1)]).cell 0; rw [show (((q + 1 : Nat) : Int) + 1) = v + 1 by rw [HV.out]; rfl]; exact h9, fun h => (by have := HC1.out _ h; have := HXL.out.1; have := HX5.out.1; omega), by simp, by rw [List.map_append, HI.out.2.2.2.1, chTo_step, if_pos HIS.out]; show _ ++ [ch.1] = _; rw [hch, HDV.out], HJ5.out.1, (Below.refl _ _).alloc (Nat.le_refl _) _, HXL.out.trans HX5.out⟩⟩
            · have hst := hbb.out.2 rfl
              clear hbb hRb hy
              repeat (first | go_values | go_skip | go_guarded | go_step | go_upon | (simp only []))
              refine bodyPost_ret (results_none rfl _ _ _) rfl ?_
              exact ⟨⟨_, rfl⟩, .inr ⟨pre ++ [ch], trivial, hst⟩⟩
            · have HJ5 := Lib.hid (hbb.out.1 rfl)
              have HX5 : Hid (KpC C wr w5) := Lib.hid ((KpC.of_ext HXD.out).trans HJ5.out.2)
              have cg5 := HX5.out.cell HI.out.1 HI.out.2.1
              rw [← HV.out] at cg5
              have hgl : g < w5.heap.size := Nat.lt_of_lt_of_le HI.out.2.2.1 HX5.out.1
              have wv : wrap64 (v + 1) = v + 1 := IntWalk.wrap64_in _ (by have := HV.out; omega)
              clear hbb hRb hy
              repeat (first | go_values | go_skip | go_guarded | go_step | go_upon | (simp only []))
              go_roundg (10 - (q + 1))
              case measure => have := HLT.out; omega
              case rel => exact ⟨q + 1, w5.heap.size, pre ++ [ch], w5, rfl, rfl, HLT.out, Lib.hid ⟨by have h9 := (Blk.new w5 3 #[.int .i64 (v + 1)]).cell 0; rw [show (((q + 1 : Nat) : Int) + 1) = v + 1 by rw [HV.out]; rfl]; exact h9, fun h => (by have := HC1.out _ h; have := HXL.out.1; have := HX5.out.1; omega), by simp, by rw [List.map_append, HI.out.2.2.2.1, chTo_step, if_pos HIS.out]; show _ ++ [ch.1] = _; rw [hch, HDV.out], HJ5.out.1, (Below.refl _ _).alloc (Nat.le_refl _) _, HXL.out.trans HX5.out⟩⟩
          · have f1 : decide (x.least ≤ (M : Int)) = false := decide_eq_false a1
            have HDV : Hid (D = ofN s (m : Int) ((q + 1 : Nat) : Int)) := Lib.hid (by rw [HD.out, HV.out]; rfl)
            have HIS : Hid (isCh s x m (q + 1) = false) := Lib.hid (by unfold isCh; rw [← HDV.out, ← HM.out, decide_eq_false a1, Bool.and_false])
            refine held_begin (by kernel_rfl) ?_
            refine held_more (S' := fun W' : World => Ext w3 W') (fun _ _ => True.intro) ?_
            have hSx : (fun W' : World => Ext w3 W') w3.drew := Below.drewN' (Ext.refl w3) 1
            refine held_take (i := 0) (v := ?_) rfl (by kernel_rfl) (by kernel_rfl) (by kernel_rfl) (by rfl) (by first | assumption | exact True.intro) ?_ ?_
            rotate_left
            · (intro W hSw; have j2 := (HB1.out.ext (Ext.trans HX3.out hSw)).cell 2; go_simp; (try with_reducible rfl))
            try simp only [Act.put, List.setIfInBounds_toArray, List.set_cons_zero, List.set_cons_succ]
            refine held_take (i := 2) (v := ?_) rfl (by kernel_rfl) (by kernel_rfl) (by kernel_rfl) (by rfl) (by first | assumption | exact True.intro) ?_ ?_
            rotate_left
            · (intro W hSw; have j2 := (HB1.out.ext (Ext.trans HX3.out hSw)).cell 2; go_simp; (try with_reducible rfl))
            try simp only [Act.put, List.setIfInBounds_toArray, List.set_cons_zero, List.set_cons_succ]
            refine held_take (i := 3) (v := ?_) rfl (by kernel_rfl) (by kernel_rfl) (by kernel_rfl) (by rfl) (by first | assumption | exact True.intro) ?_ ?_
            rotate_left
            · (intro W hSw; have j2 := (HB1.out.ext (Ext.trans HX3.out hSw)).cell 2; go_simp; (try with_reducible rfl))
            try simp only [Act.put, List.setIfInBounds_toArray, List.set_cons_zero, List.set_cons_succ]
            clear hSx
            refine held_op (i := 1) (by kernel_rfl) rfl (fun K hK => ?_)
            go_simp
            go_at_call 58
            refine (HCN.out _).mono ?_
            rintro e4 w4 ⟨rfl, rfl⟩
            have HX4 : Hid (Ext w3 w3.drew) := Lib.hid (Below.drewN' (Ext.refl w3) 1)
            refine hK _ _ (HX4.out) (fun hSx => ?_)
            clear hK K
            try simp only [Act.put, List.setIfInBounds_toArray, List.set_cons_zero, List.set_cons_succ]
            refine held_take (i := 4) (v := ?_) rfl (by kernel_rfl) (by kernel_rfl) (by kernel_rfl) (by rfl) (by first | assumption | exact True.intro) ?_ ?_
            rotate_left
            · (intro W hSw; go_simp; (try with_reducible rfl))
            try simp only [Act.put, List.setIfInBounds_toArray, List.set_cons_zero, List.set_cons_succ]
            refine held_take (i := 5) (v := ?_) rfl (by kernel_rfl) (by kernel_rfl) (by kernel_rfl) (by rfl) (by first | assumption | exact True.intro) ?_ ?_
            rotate_left
            · (intro W hSw; go_simp; (try with_reducible rfl))
            try simp only [Act.put, List.setIfInBounds_toArray, List.set_cons_zero, List.set_cons_succ]
            refine held_skip (i := 6) rfl (by kernel_rfl) (by kernel_rfl) (by kernel_rfl) (by rfl) (by first | assumption | exact True.intro) ?_
            try simp only [Act.put, List.setIfInBounds_toArray, List.set_cons_zero, List.set_cons_succ]
            refine held_skip (i := 7) rfl (by kernel_rfl) (by kernel_rfl) (by kernel_rfl) (by rfl) (by first | assumption | exact True.intro) ?_
            try simp only [Act.put, List.setIfInBounds_toArray, List.set_cons_zero, List.set_cons_succ]
            refine held_skip (i := 8) rfl (by kernel_rfl) (by kernel_rfl) (by kernel_rfl) (by rfl) (by first | assumption | exact True.intro) ?_
            try simp only [Act.put, List.setIfInBounds_toArray, List.set_cons_zero, List.set_cons_succ]
            refine held_skip (i := 9) rfl (by kernel_rfl) (by kernel_rfl) (by kernel_rfl) (by rfl) (by first | assumption | exact True.intro) ?_
            try simp only [Act.put, List.setIfInBounds_toArray, List.set_cons_zero, List.set_cons_succ]
            refine held_skip (i := 10) rfl (by kernel_rfl) (by kernel_rfl) (by kernel_rfl) (by rfl) (by first | assumption | exact True.intro) ?_
            try simp only [Act.put, List.setIfInBounds_toArray, List.set_cons_zero, List.set_cons_succ]
            refine held_take (i := 11) (v := ?_) rfl (by kernel_rfl) (by kernel_rfl) (by kernel_rfl) (by rfl) (by first | assumption | exact True.intro) ?_ ?_
            rotate_left
            · (intro W hSw; go_simp; (try with_reducible rfl))
            try simp only [Act.put, List.setIfInBounds_toArray, List.set_cons_zero, List.set_cons_succ]
            clear hSx
            refine wpAnyH_done (by kernel_rfl) ?_ _
            refine NoPanic.normal ?_
            have HXE0 : Hid (Ext wr w3.drew) := Lib.hid (Ext.trans HX3.out HX4.out)
            obtain ⟨w4, hw4⟩ : ∃ w, w = w3.drew := ⟨_, rfl⟩
            rw [← hw4] at HXE0 ⊢
            clear hw4
            have HXK : Hid (KpC C wr w4) := Lib.hid (KpC.of_ext HXE0.out)
            have cg5 := HXK.out.cell HI.out.1 HI.out.2.1
            rw [← HV.out] at cg5
            have wv : wrap64 (v + 1) = v + 1 := IntWalk.wrap64_in _ (by have := HV.out; omega)
            repeat (first | go_values | go_skip | go_guarded | go_step | go_upon | (simp only []))
            go_roundg (10 - (q + 1))
            case measure => have := HLT.out; omega
            case rel => exact ⟨q + 1, w4.heap.size, pre, w4, rfl, rfl, HLT.out, Lib.hid ⟨by have h9 := (Blk.new w4 3 #[.int .i64 (v + 1)]).cell 0; rw [show (((q + 1 : Nat) : Int) + 1) = v + 1 by rw [HV.out]; rfl]; exact h9, fun h => (by have := HC1.out _ h; have := HXL.out.1; have := HXK.out.1; omega), by simp, by rw [HI.out.2.2.2.1, chTo_step, if_neg (by rw [HIS.out]; simp), List.append_nil], (hJ pre Wl w4 HI.out.2.2.2.2.1 (Ext.trans HI.out.2.2.2.2.2.1 HXE0.out)), (Below.refl _ _).alloc (Nat.le_refl _) _, HXL.out.trans HXK.out⟩⟩
        · have e2 : (x.pin != (q : Int) + 1) = true := by simp only [bne_iff_ne, ne_eq]; exact pv
          have HIS : Hid (isCh s x m (q + 1) = false) := Lib.hid (by unfold isCh; rw [e1, show (x.pin != ((q + 1 : Nat) : Int)) = true from e2]; rfl)
          have HLT := Lib.hid hlt
          obtain ⟨v, hv⟩ : ∃ v : Int, v = (q : Int) + 1 := ⟨_, rfl⟩
          rw [← hv] at cg d1 e2
          have HV := Lib.hid hv
          clear hv
          have hgl := HI.out.2.2.1
          have HXK : Hid (KpC C wr wr) := Lib.hid (KpC.of_ext (Ext.refl _))
          have wv : wrap64 (v + 1) = v + 1 := IntWalk.wrap64_in _ (by have := HV.out; omega)
          repeat (first | go_values | go_skip | go_guarded | go_step | go_upon | (simp only []))
          go_roundg (10 - (q + 1))
          case measure => have := HLT.out; omega
          case rel => exact ⟨q + 1, wr.heap.size, pre, wr, rfl, rfl, HLT.out, Lib.hid ⟨by have h9 := (Blk.new wr 3 #[.int .i64 (v + 1)]).cell 0; rw [show (((q + 1 : Nat) : Int) + 1) = v + 1 by rw [HV.out]; rfl]; exact h9, fun h => (by have := HC1.out _ h; have := HXL.out.1; have := HXK.out.1; omega), by simp, by rw [HI.out.2.2.2.1, chTo_step, if_neg (by rw [HIS.out]; simp), List.append_nil], (hJ pre Wl wr HI.out.2.2.2.2.1 HI.out.2.2.2.2.2.1), (Below.refl _ _).alloc (Nat.le_refl _) _, HXL.out.trans HXK.out⟩⟩
    · have d1 : decide ((q : Int) + 1 ≤ 9) = false := decide_eq_false (by omega)
      have HE : Hid (pre.map (fun c => c.1) = chTo s x m 9) := Lib.hid (by rw [HI.out.2.2.2.1, show q = 9 by omega])
      have HJE := Lib.hid (hJ pre Wl wr HI.out.2.2.2.2.1 HI.out.2.2.2.2.2.1)
      repeat (first | go_values | go_skip | go_guarded | go_step | go_upon | (simp only []))
      go_end0
      exact ⟨⟨_, rfl⟩, .inl ⟨pre, HE.out, HJE.out⟩⟩

end Go.Proofs.Ytgjidkhfnnghiaa

/- Package fit: Pick, over the iterator. -/
namespace Go.Proofs.Ytgjidkhfnnghiaa
open Go.RowKit Go.Shelf

attribute [local go_sem] Oper.semAt_some

/-- How many of a choice a job gets. -/
def kOf (x : Jb) (D : Nat) : Int := if x.most < (manyS (D : Int) : Int) then x.most else (manyS (D : Int) : Int)
/-- The best choice so far: its set, how many the job gets of it, whether there is one. -/
structure Bst where
  best : Nat
  most : Int
  found : Bool
def bstStep (s : St) (x : Jb) (b : Bst) (c : Nat × Nat) : Bst :=
  if b.found = false ∨ b.most < kOf x c.2 ∨ (kOf x c.2 = b.most ∧ (c.1 : Int) = meantS s) then ⟨c.2, kOf x c.2, true⟩ else b
def bstOf (s : St) (x : Jb) (l : List (Nat × Nat)) : Bst := l.foldl (bstStep s x) ⟨0, 0, false⟩
theorem bstOf_snoc (s : St) (x : Jb) (l : List (Nat × Nat)) (c : Nat × Nat) : bstOf s x (l ++ [c]) = bstStep s x (bstOf s x l) c := by unfold bstOf; rw [List.foldl_append]; rfl
theorem kOf_le (x : Jb) (D : Nat) (h : x.most ≤ 6) : kOf x D ≤ 6 := by unfold kOf; split <;> omega
theorem kOf_pos (x : Jb) (D : Nat) (h : 0 ≤ x.most) : 0 ≤ kOf x D := by unfold kOf; split <;> omega
/-- What the program has found when it is through so many versions is what the document's way has. -/
theorem bst_pick (s : St) (x : Jb) (m : Nat) (hok : OkP x) : ∀ q : Nat,
    (pickTo s x (m : Int) q = (-1, 0) ∧ bstOf s x (chTo s x m q) = ⟨0, 0, false⟩) ∨
    (0 ≤ (pickTo s x (m : Int) q).1 ∧ bstOf s x (chTo s x m q) = ⟨ofN s (m : Int) (pickTo s x (m : Int) q).2, (pickTo s x (m : Int) q).1, true⟩ ∧ (pickTo s x (m : Int) q).1 = kOf x (ofN s (m : Int) (pickTo s x (m : Int) q).2)) := by
  intro q
  induction q with
  | zero => exact .inl ⟨rfl, rfl⟩
  | succ q ih =>
    have hp := hok.pin
    have h0 := hok.m0
    rw [chTo_step]
    have e : pickTo s x (m : Int) (q + 1) = pickStep s x (pickTo s x (m : Int) q) (manyS (ofN s (m : Int) ((q : Int) + 1) : Int)) ((q : Int) + 1) := rfl
    rw [e]
    have ec : ((q + 1 : Nat) : Int) = (q : Int) + 1 := by omega
    cases hc : isCh s x m (q + 1) with
    | false =>
      rw [if_neg (by simp), List.append_nil]
      have hs : pickStep s x (pickTo s x (m : Int) q) (manyS (ofN s (m : Int) ((q : Int) + 1) : Int)) ((q : Int) + 1) = pickTo s x (m : Int) q := by
        unfold isCh at hc
        rw [ec] at hc
        by_cases h1 : (manyS (ofN s (m : Int) ((q : Int) + 1) : Int) : Int) < x.least
        · exact pickStep_few h1
        · rw [decide_eq_true (by omega), Bool.and_true, Bool.not_eq_false'] at hc
          have h2 : x.pin ≠ 0 ∧ x.pin ≠ (q : Int) + 1 := by simpa using hc
          exact pickStep_pin (by omega) h2.2
      rw [hs]
      exact ih
    | true =>
      rw [if_pos rfl, bstOf_snoc]
      unfold isCh at hc
      rw [ec] at hc ⊢
      have h1 : ¬ (manyS (ofN s (m : Int) ((q : Int) + 1) : Int) : Int) < x.least := by
        intro h
        rw [decide_eq_false (by omega), Bool.and_false] at hc
        cases hc
      have h2 : ¬ (0 < x.pin ∧ x.pin ≠ (q : Int) + 1) := by
        rintro ⟨h, h'⟩
        have : (x.pin != 0 && x.pin != (q : Int) + 1) = true := by simp; exact ⟨by omega, h'⟩
        rw [this] at hc
        simp at hc
      generalize hD : ofN s (m : Int) ((q : Int) + 1) = D at *
      have hk := kOf_pos x D h0
      have hK : kOf x D = if x.most < (manyS (D : Int) : Int) then x.most else (manyS (D : Int) : Int) := rfl
      rcases ih with ⟨a1, a2⟩ | ⟨a1, a2, a3⟩
      · rw [a1, a2, pickStep_more h1 h2 hK (.inl (by show (-1 : Int) < _; omega))]
        refine .inr ⟨hk, ?_, ?_⟩
        · unfold bstStep
          rw [if_pos (.inl rfl), hD]
        · rw [hD]
      · generalize hP : pickTo s x (m : Int) q = P at *
        by_cases h3 : P.1 < kOf x D ∨ (kOf x D = P.1 ∧ (q : Int) + 1 = meantS s)
        · rw [pickStep_more h1 h2 hK h3, a2]
          refine .inr ⟨hk, ?_, ?_⟩
          · unfold bstStep
            rw [if_pos (.inr (by rw [ec]; exact h3)), hD]
          · rw [hD]
        · rw [pickStep_less h1 h2 hK h3, a2]
          refine .inr ⟨a1, ?_, a3⟩
          unfold bstStep
          rw [if_neg (by rw [ec]; rintro (h | h); cases h; exact h3 h)]

set_option maxRecDepth 100000 in
theorem choices_any (vn vj : Value) (s : St) (x : Jb) (m : Int) (w : World) :
    Calls Try.prog 57 #[stV vn vj s, jbV x, .int .i64 m] w fun e w' => e = .returned (.func (.func 68) #[] #[.pointer (some ⟨w.heap.size + 1, 0, none⟩), .pointer (some ⟨w.heap.size + 2, 0, none⟩), .pointer (some ⟨w.heap.size, 0, none⟩)]) ∧ w' = ((w.alloc (.cells #[vn, vj, .int .i64 s.goal, .int .i64 s.prior, .int .i64 s.mode, .int .i64 s.term] 27)).alloc (.cells #[.int .i64 x.queue, .int .i64 x.prio, .int .i64 x.least, .int .i64 x.most, .int .i64 x.work, .int .i64 x.pin, .int .i64 x.phase, .int .i64 x.inc, .int .i64 x.nodes, .int .i64 x.since, .int .i64 x.til, .int .i64 x.epoch] 39)).alloc (.cells #[.int .i64 m] 3) := by
  unfold stV jbV
  go_enter Try.func57, Try.ntmps57
  go_wp2
  go_ret
  exact ⟨rfl, rfl⟩

/-- What it hands on: the choices of all versions. -/
theorem choices_stops (n : Nat) (hn : 1 ≤ n) (Bj Bm Bs B0 : Nat) (C : Nat → Prop) (vn vj : Value) (s : St) (x : Jb) (m : Nat) (hm : m < 64) (wa W0 : World) (hrn0 : RdNd wa vn s.nodes) (hxa : Ext wa W0) (hB0 : wa.heap.size ≤ B0) (hC0 : ∀ k, C k → B0 ≤ k) (hC1 : ∀ k, C k → k < W0.heap.size) (hN : s.nodes.length ≤ 6) (hb1 : Blk W0 Bj 39 #[.int .i64 x.queue, .int .i64 x.prio, .int .i64 x.least, .int .i64 x.most, .int .i64 x.work, .int .i64 x.pin, .int .i64 x.phase, .int .i64 x.inc, .int .i64 x.nodes, .int .i64 x.since, .int .i64 x.til, .int .i64 x.epoch]) (hb2 : Blk W0 Bm 3 #[.int .i64 (m : Int)]) (hb3 : Blk W0 Bs 27 #[vn, vj, .int .i64 s.goal, .int .i64 s.prior, .int .i64 s.mode, .int .i64 s.term]) (n1 : ¬ C Bj) (n2 : ¬ C Bm) (n3 : ¬ C Bs) :
    SeqStopsK Fence.wide n Try.prog 68 #[.pointer (some ⟨Bj, 0, none⟩), .pointer (some ⟨Bm, 0, none⟩), .pointer (some ⟨Bs, 0, none⟩)] (fun c : ChV => #[.int .i64 (c.1.1 : Int), .int .i64 (c.1.2 : Int)]) (KpC C) (fun xs => xs.map (fun c => c.1) = chTo s x m 9) (fun _ => True) 9 W0 := fun l J Jx W hW hJ _ hY h0 =>
  choices1_any n hn l Bj Bm Bs B0 C vn vj s x m hm wa W hrn0 (Ext.trans hxa hW) hB0 hC0 (fun k hk => Nat.lt_of_lt_of_le (hC1 k hk) hW.size) hN (hb1.ext hW) (hb2.ext hW) (hb3.ext hW) n1 n2 n3 J Jx (fun pre A A' h hx => hJ pre A A' none h ⟨hx.os, hx.tape, hx.output, hx.size, fun k hk _ => hx.block k hk⟩ (fun _ e => by cases e)) hY h0

end Go.Proofs.Ytgjidkhfnnghiaa

/- Package fit: Pick. -/
namespace Go.Proofs.Ytgjidkhfnnghiaa
open Go.RowKit Go.Shelf

attribute [local go_sem] Oper.semAt_some

/-- What stands between two choices. -/
structure PkI (w : World) (g0 g1 g2 g3 g4 : Nat) (vn vj : Value) (s : St) (x : Jb) (l : List (Nat × Nat)) (W : World) : Prop where
  ext : Ext w W
  b0 : Blk W g0 27 #[vn, vj, .int .i64 s.goal, .int .i64 s.prior, .int .i64 s.mode, .int .i64 s.term]
  b1 : Blk W g1 39 #[.int .i64 x.queue, .int .i64 x.prio, .int .i64 x.least, .int .i64 x.most, .int .i64 x.work, .int .i64 x.pin, .int .i64 x.phase, .int .i64 x.inc, .int .i64 x.nodes, .int .i64 x.since, .int .i64 x.til, .int .i64 x.epoch]
  b2 : Blk W g2 3 #[.int .i64 ((bstOf s x l).best : Int)]
  b3 : Blk W g3 3 #[.int .i64 (bstOf s x l).most]
  b4 : Blk W g4 4 #[.bool (bstOf s x l).found]
theorem Blk.own_ {w w' : World} {g : Nat} {t : TypeId} {cs : Array Value} {row : Option Nat} (h : Blk w g t cs) (hg : w.grownBy w' row) (hr : ∀ r, row = some r → ∃ o : Obj, w.heap[r]? = some o ∧ o.isCells = false) : Blk w' g t cs := h.grown hg (fun e => by
  obtain ⟨o, ho, hc⟩ := hr g e.symm
  have h' : w.heap[g]? = some (.cells cs t (0, 0)) := h
  rw [h'] at ho
  cases ho
  cases hc)
theorem PkI.own {w : World} {g0 g1 g2 g3 g4 B : Nat} {vn vj : Value} {s : St} {x : Jb} (hB : w.heap.size ≤ B) : OwnFrom B (fun (pre : List ChV) W => PkI w g0 g1 g2 g3 g4 vn vj s x (pre.map fun c => c.1) W) := fun pre W W' row h hg hr =>
  have hr' : ∀ r, row = some r → ∃ o : Obj, W.heap[r]? = some o ∧ o.isCells = false := fun r e => (hr r e).2
  ⟨h.ext.grown hg h.ext.size (fun k e => Nat.le_trans hB (hr k e).1), h.b0.own_ hg hr', h.b1.own_ hg hr', h.b2.own_ hg hr', h.b3.own_ hg hr', h.b4.own_ hg hr'⟩
theorem KpC.put {C : Nat → Prop} {W : World} {l : Nat} {o : Obj} (o' : Obj) (hl : W.heap[l]? = some o) (hc : o.isCells = false) : KpC C W (W.putObj l o') := ⟨by simp, fun k ob hk hcc _ => (World.putObj_heap_other (fun e => by
  subst e
  rw [hl] at hk
  cases hk
  rw [hc] at hcc
  cases hcc)).trans hk⟩
theorem KpC.set_ {C : Nat → Prop} {W W' : World} {g i : Nat} {u : Value} (h : KpC C W W') (hg : C g) : KpC C W (W'.setCell ⟨g, i, none⟩ u) := ⟨by have := h.1; simpa [World.setCell] using this, fun k o hk hc hn => (Below.heap_setCell _ _ _ _ (fun e => hn (by rw [e]; exact hg))).trans (h.2 k o hk hc hn)⟩

theorem keeps_ext {W W' : World} (h : Ext W W') : KeepsOthers W W' := ⟨h.size, fun k _ hk _ => (h.block k (lt_of_block hk)).trans hk⟩
section
variable {w W W2 : World} {g0 g1 g2 g3 g4 : Nat} {vn vj : Value} {s : St} {x : Jb} {l : List (Nat × Nat)} {c : Nat × Nat}
theorem PkI.keep (h : PkI w g0 g1 g2 g3 g4 vn vj s x l W) (hx : Ext W W2) (hb : bstOf s x (l ++ [c]) = bstOf s x l) : PkI w g0 g1 g2 g3 g4 vn vj s x (l ++ [c]) W2 :=
  ⟨Ext.trans h.ext hx, h.b0.ext hx, h.b1.ext hx, by rw [hb]; exact h.b2.ext hx, by rw [hb]; exact h.b3.ext hx, by rw [hb]; exact h.b4.ext hx⟩
theorem PkI.store {D : Nat} {K : Int} (h : PkI w g0 g1 g2 g3 g4 vn vj s x l W) (hx : Ext W W2) (hg : g0 = w.heap.size ∧ g1 = g0 + 1 ∧ g2 = g1 + 1 ∧ g3 = g2 + 1 ∧ g4 = g3 + 1) (hb : bstOf s x (l ++ [c]) = ⟨D, K, true⟩) :
    PkI w g0 g1 g2 g3 g4 vn vj s x (l ++ [c]) (((W2.setCell ⟨g2, 0, none⟩ (.int .i64 (D : Int))).setCell ⟨g3, 0, none⟩ (.int .i64 K)).setCell ⟨g4, 0, none⟩ (.bool true)) := by
  obtain ⟨h0, h1, h2, h3, h4⟩ := hg
  refine ⟨((Below.setCell (p := ⟨g2, 0, none⟩) (Ext.trans h.ext hx) (by show _ ≤ g2; omega) _).setCell (p := ⟨g3, 0, none⟩) (by show _ ≤ g3; omega) _).setCell (p := ⟨g4, 0, none⟩) (by show _ ≤ g4; omega) _, ?_, ?_, ?_, ?_, ?_⟩
  · exact (((h.b0.ext hx).far (by show _ ≠ g2; omega) _).far (by show _ ≠ g3; omega) _).far (by show _ ≠ g4; omega) _
  · exact (((h.b1.ext hx).far (by show _ ≠ g2; omega) _).far (by show _ ≠ g3; omega) _).far (by show _ ≠ g4; omega) _
  · rw [hb]
    exact (((h.b2.ext hx).set_ 0 _).far (by show _ ≠ g3; omega) _).far (by show _ ≠ g4; omega) _
  · rw [hb]
    exact (((h.b3.ext hx).far (by show _ ≠ g2; omega) _).set_ 0 _).far (by show _ ≠ g4; omega) _
  · rw [hb]
    exact (((h.b4.ext hx).far (by show _ ≠ g2; omega) _).far (by show _ ≠ g3; omega) _).set_ 0 _
end

/-- What the program makes of the best choice. -/
theorem pick_low {s : St} {x : Jb} {m : Nat} (hok : OkP x) (hN : s.nodes.length ≤ 6) : ∃ r n : Nat, (bstOf s x (chTo s x m 9)).best = r ∧ (bstOf s x (chTo s x m 9)).most = (n : Int) ∧ r < 64 ∧ n ≤ 6 ∧
    pickS s x (m : Int) = (bits .andNot .i64 (r : Int) (dropN r n : Int), (bstOf s x (chTo s x m 9)).found) := by
  rcases bst_pick s x m hok 9 with ⟨h1, h2⟩ | ⟨h1, h2, h3⟩
  · refine ⟨0, 0, by rw [h2], by rw [h2]; rfl, by decide, by decide, ?_⟩
    unfold pickS
    rw [h1, h2, if_pos (by decide)]
    rfl
  · have hD : ofN s (m : Int) (pickTo s x (m : Int) 9).2 < 64 := Nat.lt_of_lt_of_le (bitsF_lt _ _) (Nat.pow_le_pow_right (by decide) hN)
    unfold pickS
    rw [if_neg (by omega), h2]
    generalize ofN s (m : Int) (pickTo s x (m : Int) 9).2 = D at *
    have hk := kOf_le x D hok.m6
    have hk0 := kOf_pos x D hok.m0
    have h0 := hok.m0
    have h6 := hok.m6
    obtain ⟨k, hkk⟩ : ∃ k : Nat, x.most = (k : Int) := ⟨x.most.toNat, by omega⟩
    have e : kOf x D = ((min (manyS (D : Int)) k : Nat) : Int) := by
      unfold kOf
      rw [hkk]
      split <;> omega
    refine ⟨D, min (manyS (D : Int)) k, rfl, by show (pickTo s x (m : Int) 9).1 = _; rw [h3, e], hD, by omega, ?_⟩
    rw [low_drop D hD k (by omega), hkk]

set_option maxRecDepth 100000 in
set_option maxHeartbeats 4000000 in
theorem Pick_any : PickFit := by
  intro vn vj s x m w hrn hN hm hok
  have HRN := Lib.hid hrn
  have HOK := Lib.hid hok
  obtain ⟨PK, hPK⟩ : ∃ z, z = pickS s x (m : Int) := ⟨_, rfl⟩
  rw [← hPK]
  have HPK := Lib.hid hPK
  have HCH := Lib.hid fun W => choices_any vn vj s x (m : Int) W
  unfold stV jbV at HCH
  unfold stV jbV
  clear hPK hrn hok
  refine (callsIn_wide (n := 5)).1 ?_
  refine callsIn_of_wp_marks Try.func35 rfl trivial ?_ rfl
  refine wpIn_wide.2 ?_
  simp only [Try.ntmps35, List.size_toArray, List.length_cons, List.length_nil, Nat.reduceAdd, Nat.reduceSub, Array.replicate_succ, Array.replicate_zero, List.push_toArray, List.append_toArray, List.nil_append, List.cons_append]
  go_wp2_with fail
  obtain ⟨W5, hW5⟩ : ∃ W, W = ((((w.alloc (.cells #[vn, vj, .int .i64 s.goal, .int .i64 s.prior, .int .i64 s.mode, .int .i64 s.term] 27)).alloc (.cells #[.int .i64 x.queue, .int .i64 x.prio, .int .i64 x.least, .int .i64 x.most, .int .i64 x.work, .int .i64 x.pin, .int .i64 x.phase, .int .i64 x.inc, .int .i64 x.nodes, .int .i64 x.since, .int .i64 x.til, .int .i64 x.epoch] 39)).alloc (.cells #[.int .i64 0] 3)).alloc (.cells #[.int .i64 0] 3)).alloc (.cells #[.bool false] 4) := ⟨_, rfl⟩
  have HE5 : Hid (Ext w W5 ∧ W5.heap.size = w.heap.size + 5) := Lib.hid (by rw [hW5]; exact ⟨(((((Below.refl _ w).alloc (Nat.le_refl _) _).alloc (by simp) _).alloc (by simp; omega) _).alloc (by simp; omega) _).alloc (by simp; omega) _, by simp⟩)
  rw [← hW5]
  obtain ⟨g0, hg0⟩ : ∃ g, g = w.heap.size := ⟨_, rfl⟩
  obtain ⟨g1, hg1⟩ : ∃ g, g = g0 + 1 := ⟨_, rfl⟩
  obtain ⟨g2, hg2⟩ : ∃ g, g = g1 + 1 := ⟨_, rfl⟩
  obtain ⟨g3, hg3⟩ : ∃ g, g = g2 + 1 := ⟨_, rfl⟩
  obtain ⟨g4, hg4⟩ : ∃ g, g = g3 + 1 := ⟨_, rfl⟩
  rw [← hg0, ← hg1, ← hg2, ← hg3, ← hg4]
  have HI5 : Hid (PkI w g0 g1 g2 g3 g4 vn vj s x [] W5) := Lib.hid (by
    rw [hg4, hg3, hg2, hg1, hg0, hW5]
    refine ⟨by rw [← hW5]; exact HE5.out.1, ?_, ?_, ?_, ?_, ?_⟩
    · exact ((((Blk.new _ _ _).alloc _).alloc _).alloc _).alloc _
    · have := ((((Blk.new (w.alloc (.cells #[vn, vj, .int .i64 s.goal, .int .i64 s.prior, .int .i64 s.mode, .int .i64 s.term] 27)) 39 #[.int .i64 x.queue, .int .i64 x.prio, .int .i64 x.least, .int .i64 x.most, .int .i64 x.work, .int .i64 x.pin, .int .i64 x.phase, .int .i64 x.inc, .int .i64 x.nodes, .int .i64 x.since, .int .i64 x.til, .int .i64 x.epoch]).alloc (.cells #[.int .i64 0] 3)).alloc (.cells #[.int .i64 0] 3)).alloc (.cells #[.bool false] 4))
      rwa [World.size_alloc] at this
    · have := ((Blk.new ((w.alloc (.cells #[vn, vj, .int .i64 s.goal, .int .i64 s.prior, .int .i64 s.mode, .int .i64 s.term] 27)).alloc (.cells #[.int .i64 x.queue, .int .i64 x.prio, .int .i64 x.least, .int .i64 x.most, .int .i64 x.work, .int .i64 x.pin, .int .i64 x.phase, .int .i64 x.inc, .int .i64 x.nodes, .int .i64 x.since, .int .i64 x.til, .int .i64 x.epoch] 39)) 3 #[.int .i64 0]).alloc (.cells #[.int .i64 0] 3)).alloc (.cells #[.bool false] 4)
      rwa [World.size_alloc, World.size_alloc] at this
    · have := (Blk.new (((w.alloc (.cells #[vn, vj, .int .i64 s.goal, .int .i64 s.prior, .int .i64 s.mode, .int .i64 s.term] 27)).alloc (.cells #[.int .i64 x.queue, .int .i64 x.prio, .int .i64 x.least, .int .i64 x.most, .int .i64 x.work, .int .i64 x.pin, .int .i64 x.phase, .int .i64 x.inc, .int .i64 x.nodes, .int .i64 x.since, .int .i64 x.til, .int .i64 x.epoch] 39)).alloc (.cells #[.int .i64 0] 3)) 3 #[.int .i64 0]).alloc (.cells #[.bool false] 4)
      rwa [World.size_alloc, World.size_alloc, World.size_alloc] at this
    · have := Blk.new ((((w.alloc (.cells #[vn, vj, .int .i64 s.goal, .int .i64 s.prior, .int .i64 s.mode, .int .i64 s.term] 27)).alloc (.cells #[.int .i64 x.queue, .int .i64 x.prio, .int .i64 x.least, .int .i64 x.most, .int .i64 x.work, .int .i64 x.pin, .int .i64 x.phase, .int .i64 x.inc, .int .i64 x.nodes, .int .i64 x.since, .int .i64 x.til, .int .i64 x.epoch] 39)).alloc (.cells #[.int .i64 0] 3)).alloc (.cells #[.int .i64 0] 3)) 4 #[.bool false]
      rwa [World.size_alloc, World.size_alloc, World.size_alloc, World.size_alloc] at this)
  have HG : Hid (g0 = w.heap.size ∧ g1 = g0 + 1 ∧ g2 = g1 + 1 ∧ g3 = g2 + 1 ∧ g4 = g3 + 1) := Lib.hid ⟨hg0, hg1, hg2, hg3, hg4⟩
  clear hW5 hg0 hg1 hg2 hg3 hg4
  refine (HCH.out W5).mono ?_
  rintro e w8 ⟨rfl, hw8⟩
  obtain ⟨h0, hh0⟩ : ∃ g, g = W5.heap.size := ⟨_, rfl⟩
  obtain ⟨h1, hh1⟩ : ∃ g, g = h0 + 1 := ⟨_, rfl⟩
  obtain ⟨h2, hh2⟩ : ∃ g, g = h0 + 2 := ⟨_, rfl⟩
  rw [← hh0, ← hh1, ← hh2]
  have HE8 : Hid (Ext W5 w8 ∧ w8.heap.size = W5.heap.size + 3) := Lib.hid (by rw [hw8]; exact ⟨(((Below.refl _ W5).alloc (Nat.le_refl _) _).alloc (by simp) _).alloc (by simp; omega) _, by simp⟩)
  have HB8 : Hid (Blk w8 h1 39 #[.int .i64 x.queue, .int .i64 x.prio, .int .i64 x.least, .int .i64 x.most, .int .i64 x.work, .int .i64 x.pin, .int .i64 x.phase, .int .i64 x.inc, .int .i64 x.nodes, .int .i64 x.since, .int .i64 x.til, .int .i64 x.epoch] ∧ Blk w8 h2 3 #[.int .i64 (m : Int)] ∧ Blk w8 h0 27 #[vn, vj, .int .i64 s.goal, .int .i64 s.prior, .int .i64 s.mode, .int .i64 s.term]) := Lib.hid (by
    rw [hh2, hh1, hh0, hw8]
    refine ⟨?_, ?_, ((Blk.new _ _ _).alloc _).alloc _⟩
    · have := (Blk.new (W5.alloc (.cells #[vn, vj, .int .i64 s.goal, .int .i64 s.prior, .int .i64 s.mode, .int .i64 s.term] 27)) 39 #[.int .i64 x.queue, .int .i64 x.prio, .int .i64 x.least, .int .i64 x.most, .int .i64 x.work, .int .i64 x.pin, .int .i64 x.phase, .int .i64 x.inc, .int .i64 x.nodes, .int .i64 x.since, .int .i64 x.til, .int .i64 x.epoch]).alloc (.cells #[.int .i64 (m : Int)] 3)
      rwa [World.size_alloc] at this
    · have := Blk.new ((W5.alloc (.cells #[vn, vj, .int .i64 s.goal, .int .i64 s.prior, .int .i64 s.mode, .int .i64 s.term] 27)).alloc (.cells #[.int .i64 x.queue, .int .i64 x.prio, .int .i64 x.least, .int .i64 x.most, .int .i64 x.work, .int .i64 x.pin, .int .i64 x.phase, .int .i64 x.inc, .int .i64 x.nodes, .int .i64 x.since, .int .i64 x.til, .int .i64 x.epoch] 39)) 3 #[.int .i64 (m : Int)]
      rwa [World.size_alloc, World.size_alloc] at this)
  have HH : Hid (h0 = W5.heap.size ∧ h1 = h0 + 1 ∧ h2 = h0 + 2) := Lib.hid ⟨hh0, hh1, hh2⟩
  have HI8 : Hid (PkI w g0 g1 g2 g3 g4 vn vj s x [] w8) := Lib.hid ⟨Ext.trans HI5.out.ext HE8.out.1, HI5.out.b0.ext HE8.out.1, HI5.out.b1.ext HE8.out.1, HI5.out.b2.ext HE8.out.1, HI5.out.b3.ext HE8.out.1, HI5.out.b4.ext HE8.out.1⟩
  clear hw8 hh0 hh1 hh2
  go_wp2_with fail
  obtain ⟨C, hC⟩ : ∃ C : Nat → Prop, C = fun k => k = g2 ∨ k = g3 ∨ k = g4 := ⟨_, rfl⟩
  have HC : Hid (∀ k, C k ↔ (k = g2 ∨ k = g3 ∨ k = g4)) := Lib.hid fun k => by rw [hC]
  clear hC
  have hnC : ∀ k, ¬ (k = g2 ∨ k = g3 ∨ k = g4) → ¬ C k := fun k h h' => h ((HC.out k).1 h')
  have hst := choices_stops 4 (by decide) h1 h2 h0 w.heap.size C vn vj s x m hm w w8 HRN.out HI8.out.ext (Nat.le_refl _) (fun k hk => by have := (HC.out k).1 hk; have := HG.out; omega) (fun k hk => by have := (HC.out k).1 hk; have := HG.out; have := HE8.out.2; have := HE5.out.2; omega) hN HB8.out.1 HB8.out.2.1 HB8.out.2.2 (hnC _ (by have := HG.out; have := HH.out; have := HE5.out.2; omega)) (hnC _ (by have := HG.out; have := HH.out; have := HE5.out.2; omega)) (hnC _ (by have := HG.out; have := HH.out; have := HE5.out.2; omega))
  refine (wpIn_wide (n := 5)).1 ?_
  refine' wpIn_rangeFunc_ownG rfl (by decide) (gf := 68) (lb := #[.pointer (some ⟨h1, 0, none⟩), .pointer (some ⟨h2, 0, none⟩), .pointer (some ⟨h0, 0, none⟩)]) (by simp [go_sem]) trivial (enters_of Try.func68 (by kernel_rfl) rfl)
    hst (fun h k => h.trans k) (fun W l o o' _ hl hc _ => KpC.put o' hl hc) (Below.refl _ _) (fun _ => rfl)
    (fun (pre : List ChV) W => PkI w g0 g1 g2 g3 g4 vn vj s x (pre.map fun c => c.1) W)
    (fun _ _ _ => False)
    (PkI.own HI8.out.ext.size)
    (fun _ _ _ _ _ hs _ _ => hs)
    HI8.out
    _ ?assign ?body ?done ?stop
  case assign =>
    intro l x W K hK
    gi_wp2
    exact hK
  case body =>
    rintro l pre ⟨⟨v, D⟩, hv1, hv9, hD⟩ W hI hlt
    dsimp only at hv1 hv9 hD ⊢
    have HI := Lib.hid hI
    obtain ⟨M, hM⟩ : ∃ M, M = manyS (D : Int) := ⟨_, rfl⟩
    have HCN : Hid (∀ W, Calls Try.prog 58 #[.int .i64 (D : Int)] W fun e w' => e = .returned (.int .i64 (M : Int)) ∧ W = w') := Lib.hid (fun W => by rw [hM]; exact Count_any D hD W)
    have HM := Lib.hid hM
    have hmix : Try.prog.follows .mixedOrders = true := by kernel_rfl
    have c13 : W.drew.cell? ⟨g1, 3, none⟩ = some (.int .i64 x.most) := HI.out.b1.cell 3
    obtain ⟨K, hK⟩ : ∃ K : Int, K = if x.most < (M : Int) then x.most else (M : Int) := ⟨_, rfl⟩
    have HK : Hid ((if x.most < (M : Int) then x.most else (M : Int)) = K) := Lib.hid hK.symm
    have HKK : Hid (kOf x D = K) := Lib.hid (by rw [hK, HM.out]; rfl)
    obtain ⟨bb, hbb⟩ : ∃ b, b = bstOf s x (pre.map fun c => c.1) := ⟨_, rfl⟩
    have HBB := Lib.hid hbb
    have HXD : Hid (Ext W W.drew) := Lib.hid (Below.drewN' (Ext.refl W) 1)
    have HME : Hid (∀ W, Calls Try.prog 59 #[stV vn vj s] W fun e w' => e = .returned (.int .i64 (meantS s)) ∧ Ext W w') := Lib.hid fun W => Meant_any vn vj s W
    unfold stV at HME
    have b2 : W.drew.cell? ⟨g2, 0, none⟩ = some (.int .i64 (bb.best : Int)) := by rw [hbb]; exact HI.out.b2.cell 0
    have b3 : W.drew.cell? ⟨g3, 0, none⟩ = some (.int .i64 bb.most) := by rw [hbb]; exact HI.out.b3.cell 0
    have b4 : W.drew.cell? ⟨g4, 0, none⟩ = some (.bool bb.found) := by rw [hbb]; exact HI.out.b4.cell 0
    have f2 : W.drew.frozen? ⟨g2, 0, none⟩ = false := HI.out.b2.frozen 0
    have f3 : W.drew.frozen? ⟨g3, 0, none⟩ = false := HI.out.b3.frozen 0
    have f4 : W.drew.frozen? ⟨g4, 0, none⟩ = false := HI.out.b4.frozen 0
    obtain ⟨s0, s1, s2, s3, s4, s5⟩ := Blk.six (show Blk W.drew g0 27 _ from HI.out.b0)
    have n23 : g2 ≠ g3 := by have := HG.out; omega
    have n24 : g2 ≠ g4 := by have := HG.out; omega
    have n34 : g3 ≠ g4 := by have := HG.out; omega
    have n32 : g3 ≠ g2 := by have := HG.out; omega
    have n42 : g4 ≠ g2 := by have := HG.out; omega
    have n43 : g4 ≠ g3 := by have := HG.out; omega
    clear hM hK hbb hI
    gi_wp2
    gi_region_with_o (refine ⟨trivial, ?_⟩; gi_at_call 58; refine (CallsIn.inRound l (callsIn_wide.2 (HCN.out _))).mono ?_; rintro e4 w4 ⟨rfl, rfl⟩)
    all_goals
      rw [HK.out]
      clear c13
      obtain ⟨wd, hwd⟩ : ∃ z, z = W.drew := ⟨_, rfl⟩
      rw [← hwd] at HXD b2 b3 b4 f2 f3 f4 s0 s1 s2 s3 s4 s5 ⊢
      clear hwd
      by_cases k1 : bb.found = false
      · have HBS : Hid (bstOf s x (pre.map (fun c => c.1) ++ [(v, D)]) = ⟨D, K, true⟩) := Lib.hid (by rw [bstOf_snoc, ← HBB.out]; unfold bstStep; rw [if_pos (.inl k1), HKK.out])
        rw [k1] at b4
        clear k1
        have HXE := HXD
        gi_wp2
        (all_goals first | (rename_i u1 u2; exact absurd u1 (by intro hc; cases hc)) | skip)
        refine ⟨trivial, ?_⟩
        gi_wp2
        exact ⟨((keeps_ext HXE.out).trans ((KeepsOthers.setCell _ _ _).trans ((KeepsOthers.setCell _ _ _).trans (KeepsOthers.setCell _ _ _)))).from _, (((KpC.of_ext HXE.out).set_ ((HC.out _).2 (.inl rfl))).set_ ((HC.out _).2 (.inr (.inl rfl)))).set_ ((HC.out _).2 (.inr (.inr rfl))), by simp only [List.map_append]; exact HI.out.store HXE.out HG.out HBS.out⟩
      · have k1' : bb.found = true := by simpa using k1
        rw [k1'] at b4
        by_cases k2 : bb.most < K
        · have HBS : Hid (bstOf s x (pre.map (fun c => c.1) ++ [(v, D)]) = ⟨D, K, true⟩) := Lib.hid (by rw [bstOf_snoc, ← HBB.out]; unfold bstStep; rw [if_pos (.inr (.inl (by show bb.most < kOf x D; rw [HKK.out]; exact k2))), HKK.out])
          have d2 : decide (bb.most < K) = true := decide_eq_true k2
          clear k1 k1' k2
          have HXE := HXD
          gi_wp2
          (all_goals first | (rename_i u1 u2; exact absurd u1 (by intro hc; cases hc)) | skip)
          refine ⟨trivial, ?_⟩
          gi_wp2
          exact ⟨((keeps_ext HXE.out).trans ((KeepsOthers.setCell _ _ _).trans ((KeepsOthers.setCell _ _ _).trans (KeepsOthers.setCell _ _ _)))).from _, (((KpC.of_ext HXE.out).set_ ((HC.out _).2 (.inl rfl))).set_ ((HC.out _).2 (.inr (.inl rfl)))).set_ ((HC.out _).2 (.inr (.inr rfl))), by simp only [List.map_append]; exact HI.out.store HXE.out HG.out HBS.out⟩
        · have d2 : decide (bb.most < K) = false := decide_eq_false k2
          by_cases k3 : K = bb.most
          · have d3 : (K == bb.most) = true := by rw [k3]; simp
            by_cases k4 : (v : Int) = meantS s
            · have HBS : Hid (bstOf s x (pre.map (fun c => c.1) ++ [(v, D)]) = ⟨D, K, true⟩) := Lib.hid (by rw [bstOf_snoc, ← HBB.out]; unfold bstStep; rw [if_pos (.inr (.inr ⟨by show kOf x D = bb.most; rw [HKK.out]; exact k3, k4⟩)), HKK.out])
              have d4 : ((v : Int) == meantS s) = true := by rw [k4]; simp
              clear k1 k1' k2 k3 k4
              gi_wp2_with (refine ⟨trivial, ?_⟩; gi_at_call 59; refine (CallsIn.inRound l (callsIn_wide.2 (HME.out _))).mono ?_; rintro e5 w5 ⟨rfl, hx5⟩; have HXE : Hid (Ext W w5) := Lib.hid (Ext.trans HXD.out hx5); have f2 := (HI.out.b2.ext HXE.out).frozen 0; have f3 := (HI.out.b3.ext HXE.out).frozen 0; have f4 := (HI.out.b4.ext HXE.out).frozen 0; have y2 := (HI.out.b2.ext HXE.out).cell 0; have y3 := (HI.out.b3.ext HXE.out).cell 0; have y4 := (HI.out.b4.ext HXE.out).cell 0; clear hx5)
              exact ⟨((keeps_ext HXE.out).trans ((KeepsOthers.setCell _ _ _).trans ((KeepsOthers.setCell _ _ _).trans (KeepsOthers.setCell _ _ _)))).from _, (((KpC.of_ext HXE.out).set_ ((HC.out _).2 (.inl rfl))).set_ ((HC.out _).2 (.inr (.inl rfl)))).set_ ((HC.out _).2 (.inr (.inr rfl))), by simp only [List.map_append]; exact HI.out.store HXE.out HG.out HBS.out⟩
            · have HBS : Hid (bstOf s x (pre.map (fun c => c.1) ++ [(v, D)]) = bstOf s x (pre.map fun c => c.1)) := Lib.hid (by rw [bstOf_snoc, ← HBB.out]; unfold bstStep; rw [if_neg (by rintro (h | h | h); exact k1 h; exact k2 (by rw [← HKK.out]; exact h); exact k4 h.2)])
              have d4 : ((v : Int) == meantS s) = false := by simpa using k4
              clear k1 k1' k2 k3 k4
              gi_wp2_with (refine ⟨trivial, ?_⟩; gi_at_call 59; refine (CallsIn.inRound l (callsIn_wide.2 (HME.out _))).mono ?_; rintro e5 w5 ⟨rfl, hx5⟩; have HXE : Hid (Ext W w5) := Lib.hid (Ext.trans HXD.out hx5); have f2 := (HI.out.b2.ext HXE.out).frozen 0; have f3 := (HI.out.b3.ext HXE.out).frozen 0; have f4 := (HI.out.b4.ext HXE.out).frozen 0; have y2 := (HI.out.b2.ext HXE.out).cell 0; have y3 := (HI.out.b3.ext HXE.out).cell 0; have y4 := (HI.out.b4.ext HXE.out).cell 0; clear hx5)
              exact ⟨(keeps_ext HXE.out).from _, KpC.of_ext HXE.out, by simp only [List.map_append]; exact HI.out.keep HXE.out HBS.out⟩
          · have d3 : (K == bb.most) = false := by simpa using k3
            have HBS : Hid (bstOf s x (pre.map (fun c => c.1) ++ [(v, D)]) = bstOf s x (pre.map fun c => c.1)) := Lib.hid (by rw [bstOf_snoc, ← HBB.out]; unfold bstStep; rw [if_neg (by rintro (h | h | h); exact k1 h; exact k2 (by rw [← HKK.out]; exact h); exact k3 (by rw [← HKK.out]; exact h.1))])
            clear k1 k1' k2 k3
            have HXE := HXD
            gi_wp2
            (all_goals first | (rename_i u1 u2; exact absurd u1 (by intro hc; cases hc)) | skip)
            refine ⟨trivial, ?_⟩
            gi_wp2
            exact ⟨(keeps_ext HXE.out).from _, KpC.of_ext HXE.out, by simp only [List.map_append]; exact HI.out.keep HXE.out HBS.out⟩
  case done =>
    rintro D xs W hD hS hI hK
    obtain ⟨r, n, e1, e2, hr, hn, e3⟩ := pick_low (m := m) HOK.out hN
    rw [hS] at hI
    have b2 := hI.b2.cell 0
    have b3 := hI.b3.cell 0
    have b4 := hI.b4.cell 0
    rw [e1] at b2
    rw [e2] at b3
    have HI := Lib.hid hI
    have HK := Lib.hid hK
    have HS := Lib.hid hS
    have HE3 := Lib.hid e3
    obtain ⟨fo, hfo⟩ : ∃ b, b = (bstOf s x (chTo s x m 9)).found := ⟨_, rfl⟩
    rw [← hfo] at b4 HE3
    have HLW : Hid (∀ W, Calls Try.prog 60 #[.int .i64 (r : Int), .int .i64 (n : Int)] W fun e w' => e = .returned (.int .i64 PK.1) ∧ W = w') := Lib.hid (fun W => by rw [HPK.out, HE3.out]; exact lowest_any r n hr hn W)
    have HP2 : Hid (PK.2 = fo) := Lib.hid (by rw [HPK.out, HE3.out])
    have HDL := Lib.hid hD
    clear hI hK hS e1 e2 e3 hfo hD
    go_wp2_with fail
    go_region_held3 (fun w' => w'.cell? ⟨g2, 0, none⟩ = some (.int .i64 (r : Int)) ∧ w'.cell? ⟨g3, 0, none⟩ = some (.int .i64 (n : Int)) ∧ w'.cell? ⟨g4, 0, none⟩ = some (.bool fo)) (first | go_keep) (first | (go_at_call 60; refine (HLW.out _).mono ?_; rintro e9 w9 ⟨rfl, rfl⟩))
    go_wp2
    have hK9 : W.drew.heap[D]? = some (.deferred (some [])) := HK.out
    refine ⟨by simp, .inl ⟨_, _, rfl, run_takeDeferred hK9, ?_⟩⟩
    refine ⟨.tuple #[.int .i64 PK.1, .bool fo], by simp [results, Try.results35, go_sem], ?_⟩
    refine ⟨by rw [HP2.out], ?_⟩
    have h8 := HI8.out.ext.size
    exact Below.trans (HI.out.ext.drew) (belowK_b (w := w) (Nat.le_refl _) _ D _ (.deferred none) (Nat.le_trans h8 HDL.out) hK9 rfl rfl)
  case stop =>
    rintro D c pre W _ _ h _
    exact h.elim
end Go.Proofs.Ytgjidkhfnnghiaa
