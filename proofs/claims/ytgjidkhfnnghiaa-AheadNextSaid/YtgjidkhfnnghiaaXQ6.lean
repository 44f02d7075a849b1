/- Texts that the proof of X rests on, one behind the other. -/
import Derived.Test.YtgjidkhfnnghiaaXQ1
import Derived.Test.YtgjidkhfnnghiaaXQ2
import Derived.Test.YtgjidkhfnnghiaaXQ3
import Derived.Test.YtgjidkhfnnghiaaXQ5
import Derived.Deep.CutBlock
import Derived.Deep.DeepCutAuto
import Derived.Sort.Grow
import Derived.Test.YtgjidkhfnnghiaaRows
import Derived.Deep.QuietTactic
import Derived.BigQuiet

/- Comparing numbers; package rank: which of two jobs comes first. -/
namespace Go.Proofs.Ytgjidkhfnnghiaa
open Go.RowKit Go.Sort

/-- A world that drew, and that made blocks; nothing else turned. -/
def Gr (w w' : World) : Prop := ∃ (q : Nat) (os : Array Obj), w' = grow (w.drewN q) os
section
variable {w w' w'' : World}
theorem Gr.refl (w : World) : Gr w w := ⟨0, #[], by rw [grow_empty]; rfl⟩
theorem Gr.alloc (w : World) (x : Obj) : Gr w (w.alloc x) := ⟨0, #[x], by unfold grow World.alloc World.drewN; simp⟩
theorem Gr.drew (w : World) : Gr w w.drew := ⟨1, #[], by rw [grow_empty]; rfl⟩
theorem Gr.trans (h : Gr w w') (k : Gr w' w'') : Gr w w'' := by
  obtain ⟨q, os, rfl⟩ := h
  obtain ⟨q', os', rfl⟩ := k
  refine ⟨q + q', os ++ os', ?_⟩
  rw [← grow_grow]
  unfold grow World.drewN
  simp [Nat.add_assoc]
theorem Gr.ext (h : Gr w w') : Ext w w' := by
  obtain ⟨q, os, rfl⟩ := h
  refine ⟨rfl, rfl, rfl, by unfold grow World.drewN; simp, fun j hj => ?_⟩
  unfold grow World.drewN
  exact Array.getElem?_append_left hj
end
def cmpI (x y : Int) : Int := if x < y then -1 else if y < x then 1 else 0
/-- What compare answers of two jobs. -/
def cmpL (x y : Jb) (a b : Int) : Int := if cmpI y.prio x.prio = 0 then cmpI a b else cmpI y.prio x.prio

set_option maxRecDepth 100000 in
theorem isNaN_any (x : Int) (w : World) : Calls Try.prog 82 #[.int .i64 x] w fun e w' => e = .returned (.bool false) ∧ w = w' := by
  have e1 : (x != x) = false := by simp
  go_enter Try.func82, Try.ntmps82
  go_wp2
  go_ret
  exact ⟨rfl, rfl⟩

set_option maxRecDepth 100000 in
theorem Compare_any (x y : Int) (w : World) : Calls Try.prog 65 #[.int .i64 x, .int .i64 y] w fun e w' => e = .returned (.int .i64 (cmpI x y)) ∧ w = w' := by
  have HN := Lib.hid fun z w => isNaN_any z w
  have go : ∀ c : Int, cmpI x y = c → (decide (x < y) = true ∧ c = -1 ∨ decide (x < y) = false ∧ decide (y < x) = true ∧ c = 1 ∨ decide (x < y) = false ∧ decide (y < x) = false ∧ c = 0) := by
    intro c hc
    unfold cmpI at hc
    by_cases h1 : x < y
    · rw [if_pos h1] at hc; exact .inl ⟨decide_eq_true h1, hc.symm⟩
    · rw [if_neg h1] at hc
      by_cases h2 : y < x
      · rw [if_pos h2] at hc; exact .inr (.inl ⟨decide_eq_false h1, decide_eq_true h2, hc.symm⟩)
      · rw [if_neg h2] at hc; exact .inr (.inr ⟨decide_eq_false h1, decide_eq_false h2, hc.symm⟩)
  obtain ⟨c, hc⟩ : ∃ c, cmpI x y = c := ⟨_, rfl⟩
  rw [hc]
  rcases go c hc with ⟨d1, rfl⟩ | ⟨d1, d2, rfl⟩ | ⟨d1, d2, rfl⟩
  all_goals
    clear go hc
    go_enter Try.func65, Try.ntmps65
    go_wp2_with fail
    refine (HN.out _ _).mono ?_
    rintro e1 w1 ⟨rfl, rfl⟩
    go_wp2_with fail
    refine (HN.out _ _).mono ?_
    rintro e2 w2 ⟨rfl, rfl⟩
    go_wp2
    go_ret
    exact ⟨rfl, rfl⟩

set_option maxRecDepth 100000 in
set_option maxHeartbeats 2000000 in
theorem Or_any (b : Nat) (x y : Int) (w : World) (h0 : w.cell? ⟨b, 0, none⟩ = some (.int .i64 x)) (h1 : w.cell? ⟨b, 1, none⟩ = some (.int .i64 y)) :
    Calls Try.prog 64 #[.slice (some ⟨b, 0, none⟩) 2 2] w fun e w' => e = .returned (.int .i64 (if x = 0 then y else x)) ∧ w = w' := by
  have HC : Hid (∀ q : Nat, q < 2 → w.cell? ⟨b, q, none⟩ = some (.int .i64 (if q = 0 then x else y))) := Lib.hid (fun q hq => by match q, hq with | 0, _ => exact h0 | 1, _ => exact h1)
  obtain ⟨R, hR⟩ : ∃ R, R = if x = 0 then y else x := ⟨_, rfl⟩
  rw [← hR]
  have HR := Lib.hid hR
  clear h0 h1 hR
  go_enter Try.func64, Try.ntmps64
  go_wp2_with fail
  go_loop [8] (fun i => ∃ q : Nat, i = .int .i64 (q : Int) ∧ q ≤ 2 ∧ (1 ≤ q → x = 0) ∧ (2 ≤ q → y = 0)) (fun i => 2 - (intOf i).toNat)
  case atStart => exact ⟨0, rfl, by decide, fun h => absurd h (by decide), fun h => absurd h (by decide)⟩
  case round =>
    obtain ⟨q, rfl, hq, hx, hy⟩ := hrel
    by_cases hlt : q < 2
    · have d1 : decide ((q : Int) < 2) = true := decide_eq_true (by omega)
      have d1' : decide (q < 2) = true := decide_eq_true hlt
      have hc := HC.out q hlt
      have HLT := Lib.hid hlt
      obtain ⟨z, hz⟩ : ∃ z : Int, z = if q = 0 then x else y := ⟨_, rfl⟩
      rw [← hz] at hc
      by_cases hz0 : z = 0
      · have e1 : (z != 0) = false := by rw [hz0]; rfl
        have HN : Hid ((1 ≤ q + 1 → x = 0) ∧ (2 ≤ q + 1 → y = 0)) := Lib.hid (by
          by_cases h : q = 0
          · subst h; rw [if_pos rfl] at hz; exact ⟨fun _ => by rw [← hz]; exact hz0, fun h => absurd h (by decide)⟩
          · rw [if_neg h] at hz; exact ⟨fun _ => hx (by omega), fun _ => by rw [← hz]; exact hz0⟩)
        have d6 : (q : Int) < 2 := by have := HLT.out; omega
        have wq : wrap64 ((q : Int) + 1) = (q : Int) + 1 := IntWalk.wrap64_in _ (by omega)
        clear hz hz0 hx hy hq
        go_wp2
        go_round
        case rel => exact ⟨q + 1, by first | (rw [wq]; rfl) | rfl, HLT.out, HN.out.1, HN.out.2⟩
        case measure => first | (rw [wq]; exact measQ HLT.out) | exact measQ HLT.out
      · have e1 : (z != 0) = true := by simp only [bne_iff_ne, ne_eq]; exact hz0
        have HZ : Hid (R = z) := Lib.hid (by
          rw [HR.out, hz]
          by_cases h : q = 0
          · subst h; rw [if_pos rfl]; rw [if_pos rfl] at hz; rw [if_neg (by rw [← hz]; exact hz0)]
          · rw [if_neg h, if_pos (hx (by omega))])
        have d6 : (q : Int) < 2 := by have := HLT.out; omega
        clear hz hz0 hx hy hq
        go_wp2
        go_ret
        exact ⟨by rw [HZ.out]; rfl, rfl⟩
    · have d1 : decide ((q : Int) < 2) = false := decide_eq_false (by omega)
      have d1' : decide (q < 2) = false := decide_eq_false hlt
      have HZ : Hid (R = 0) := Lib.hid (by rw [HR.out, if_pos (hx (by omega)), hy (by omega)])
      go_wp2
      go_ret
      exact ⟨by rw [HZ.out]; rfl, rfl⟩

set_option maxRecDepth 100000 in
set_option maxHeartbeats 8000000 in
theorem compare_any (vn vj : Value) (s : St) (i k : Nat) (x y : Jb) (a b : Int) (w : World) (hr : RdJb w vj s.jobs) (hi : s.jobs[i]? = some x) (hk : s.jobs[k]? = some y) (ha : a = (i : Int) + 1) (hb : b = (k : Int) + 1) (hN : s.jobs.length ≤ 1000) :
    Calls Try.prog 43 #[stV vn vj s, .int .i64 a, .int .i64 b] w fun e w' => e = .returned (.int .i64 (cmpL x y a b)) ∧ Gr w w' := by
  obtain ⟨hx, hbk⟩ := boxSt vn vj s w 27
  unfold stV
  unfold stC at hx hbk
  have li := (List.getElem?_eq_some_iff.1 hi).1
  have lk := (List.getElem?_eq_some_iff.1 hk).1
  obtain ⟨A, c, rfl, hnc, hcm, hcell⟩ := jobs_cells hr
  obtain ⟨g, o, rfl, hlt, hati⟩ := hcell i x hi
  obtain ⟨g', o', e, -, hatk⟩ := hcell k y hk
  cases e
  have HX := Lib.hid hx
  have HB := Lib.hid hbk
  have HI := Lib.hid (hati.ext hx hlt)
  have HK := Lib.hid (hatk.ext hx hlt)
  have HLT : Hid (g < (w.alloc (.cells #[vn, .slice (some ⟨g, o, none⟩) s.jobs.length c, .int .i64 s.goal, .int .i64 s.prior, .int .i64 s.mode, .int .i64 s.term] 27)).heap.size) := Lib.hid (Nat.lt_of_lt_of_le hlt hx.size)
  have d6 : (i : Int) < (s.jobs.length : Int) := by omega
  have d7 : (k : Int) < (s.jobs.length : Int) := by omega
  have d8 : (0 : Int) ≤ (i : Int) := by omega
  have d9 : (0 : Int) ≤ (k : Int) := by omega
  have HG0 : Hid (Gr w (w.alloc (.cells #[vn, .slice (some ⟨g, o, none⟩) s.jobs.length c, .int .i64 s.goal, .int .i64 s.prior, .int .i64 s.mode, .int .i64 s.term] 27))) := Lib.hid (Gr.alloc _ _)
  have wa : IntKind.i64.wrap (a - 1) = (i : Int) := (IntWalk.i64_left _).trans (by rw [IntWalk.wrap64_in _ (by omega)]; omega)
  have wb : IntKind.i64.wrap (b - 1) = (k : Int) := (IntWalk.i64_left _).trans (by rw [IntWalk.wrap64_in _ (by omega)]; omega)
  have HC1 : Hid (∀ W, Calls Try.prog 65 #[.int .i64 y.prio, .int .i64 x.prio] W fun e w' => e = .returned (.int .i64 (cmpI y.prio x.prio)) ∧ W = w') := Lib.hid fun W => Compare_any _ _ W
  have HC2 : Hid (∀ W, Calls Try.prog 65 #[.int .i64 a, .int .i64 b] W fun e w' => e = .returned (.int .i64 (cmpI a b)) ∧ W = w') := Lib.hid fun W => Compare_any _ _ W
  have HCL : Hid (cmpL x y a b = if cmpI y.prio x.prio = 0 then cmpI a b else cmpI y.prio x.prio) := Lib.hid rfl
  obtain ⟨p, hp⟩ : ∃ p, p = cmpI y.prio x.prio := ⟨_, rfl⟩
  obtain ⟨r, hr2⟩ : ∃ r, r = cmpI a b := ⟨_, rfl⟩
  rw [← hp] at HC1 HCL
  rw [← hr2] at HC2 HCL
  rw [HCL.out]
  obtain ⟨R, hR⟩ : ∃ R, R = if p = 0 then r else p := ⟨_, rfl⟩
  have HOR : Hid (∀ (bb : Nat) (W : World), W.cell? ⟨bb, 0, none⟩ = some (.int .i64 p) → W.cell? ⟨bb, 1, none⟩ = some (.int .i64 r) → Calls Try.prog 64 #[.slice (some ⟨bb, 0, none⟩) 2 2] W fun e w' => e = .returned (.int .i64 R) ∧ W = w') := Lib.hid (fun bb W h0 h1 => by rw [hR]; exact Or_any bb p r W h0 h1)
  rw [← hR]
  clear HCL hR
  clear hx hbk hr hcell hati hatk hlt hi hk hp hr2 ha hb
  go_enter Try.func43, Try.ntmps43
  go_upto_region 1 with (fail)
  obtain ⟨W0, hW0⟩ : ∃ W0, W0 = w.alloc (.cells #[vn, .slice (some ⟨g, o, none⟩) s.jobs.length c, .int .i64 s.goal, .int .i64 s.prior, .int .i64 s.mode, .int .i64 s.term] 27) := ⟨_, rfl⟩
  rw [← hW0] at HX HB HI HK HLT HG0 ⊢
  clear hW0
  refine held_begin (by kernel_rfl) ?_
  refine held_more (S' := fun W' : World => Ext W0 W') (fun _ _ => True.intro) ?_
  have hSx : (fun W' : World => Ext W0 W') W0.drew := Below.drewN' (Ext.refl W0) 1
  refine held_take (i := 0) (v := ?_) rfl (by kernel_rfl) (by kernel_rfl) (by kernel_rfl) (by rfl) (by first | assumption | exact True.intro) ?_ ?_
  rotate_left
  · (intro W hSw; have g1 := (HB.out.ext hSw).cell 1; have q1 := (HI.out.ext hSw HLT.out).c1; have r1 := (HK.out.ext hSw HLT.out).c1; go_simp; (try with_reducible rfl))
  try simp only [Act.put, List.setIfInBounds_toArray, List.set_cons_zero, List.set_cons_succ]
  refine held_take (i := 1) (v := ?_) rfl (by kernel_rfl) (by kernel_rfl) (by kernel_rfl) (by rfl) (by first | assumption | exact True.intro) ?_ ?_
  rotate_left
  · (intro W hSw; have g1 := (HB.out.ext hSw).cell 1; have q1 := (HI.out.ext hSw HLT.out).c1; have r1 := (HK.out.ext hSw HLT.out).c1; go_simp; (try with_reducible rfl))
  try simp only [Act.put, List.setIfInBounds_toArray, List.set_cons_zero, List.set_cons_succ]
  refine held_take (i := 2) (v := ?_) rfl (by kernel_rfl) (by kernel_rfl) (by kernel_rfl) (by rfl) (by first | assumption | exact True.intro) ?_ ?_
  rotate_left
  · (intro W hSw; have g1 := (HB.out.ext hSw).cell 1; have q1 := (HI.out.ext hSw HLT.out).c1; have r1 := (HK.out.ext hSw HLT.out).c1; go_simp; (try with_reducible rfl))
  try simp only [Act.put, List.setIfInBounds_toArray, List.set_cons_zero, List.set_cons_succ]
  refine held_take (i := 3) (v := ?_) rfl (by kernel_rfl) (by kernel_rfl) (by kernel_rfl) (by rfl) (by first | assumption | exact True.intro) ?_ ?_
  rotate_left
  · (intro W hSw; have g1 := (HB.out.ext hSw).cell 1; have q1 := (HI.out.ext hSw HLT.out).c1; have r1 := (HK.out.ext hSw HLT.out).c1; go_simp; (try with_reducible rfl))
  try simp only [Act.put, List.setIfInBounds_toArray, List.set_cons_zero, List.set_cons_succ]
  refine held_take (i := 4) (v := ?_) rfl (by kernel_rfl) (by kernel_rfl) (by kernel_rfl) (by rfl) (by first | assumption | exact True.intro) ?_ ?_
  rotate_left
  · (intro W hSw; have g1 := (HB.out.ext hSw).cell 1; have q1 := (HI.out.ext hSw HLT.out).c1; have r1 := (HK.out.ext hSw HLT.out).c1; go_simp; (try with_reducible rfl))
  try simp only [Act.put, List.setIfInBounds_toArray, List.set_cons_zero, List.set_cons_succ]
  refine held_take (i := 5) (v := ?_) rfl (by kernel_rfl) (by kernel_rfl) (by kernel_rfl) (by rfl) (by first | assumption | exact True.intro) ?_ ?_
  rotate_left
  · (intro W hSw; have g1 := (HB.out.ext hSw).cell 1; have q1 := (HI.out.ext hSw HLT.out).c1; have r1 := (HK.out.ext hSw HLT.out).c1; go_simp; (try with_reducible rfl))
  try simp only [Act.put, List.setIfInBounds_toArray, List.set_cons_zero, List.set_cons_succ]
  refine held_take (i := 6) (v := ?_) rfl (by kernel_rfl) (by kernel_rfl) (by kernel_rfl) (by rfl) (by first | assumption | exact True.intro) ?_ ?_
  rotate_left
  · (intro W hSw; have g1 := (HB.out.ext hSw).cell 1; have q1 := (HI.out.ext hSw HLT.out).c1; have r1 := (HK.out.ext hSw HLT.out).c1; go_simp; (try with_reducible rfl))
  try simp only [Act.put, List.setIfInBounds_toArray, List.set_cons_zero, List.set_cons_succ]
  refine held_take (i := 7) (v := ?_) rfl (by kernel_rfl) (by kernel_rfl) (by kernel_rfl) (by rfl) (by first | assumption | exact True.intro) ?_ ?_
  rotate_left
  · (intro W hSw; have g1 := (HB.out.ext hSw).cell 1; have q1 := (HI.out.ext hSw HLT.out).c1; have r1 := (HK.out.ext hSw HLT.out).c1; go_simp; (try with_reducible rfl))
  try simp only [Act.put, List.setIfInBounds_toArray, List.set_cons_zero, List.set_cons_succ]
  refine held_take (i := 8) (v := ?_) rfl (by kernel_rfl) (by kernel_rfl) (by kernel_rfl) (by rfl) (by first | assumption | exact True.intro) ?_ ?_
  rotate_left
  · (intro W hSw; have g1 := (HB.out.ext hSw).cell 1; have q1 := (HI.out.ext hSw HLT.out).c1; have r1 := (HK.out.ext hSw HLT.out).c1; go_simp; (try with_reducible rfl))
  try simp only [Act.put, List.setIfInBounds_toArray, List.set_cons_zero, List.set_cons_succ]
  refine held_take (i := 9) (v := ?_) rfl (by kernel_rfl) (by kernel_rfl) (by kernel_rfl) (by rfl) (by first | assumption | exact True.intro) ?_ ?_
  rotate_left
  · (intro W hSw; have g1 := (HB.out.ext hSw).cell 1; have q1 := (HI.out.ext hSw HLT.out).c1; have r1 := (HK.out.ext hSw HLT.out).c1; go_simp; (try with_reducible rfl))
  try simp only [Act.put, List.setIfInBounds_toArray, List.set_cons_zero, List.set_cons_succ]
  refine held_take (i := 10) (v := ?_) rfl (by kernel_rfl) (by kernel_rfl) (by kernel_rfl) (by rfl) (by first | assumption | exact True.intro) ?_ ?_
  rotate_left
  · (intro W hSw; have g1 := (HB.out.ext hSw).cell 1; have q1 := (HI.out.ext hSw HLT.out).c1; have r1 := (HK.out.ext hSw HLT.out).c1; go_simp; (try with_reducible rfl))
  try simp only [Act.put, List.setIfInBounds_toArray, List.set_cons_zero, List.set_cons_succ]
  refine held_take (i := 11) (v := ?_) rfl (by kernel_rfl) (by kernel_rfl) (by kernel_rfl) (by rfl) (by first | assumption | exact True.intro) ?_ ?_
  rotate_left
  · (intro W hSw; have g1 := (HB.out.ext hSw).cell 1; have q1 := (HI.out.ext hSw HLT.out).c1; have r1 := (HK.out.ext hSw HLT.out).c1; go_simp; (try with_reducible rfl))
  try simp only [Act.put, List.setIfInBounds_toArray, List.set_cons_zero, List.set_cons_succ]
  refine held_take (i := 12) (v := ?_) rfl (by kernel_rfl) (by kernel_rfl) (by kernel_rfl) (by rfl) (by first | assumption | exact True.intro) ?_ ?_
  rotate_left
  · (intro W hSw; have g1 := (HB.out.ext hSw).cell 1; have q1 := (HI.out.ext hSw HLT.out).c1; have r1 := (HK.out.ext hSw HLT.out).c1; go_simp; (try with_reducible rfl))
  try simp only [Act.put, List.setIfInBounds_toArray, List.set_cons_zero, List.set_cons_succ]
  refine held_take (i := 13) (v := ?_) rfl (by kernel_rfl) (by kernel_rfl) (by kernel_rfl) (by rfl) (by first | assumption | exact True.intro) ?_ ?_
  rotate_left
  · (intro W hSw; have g1 := (HB.out.ext hSw).cell 1; have q1 := (HI.out.ext hSw HLT.out).c1; have r1 := (HK.out.ext hSw HLT.out).c1; go_simp; (try with_reducible rfl))
  try simp only [Act.put, List.setIfInBounds_toArray, List.set_cons_zero, List.set_cons_succ]
  refine held_take (i := 15) (v := ?_) rfl (by kernel_rfl) (by kernel_rfl) (by kernel_rfl) (by rfl) (by first | assumption | exact True.intro) ?_ ?_
  rotate_left
  · (intro W hSw; have g1 := (HB.out.ext hSw).cell 1; have q1 := (HI.out.ext hSw HLT.out).c1; have r1 := (HK.out.ext hSw HLT.out).c1; go_simp; (try with_reducible rfl))
  try simp only [Act.put, List.setIfInBounds_toArray, List.set_cons_zero, List.set_cons_succ]
  refine held_take (i := 16) (v := ?_) rfl (by kernel_rfl) (by kernel_rfl) (by kernel_rfl) (by rfl) (by first | assumption | exact True.intro) ?_ ?_
  rotate_left
  · (intro W hSw; have g1 := (HB.out.ext hSw).cell 1; have q1 := (HI.out.ext hSw HLT.out).c1; have r1 := (HK.out.ext hSw HLT.out).c1; go_simp; (try with_reducible rfl))
  try simp only [Act.put, List.setIfInBounds_toArray, List.set_cons_zero, List.set_cons_succ]
  clear hSx
  have hD : Ext W0 W0.drew := Below.drewN' (Ext.refl W0) 1
  have HD := Lib.hid hD
  clear hD
  refine held_op (i := 14) (by kernel_rfl) rfl (fun K hK => ?_)
  go_simp
  go_at_call 65
  refine (HC1.out _).mono ?_
  rintro e1 w1 ⟨rfl, rfl⟩
  refine hK _ _ HD.out (fun hSx => ?_)
  clear hK K
  try simp only [Act.put, List.setIfInBounds_toArray, List.set_cons_zero, List.set_cons_succ]
  clear hSx
  refine held_op (i := 17) (by kernel_rfl) rfl (fun K hK => ?_)
  go_simp
  go_at_call 65
  refine (HC2.out _).mono ?_
  rintro e1 w1 ⟨rfl, rfl⟩
  refine hK _ _ HD.out (fun hSx => ?_)
  clear hK K
  try simp only [Act.put, List.setIfInBounds_toArray, List.set_cons_zero, List.set_cons_succ]
  clear hSx
  refine held_op (i := 18) (by kernel_rfl) rfl (fun K hK => ?_)
  go_simp
  have HBN := Lib.hid (Blk.new W0.drew 3 #[.int .i64 p, .int .i64 r])
  have HXN : Hid (Ext W0 (W0.drew.alloc (.cells #[.int .i64 p, .int .i64 r] 3))) := Lib.hid (Ext.trans HD.out ((Below.refl _ _).alloc (Nat.le_refl _) _))
  refine hK _ _ HXN.out (fun hSx => ?_)
  clear hK K
  try simp only [Act.put, List.setIfInBounds_toArray, List.set_cons_zero, List.set_cons_succ]
  clear hSx
  refine held_op (i := 19) (by kernel_rfl) rfl (fun K hK => ?_)
  go_simp
  go_at_call 64
  refine (HOR.out _ _ (HBN.out.cell 0) (HBN.out.cell 1)).mono ?_
  rintro e2 w2 ⟨rfl, rfl⟩
  refine hK _ _ HXN.out (fun hSx => ?_)
  clear hK K
  try simp only [Act.put, List.setIfInBounds_toArray, List.set_cons_zero, List.set_cons_succ]
  refine held_take (i := 20) (v := ?_) rfl (by kernel_rfl) (by kernel_rfl) (by kernel_rfl) (by rfl) (by first | assumption | exact True.intro) ?_ ?_
  rotate_left
  · (intro W hSw; go_simp; (try with_reducible rfl))
  try simp only [Act.put, List.setIfInBounds_toArray, List.set_cons_zero, List.set_cons_succ]
  clear hSx
  refine wpAnyH_done (by kernel_rfl) ?_ _
  refine NoPanic.normal ?_
  go_wp2
  go_ret
  exact ⟨rfl, HG0.out.trans ((Gr.drew W0).trans (Gr.alloc _ _))⟩

end Go.Proofs.Ytgjidkhfnnghiaa

/- The reference of layer 14: which job comes ahead; a job's place. -/
namespace Go.Proofs.Ytgjidkhfnnghiaa
open Go.RowKit

set_option maxRecDepth 100000 in
theorem RefAhead_any (vn vj : Value) (s : St) (i k : Nat) (x y : Jb) (p r : Int) (w : World) (hr : RdJb w vj s.jobs) (hi : s.jobs[i]? = some x) (hk : s.jobs[k]? = some y) (hp : p = (i : Int) + 1) (hq : r = (k : Int) + 1) (hN : s.jobs.length ≤ 1000) :
    Calls Try.prog 44 #[stV vn vj s, .int .i64 p, .int .i64 r] w fun e w' => e = .returned (.bool (aheadL s.jobs i k)) ∧ Ext w w' := by
  rw [aheadL_at hi hk]
  obtain ⟨hx, hb⟩ := boxSt vn vj s w 27
  unfold stV
  unfold stC at hx hb
  have li := (List.getElem?_eq_some_iff.1 hi).1
  have lk := (List.getElem?_eq_some_iff.1 hk).1
  obtain ⟨A, c, rfl, hnc, hcm, hcell⟩ := jobs_cells hr
  obtain ⟨b, o, rfl, hlt, hati⟩ := hcell i x hi
  obtain ⟨b', o', e, -, hatk⟩ := hcell k y hk
  cases e
  have q1 := (hati.ext hx hlt).c1
  have q1' := (hatk.ext hx hlt).c1
  have h1 := hb.cell 1
  have HX := Lib.hid hx
  clear hx hb hr hcell hati hatk hlt hi hk
  generalize s.jobs.length = N at *
  have wp : wrap64 (p - 1) = (i : Int) := by rw [IntWalk.wrap64_in _ (by omega)]; omega
  have wr : wrap64 (r - 1) = (k : Int) := by rw [IntWalk.wrap64_in _ (by omega)]; omega
  have d1 : decide (p < 1) = false := decide_eq_false (by omega)
  have d2 : decide (r < 1) = false := decide_eq_false (by omega)
  have d3 : decide ((N : Int) < p) = false := decide_eq_false (by omega)
  have d4 : decide ((N : Int) < r) = false := decide_eq_false (by omega)
  have d5 : decide (i < N) = true := decide_eq_true li
  have d6 : decide (k < N) = true := decide_eq_true lk
  have hIK : decide (p < r) = decide (i < k) := by rw [hp, hq]; congr 1; exact propext (by omega)
  have HIK := Lib.hid hIK
  clear hIK hp hq hN
  by_cases e1 : y.prio < x.prio
  · have HZ : Hid (decide (y.prio < x.prio ∨ x.prio = y.prio ∧ i < k) = true) := Lib.hid (decide_eq_true (.inl e1))
    have f1 : decide (y.prio < x.prio) = true := decide_eq_true e1
    rw [HZ.out]
    clear e1
    go_enter Try.func44, Try.ntmps44
    go_wp2_with fail
    go_quiet (fail)
    go_wp2
    go_ret
    exact ⟨rfl, HX.out.trans (Below.drewN' (Ext.refl _) _)⟩
  · have f1 : decide (y.prio < x.prio) = false := decide_eq_false e1
    by_cases e2 : x.prio = y.prio
    · have HZ : Hid (decide (y.prio < x.prio ∨ x.prio = y.prio ∧ i < k) = decide (i < k)) := Lib.hid (by congr 1; exact propext ⟨fun h => h.elim (fun h => absurd h e1) (·.2), fun h => .inr ⟨e2, h⟩⟩)
      have f2 : (x.prio == y.prio) = true := by rw [e2]; simp
      rw [HZ.out]
      clear e1 e2
      go_enter Try.func44, Try.ntmps44
      go_wp2_with fail
      go_quiet (fail)
      go_wp2
      go_ret
      exact ⟨by rw [← HIK.out]; rfl, HX.out.trans (Below.drewN' (Ext.refl _) _)⟩
    · have HZ : Hid (decide (y.prio < x.prio ∨ x.prio = y.prio ∧ i < k) = false) := Lib.hid (decide_eq_false fun h => h.elim e1 fun h => e2 h.1)
      have f2 : (x.prio == y.prio) = false := by simpa using e2
      rw [HZ.out]
      clear e1 e2
      go_enter Try.func44, Try.ntmps44
      go_wp2_with fail
      go_quiet (fail)
      go_wp2
      go_ret
      exact ⟨rfl, HX.out.trans (Below.drewN' (Ext.refl _) _)⟩

set_option maxRecDepth 100000 in
set_option maxHeartbeats 2000000 in
theorem RefPlace_any (vn vj : Value) (s : St) (job : Int) (w : World) (hr : RdJb w vj s.jobs) (hN : s.jobs.length ≤ 1000) :
    Calls Try.prog 23 #[stV vn vj s, .int .i64 job] w fun e w' => e = .returned (.int .i64 (placeI s.jobs job)) ∧ Ext w w' := by
  have HJ := Lib.hid hr
  obtain ⟨hx, hb⟩ := boxSt vn vj s w 27
  have HAH : Hid (∀ (i k : Nat) (x y : Jb) (p r : Int) (W : World), Ext w W → s.jobs[i]? = some x → s.jobs[k]? = some y → p = (i : Int) + 1 → r = (k : Int) + 1 → Calls Try.prog 44 #[stV vn vj s, .int .i64 p, .int .i64 r] W fun e w' => e = .returned (.bool (aheadL s.jobs i k)) ∧ Ext W w') := Lib.hid fun i k x y p r W hW h1 h2 h3 h4 => RefAhead_any vn vj s i k x y p r W (HJ.out.ext hW) h1 h2 h3 h4 hN
  unfold stV at HAH
  unfold stV
  unfold stC at hx hb
  obtain ⟨A, c, rfl, hnc, hcm, hcell⟩ := jobs_cells hr
  have HC := Lib.hid hcell
  have h1 := hb.cell 1
  obtain ⟨PL, hPL⟩ : ∃ z, z = placeI s.jobs job := ⟨_, rfl⟩
  rw [← hPL]
  have HP := Lib.hid hPL
  have HX := Lib.hid hx
  have HB := Lib.hid hb
  clear hx hb hr hcell hPL
  generalize s.jobs = l at *
  by_cases j1 : job < 1
  · have HZ : Hid (PL = -1) := Lib.hid (by rw [HP.out]; unfold placeI; rw [if_neg (by omega)])
    have d1 : decide (job < 1) = true := decide_eq_true j1
    clear j1
    go_enter Try.func23, Try.ntmps23
    go_wp2
    go_ret
    exact ⟨by rw [HZ.out]; rfl, HX.out⟩
  · have d1 : decide (job < 1) = false := decide_eq_false j1
    by_cases j2 : (l.length : Int) < job
    · have HZ : Hid (PL = -1) := Lib.hid (by rw [HP.out]; unfold placeI; rw [if_neg (fun h => by have := queuedL_lt h.2; omega)])
      have d2 : decide ((l.length : Int) < job) = true := decide_eq_true j2
      clear j1 j2
      go_enter Try.func23, Try.ntmps23
      go_wp2
      go_ret
      exact ⟨by rw [HZ.out]; rfl, HX.out⟩
    · have d2 : decide ((l.length : Int) < job) = false := decide_eq_false j2
      obtain ⟨i, hi⟩ : ∃ i : Nat, job = (i : Int) + 1 := ⟨(job - 1).toNat, by omega⟩
      have hil : i < l.length := by omega
      obtain ⟨x, hxi⟩ : ∃ x, l[i]? = some x := ⟨_, List.getElem?_eq_getElem hil⟩
      obtain ⟨b, o, rfl, hlt, hat⟩ := HC.out i x hxi
      have q6 := (hat.ext HX.out hlt).c6
      have HTN : Hid ((job - 1).toNat = i ∧ 1 ≤ job) := Lib.hid (by omega)
      have wp : wrap64 (job - 1) = (i : Int) := by rw [IntWalk.wrap64_in _ (by omega)]; omega
      have d5 : decide (i < l.length) = true := decide_eq_true hil
      clear hat
      by_cases hph : x.phase = 0
      · have HZ : Hid (PL = (placeTo l i l.length : Int)) := Lib.hid (by rw [HP.out]; unfold placeI; rw [HTN.out.1, if_pos ⟨HTN.out.2, by rw [queuedL_at hxi, hph]; rfl⟩]; rfl)
        have e6 : (x.phase != 0) = false := by rw [hph]; rfl
        have HJI := Lib.hid hi
        have HXI := Lib.hid hxi
        clear hph j1 j2 hi hxi
        go_enter Try.func23, Try.ntmps23
        go_wp2_with fail
        clear q6 h1 wp d1 d2 d5 e6
        obtain ⟨W0, hW0⟩ : ∃ W0, W0 = w.alloc (.cells #[vn, .slice (some ⟨b, o, none⟩) l.length c, .int .i64 s.goal, .int .i64 s.prior, .int .i64 s.mode, .int .i64 s.term] 27) := ⟨_, rfl⟩
        rw [← hW0] at HX HB ⊢
        clear hW0
        go_loopw [5, 6] (fun n k wr => ∃ (q : Nat) (z : Int), k = .int .i64 z ∧ n = .int .i64 (placeTo l i q : Int) ∧ z = (q : Int) + 1 ∧ q ≤ l.length ∧ Ext W0 wr) (fun _ k _ => l.length + 1 - (intOf k).toNat)
        case atStart => exact ⟨0, 1, rfl, rfl, rfl, Nat.zero_le _, Ext.refl _⟩
        case round =>
          obtain ⟨q, z, rfl, rfl, hz, hq, hxr⟩ := hrel
          have HXR := Lib.hid hxr
          have HBR := Lib.hid (HB.out.ext hxr)
          have HXW := Lib.hid (HX.out.trans hxr)
          have g0 := HBR.out.cell 0
          have g1 := HBR.out.cell 1
          have g2 := HBR.out.cell 2
          have g3 := HBR.out.cell 3
          have g4 := HBR.out.cell 4
          have g5 := HBR.out.cell 5
          have HST := Lib.hid (placeTo_step l i q)
          have hpl := placeTo_le l i q
          generalize hP : placeTo l i q = P at *
          have HPQ := Lib.hid hP
          clear hxr hP
          by_cases hlt2 : q < l.length
          · have f1 : decide (z ≤ (l.length : Int)) = true := decide_eq_true (by omega)
            have f2 : decide (q < l.length) = true := decide_eq_true hlt2
            have HWP : Hid (wrap64 ((P : Int) + 1) = ((P + 1 : Nat) : Int)) := Lib.hid (IntWalk.wrap64_in _ (by omega))
            have HZ1 : Hid (z + 1 = ((q + 1 : Nat) : Int) + 1 ∧ 0 ≤ z ∧ z < ((l.length + 1 : Nat) : Int)) := Lib.hid (by omega)
            have wz : wrap64 (z - 1) = (q : Int) := by rw [IntWalk.wrap64_in _ (by omega)]; omega
            have wz1 : wrap64 (z + 1) = z + 1 := IntWalk.wrap64_in _ (by omega)
            obtain ⟨y, hy⟩ : ∃ y, l[q]? = some y := ⟨_, List.getElem?_eq_getElem hlt2⟩
            obtain ⟨b', o', e, hlt', haty⟩ := HC.out q y hy
            cases e
            have r6 := (haty.ext HXW.out hlt').c6
            have HY := Lib.hid hy
            have HQ := Lib.hid (queuedL_at hy)
            have HLT := Lib.hid hlt2
            have HZQ := Lib.hid hz
            clear haty hy hz
            by_cases hy0 : y.phase = 0
            · have e7 : (y.phase == 0) = true := by rw [hy0]; rfl
              have HAC := Lib.hid (HAH.out q i y x z job wr HXW.out HY.out HXI.out HZQ.out HJI.out)
              have HQ1 : Hid (queuedL l q = true) := Lib.hid (by rw [HQ.out, hy0]; rfl)
              clear hy0
              go_wp2_with fail
              refine HAC.out.mono ?_
              rintro e9 w9 ⟨rfl, hx9⟩
              have HX9 := Lib.hid (HXR.out.trans hx9)
              clear hx9
              cases ha : aheadL l q i
              · have HS : Hid (placeTo l i (q + 1) = P) := Lib.hid (by rw [HST.out, ha, Bool.and_false, if_neg (by simp), Nat.add_zero])
                repeat (first | go_values | go_skip | go_guarded | go_step | go_upon | (simp only []))
                go_roundw
                case rel => exact ⟨q + 1, z + 1, by first | rfl | rw [wz1], by rw [HS.out], HZ1.out.1, HLT.out, HX9.out⟩
                case measure => first | (rw [wz1]; exact measZ HZ1.out.2.1 HZ1.out.2.2) | exact measZ HZ1.out.2.1 HZ1.out.2.2
              · have HS : Hid (placeTo l i (q + 1) = P + 1) := Lib.hid (by rw [HST.out, ha, HQ1.out]; rfl)
                have wP := HWP.out
                repeat (first | go_values | go_skip | go_guarded | go_step | go_upon | (simp only []))
                go_roundw
                case rel => exact ⟨q + 1, z + 1, by first | rfl | rw [wz1], by rw [HS.out]; first | rfl | rw [wP], HZ1.out.1, HLT.out, HX9.out⟩
                case measure => first | (rw [wz1]; exact measZ HZ1.out.2.1 HZ1.out.2.2) | exact measZ HZ1.out.2.1 HZ1.out.2.2
            · have e7 : (y.phase == 0) = false := by simpa using hy0
              have HS : Hid (placeTo l i (q + 1) = P) := Lib.hid (by rw [HST.out, HQ.out, decide_eq_false hy0, Bool.false_and, if_neg (by simp), Nat.add_zero])
              clear hy0
              go_wp2
              go_roundw
              case rel => exact ⟨q + 1, z + 1, by first | rfl | rw [wz1], by rw [HS.out], HZ1.out.1, HLT.out, HXR.out⟩
              case measure => first | (rw [wz1]; exact measZ HZ1.out.2.1 HZ1.out.2.2) | exact measZ HZ1.out.2.1 HZ1.out.2.2
          · have f1 : decide (z ≤ (l.length : Int)) = false := decide_eq_false (by omega)
            have HE : Hid (PL = (P : Int)) := Lib.hid (by rw [HZ.out, ← HPQ.out, show q = l.length by omega])
            go_wp2
            go_ret
            exact ⟨by rw [HE.out]; rfl, HXW.out⟩
      · have HZ : Hid (PL = -1) := Lib.hid (by rw [HP.out]; unfold placeI; rw [HTN.out.1, if_neg (fun h => by rw [queuedL_at hxi] at h; exact hph (of_decide_eq_true h.2))])
        have e6 : (x.phase != 0) = true := by simp only [bne_iff_ne, ne_eq]; exact hph
        clear hph j1 j2
        go_enter Try.func23, Try.ntmps23
        go_wp2
        go_ret
        exact ⟨by rw [HZ.out]; rfl, HX.out⟩

end Go.Proofs.Ytgjidkhfnnghiaa

/- Slices of numbers in this translation's numbers. -/
namespace Go.Proofs.Ytgjidkhfnnghiaa
open Go.RowKit

theorem Try.infoInt : (Try.prog.info? 3).map (fun i => (i.zero, i.size, i.bytes)) = some (some (.int .i64 0), 1, 8) := by kernel_rfl

/-- 'l = append(l, x)', l a row of numbers of the call's own. -/
theorem push_int {w : World} {ops : Array Oper} {rest : List Oper} {o : Oper} {a : Act} {Q : Exit → Act → World → Prop} {gx : Nat} (hgd : o.guard = none) (s x : Operand)
    (ho : o.op = .call { callee := .builtin .append, args := #[s, x], argTypes := #[47, 47] })
    (base : Nat) (v : Value) (xs : List Value) (hs : a.eval s = v) (hown : w.ownsRow base 3 1 v xs.length xs) (u : Value) (h1 : u.oneCell' = true)
    (hx : a.eval x = .slice (some ⟨gx, 0, none⟩) 1 1) (hlen : xs.length < 17592186044416) (hbase : base ≤ w.heap.size)
    (h : ∀ v' w', Grew base 3 v w (xs ++ [u]) v' w' → wpList Try.prog ops Q rest (a.put o.dst v') w') (hgx : gx = w.heap.size := by simp) : wpList Try.prog ops Q (o :: rest) a (w.alloc (.cells #[u] 3)) := by
  subst hgx
  exact wpList_push hgd s x 47 ho base 3 (.int .i64 0) 8 Try.underlying47 Try.infoInt rfl v xs hs hown u h1 hx (by unfold maxLen; omega) (by omega) hbase h

end Go.Proofs.Ytgjidkhfnnghiaa

/- The reference of layer 14: the line. -/
namespace Go.Proofs.Ytgjidkhfnnghiaa
open Go.RowKit

/-- A job's number, for its position. -/
def J (i : Nat) : Value := .int .i64 ((i : Int) + 1)

theorem placeI_is {l : List Jb} {p q : Nat} {z : Int} (hz : z = (p : Int) + 1) : (placeI l z == (q : Int)) = (queuedL l p && decide (placeL l p = q)) := by
  unfold placeI
  rw [show (z - 1).toNat = p by omega]
  cases h : queuedL l p with
  | false => rw [if_neg (by simp)]; simp only [Bool.false_and, beq_eq_false_iff_ne, ne_eq]; omega
  | true =>
    rw [if_pos ⟨by omega, rfl⟩, Bool.true_and, Bool.eq_iff_iff]
    simp
    omega

set_option maxRecDepth 100000 in
set_option maxHeartbeats 2000000 in
theorem RefLine_any (vn vj : Value) (s : St) (w : World) (hr : RdJb w vj s.jobs) (hN : s.jobs.length ≤ 1000) :
    Calls Try.prog 25 #[stV vn vj s] w fun e w' => ∃ v', e = .returned v' ∧ Grew w.heap.size 3 (.slice none 0 0) w ((lineL s.jobs).map J) v' w' := by
  have HJ := Lib.hid hr
  obtain ⟨hx, hb⟩ := boxSt vn vj s w 27
  have HPL : Hid (∀ (z : Int) (W : World), Ext w W → Calls Try.prog 23 #[stV vn vj s, .int .i64 z] W fun e w' => e = .returned (.int .i64 (placeI s.jobs z)) ∧ Ext W w') := Lib.hid fun z W hW => RefPlace_any vn vj s z W (HJ.out.ext hW) hN
  unfold stV at HPL
  unfold stV
  unfold stC at hx hb
  obtain ⟨A, c, rfl, hnc, hcm, -⟩ := jobs_cells hr
  have HX := Lib.hid hx
  have HB := Lib.hid hb
  clear hx hb hr HJ
  generalize s.jobs = l at *
  have HE : Hid (lineL l = lineTo l l.length) := Lib.hid rfl
  obtain ⟨L, hL⟩ : ∃ L, L = lineL l := ⟨_, rfl⟩
  rw [← hL] at HE ⊢
  clear hL
  go_enter Try.func25, Try.ntmps25
  go_wp2_with fail
  obtain ⟨W0, hW0⟩ : ∃ W0, W0 = w.alloc (.cells #[vn, .slice A l.length c, .int .i64 s.goal, .int .i64 s.prior, .int .i64 s.mode, .int .i64 s.term] 27) := ⟨_, rfl⟩
  rw [← hW0] at HX HB ⊢
  clear hW0
  have HG0 := Lib.hid (Grew.nil (base := W0.heap.size) (e := 3) W0)
  go_loopw [3, 4] (fun v a wr => ∃ q : Nat, a = .int .i64 q ∧ q ≤ l.length ∧ Hid (Grew W0.heap.size 3 (.slice none 0 0) W0 ((lineTo l q).map J) v wr)) (fun _ a _ => l.length - (intOf a).toNat)
  case atStart => exact ⟨0, rfl, Nat.zero_le _, HG0⟩
  case round =>
    obtain ⟨q, rfl, hq, HK⟩ := hrel
    have g1 := (HB.out.ext HK.out.ext).cell 1
    have hlq : (lineTo l q).length ≤ 1000000 := Nat.le_trans (lineTo_len l q) (Nat.le_trans (Nat.mul_le_mul (Nat.le_trans hq hN) hN) (by decide))
    have HLQ := Lib.hid hlq
    have HLS := Lib.hid (lineTo_step l q)
    clear hlq
    by_cases hlt : q < l.length
    · have e1 : decide ((q : Int) < (l.length : Int)) = true := decide_eq_true (by omega)
      have e1' : decide (q < l.length) = true := decide_eq_true hlt
      have HLT := Lib.hid hlt
      have HK0 : Hid (Grew W0.heap.size 3 (.slice none 0 0) W0 ((lineTo l q ++ atTo l q 0).map J) u3 wr) := Lib.hid (by rw [atTo_zero, List.append_nil]; exact HK.out)
      go_wp2_with fail
      clear e1 e1' g1 HK hlt
      obtain ⟨w1, rfl⟩ : ∃ w1 : World, w1 = wr := ⟨_, rfl⟩
      obtain ⟨v1, rfl⟩ : ∃ v1 : Value, v1 = u3 := ⟨_, rfl⟩
      go_loopw [3, 5] (fun v k wr => ∃ (p : Nat) (z : Int), k = .int .i64 z ∧ z = (p : Int) + 1 ∧ p ≤ l.length ∧ Hid (Grew W0.heap.size 3 (.slice none 0 0) W0 ((lineTo l q ++ atTo l q p).map J) v wr)) (fun _ k _ => l.length + 1 - (intOf k).toNat)
      case atStart => exact ⟨0, 1, rfl, rfl, Nat.zero_le _, HK0⟩
      case round =>
        obtain ⟨p, z, rfl, hz, hp, HK⟩ := hrel
        have HBR := Lib.hid (HB.out.ext HK.out.ext)
        have HXW := Lib.hid (HX.out.trans HK.out.ext)
        have g0 := HBR.out.cell 0
        have g1 := HBR.out.cell 1
        have g2 := HBR.out.cell 2
        have g3 := HBR.out.cell 3
        have g4 := HBR.out.cell 4
        have g5 := HBR.out.cell 5
        have HST := Lib.hid (atTo_step l q p)
        have HPI := Lib.hid (placeI_is (l := l) (p := p) (q := q) hz)
        have HZ := Lib.hid hz
        have hal := atTo_len l q p
        have hln : ((lineTo l q ++ atTo l q p).map J).length < 17592186044416 := by have := HLQ.out; rw [List.length_map, List.length_append]; omega
        have HLN := Lib.hid hln
        clear hln hal
        by_cases hlt : p < l.length
        · have e1 : decide (z ≤ (l.length : Int)) = true := decide_eq_true (by omega)
          have wz1 : wrap64 (z + 1) = z + 1 := IntWalk.wrap64_in _ (by omega)
          have HLT := Lib.hid hlt
          have HAC := Lib.hid (HPL.out z wr HXW.out)
          clear hlt hz
          go_wp2_with fail
          refine HAC.out.mono ?_
          rintro e9 w9 ⟨rfl, hx9⟩
          have HX9 := Lib.hid hx9
          clear hx9
          cases hc : (queuedL l p && decide (placeL l p = q))
          · have HS : Hid (atTo l q (p + 1) = atTo l q p) := Lib.hid (by rw [HST.out, hc, if_neg (by simp), List.append_nil])
            have e2 : (placeI l z == (q : Int)) = false := by rw [HPI.out, hc]
            clear hc
            go_wp2
            go_roundw
            case rel => exact ⟨p + 1, z + 1, by first | rfl | rw [wz1], by have := HZ.out; omega, HLT.out, Lib.hid (by rw [HS.out]; exact HK.out.step HX9.out)⟩
            case measure => first | (rw [wz1]; exact measZ (by have := HZ.out; omega) (by have := HLT.out; have := HZ.out; omega)) | exact measZ (by have := HZ.out; omega) (by have := HLT.out; have := HZ.out; omega)
          · have HS : Hid (((lineTo l q ++ atTo l q (p + 1)).map J) = ((lineTo l q ++ atTo l q p).map J) ++ [.int .i64 z]) := Lib.hid (by rw [HST.out, hc, if_pos rfl, ← List.append_assoc, List.map_append]; rw [HZ.out]; rfl)
            have e2 : (placeI l z == (q : Int)) = true := by rw [HPI.out, hc]
            have hk9 := HK.out.step HX9.out
            have hown := hk9.own
            have hbr := hk9.size
            have hl2 := HLN.out
            clear hc
            obtain ⟨M, hM⟩ : ∃ M, M = ((lineTo l q ++ atTo l q p).map J).length := ⟨_, rfl⟩
            obtain ⟨Av, cv, rfl⟩ := own_slice (n := M) (by rw [hM]; exact hown)
            clear hM
            go_wp2_with (at_builtin; refine push_int rfl _ _ rfl W0.heap.size _ _ rfl hown _ rfl rfl hl2 hbr ?_; intro v2 w3 hg2)
            have hk2 : Grew W0.heap.size 3 (.slice none 0 0) W0 ((lineTo l q ++ atTo l q (p + 1)).map J) v2 w3 := by rw [HS.out]; exact hk9.trans hg2
            go_roundw
            case rel => exact ⟨p + 1, z + 1, by first | rfl | rw [wz1], by have := HZ.out; omega, HLT.out, Lib.hid hk2⟩
            case measure => first | (rw [wz1]; exact measZ (by have := HZ.out; omega) (by have := HLT.out; have := HZ.out; omega)) | exact measZ (by have := HZ.out; omega) (by have := HLT.out; have := HZ.out; omega)
        · have e1 : decide (z ≤ (l.length : Int)) = false := decide_eq_false (by omega)
          have HK9 : Hid (Grew W0.heap.size 3 (.slice none 0 0) W0 ((lineTo l (q + 1)).map J) u3 wr) := Lib.hid (by rw [HLS.out]; have h9 := HK.out; rw [show p = l.length by omega] at h9; exact h9)
          go_wp2
          go_roundw
          case rel => exact ⟨q + 1, by go_num, HLT.out, HK9⟩
          case measure => have := HLT.out; simp [intOf]; omega
    · have e1 : decide ((q : Int) < (l.length : Int)) = false := decide_eq_false (by omega)
      have e1' : decide (q < l.length) = false := decide_eq_false hlt
      have HKE : Hid (Grew W0.heap.size 3 (.slice none 0 0) W0 (L.map J) u3 wr) := Lib.hid (by rw [HE.out]; have h9 := HK.out; rw [show q = l.length by omega] at h9; exact h9)
      go_wp2
      go_ret
      exact ⟨_, rfl, Grew.from_ext HX.out HKE.out⟩

end Go.Proofs.Ytgjidkhfnnghiaa

/- Package rank: the comparing closure of Line; Line, over its sort. -/
namespace Go.Proofs.Ytgjidkhfnnghiaa
open Go.RowKit

set_option maxRecDepth 100000 in
theorem lineCmp_any (vn vj : Value) (s : St) (g i k : Nat) (x y : Jb) (a b : Int) (w : World) (hb : Blk w g 27 (stC vn vj s)) (hr : RdJb w vj s.jobs) (hi : s.jobs[i]? = some x) (hk : s.jobs[k]? = some y) (ha : a = (i : Int) + 1) (hbk : b = (k : Int) + 1) (hN : s.jobs.length ≤ 1000) :
    Calls Try.prog 42 #[.int .i64 a, .int .i64 b, .pointer (some ⟨g, 0, none⟩)] w fun e w' => e = .returned (.int .i64 (cmpL x y a b)) ∧ Gr w w' := by
  have HC := Lib.hid (compare_any vn vj s i k x y a b w hr hi hk ha hbk hN)
  unfold stV at HC
  unfold stC at hb
  obtain ⟨g0, g1, g2, g3, g4, g5⟩ := Blk.six hb
  clear hb hr hi hk ha hbk
  generalize cmpL x y a b = R at *
  go_enter Try.func42, Try.ntmps42
  go_wp2_with fail
  refine HC.out.mono ?_
  rintro e1 w1 ⟨rfl, hg1⟩
  have HG := Lib.hid hg1
  clear hg1 HC g0 g1 g2 g3 g4 g5
  go_wp2
  go_ret
  exact ⟨rfl, HG.out⟩

/-- What Line wants of the sort: a row of the call's own that holds queued jobs' numbers holds them in the line's order behind it. -/
def SortLine : Prop := ∀ (vn vj : Value) (s : St) (g : Nat) (v : Value) (L : List Nat) (w0 W : World), Blk w0 g 27 (stC vn vj s) → RdJb w0 vj s.jobs → Ext w0 W → W.ownsRow w0.heap.size 3 1 v (L.map J).length (L.map J) → L.Nodup → (∀ i ∈ L, i < s.jobs.length) → s.jobs.length ≤ 1000 → L.length ≤ 1000 →
  Calls Try.prog 41 #[v, .func (.func 42) #[] #[.pointer (some ⟨g, 0, none⟩)]] W fun e w' => e = .returned (.tuple #[]) ∧ ∃ L' : List Nat, L'.Perm L ∧ (L'.Pairwise fun i k => aheadL s.jobs i k = true) ∧ Rd w' v (L'.map J) ∧ Ext w0 w'

def queuedTo (l : List Jb) (q : Nat) : List Nat := (List.range q).filter (queuedL l)
theorem queuedTo_step (l : List Jb) (q : Nat) : queuedTo l (q + 1) = queuedTo l q ++ (if queuedL l q = true then [q] else []) := range_filter_step _ _
theorem queuedTo_len (l : List Jb) (q : Nat) : (queuedTo l q).length ≤ q := Nat.le_trans (List.length_filter_le _ _) (by simp)

set_option maxRecDepth 100000 in
set_option maxHeartbeats 4000000 in
theorem Line_over (hS : SortLine) (vn vj : Value) (s : St) (w : World) (hr : RdJb w vj s.jobs) (hN : s.jobs.length ≤ 1000) :
    Calls Try.prog 21 #[stV vn vj s] w fun e w' => ∃ v', e = .returned v' ∧ Rd w' v' ((lineL s.jobs).map J) ∧ Ext w w' := by
  have HS := Lib.hid hS
  have HJ := Lib.hid hr
  obtain ⟨hx, hb⟩ := boxSt vn vj s w 27
  have HBB := Lib.hid hb
  unfold stV
  unfold stC at hx hb
  obtain ⟨A, c, hv, hnc, hcm, hcell⟩ := jobs_cells hr
  have HC := Lib.hid hcell
  have HX := Lib.hid hx
  have HB := Lib.hid hb
  have HV := Lib.hid hv
  clear hx hb hr hcell hS
  have HNN := Lib.hid hN
  subst hv
  go_enter Try.func21, Try.ntmps21
  go_wp2_with fail
  obtain ⟨W0, hW0⟩ : ∃ W0, W0 = w.alloc (.cells #[vn, .slice A s.jobs.length c, .int .i64 s.goal, .int .i64 s.prior, .int .i64 s.mode, .int .i64 s.term] 27) := ⟨_, rfl⟩
  have HBS : Hid (Blk W0 w.heap.size 27 (stC vn (.slice A s.jobs.length c) s)) := Lib.hid (by rw [hW0]; exact HBB.out)
  rw [← hW0] at HX HB ⊢
  clear hW0 HBB
  have HG0 := Lib.hid (Grew.nil (base := W0.heap.size) (e := 3) W0)
  go_loopw [3, 9] (fun v i wr => ∃ q : Nat, i = .int .i64 q ∧ q ≤ s.jobs.length ∧ Hid (Grew W0.heap.size 3 (.slice none 0 0) W0 ((queuedTo s.jobs q).map J) v wr)) (fun _ i _ => s.jobs.length - (intOf i).toNat)
  case atStart => exact ⟨0, rfl, Nat.zero_le _, HG0⟩
  case round =>
    obtain ⟨q, rfl, hq, HK⟩ := hrel
    have HST := Lib.hid (queuedTo_step s.jobs q)
    have hal := queuedTo_len s.jobs q
    have HXW : Hid (Ext w wr) := Lib.hid (Ext.trans HX.out HK.out.ext)
    by_cases hlt : q < s.jobs.length
    · have d1 : decide ((q : Int) < (s.jobs.length : Int)) = true := decide_eq_true (by omega)
      have d1' : decide (q < s.jobs.length) = true := decide_eq_true hlt
      have HLT := Lib.hid hlt
      have HLN : Hid (((queuedTo s.jobs q).map J).length < 17592186044416) := Lib.hid (by rw [List.length_map]; omega)
      obtain ⟨x, hxq⟩ : ∃ x, s.jobs[q]? = some x := ⟨_, List.getElem?_eq_getElem hlt⟩
      have HQ := Lib.hid (queuedL_at hxq)
      obtain ⟨b, o, rfl, hb, hat⟩ := HC.out q x hxq
      obtain ⟨q0, q1, q2, q3, q4, q5, q6, q7, q8, q9, q10, q11⟩ := hat.ext HXW.out hb
      have HXN : Hid (Ext wr (wr.alloc (.cells #[.int .i64 x.queue, .int .i64 x.prio, .int .i64 x.least, .int .i64 x.most, .int .i64 x.work, .int .i64 x.pin, .int .i64 x.phase, .int .i64 x.inc, .int .i64 x.nodes, .int .i64 x.since, .int .i64 x.til, .int .i64 x.epoch] 39))) := Lib.hid ((Below.refl _ _).alloc (Nat.le_refl _) _)
      have HBN := Lib.hid (Blk.new wr 39 #[.int .i64 x.queue, .int .i64 x.prio, .int .i64 x.least, .int .i64 x.most, .int .i64 x.work, .int .i64 x.pin, .int .i64 x.phase, .int .i64 x.inc, .int .i64 x.nodes, .int .i64 x.since, .int .i64 x.til, .int .i64 x.epoch])
      have wq : wrap64 ((q : Int) + 1) = (q : Int) + 1 := IntWalk.wrap64_in _ (by omega)
      clear hxq hat hlt hal hq
      go_upto_region 5 with (fail)
      obtain ⟨wn, hwn⟩ : ∃ wn, wn = wr.alloc (.cells #[.int .i64 x.queue, .int .i64 x.prio, .int .i64 x.least, .int .i64 x.most, .int .i64 x.work, .int .i64 x.pin, .int .i64 x.phase, .int .i64 x.inc, .int .i64 x.nodes, .int .i64 x.since, .int .i64 x.til, .int .i64 x.epoch] 39) := ⟨_, rfl⟩
      rw [← hwn] at HXN HBN ⊢
      clear hwn q0 q1 q2 q3 q4 q5 q6 q7 q8 q9 q10 q11
      have c6 := HBN.out.cell 6
      have HKN := Lib.hid (HK.out.step HXN.out)
      by_cases hp : x.phase = 0
      · have e1 : (x.phase == 0) = true := by rw [hp]; rfl
        have HS1 : Hid ((queuedTo s.jobs (q + 1)).map J = (queuedTo s.jobs q).map J ++ [.int .i64 ((q : Int) + 1)]) := Lib.hid (by rw [HST.out, HQ.out, hp, if_pos (by decide), List.map_append]; rfl)
        have hown := HKN.out.own
        have hbr := HKN.out.size
        have hl2 := HLN.out
        clear hp
        obtain ⟨M, hM⟩ : ∃ M, M = ((queuedTo s.jobs q).map J).length := ⟨_, rfl⟩
        obtain ⟨Av, cv, rfl⟩ := own_slice (n := M) (by rw [hM]; exact hown)
        clear hM
        go_wp2_with (at_builtin; refine push_int rfl _ _ rfl W0.heap.size _ _ rfl hown _ rfl rfl hl2 hbr ?_; intro v2 w3 hg2)
        have hk2 : Grew W0.heap.size 3 (.slice none 0 0) W0 ((queuedTo s.jobs (q + 1)).map J) v2 w3 := by rw [HS1.out]; exact HKN.out.trans hg2
        go_roundw
        case rel => exact ⟨q + 1, by first | (rw [wq]; rfl) | rfl, HLT.out, Lib.hid hk2⟩
        case measure => first | (rw [wq]; exact measQ HLT.out) | exact measQ HLT.out
      · have e1 : (x.phase == 0) = false := by simpa using hp
        have HS1 : Hid (queuedTo s.jobs (q + 1) = queuedTo s.jobs q) := Lib.hid (by rw [HST.out, HQ.out, decide_eq_false hp, if_neg (by simp), List.append_nil])
        clear hp
        go_wp2
        go_roundw
        case rel => exact ⟨q + 1, by first | (rw [wq]; rfl) | rfl, HLT.out, Lib.hid (by rw [HS1.out]; exact HKN.out)⟩
        case measure => first | (rw [wq]; exact measQ HLT.out) | exact measQ HLT.out
    · have d1 : decide ((q : Int) < (s.jobs.length : Int)) = false := decide_eq_false (by omega)
      have d1' : decide (q < s.jobs.length) = false := decide_eq_false hlt
      have hqn : q = s.jobs.length := by omega
      have HKE : Hid (Grew W0.heap.size 3 (.slice none 0 0) W0 ((queuedTo s.jobs s.jobs.length).map J) u3 wr) := Lib.hid (by rw [← hqn]; exact HK.out)
      have HSC := Lib.hid (HS.out vn (.slice A s.jobs.length c) s w.heap.size u3 (queuedTo s.jobs s.jobs.length) W0 wr HBS.out (HJ.out.ext HX.out) HKE.out.ext HKE.out.own (List.nodup_range.filter _) (fun i hi => List.mem_range.1 (List.mem_filter.1 hi).1) HNN.out (Nat.le_trans (queuedTo_len s.jobs s.jobs.length) HNN.out))
      clear hqn hlt hq hal HK
      go_wp2_with fail
      refine HSC.out.mono ?_
      rintro e9 w9 ⟨rfl, L9, hp9, hs9, hr9, hx9⟩
      have HL : Hid (L9 = lineL s.jobs) := Lib.hid (line_of_sorted hs9 hp9)
      have HR9 : Hid (Rd w9 u3 ((lineL s.jobs).map J)) := Lib.hid (by rw [← HL.out]; exact hr9)
      have HX9 : Hid (Ext w w9) := Lib.hid (Ext.trans HX.out hx9)
      clear hp9 hs9 hr9 hx9 HSC
      go_wp2
      go_ret
      exact ⟨_, rfl, HR9.out, HX9.out⟩

end Go.Proofs.Ytgjidkhfnnghiaa

/- Package fit: the nodes that can have a job, of a version. -/
namespace Go.Proofs.Ytgjidkhfnnghiaa
open Go.RowKit

set_option maxRecDepth 100000 in
theorem hosts_any (n : Nd) (w : World) : Calls Try.prog 70 #[ndV n] w fun e w' => e = .returned (.bool (hostN n)) ∧ Ext w w' := by
  have HX := Lib.hid fun cs => (Below.refl w.heap.size w).alloc (Nat.le_refl _) (.cells cs 37)
  unfold ndV hostN
  cases h1 : n.up
  · go_enter Try.func70, Try.ntmps70
    go_wp2
    go_ret
    exact ⟨rfl, HX.out _⟩
  cases h2 : n.cordon
  · cases h3 : n.moving
    · go_enter Try.func70, Try.ntmps70
      go_wp2
      go_ret
      exact ⟨rfl, HX.out _⟩
    · go_enter Try.func70, Try.ntmps70
      go_wp2
      go_ret
      exact ⟨rfl, HX.out _⟩
  · go_enter Try.func70, Try.ntmps70
    go_wp2
    go_ret
    exact ⟨rfl, HX.out _⟩

set_option maxRecDepth 100000 in
theorem choicesC_any (n : Nd) (g : Nat) (v : Int) (w : World) (hg : w.cell? ⟨g, 0, none⟩ = some (.int .i64 v)) (hgl : g < w.heap.size) : Calls Try.prog 69 #[ndV n, .pointer (some ⟨g, 0, none⟩)] w fun e w' => e = .returned (.bool (hostV v n)) ∧ Ext w w' := by
  have HX : Hid (Ext w (w.alloc (.cells #[.bool n.up, .bool n.cordon, .bool n.moving, .int .i64 n.version, .int .i64 n.job] 37))) := Lib.hid ((Below.refl w.heap.size w).alloc (Nat.le_refl _) _)
  have HB := Lib.hid (Blk.new w 37 #[.bool n.up, .bool n.cordon, .bool n.moving, .int .i64 n.version, .int .i64 n.job])
  have HH := Lib.hid fun W => hosts_any n W
  have HG := Lib.hid (And.intro hg hgl)
  obtain ⟨R, hR⟩ : ∃ R, R = hostV v n := ⟨_, rfl⟩
  rw [← hR]
  have HR := Lib.hid hR
  clear hg hgl hR
  unfold ndV at HH ⊢
  go_enter Try.func69, Try.ntmps69
  go_upto_region 1 with (fail)
  obtain ⟨W0, hW0⟩ : ∃ W0, W0 = (w.alloc (.cells #[.bool n.up, .bool n.cordon, .bool n.moving, .int .i64 n.version, .int .i64 n.job] 37)) := ⟨_, rfl⟩
  rw [← hW0] at HX HB ⊢
  clear hW0
  have c0 := HB.out.cell 0
  have c1 := HB.out.cell 1
  have c2 := HB.out.cell 2
  have c3 := HB.out.cell 3
  have c4 := HB.out.cell 4
  have HHC := Lib.hid (HH.out W0)
  go_wp2_with fail
  refine HHC.out.mono ?_
  rintro e1 w1 ⟨rfl, hx1⟩
  have HX1 : Hid (Ext w w1) := Lib.hid (Ext.trans HX.out hx1)
  have c3' := (HB.out.ext hx1).cell 3
  have cg := HX1.out.cellOf HG.out.1 HG.out.2
  clear c0 c1 c2 c3 c4 hx1 HHC
  cases h : hostN n
  · have HZ : Hid (R = false) := Lib.hid (by rw [HR.out]; unfold hostV; rw [h]; rfl)
    repeat (first | go_values | go_skip | go_guarded | go_step | go_upon | (simp only []))
    go_ret
    exact ⟨by rw [HZ.out]; rfl, HX1.out⟩
  · by_cases hv : n.version = v
    · have e : (n.version == v) = true := by rw [hv]; simp
      have HZ : Hid (R = true) := Lib.hid (by rw [HR.out]; unfold hostV; rw [h, decide_eq_true hv]; rfl)
      clear hv
      repeat (first | go_values | go_skip | go_guarded | go_step | go_upon | (simp only []))
      go_ret
      exact ⟨by rw [HZ.out]; rfl, HX1.out⟩
    · have e : (n.version == v) = false := by simpa using hv
      have HZ : Hid (R = false) := Lib.hid (by rw [HR.out]; unfold hostV; rw [h, decide_eq_false hv]; rfl)
      clear hv
      repeat (first | go_values | go_skip | go_guarded | go_step | go_upon | (simp only []))
      go_ret
      exact ⟨by rw [HZ.out]; rfl, HX1.out⟩

set_option maxRecDepth 100000 in
set_option maxHeartbeats 4000000 in
theorem thoseHost_any (vn vj : Value) (s : St) (g : Nat) (v : Int) (w : World) (hr : RdNd w vn s.nodes) (hN : s.nodes.length ≤ 6) (hg : w.cell? ⟨g, 0, none⟩ = some (.int .i64 v)) (hgl : g < w.heap.size) :
    Calls Try.prog 52 #[stV vn vj s, .func (.func 69) #[] #[.pointer (some ⟨g, 0, none⟩)]] w fun e w' => e = .returned (.int .i64 (bitsF (nodeIs s.nodes (hostV v)) s.nodes.length : Int)) ∧ Ext w w' := by
  obtain ⟨hx, hb⟩ := boxSt vn vj s w 27
  unfold stV
  unfold stC at hx hb
  obtain ⟨A, c, rfl, hnc, hcm, hcell⟩ := has_cells hr
  have HC := Lib.hid hcell
  have HX := Lib.hid hx
  have HB := Lib.hid hb
  have HF := Lib.hid (fun (n : Nd) (W' : World) (hW : Ext w W') => choicesC_any n g v W' (hW.cellOf hg hgl) (Nat.lt_of_lt_of_le hgl hW.size))
  obtain ⟨F, hF⟩ : ∃ F : Nat → Bool, F = nodeIs s.nodes (hostV v) := ⟨_, rfl⟩
  rw [← hF]
  have HFF : Hid (∀ q n, s.nodes[q]? = some n → F q = (hostV v) n) := Lib.hid fun q n hn => by rw [hF, nodeIs_at hn]
  clear hx hb hr hcell hF
  go_enter Try.func52, Try.ntmps52
  go_wp2_with fail
  obtain ⟨W0, hW0⟩ : ∃ W0, W0 = w.alloc (.cells #[.slice A s.nodes.length c, vj, .int .i64 s.goal, .int .i64 s.prior, .int .i64 s.mode, .int .i64 s.term] 27) := ⟨_, rfl⟩
  rw [← hW0] at HX HB ⊢
  clear hW0
  go_loopw [5, 11] (fun o i wr => ∃ q : Nat, i = .int .i64 q ∧ o = .int .i64 (bitsF F q : Int) ∧ q ≤ s.nodes.length ∧ Ext W0 wr) (fun _ i _ => s.nodes.length - (intOf i).toNat)
  case atStart => exact ⟨0, rfl, rfl, Nat.zero_le _, Ext.refl _⟩
  case round =>
    obtain ⟨q, rfl, rfl, hq, hxr⟩ := hrel
    have HXR : Hid (Ext W0 wr) := Lib.hid hxr
    have HXW : Hid (Ext w wr) := Lib.hid (Ext.trans HX.out hxr)
    have hset := bitsF_lt F q
    have HST : Hid (bitsF F (q + 1) = bitsF F q + (if F q = true then 2 ^ q else 0)) := Lib.hid rfl
    generalize hP : bitsF F q = P at *
    have HP := Lib.hid hP
    clear hxr hP
    by_cases hlt : q < s.nodes.length
    · have d1 : decide ((q : Int) < (s.nodes.length : Int)) = true := decide_eq_true (by omega)
      have d1' : decide (q < s.nodes.length) = true := decide_eq_true hlt
      obtain ⟨n, hn⟩ : ∃ n, s.nodes[q]? = some n := ⟨_, List.getElem?_eq_getElem hlt⟩
      obtain ⟨b, o, rfl, hlt', hat⟩ := HC.out q n hn
      obtain ⟨c0, c1, c2, c3, c4⟩ := hat.ext HXW.out hlt'
      have hp2 := two_pows (q := q) (by omega)
      have HLT := Lib.hid hlt
      have HOB : Hid (bits .or .i64 (P : Int) (wrap64 (2 ^ min q 64)) = ((P + 2 ^ q : Nat) : Int)) := Lib.hid (by rw [Nat.min_eq_left (by omega)]; exact or_bit q (by omega) P (by omega) hset)
      have wq : wrap64 ((q : Int) + 1) = (q : Int) + 1 := IntWalk.wrap64_in _ (by omega)
      have HFQ := Lib.hid (HFF.out q n hn)
      have HXN : Hid (Ext wr (wr.alloc (.cells #[.bool n.up, .bool n.cordon, .bool n.moving, .int .i64 n.version, .int .i64 n.job] 37))) := Lib.hid ((Below.refl _ wr).alloc (Nat.le_refl _) (.cells #[.bool n.up, .bool n.cordon, .bool n.moving, .int .i64 n.version, .int .i64 n.job] 37))
      have HBN := Lib.hid (Blk.new wr 37 #[.bool n.up, .bool n.cordon, .bool n.moving, .int .i64 n.version, .int .i64 n.job])
      clear hat hn hset hp2
      go_upto_region 5 with (fail)
      obtain ⟨wn, hwn⟩ : ∃ wn, wn = wr.alloc (.cells #[.bool n.up, .bool n.cordon, .bool n.moving, .int .i64 n.version, .int .i64 n.job] 37) := ⟨_, rfl⟩
      rw [← hwn] at HXN HBN ⊢
      clear hwn c0 c1 c2 c3 c4 hlt hq
      have c0 := HBN.out.cell 0
      have c1 := HBN.out.cell 1
      have c2 := HBN.out.cell 2
      have c3 := HBN.out.cell 3
      have c4 := HBN.out.cell 4
      have HFC := Lib.hid (HF.out n wn (Ext.trans HXW.out HXN.out))
      unfold ndV at HFC
      go_wp2_with fail
      refine HFC.out.mono ?_
      rintro e2 w2 ⟨rfl, hx2⟩
      have HX2 : Hid (Ext W0 w2) := Lib.hid (Ext.trans HXR.out (Ext.trans HXN.out hx2))
      clear hx2 HFC
      have ho := HOB.out
      cases hf : (hostV v) n
      · have HS : Hid (bitsF F (q + 1) = P) := Lib.hid (by rw [HST.out, HFQ.out, hf]; rfl)
        clear hf
        repeat (first | go_values | go_skip | go_guarded | go_step | go_upon | (simp only []))
        go_roundw
        case rel => exact ⟨q + 1, by first | (rw [wq]; rfl) | rfl, by rw [HS.out], HLT.out, HX2.out⟩
        case measure => first | (rw [wq]; exact measQ HLT.out) | exact measQ HLT.out
      · have HS : Hid (bitsF F (q + 1) = P + 2 ^ q) := Lib.hid (by rw [HST.out, HFQ.out, hf]; rfl)
        clear hf
        repeat (first | go_values | go_skip | go_guarded | go_step | go_upon | (simp only []))
        go_roundw
        case rel => exact ⟨q + 1, by first | (rw [wq]; rfl) | rfl, by rw [HS.out]; first | rfl | rw [ho], HLT.out, HX2.out⟩
        case measure => first | (rw [wq]; exact measQ HLT.out) | exact measQ HLT.out
    · have d1 : decide ((q : Int) < (s.nodes.length : Int)) = false := decide_eq_false (by omega)
      have d1' : decide (q < s.nodes.length) = false := decide_eq_false hlt
      have HE : Hid (bitsF F s.nodes.length = P) := Lib.hid (by rw [← HP.out, show q = s.nodes.length by omega])
      go_wp2
      go_ret
      exact ⟨by rw [HE.out]; rfl, HXW.out⟩

end Go.Proofs.Ytgjidkhfnnghiaa

/- The reference of layer 15: the nodes for a job. -/
namespace Go.Proofs.Ytgjidkhfnnghiaa
open Go.RowKit

set_option maxRecDepth 100000 in
set_option maxHeartbeats 8000000 in
theorem RefPick_any (vn vj : Value) (s : St) (j : Jb) (set : Int) (w : World) (hr : RdNd w vn s.nodes) (hN : s.nodes.length ≤ 6) :
    Calls Try.prog 28 #[stV vn vj s, jbV j, .int .i64 set] w fun e w' => e = .returned (.tuple #[.int .i64 (pickS s j set).1, .bool (pickS s j set).2]) ∧ Ext w w' := by
  have HR := Lib.hid hr
  have HOF : Hid (∀ (z : Int) (W : World), Ext w W → Calls Try.prog 48 #[stV vn vj s, .int .i64 set, .int .i64 z] W fun e w' => e = .returned (.int .i64 (ofN s set z : Int)) ∧ Ext W w') := Lib.hid fun z W hW => RefOf_any vn vj s set z W (HR.out.ext hW) hN
  have HME : Hid (∀ W, Calls Try.prog 49 #[stV vn vj s] W fun e w' => e = .returned (.int .i64 (meantS s)) ∧ Ext W w') := Lib.hid fun W => RefMeant_any vn vj s W
  have HMA : Hid (∀ (x : Int) (W : World), Calls Try.prog 47 #[.int .i64 x] W fun e w' => e = .returned (.int .i64 (manyS x : Int)) ∧ W = w') := Lib.hid fun x W => RefMany_any x W
  obtain ⟨A, c, rfl, hnc, hcm, -⟩ := has_cells hr
  unfold stV at HOF HME
  unfold stV jbV
  have hb1 := (Blk.new w 27 #[.slice A s.nodes.length c, vj, .int .i64 s.goal, .int .i64 s.prior, .int .i64 s.mode, .int .i64 s.term]).alloc (.cells #[.int .i64 j.queue, .int .i64 j.prio, .int .i64 j.least, .int .i64 j.most, .int .i64 j.work, .int .i64 j.pin, .int .i64 j.phase, .int .i64 j.inc, .int .i64 j.nodes, .int .i64 j.since, .int .i64 j.til, .int .i64 j.epoch] 39)
  have hb2 : Blk ((w.alloc (.cells #[.slice A s.nodes.length c, vj, .int .i64 s.goal, .int .i64 s.prior, .int .i64 s.mode, .int .i64 s.term] 27)).alloc (.cells #[.int .i64 j.queue, .int .i64 j.prio, .int .i64 j.least, .int .i64 j.most, .int .i64 j.work, .int .i64 j.pin, .int .i64 j.phase, .int .i64 j.inc, .int .i64 j.nodes, .int .i64 j.since, .int .i64 j.til, .int .i64 j.epoch] 39)) (w.heap.size + 1) 39 #[.int .i64 j.queue, .int .i64 j.prio, .int .i64 j.least, .int .i64 j.most, .int .i64 j.work, .int .i64 j.pin, .int .i64 j.phase, .int .i64 j.inc, .int .i64 j.nodes, .int .i64 j.since, .int .i64 j.til, .int .i64 j.epoch] := by
    have h := Blk.new (w.alloc (.cells #[.slice A s.nodes.length c, vj, .int .i64 s.goal, .int .i64 s.prior, .int .i64 s.mode, .int .i64 s.term] 27)) 39 #[.int .i64 j.queue, .int .i64 j.prio, .int .i64 j.least, .int .i64 j.most, .int .i64 j.work, .int .i64 j.pin, .int .i64 j.phase, .int .i64 j.inc, .int .i64 j.nodes, .int .i64 j.since, .int .i64 j.til, .int .i64 j.epoch]
    rw [show (w.alloc (.cells #[.slice A s.nodes.length c, vj, .int .i64 s.goal, .int .i64 s.prior, .int .i64 s.mode, .int .i64 s.term] 27)).heap.size = w.heap.size + 1 by simp] at h
    exact h
  have hx : Ext w ((w.alloc (.cells #[.slice A s.nodes.length c, vj, .int .i64 s.goal, .int .i64 s.prior, .int .i64 s.mode, .int .i64 s.term] 27)).alloc (.cells #[.int .i64 j.queue, .int .i64 j.prio, .int .i64 j.least, .int .i64 j.most, .int .i64 j.work, .int .i64 j.pin, .int .i64 j.phase, .int .i64 j.inc, .int .i64 j.nodes, .int .i64 j.since, .int .i64 j.til, .int .i64 j.epoch] 39)) := ((Below.refl _ _).alloc (Nat.le_refl _) _).alloc (by simp) _
  have HB1 := Lib.hid hb1
  have HB2 := Lib.hid hb2
  have HX := Lib.hid hx
  obtain ⟨PK, hPK⟩ : ∃ z, z = pickS s j set := ⟨_, rfl⟩
  rw [← hPK]
  have HPK : Hid (PK = if (pickTo s j set 9).1 < 0 then (0, false) else ((lowN (ofN s set (pickTo s j set 9).2 : Int) j.most 6 : Int), true)) := Lib.hid hPK
  have HST : Hid (∀ q : Nat, pickTo s j set (q + 1) = pickStep s j (pickTo s j set q) (manyS (ofN s set ((q : Int) + 1) : Int)) ((q : Int) + 1)) := Lib.hid fun q => rfl
  clear hb1 hb2 hx hr HR hPK
  go_enter Try.func28, Try.ntmps28
  go_wp2_with fail
  obtain ⟨W0, hW0⟩ : ∃ W0, W0 = (w.alloc (.cells #[.slice A s.nodes.length c, vj, .int .i64 s.goal, .int .i64 s.prior, .int .i64 s.mode, .int .i64 s.term] 27)).alloc (.cells #[.int .i64 j.queue, .int .i64 j.prio, .int .i64 j.least, .int .i64 j.most, .int .i64 j.work, .int .i64 j.pin, .int .i64 j.phase, .int .i64 j.inc, .int .i64 j.nodes, .int .i64 j.since, .int .i64 j.til, .int .i64 j.epoch] 39) := ⟨_, rfl⟩
  rw [← hW0] at HX HB1 HB2 ⊢
  clear hW0
  go_loopw [8, 9, 10] (fun x y v wr => ∃ (q : Nat) (z : Int), v = .int .i64 z ∧ x = .int .i64 (pickTo s j set q).1 ∧ y = .int .i64 (pickTo s j set q).2 ∧ z = (q : Int) + 1 ∧ q ≤ 9 ∧ Ext W0 wr) (fun _ _ v _ => 10 - (intOf v).toNat)
  case atStart => exact ⟨0, 1, rfl, rfl, rfl, rfl, Nat.zero_le _, Ext.refl _⟩
  case round =>
    obtain ⟨q, z, rfl, rfl, rfl, hz, hq, hxr⟩ := hrel
    have HXR := Lib.hid hxr
    have HXW := Lib.hid (HX.out.trans hxr)
    have HC1 := Lib.hid (HB1.out.ext hxr)
    have HC2 := Lib.hid (HB2.out.ext hxr)
    have HSQ := Lib.hid (HST.out q)
    rw [← hz] at HSQ
    obtain ⟨⟨bb, bv⟩, hbp⟩ : ∃ p, p = pickTo s j set q := ⟨_, rfl⟩
    rw [← hbp] at HSQ ⊢
    have HBP := Lib.hid hbp
    have HZ := Lib.hid hz
    clear hxr hbp
    have g0 := HC1.out.cell 0
    have g1 := HC1.out.cell 1
    have g2 := HC1.out.cell 2
    have g3 := HC1.out.cell 3
    have g4 := HC1.out.cell 4
    have g5 := HC1.out.cell 5
    by_cases hlt : q < 9
    · have d1 : decide (z ≤ 9) = true := decide_eq_true (by omega)
      have wz : wrap64 (z + 1) = z + 1 := IntWalk.wrap64_in _ (by omega)
      have HLT := Lib.hid hlt
      have HOC := Lib.hid (HOF.out z wr HXW.out)
      clear hlt hz
      obtain ⟨D, hD⟩ : ∃ D, D = ofN s set z := ⟨_, rfl⟩
      rw [← hD] at HSQ HOC
      clear hD
      go_wp2_with fail
      refine HOC.out.mono ?_
      rintro e1 w1 ⟨rfl, hx1⟩
      have HX1 := Lib.hid (HXR.out.trans hx1)
      have HCA := Lib.hid (HC1.out.ext hx1)
      have HCB := Lib.hid (HC2.out.ext hx1)
      have HMC := Lib.hid (HMA.out (D : Int) w1)
      obtain ⟨M, hM⟩ : ∃ M, M = manyS (D : Int) := ⟨_, rfl⟩
      rw [← hM] at HSQ HMC
      clear hM hx1 g0 g1 g2 g3 g4 g5 HOC
      go_wp2_with fail
      refine HMC.out.mono ?_
      rintro e2 w2 ⟨rfl, rfl⟩
      clear HMC
      have g0 := HCA.out.cell 0
      have g1 := HCA.out.cell 1
      have g2 := HCA.out.cell 2
      have g3 := HCA.out.cell 3
      have g4 := HCA.out.cell 4
      have g5 := HCA.out.cell 5
      have j2 := HCB.out.cell 2
      have j3 := HCB.out.cell 3
      have j5 := HCB.out.cell 5
      by_cases a1 : (M : Int) < j.least
      · have f1 : decide ((M : Int) < j.least) = true := decide_eq_true a1
        have HS : Hid (pickTo s j set (q + 1) = (bb, bv)) := Lib.hid (by rw [HSQ.out]; exact pickStep_few a1)
        clear a1
        repeat (first | go_values | go_skip | go_guarded | go_step | go_upon | (simp only []))
        go_roundw
        case rel => exact ⟨q + 1, z + 1, by first | rfl | rw [wz], by rw [HS.out], by rw [HS.out], by have := HZ.out; omega, HLT.out, HX1.out⟩
        case measure => have := HLT.out; have := HZ.out; simp only [intOf]; first | omega | (rw [wz]; omega)
      · have f1 : decide ((M : Int) < j.least) = false := decide_eq_false a1
        have HN1 := Lib.hid a1
        clear a1
        by_cases a2 : 0 < j.pin
        · have f2 : decide (0 < j.pin) = true := decide_eq_true a2
          by_cases a3 : j.pin = z
          · have f3 : (j.pin != z) = false := by rw [a3]; simp
            have HP : Hid (¬ (0 < j.pin ∧ j.pin ≠ z)) := Lib.hid (fun h => h.2 a3)
            clear a2 a3
            by_cases a4 : j.most < (M : Int)
            · have f4 : decide (j.most < (M : Int)) = true := decide_eq_true a4
              have HK := Lib.hid (show j.most = if j.most < (M : Int) then j.most else (M : Int) by rw [if_pos a4])
              clear a4
              by_cases a5 : bb < j.most
              · have f5 : decide (bb < j.most) = true := decide_eq_true a5
                have HS : Hid (pickTo s j set (q + 1) = (j.most, z)) := Lib.hid (by rw [HSQ.out]; exact pickStep_more (K := j.most) HN1.out HP.out HK.out (.inl a5))
                clear a5
                repeat (first | go_values | go_skip | go_guarded | go_step | go_upon | (simp only []))
                go_roundw
                case rel => exact ⟨q + 1, z + 1, by first | rfl | rw [wz], by rw [HS.out], by rw [HS.out], by have := HZ.out; omega, HLT.out, HX1.out⟩
                case measure => have := HLT.out; have := HZ.out; simp only [intOf]; first | omega | (rw [wz]; omega)
              · have f5 : decide (bb < j.most) = false := decide_eq_false a5
                by_cases a6 : j.most = bb
                · have f6 : (j.most == bb) = true := by rw [a6]; simp
                  have HA := Lib.hid (And.intro a5 a6)
                  clear a5 a6
                  repeat (first | go_values | go_skip | go_guarded | go_step | go_upon | (simp only []))
                  refine (HME.out _).mono ?_
                  rintro e3 w3 ⟨rfl, hx3⟩
                  have HX3 := Lib.hid (HX1.out.trans hx3)
                  clear hx3
                  by_cases a7 : z = meantS s
                  · have f7 : (z == meantS s) = true := by rw [← a7]; simp
                    have HS : Hid (pickTo s j set (q + 1) = (j.most, z)) := Lib.hid (by rw [HSQ.out]; exact pickStep_more (K := j.most) HN1.out HP.out HK.out (.inr ⟨HA.out.2, a7⟩))
                    clear a7
                    repeat (first | go_values | go_skip | go_guarded | go_step | go_upon | (simp only []))
                    go_roundw
                    case rel => exact ⟨q + 1, z + 1, by first | rfl | rw [wz], by rw [HS.out], by rw [HS.out], by have := HZ.out; omega, HLT.out, HX3.out⟩
                    case measure => have := HLT.out; have := HZ.out; simp only [intOf]; first | omega | (rw [wz]; omega)
                  · have f7 : (z == meantS s) = false := by simpa using a7
                    have HS : Hid (pickTo s j set (q + 1) = (bb, bv)) := Lib.hid (by rw [HSQ.out]; exact pickStep_less (K := j.most) HN1.out HP.out HK.out (fun h => h.elim HA.out.1 fun h => a7 h.2))
                    clear a7
                    repeat (first | go_values | go_skip | go_guarded | go_step | go_upon | (simp only []))
                    go_roundw
                    case rel => exact ⟨q + 1, z + 1, by first | rfl | rw [wz], by rw [HS.out], by rw [HS.out], by have := HZ.out; omega, HLT.out, HX3.out⟩
                    case measure => have := HLT.out; have := HZ.out; simp only [intOf]; first | omega | (rw [wz]; omega)
                · have f6 : (j.most == bb) = false := by simpa using a6
                  have HS : Hid (pickTo s j set (q + 1) = (bb, bv)) := Lib.hid (by rw [HSQ.out]; exact pickStep_less (K := j.most) HN1.out HP.out HK.out (fun h => h.elim a5 fun h => a6 h.1))
                  clear a5 a6
                  repeat (first | go_values | go_skip | go_guarded | go_step | go_upon | (simp only []))
                  go_roundw
                  case rel => exact ⟨q + 1, z + 1, by first | rfl | rw [wz], by rw [HS.out], by rw [HS.out], by have := HZ.out; omega, HLT.out, HX1.out⟩
                  case measure => have := HLT.out; have := HZ.out; simp only [intOf]; first | omega | (rw [wz]; omega)
            · have f4 : decide (j.most < (M : Int)) = false := decide_eq_false a4
              have HK := Lib.hid (show (M : Int) = if j.most < (M : Int) then j.most else (M : Int) by rw [if_neg a4])
              clear a4
              by_cases a5 : bb < (M : Int)
              · have f5 : decide (bb < (M : Int)) = true := decide_eq_true a5
                have HS : Hid (pickTo s j set (q + 1) = ((M : Int), z)) := Lib.hid (by rw [HSQ.out]; exact pickStep_more (K := (M : Int)) HN1.out HP.out HK.out (.inl a5))
                clear a5
                repeat (first | go_values | go_skip | go_guarded | go_step | go_upon | (simp only []))
                go_roundw
                case rel => exact ⟨q + 1, z + 1, by first | rfl | rw [wz], by rw [HS.out], by rw [HS.out], by have := HZ.out; omega, HLT.out, HX1.out⟩
                case measure => have := HLT.out; have := HZ.out; simp only [intOf]; first | omega | (rw [wz]; omega)
              · have f5 : decide (bb < (M : Int)) = false := decide_eq_false a5
                by_cases a6 : (M : Int) = bb
                · have f6 : ((M : Int) == bb) = true := by rw [a6]; simp
                  have HA := Lib.hid (And.intro a5 a6)
                  clear a5 a6
                  repeat (first | go_values | go_skip | go_guarded | go_step | go_upon | (simp only []))
                  refine (HME.out _).mono ?_
                  rintro e3 w3 ⟨rfl, hx3⟩
                  have HX3 := Lib.hid (HX1.out.trans hx3)
                  clear hx3
                  by_cases a7 : z = meantS s
                  · have f7 : (z == meantS s) = true := by rw [← a7]; simp
                    have HS : Hid (pickTo s j set (q + 1) = ((M : Int), z)) := Lib.hid (by rw [HSQ.out]; exact pickStep_more (K := (M : Int)) HN1.out HP.out HK.out (.inr ⟨HA.out.2, a7⟩))
                    clear a7
                    repeat (first | go_values | go_skip | go_guarded | go_step | go_upon | (simp only []))
                    go_roundw
                    case rel => exact ⟨q + 1, z + 1, by first | rfl | rw [wz], by rw [HS.out], by rw [HS.out], by have := HZ.out; omega, HLT.out, HX3.out⟩
                    case measure => have := HLT.out; have := HZ.out; simp only [intOf]; first | omega | (rw [wz]; omega)
                  · have f7 : (z == meantS s) = false := by simpa using a7
                    have HS : Hid (pickTo s j set (q + 1) = (bb, bv)) := Lib.hid (by rw [HSQ.out]; exact pickStep_less (K := (M : Int)) HN1.out HP.out HK.out (fun h => h.elim HA.out.1 fun h => a7 h.2))
                    clear a7
                    repeat (first | go_values | go_skip | go_guarded | go_step | go_upon | (simp only []))
                    go_roundw
                    case rel => exact ⟨q + 1, z + 1, by first | rfl | rw [wz], by rw [HS.out], by rw [HS.out], by have := HZ.out; omega, HLT.out, HX3.out⟩
                    case measure => have := HLT.out; have := HZ.out; simp only [intOf]; first | omega | (rw [wz]; omega)
                · have f6 : ((M : Int) == bb) = false := by simpa using a6
                  have HS : Hid (pickTo s j set (q + 1) = (bb, bv)) := Lib.hid (by rw [HSQ.out]; exact pickStep_less (K := (M : Int)) HN1.out HP.out HK.out (fun h => h.elim a5 fun h => a6 h.1))
                  clear a5 a6
                  repeat (first | go_values | go_skip | go_guarded | go_step | go_upon | (simp only []))
                  go_roundw
                  case rel => exact ⟨q + 1, z + 1, by first | rfl | rw [wz], by rw [HS.out], by rw [HS.out], by have := HZ.out; omega, HLT.out, HX1.out⟩
                  case measure => have := HLT.out; have := HZ.out; simp only [intOf]; first | omega | (rw [wz]; omega)
          · have f3 : (j.pin != z) = true := by simp only [bne_iff_ne, ne_eq]; exact a3
            have HS : Hid (pickTo s j set (q + 1) = (bb, bv)) := Lib.hid (by rw [HSQ.out]; exact pickStep_pin a2 a3)
            clear a2 a3
            repeat (first | go_values | go_skip | go_guarded | go_step | go_upon | (simp only []))
            go_roundw
            case rel => exact ⟨q + 1, z + 1, by first | rfl | rw [wz], by rw [HS.out], by rw [HS.out], by have := HZ.out; omega, HLT.out, HX1.out⟩
            case measure => have := HLT.out; have := HZ.out; simp only [intOf]; first | omega | (rw [wz]; omega)
        · have f2 : decide (0 < j.pin) = false := decide_eq_false a2
          have HP : Hid (¬ (0 < j.pin ∧ j.pin ≠ z)) := Lib.hid (fun h => a2 h.1)
          clear a2
          by_cases a4 : j.most < (M : Int)
          · have f4 : decide (j.most < (M : Int)) = true := decide_eq_true a4
            have HK := Lib.hid (show j.most = if j.most < (M : Int) then j.most else (M : Int) by rw [if_pos a4])
            clear a4
            by_cases a5 : bb < j.most
            · have f5 : decide (bb < j.most) = true := decide_eq_true a5
              have HS : Hid (pickTo s j set (q + 1) = (j.most, z)) := Lib.hid (by rw [HSQ.out]; exact pickStep_more (K := j.most) HN1.out HP.out HK.out (.inl a5))
              clear a5
              repeat (first | go_values | go_skip | go_guarded | go_step | go_upon | (simp only []))
              go_roundw
              case rel => exact ⟨q + 1, z + 1, by first | rfl | rw [wz], by rw [HS.out], by rw [HS.out], by have := HZ.out; omega, HLT.out, HX1.out⟩
              case measure => have := HLT.out; have := HZ.out; simp only [intOf]; first | omega | (rw [wz]; omega)
            · have f5 : decide (bb < j.most) = false := decide_eq_false a5
              by_cases a6 : j.most = bb
              · have f6 : (j.most == bb) = true := by rw [a6]; simp
                have HA := Lib.hid (And.intro a5 a6)
                clear a5 a6
                repeat (first | go_values | go_skip | go_guarded | go_step | go_upon | (simp only []))
                refine (HME.out _).mono ?_
                rintro e3 w3 ⟨rfl, hx3⟩
                have HX3 := Lib.hid (HX1.out.trans hx3)
                clear hx3
                by_cases a7 : z = meantS s
                · have f7 : (z == meantS s) = true := by rw [← a7]; simp
                  have HS : Hid (pickTo s j set (q + 1) = (j.most, z)) := Lib.hid (by rw [HSQ.out]; exact pickStep_more (K := j.most) HN1.out HP.out HK.out (.inr ⟨HA.out.2, a7⟩))
                  clear a7
                  repeat (first | go_values | go_skip | go_guarded | go_step | go_upon | (simp only []))
                  go_roundw
                  case rel => exact ⟨q + 1, z + 1, by first | rfl | rw [wz], by rw [HS.out], by rw [HS.out], by have := HZ.out; omega, HLT.out, HX3.out⟩
                  case measure => have := HLT.out; have := HZ.out; simp only [intOf]; first | omega | (rw [wz]; omega)
                · have f7 : (z == meantS s) = false := by simpa using a7
                  have HS : Hid (pickTo s j set (q + 1) = (bb, bv)) := Lib.hid (by rw [HSQ.out]; exact pickStep_less (K := j.most) HN1.out HP.out HK.out (fun h => h.elim HA.out.1 fun h => a7 h.2))
                  clear a7
                  repeat (first | go_values | go_skip | go_guarded | go_step | go_upon | (simp only []))
                  go_roundw
                  case rel => exact ⟨q + 1, z + 1, by first | rfl | rw [wz], by rw [HS.out], by rw [HS.out], by have := HZ.out; omega, HLT.out, HX3.out⟩
                  case measure => have := HLT.out; have := HZ.out; simp only [intOf]; first | omega | (rw [wz]; omega)
              · have f6 : (j.most == bb) = false := by simpa using a6
                have HS : Hid (pickTo s j set (q + 1) = (bb, bv)) := Lib.hid (by rw [HSQ.out]; exact pickStep_less (K := j.most) HN1.out HP.out HK.out (fun h => h.elim a5 fun h => a6 h.1))
                clear a5 a6
                repeat (first | go_values | go_skip | go_guarded | go_step | go_upon | (simp only []))
                go_roundw
                case rel => exact ⟨q + 1, z + 1, by first | rfl | rw [wz], by rw [HS.out], by rw [HS.out], by have := HZ.out; omega, HLT.out, HX1.out⟩
                case measure => have := HLT.out; have := HZ.out; simp only [intOf]; first | omega | (rw [wz]; omega)
          · have f4 : decide (j.most < (M : Int)) = false := decide_eq_false a4
            have HK := Lib.hid (show (M : Int) = if j.most < (M : Int) then j.most else (M : Int) by rw [if_neg a4])
            clear a4
            by_cases a5 : bb < (M : Int)
            · have f5 : decide (bb < (M : Int)) = true := decide_eq_true a5
              have HS : Hid (pickTo s j set (q + 1) = ((M : Int), z)) := Lib.hid (by rw [HSQ.out]; exact pickStep_more (K := (M : Int)) HN1.out HP.out HK.out (.inl a5))
              clear a5
              repeat (first | go_values | go_skip | go_guarded | go_step | go_upon | (simp only []))
              go_roundw
              case rel => exact ⟨q + 1, z + 1, by first | rfl | rw [wz], by rw [HS.out], by rw [HS.out], by have := HZ.out; omega, HLT.out, HX1.out⟩
              case measure => have := HLT.out; have := HZ.out; simp only [intOf]; first | omega | (rw [wz]; omega)
            · have f5 : decide (bb < (M : Int)) = false := decide_eq_false a5
              by_cases a6 : (M : Int) = bb
              · have f6 : ((M : Int) == bb) = true := by rw [a6]; simp
                have HA := Lib.hid (And.intro a5 a6)
                clear a5 a6
                repeat (first | go_values | go_skip | go_guarded | go_step | go_upon | (simp only []))
                refine (HME.out _).mono ?_
                rintro e3 w3 ⟨rfl, hx3⟩
                have HX3 := Lib.hid (HX1.out.trans hx3)
                clear hx3
                by_cases a7 : z = meantS s
                · have f7 : (z == meantS s) = true := by rw [← a7]; simp
                  have HS : Hid (pickTo s j set (q + 1) = ((M : Int), z)) := Lib.hid (by rw [HSQ.out]; exact pickStep_more (K := (M : Int)) HN1.out HP.out HK.out (.inr ⟨HA.out.2, a7⟩))
                  clear a7
                  repeat (first | go_values | go_skip | go_guarded | go_step | go_upon | (simp only []))
                  go_roundw
                  case rel => exact ⟨q + 1, z + 1, by first | rfl | rw [wz], by rw [HS.out], by rw [HS.out], by have := HZ.out; omega, HLT.out, HX3.out⟩
                  case measure => have := HLT.out; have := HZ.out; simp only [intOf]; first | omega | (rw [wz]; omega)
                · have f7 : (z == meantS s) = false := by simpa using a7
                  have HS : Hid (pickTo s j set (q + 1) = (bb, bv)) := Lib.hid (by rw [HSQ.out]; exact pickStep_less (K := (M : Int)) HN1.out HP.out HK.out (fun h => h.elim HA.out.1 fun h => a7 h.2))
                  clear a7
                  repeat (first | go_values | go_skip | go_guarded | go_step | go_upon | (simp only []))
                  go_roundw
                  case rel => exact ⟨q + 1, z + 1, by first | rfl | rw [wz], by rw [HS.out], by rw [HS.out], by have := HZ.out; omega, HLT.out, HX3.out⟩
                  case measure => have := HLT.out; have := HZ.out; simp only [intOf]; first | omega | (rw [wz]; omega)
              · have f6 : ((M : Int) == bb) = false := by simpa using a6
                have HS : Hid (pickTo s j set (q + 1) = (bb, bv)) := Lib.hid (by rw [HSQ.out]; exact pickStep_less (K := (M : Int)) HN1.out HP.out HK.out (fun h => h.elim a5 fun h => a6 h.1))
                clear a5 a6
                repeat (first | go_values | go_skip | go_guarded | go_step | go_upon | (simp only []))
                go_roundw
                case rel => exact ⟨q + 1, z + 1, by first | rfl | rw [wz], by rw [HS.out], by rw [HS.out], by have := HZ.out; omega, HLT.out, HX1.out⟩
                case measure => have := HLT.out; have := HZ.out; simp only [intOf]; first | omega | (rw [wz]; omega)
    · have d1 : decide (z ≤ 9) = false := decide_eq_false (by omega)
      have HBE : Hid (pickTo s j set 9 = (bb, bv)) := Lib.hid (by rw [HBP.out, show q = 9 by omega])
      clear HSQ HBP HZ hz hlt hq
      by_cases a1 : bb < 0
      · have f1 : decide (bb < 0) = true := decide_eq_true a1
        have HE : Hid (PK = (0, false)) := Lib.hid (by rw [HPK.out, HBE.out, if_pos a1])
        clear a1
        go_wp2
        go_ret2
        exact ⟨by rw [HE.out]; rfl, HXW.out⟩
      · have f1 : decide (bb < 0) = false := decide_eq_false a1
        have HE : Hid (PK = ((lowN (ofN s set bv : Int) j.most 6 : Int), true)) := Lib.hid (by rw [HPK.out, HBE.out, if_neg a1])
        have HOC := Lib.hid (HOF.out bv wr HXW.out)
        clear a1
        obtain ⟨D, hD⟩ : ∃ D, D = ofN s set bv := ⟨_, rfl⟩
        rw [← hD] at HE HOC
        clear hD
        go_wp2_with fail
        refine HOC.out.mono ?_
        rintro e1 w1 ⟨rfl, hx1⟩
        have HX1 := Lib.hid (HXW.out.trans hx1)
        have HCB := Lib.hid (HC2.out.ext hx1)
        clear hx1 g0 g1 g2 g3 g4 g5 HOC
        go_wp2_with fail
        obtain ⟨wo, rfl⟩ : ∃ wo : World, wo = w1 := ⟨_, rfl⟩
        go_loopw [13, 14, 15] (fun o b i wr => ∃ q B : Nat, i = .int .i64 q ∧ o = .int .i64 (lowN (D : Int) j.most q : Int) ∧ b = .int .i64 (B : Int) ∧ B = 2 ^ q ∧ q ≤ 6 ∧ Ext wo wr) (fun _ _ i _ => 6 - (intOf i).toNat)
        case atStart => exact ⟨0, 1, rfl, rfl, rfl, rfl, Nat.zero_le _, Ext.refl _⟩
        case round =>
          obtain ⟨q, B, rfl, rfl, rfl, hB, hq, hxr⟩ := hrel
          have HXQ := Lib.hid hxr
          have HXE := Lib.hid (HX1.out.trans hxr)
          have j3 := (HCB.out.ext hxr).cell 3
          have hset := lowN_lt (D : Int) j.most q
          have HSL : Hid (lowN (D : Int) j.most (q + 1) = lowN (D : Int) j.most q + (if (hasS (D : Int) q && decide ((manyS (lowN (D : Int) j.most q : Int) : Int) < j.most)) = true then 2 ^ q else 0)) := Lib.hid rfl
          generalize hP : lowN (D : Int) j.most q = P at *
          have HP := Lib.hid hP
          clear hxr hP
          by_cases hlt : q < 6
          · have d2 : decide ((q : Int) < 6) = true := decide_eq_true (by omega)
            have hp2 := two_pows hlt
            have HB2 : Hid (2 ^ (q + 1) = B * 2) := Lib.hid (by rw [hp2.2, ← hB])
            have HLT := Lib.hid hlt
            have wq : wrap64 ((q : Int) + 1) = (q : Int) + 1 := IntWalk.wrap64_in _ (by omega)
            have wb : wrap64 ((B : Int) * 2) = ((B * 2 : Nat) : Int) := IntWalk.wrap64_in _ (by omega)
            have wp : wrap64 ((P : Int) + (B : Int)) = ((P + B : Nat) : Int) := IntWalk.wrap64_in _ (by omega)
            have HBQ := Lib.hid hB
            have hq64 : q < 64 := by omega
            have HHS := Lib.hid (fun W => RefHas_any (D : Int) q hq64 W)
            have HMC := Lib.hid (HMA.out (P : Int))
            obtain ⟨M, hM⟩ : ∃ M, M = manyS (P : Int) := ⟨_, rfl⟩
            rw [← hM] at HSL HMC
            clear hM hset hp2 hB hq64
            cases hh : hasS (D : Int) q
            · have HS : Hid (lowN (D : Int) j.most (q + 1) = P) := Lib.hid (by rw [HSL.out]; simp [hh])
              have HHT : Hid (∀ W, Calls Try.prog 27 #[.int .i64 (D : Int), .int .i64 (q : Int)] W fun e w' => e = .returned (.bool false) ∧ W = w') := Lib.hid (fun W => by have h9 := HHS.out W; rw [hh] at h9; exact h9)
              clear HHS hh
              go_wp2_with fail
              go_quiet (first | (go_at_call 27; exact quiet_eq (HHT.out _)) | (go_at_call 47; exact quiet_eq (HMC.out _)))
              repeat (first | go_values | go_skip | go_guarded | go_step | go_upon | (simp only []))
              go_roundw
              case rel => exact ⟨q + 1, B * 2, by first | rfl | rw [wq]; rfl, by rw [HS.out], by first | rfl | rw [wb], HB2.out.symm, HLT.out, Below.drewN' HXQ.out _⟩
              case measure => have := HLT.out; simp only [intOf]; first | omega | (rw [wq]; omega)
            · have HHT : Hid (∀ W, Calls Try.prog 27 #[.int .i64 (D : Int), .int .i64 (q : Int)] W fun e w' => e = .returned (.bool true) ∧ W = w') := Lib.hid (fun W => by have h9 := HHS.out W; rw [hh] at h9; exact h9)
              by_cases a1 : (M : Int) < j.most
              · have f2 : decide ((M : Int) < j.most) = true := decide_eq_true a1
                have HS : Hid (lowN (D : Int) j.most (q + 1) = P + B) := Lib.hid (by rw [HSL.out]; simp [hh, a1]; exact HBQ.out.symm)
                clear HHS hh a1
                go_wp2_with fail
                go_quiet (first | (go_at_call 27; exact quiet_eq (HHT.out _)) | (go_at_call 47; exact quiet_eq (HMC.out _)))
                repeat (first | go_values | go_skip | go_guarded | go_step | go_upon | (simp only []))
                go_roundw
                case rel => exact ⟨q + 1, B * 2, by first | rfl | rw [wq]; rfl, by rw [HS.out]; first | rfl | rw [wp], by first | rfl | rw [wb], HB2.out.symm, HLT.out, Below.drewN' HXQ.out _⟩
                case measure => have := HLT.out; simp only [intOf]; first | omega | (rw [wq]; omega)
              · have f2 : decide ((M : Int) < j.most) = false := decide_eq_false a1
                have HS : Hid (lowN (D : Int) j.most (q + 1) = P) := Lib.hid (by rw [HSL.out]; simp [hh, a1])
                clear HHS hh a1
                go_wp2_with fail
                go_quiet (first | (go_at_call 27; exact quiet_eq (HHT.out _)) | (go_at_call 47; exact quiet_eq (HMC.out _)))
                repeat (first | go_values | go_skip | go_guarded | go_step | go_upon | (simp only []))
                go_roundw
                case rel => exact ⟨q + 1, B * 2, by first | rfl | rw [wq]; rfl, by rw [HS.out], by first | rfl | rw [wb], HB2.out.symm, HLT.out, Below.drewN' HXQ.out _⟩
                case measure => have := HLT.out; simp only [intOf]; first | omega | (rw [wq]; omega)
          · have d2 : decide ((q : Int) < 6) = false := decide_eq_false (by omega)
            have HEE : Hid (PK = ((P : Int), true)) := Lib.hid (by rw [HE.out, ← HP.out, show q = 6 by omega])
            go_wp2
            go_ret2
            exact ⟨by rw [HEE.out]; rfl, HXE.out⟩

end Go.Proofs.Ytgjidkhfnnghiaa
