/- Texts that the proof of R rests on, one behind the other. -/
import Derived.Test.YtdijinboopdheaaRQ9
import Derived.Deep.CutBlock
import Derived.Deep.DeepCutAuto
import Derived.Deep.LoopGhost

/- The reference's net: Deliver. -/
namespace Go.Proofs.Ytdijinboopdheaa
open Go.RowKit

set_option maxRecDepth 100000 in
set_option maxHeartbeats 4000000 in
theorem RnDeliver_any (F : Fp) (h : Nat) (S : NtP) (i : Int) (w : World) (r : RnAt F w h S) (hm40 : S.way.length ≤ 1000000) : Calls Try.prog 44 #[.pointer (some ⟨h, 0, none⟩), .int .i64 i] w fun e w' => e = .returned (getA (delivN S i)) ∧ RnAt (F.since w w') w' h (dropN S i).2 ∧ Chg F w w' := by
  obtain ⟨W, hW⟩ : ∃ W, W = w.alloc (.cells #[.int .i64 0, .int .i64 0, .int .i64 0, .int .i64 0, .int .i64 0, .int .i64 0, .int .i64 0, .int .i64 0, .int .i64 0, .int .i64 0, .int .i64 0] 49) := ⟨_, rfl⟩
  have HB := Lib.hid (show Blk W w.heap.size 49 #[.int .i64 0, .int .i64 0, .int .i64 0, .int .i64 0, .int .i64 0, .int .i64 0, .int .i64 0, .int .i64 0, .int .i64 0, .int .i64 0, .int .i64 0] by rw [hW]; exact Blk.new _ _ _)
  have HX := Lib.hid (show Ext w W by rw [hW]; exact Ext.alloc_ _ _)
  have HI : Hid ((Try.prog.info? 49).map (·.size) = some (#[.int .i64 0, .int .i64 0, .int .i64 0, .int .i64 0, .int .i64 0, .int .i64 0, .int .i64 0, .int .i64 0, .int .i64 0, .int .i64 0, .int .i64 0] : Array Value).size) := Lib.hid infoM12
  have HO : Hid ((#[.int .i64 0, .int .i64 0, .int .i64 0, .int .i64 0, .int .i64 0, .int .i64 0, .int .i64 0, .int .i64 0, .int .i64 0, .int .i64 0, .int .i64 0] : Array Value).all (·.oneCell') = true) := Lib.hid (by simp [Value.oneCell'])
  have HHN := Lib.hid (RnHas_any F h S i W (r.ext HX.out))
  have HA := Lib.hid r
  have HM40 := Lib.hid hm40
  clear r hm40
  go_enter Try.func44, Try.ntmps44
  go_upto_region 1 with (fail)
  rw [← hW]
  clear hW
  cases hr : hasN S i with
  | false =>
    rw [hr] at HHN
    have HF : Hid (dropN S i = (false, S)) := Lib.hid (by unfold dropN; rw [if_neg (by rw [hr]; simp)])
    have HF2 : Hid (delivN S i = none) := Lib.hid (by unfold delivN; rw [if_neg (by rw [hr]; simp)])
    clear hr
    go_wp2_with fail
    refine HHN.out.mono ?_
    rintro e1 w1 ⟨rfl, hx1⟩
    replace HX := Lib.hid (HX.out.trans hx1)
    replace HB := Lib.hid (HB.out.ext hx1)
    clear hx1 HHN
    go_wp2_with (refine wpList_storeB rfl 49 _ _ rfl w.heap.size #[.int .i64 0, .int .i64 0, .int .i64 0, .int .i64 0, .int .i64 0, .int .i64 0, .int .i64 0, .int .i64 0, .int .i64 0, .int .i64 0, .int .i64 0] rfl rfl 49 _ HB.out HI.out rfl HO.out w.heap.size w HX.out (Nat.le_refl _) ?_; intro w5 hb5 hx5)
    exact bodyPost_ret (run_ctG rfl rfl rfl hb5 rfl) rfl ⟨by rw [HF2.out]; rfl, by rw [HF.out]; exact HA.out.grow hx5⟩
  | true =>
    rw [hr] at HHN
    have HF2 : Hid (delivN S i = gotOf (atN S i)) := Lib.hid (by unfold delivN; rw [if_pos hr])
    have HAT := Lib.hid (atN_get hr)
    have HIX := Lib.hid (hasN_iff.1 hr)
    clear hr
    go_wp2_with fail
    refine HHN.out.mono ?_
    rintro e1 w1 ⟨rfl, hx1⟩
    replace HX := Lib.hid (HX.out.trans hx1)
    replace HB := Lib.hid (HB.out.ext hx1)
    have HW1 := Lib.hid HB.out.lt
    clear hx1 HHN
    obtain ⟨k, rfl⟩ : ∃ k : Nat, i = k := ⟨i.toNat, by have := HIX.out; omega⟩
    obtain ⟨vL, vT, hi⟩ := (HA.out.ext HX.out).out
    obtain ⟨AL, cL, rfl, -, -, -⟩ := hi.rowL.slice_
    obtain ⟨AT, cT, rfl, -, -, -⟩ := hi.rowT.slice_
    rw [List.length_map] at hi
    have HIN := Lib.hid hi
    have HFI := Lib.hid (HA.out.isIn.ext HX.out)
    have HHR := Lib.hid HA.out.here
    clear hi
    rw [List.length_map] at HIN
    obtain ⟨n, hn⟩ : ∃ n, n = S.way.length := ⟨_, rfl⟩
    rw [← hn] at HIN
    have x1 : (0 : Int) ≤ (k : Int) ∧ (k : Int) < (n : Int) := by have := HIX.out; omega
    have HN := Lib.hid hn
    clear hn
    obtain ⟨p, hp⟩ : ∃ p, p = atN S (k : Int) := ⟨_, rfl⟩
    rw [Int.toNat_natCast, ← hp] at HAT
    rw [← hp] at HF2
    clear hp
    have hm : (S.way.map (·.1))[k]? = some p.1 := by rw [List.getElem?_map, HAT.out]; rfl
    have ht : (S.way.map tOf)[k]? = some (tOf p) := by rw [List.getElem?_map, HAT.out]; rfl
    obtain ⟨m, hmm⟩ : ∃ m, m = p.1 := ⟨_, rfl⟩
    obtain ⟨t, htt⟩ : ∃ t, t = tOf p := ⟨_, rfl⟩
    rw [← hmm] at hm
    rw [← htt] at ht
    have HPP := Lib.hid (And.intro hmm htt)
    obtain ⟨bL, rfl, hbL, -, hcl⟩ := HIN.out.rowL.at_ hm
    obtain ⟨bT, rfl, hbT, htc, -⟩ := HIN.out.rowT.at_ ht
    have m0 := hcl 0 m.node rfl
    have m1 := hcl 1 m.kind rfl
    have m2 := hcl 2 m.term rfl
    have m3 := hcl 3 m.gen rfl
    have m4 := hcl 4 m.job rfl
    have m5 := hcl 5 m.inc rfl
    have m6 := hcl 6 m.ver rfl
    have m7 := hcl 7 m.epoch rfl
    have m8 := hcl 8 m.til rfl
    have m9 := hcl 9 m.mode rfl
    have m10 := hcl 10 m.work rfl
    rw [Nat.add_zero] at m0
    have HLC : Hid (∀ W', Ext w1 W' → W'.cell? ⟨h, 0, none⟩ = some (.slice (some ⟨bL, 0, none⟩) n cL) ∧ W'.cell? ⟨h, 1, none⟩ = some (.slice (some ⟨bT, 0, none⟩) n cT) ∧ W'.cell? ⟨bT, k, none⟩ = some (.bool t) ∧ W'.cell? ⟨bL, k * 11, none⟩ = some (.int .i64 m.node) ∧ W'.cell? ⟨bL, k * 11 + 1, none⟩ = some (.int .i64 m.kind) ∧ W'.cell? ⟨bL, k * 11 + 2, none⟩ = some (.int .i64 m.term) ∧ W'.cell? ⟨bL, k * 11 + 3, none⟩ = some (.int .i64 m.gen) ∧ W'.cell? ⟨bL, k * 11 + 4, none⟩ = some (.int .i64 m.job) ∧ W'.cell? ⟨bL, k * 11 + 5, none⟩ = some (.int .i64 m.inc) ∧ W'.cell? ⟨bL, k * 11 + 6, none⟩ = some (.int .i64 m.ver) ∧ W'.cell? ⟨bL, k * 11 + 7, none⟩ = some (.int .i64 m.epoch) ∧ W'.cell? ⟨bL, k * 11 + 8, none⟩ = some (.int .i64 m.til) ∧ W'.cell? ⟨bL, k * 11 + 9, none⟩ = some (.int .i64 m.mode) ∧ W'.cell? ⟨bL, k * 11 + 10, none⟩ = some (.int .i64 m.work)) := Lib.hid fun W' q => ⟨(HIN.out.blk.ext q).cell 0, (HIN.out.blk.ext q).cell 1, (q.cell (p := ⟨bT, k, none⟩) hbT).trans htc, (q.cell (p := ⟨bL, k * 11, none⟩) hbL).trans m0, (q.cell (p := ⟨bL, k * 11 + 1, none⟩) hbL).trans m1, (q.cell (p := ⟨bL, k * 11 + 2, none⟩) hbL).trans m2, (q.cell (p := ⟨bL, k * 11 + 3, none⟩) hbL).trans m3, (q.cell (p := ⟨bL, k * 11 + 4, none⟩) hbL).trans m4, (q.cell (p := ⟨bL, k * 11 + 5, none⟩) hbL).trans m5, (q.cell (p := ⟨bL, k * 11 + 6, none⟩) hbL).trans m6, (q.cell (p := ⟨bL, k * 11 + 7, none⟩) hbL).trans m7, (q.cell (p := ⟨bL, k * 11 + 8, none⟩) hbL).trans m8, (q.cell (p := ⟨bL, k * 11 + 9, none⟩) hbL).trans m9, (q.cell (p := ⟨bL, k * 11 + 10, none⟩) hbL).trans m10⟩
    clear hcl hm ht hmm htt hbL hbT htc m0 m1 m2 m3 m4 m5 m6 m7 m8 m9 m10
    have HXD : Hid (Ext w1 w1.drew) := Lib.hid (Below.drewN' (Ext.refl w1) 1)
    go_upto_region 3 with (fail)
    refine held_begin (by kernel_rfl) ?_
    refine held_more (S' := fun W' : World => Ext w1 W') (fun _ _ => True.intro) ?_
    have hSx : (fun W' : World => Ext w1 W') w1.drew := HXD.out
    refine held_take (i := 0) (v := ?_) rfl (by kernel_rfl) (by kernel_rfl) (by kernel_rfl) (by rfl) (by first | assumption | exact True.intro) ?_ ?_
    rotate_left
    · (intro W hSw; go_simp; (try with_reducible rfl))
    try simp only [Act.put, List.setIfInBounds_toArray, List.set_cons_zero, List.set_cons_succ]
    refine held_take (i := 1) (v := ?_) rfl (by kernel_rfl) (by kernel_rfl) (by kernel_rfl) (by rfl) (by first | assumption | exact True.intro) ?_ ?_
    rotate_left
    · (intro W hSw; go_simp; (try with_reducible rfl))
    try simp only [Act.put, List.setIfInBounds_toArray, List.set_cons_zero, List.set_cons_succ]
    refine held_take (i := 2) (v := ?_) rfl (by kernel_rfl) (by kernel_rfl) (by kernel_rfl) (by rfl) (by first | assumption | exact True.intro) ?_ ?_
    rotate_left
    · (intro W hSw; go_simp; (try with_reducible rfl))
    try simp only [Act.put, List.setIfInBounds_toArray, List.set_cons_zero, List.set_cons_succ]
    refine held_take (i := 3) (v := ?_) rfl (by kernel_rfl) (by kernel_rfl) (by kernel_rfl) (by rfl) (by first | assumption | exact True.intro) ?_ ?_
    rotate_left
    · (intro W hSw; obtain ⟨k0, k1, k2, m0, m1, m2, m3, m4, m5, m6, m7, m8, m9, m10⟩ := HLC.out W hSw; go_simp; (try with_reducible rfl))
    try simp only [Act.put, List.setIfInBounds_toArray, List.set_cons_zero, List.set_cons_succ]
    refine held_take (i := 4) (v := ?_) rfl (by kernel_rfl) (by kernel_rfl) (by kernel_rfl) (by rfl) (by first | assumption | exact True.intro) ?_ ?_
    rotate_left
    · (intro W hSw; go_simp; (try with_reducible rfl))
    try simp only [Act.put, List.setIfInBounds_toArray, List.set_cons_zero, List.set_cons_succ]
    refine held_take (i := 5) (v := ?_) rfl (by kernel_rfl) (by kernel_rfl) (by kernel_rfl) (by rfl) (by first | assumption | exact True.intro) ?_ ?_
    rotate_left
    · (intro W hSw; go_simp; (try with_reducible rfl))
    try simp only [Act.put, List.setIfInBounds_toArray, List.set_cons_zero, List.set_cons_succ]
    refine held_take (i := 6) (v := ?_) rfl (by kernel_rfl) (by kernel_rfl) (by kernel_rfl) (by rfl) (by first | assumption | exact True.intro) ?_ ?_
    rotate_left
    · (intro W hSw; obtain ⟨k0, k1, k2, m0, m1, m2, m3, m4, m5, m6, m7, m8, m9, m10⟩ := HLC.out W hSw; go_simp; (try with_reducible rfl))
    try simp only [Act.put, List.setIfInBounds_toArray, List.set_cons_zero, List.set_cons_succ]
    refine held_take (i := 7) (v := ?_) rfl (by kernel_rfl) (by kernel_rfl) (by kernel_rfl) (by rfl) (by first | assumption | exact True.intro) ?_ ?_
    rotate_left
    · (intro W hSw; go_simp; (try with_reducible rfl))
    try simp only [Act.put, List.setIfInBounds_toArray, List.set_cons_zero, List.set_cons_succ]
    refine held_take (i := 8) (v := ?_) rfl (by kernel_rfl) (by kernel_rfl) (by kernel_rfl) (by rfl) (by first | assumption | exact True.intro) ?_ ?_
    rotate_left
    · (intro W hSw; go_simp; (try with_reducible rfl))
    try simp only [Act.put, List.setIfInBounds_toArray, List.set_cons_zero, List.set_cons_succ]
    refine held_take (i := 9) (v := ?_) rfl (by kernel_rfl) (by kernel_rfl) (by kernel_rfl) (by rfl) (by first | assumption | exact True.intro) ?_ ?_
    rotate_left
    · (intro W hSw; go_simp; (try with_reducible rfl))
    try simp only [Act.put, List.setIfInBounds_toArray, List.set_cons_zero, List.set_cons_succ]
    refine held_take (i := 10) (v := ?_) rfl (by kernel_rfl) (by kernel_rfl) (by kernel_rfl) (by rfl) (by first | assumption | exact True.intro) ?_ ?_
    rotate_left
    · (intro W hSw; obtain ⟨k0, k1, k2, m0, m1, m2, m3, m4, m5, m6, m7, m8, m9, m10⟩ := HLC.out W hSw; go_simp; (try with_reducible rfl))
    try simp only [Act.put, List.setIfInBounds_toArray, List.set_cons_zero, List.set_cons_succ]
    refine held_take (i := 11) (v := ?_) rfl (by kernel_rfl) (by kernel_rfl) (by kernel_rfl) (by rfl) (by first | assumption | exact True.intro) ?_ ?_
    rotate_left
    · (intro W hSw; go_simp; (try with_reducible rfl))
    try simp only [Act.put, List.setIfInBounds_toArray, List.set_cons_zero, List.set_cons_succ]
    refine held_take (i := 12) (v := ?_) rfl (by kernel_rfl) (by kernel_rfl) (by kernel_rfl) (by rfl) (by first | assumption | exact True.intro) ?_ ?_
    rotate_left
    · (intro W hSw; go_simp; (try with_reducible rfl))
    try simp only [Act.put, List.setIfInBounds_toArray, List.set_cons_zero, List.set_cons_succ]
    refine held_take (i := 13) (v := ?_) rfl (by kernel_rfl) (by kernel_rfl) (by kernel_rfl) (by rfl) (by first | assumption | exact True.intro) ?_ ?_
    rotate_left
    · (intro W hSw; obtain ⟨k0, k1, k2, m0, m1, m2, m3, m4, m5, m6, m7, m8, m9, m10⟩ := HLC.out W hSw; go_simp; (try with_reducible rfl))
    try simp only [Act.put, List.setIfInBounds_toArray, List.set_cons_zero, List.set_cons_succ]
    clear hSx
    refine held_op (i := 14) (by kernel_rfl) rfl (fun K hK => ?_)
    go_simp
    obtain ⟨W3, hW3⟩ : ∃ W, W = (w1.alloc (.cells #[.int .i64 0, .int .i64 0, .int .i64 0, .int .i64 0, .int .i64 0, .int .i64 0, .int .i64 0, .int .i64 0, .int .i64 0, .int .i64 0, .int .i64 0] 49)).drew := ⟨_, rfl⟩
    have HX3 := Lib.hid (show Ext w1 W3 by rw [hW3]; exact (Ext.alloc_ _ _).trans (Below.drewN' (Ext.refl _) 1))
    have HB3 : Hid (Blk W3 w1.heap.size 49 #[.int .i64 0, .int .i64 0, .int .i64 0, .int .i64 0, .int .i64 0, .int .i64 0, .int .i64 0, .int .i64 0, .int .i64 0, .int .i64 0, .int .i64 0]) := Lib.hid (by rw [hW3]; exact (Blk.new w1 _ _).ext (Below.drewN' (Ext.refl _) 1))
    rw [← hW3]
    clear hW3
    refine hK _ _ HX3.out (fun _ => ?_)
    clear hK K
    try simp only [Act.put, List.setIfInBounds_toArray, List.set_cons_zero, List.set_cons_succ]
    refine held_op (i := 15) (by kernel_rfl) rfl (fun K hK => ?_)
    refine step_storeC 49 _ _ rfl (by rfl) w1.heap.size #[.int .i64 m.node, .int .i64 m.kind, .int .i64 m.term, .int .i64 m.gen, .int .i64 m.job, .int .i64 m.inc, .int .i64 m.ver, .int .i64 m.epoch, .int .i64 m.til, .int .i64 m.mode, .int .i64 m.work] rfl rfl 49 _ HB3.out infoM12 rfl (by simp [Value.oneCell']) ?_
    intro w3 hb3 hc3
    have HX4 := Lib.hid (show Ext w1 w3 from hc3.ext HX3.out (fun q hq => by have hq : q = w1.heap.size := hq; rw [hq]; exact Nat.le_refl _))
    have HM3 : Hid (MsAt w3 w1.heap.size m) := Lib.hid ⟨hb3⟩
    clear hb3 hc3
    refine hK _ _ HX4.out (fun hSx => ?_)
    clear hK K
    try simp only [Act.put, List.setIfInBounds_toArray, List.set_cons_zero, List.set_cons_succ]
    refine held_take (i := 16) (v := ?_) rfl (by kernel_rfl) (by kernel_rfl) (by kernel_rfl) (by rfl) (by first | assumption | exact True.intro) ?_ ?_
    rotate_left
    · (intro W hSw; go_simp; (try with_reducible rfl))
    try simp only [Act.put, List.setIfInBounds_toArray, List.set_cons_zero, List.set_cons_succ]
    clear hSx
    refine wpAnyH_done (by kernel_rfl) ?_ _
    refine NoPanic.normal ?_
    replace HB := Lib.hid (HB.out.ext HX4.out)
    replace HX := Lib.hid (HX.out.trans HX4.out)
    clear HB3 HX3 HXD HLC
    have HDP := Lib.hid (RnDrop_any F h S (k : Int) w3 (HA.out.ext HX.out) HM40.out)
    go_wp2_with fail
    refine HDP.out.mono ?_
    rintro e4 w4 ⟨rfl, hn4, hc4⟩
    have HN4 := Lib.hid hn4
    have HC4 := Lib.hid hc4
    have HBL := Lib.hid HB.out.lt
    replace HB := Lib.hid (show Blk w4 w.heap.size 49 #[.int .i64 0, .int .i64 0, .int .i64 0, .int .i64 0, .int .i64 0, .int .i64 0, .int .i64 0, .int .i64 0, .int .i64 0, .int .i64 0, .int .i64 0] from (hc4.block w.heap.size HB.out.lt (fun hf => Nat.lt_irrefl _ (HA.out.isIn _ hf))).trans HB.out)
    have HM4 := Lib.hid (show MsAt w4 w1.heap.size m from ⟨(hc4.block w1.heap.size HM3.out.blk.lt (fun hf => by have := HA.out.isIn _ hf; have := HW1.out; omega)).trans HM3.out.blk⟩)
    clear hn4 hc4 HDP
    cases t with
    | true =>
      have HG : Hid (gotOf p = none) := Lib.hid (by unfold gotOf; rw [if_pos HPP.out.2.symm])
      go_wp2_with (refine wpList_storeC rfl 49 _ _ rfl w.heap.size #[.int .i64 0, .int .i64 0, .int .i64 0, .int .i64 0, .int .i64 0, .int .i64 0, .int .i64 0, .int .i64 0, .int .i64 0, .int .i64 0, .int .i64 0] rfl rfl 49 _ HB.out HI.out rfl HO.out ?_; intro w5 hb5 hc5)
      exact bodyPost_ret (run_ctG rfl rfl rfl hb5 rfl) rfl ⟨by rw [HF2.out, HG.out]; rfl, RnAt.both HA.out.isIn HX.out HN4.out HC4.out HHR.out (Ext.refl _) (Nat.le_refl _) HBL.out hc5⟩
    | false =>
      have HG : Hid (gotOf p = some m) := Lib.hid (by unfold gotOf; rw [if_neg (by rw [← HPP.out.2]; simp), HPP.out.1])
      have HI2 : Hid ((Try.prog.info? 49).map (·.size) = some (#[.int .i64 m.node, .int .i64 m.kind, .int .i64 m.term, .int .i64 m.gen, .int .i64 m.job, .int .i64 m.inc, .int .i64 m.ver, .int .i64 m.epoch, .int .i64 m.til, .int .i64 m.mode, .int .i64 m.work] : Array Value).size) := Lib.hid infoM12
      have HO2 : Hid ((#[.int .i64 m.node, .int .i64 m.kind, .int .i64 m.term, .int .i64 m.gen, .int .i64 m.job, .int .i64 m.inc, .int .i64 m.ver, .int .i64 m.epoch, .int .i64 m.til, .int .i64 m.mode, .int .i64 m.work] : Array Value).all (·.oneCell') = true) := Lib.hid (by simp [Value.oneCell'])
      obtain ⟨m0, m1, m2, m3, m4, m5, m6, m7, m8, m9, m10⟩ := HM4.out.cells
      go_wp2_with (refine wpList_storeC rfl 49 _ _ rfl w.heap.size #[.int .i64 m.node, .int .i64 m.kind, .int .i64 m.term, .int .i64 m.gen, .int .i64 m.job, .int .i64 m.inc, .int .i64 m.ver, .int .i64 m.epoch, .int .i64 m.til, .int .i64 m.mode, .int .i64 m.work] rfl rfl 49 _ HB.out HI2.out rfl HO2.out ?_; intro w5 hb5 hc5)
      exact bodyPost_ret (run_ctG rfl rfl rfl hb5 rfl) rfl ⟨by rw [HF2.out, HG.out]; rfl, RnAt.both HA.out.isIn HX.out HN4.out HC4.out HHR.out (Ext.refl _) (Nat.le_refl _) HBL.out hc5⟩

end Go.Proofs.Ytdijinboopdheaa

/- The reference's net: Twice. -/
namespace Go.Proofs.Ytdijinboopdheaa
open Go.RowKit

/-- Behind the first of the two appends. -/
def TwR (F : Fp) (w0 w1 : World) (h : Nat) (S : NtP) (m : Ms) (vT : Value) (w8 : World) : Prop := ∃ (w7 : World) (vL : Value), RnX (F.since w1 w7) w8 h (S.way.map (·.1) ++ [m]) (S.way.map tOf) S.sent vL vT ∧ Chg F w1 w8 ∧ w7.heap.size = w8.heap.size ∧ w1.heap.size ≤ w7.heap.size
theorem RnAt.twice_fin {F : Fp} {w0 w1 w7 w8 w8' w9 : World} {h n : Nat} {S : NtP} {p : PcP} {vL vT v9 : Value} (hF : F.isIn w0) (hh : F h) (hx : Ext w0 w1) (h78 : w7.heap.size = w8.heap.size) (hx27 : w1.heap.size ≤ w7.heap.size) (h8 : RnX (F.since w1 w7) w8 h (S.way.map (·.1) ++ [p.1]) (S.way.map tOf) S.sent vL vT) (hc8 : Chg F w1 w8) (hxd : Ext w8 w8')
    (hn : n = S.way.length) (hg : WayG vT w8' 4 1 (n + 1) ((S.way.map tOf).map Value.bool ++ [.bool (tOf p)]) v9 w9) :
    RnAt (F.since w0 (w9.setCell ⟨h, 1, none⟩ v9)) (w9.setCell ⟨h, 1, none⟩ v9) h ⟨S.way ++ [p], S.sent⟩ ∧ Chg F w0 (w9.setCell ⟨h, 1, none⟩ v9) := by
  have hF2 : F.isIn w1 := hF.ext hx
  have hF8 : (F.since w1 w7).isIn w8 := fun k hk => by rw [← h78]; exact (hF2.since hx27) k hk
  obtain ⟨h9, hc9⟩ := h8.putT (x := tOf p) hF8 (.inl hh) hxd (by rw [List.length_map, ← hn]; exact hg)
  have s9 : w8'.heap.size ≤ w9.heap.size := hg.grown.size
  have s8 := hxd.size
  refine RnAt.fin (w4 := w9) (vL := vL) (vT := v9) hF hh hx (by simp) (S6 := ⟨S.way ++ [p], S.sent⟩) ?_ (hc8.trans hc9 (fun k hk hh2 => ?_))
  · have e1 : (S.way ++ [p]).map (·.1) = S.way.map (·.1) ++ [p.1] := by simp
    have e2 : (S.way ++ [p]).map tOf = S.way.map tOf ++ [tOf p] := by simp
    simp only [e1, e2]
    refine h9.mono (fun k hk => ?_)
    rcases hk with (hk | hk) | hk
    · exact .inl hk
    · exact .inr ⟨hk.1, by omega⟩
    · exact .inr ⟨by omega, hk.2⟩
  · rcases hh2 with hh2 | hh2
    · exact hh2
    · omega

set_option maxRecDepth 100000 in
set_option maxHeartbeats 4000000 in
theorem RnTwice_any (F : Fp) (h : Nat) (S : NtP) (i : Int) (w : World) (r : RnAt F w h S) : Calls Try.prog 46 #[.pointer (some ⟨h, 0, none⟩), .int .i64 i] w fun e w' => e = .returned (.bool (twiceN S i).1) ∧ RnAt (F.since w w') w' h (twiceN S i).2 ∧ Chg F w w' := by
  have HHN := Lib.hid (RnHas_any F h S i w r)
  have HA := Lib.hid r
  clear r
  go_enter Try.func46, Try.ntmps46
  cases hr : hasN S i with
  | false =>
    rw [hr] at HHN
    have HF : Hid (twiceN S i = (false, S)) := Lib.hid (by unfold twiceN; rw [if_neg (by rw [hr]; simp)])
    clear hr
    go_wp2_with fail
    refine HHN.out.mono ?_
    rintro e1 w1 ⟨rfl, hx1⟩
    have HX := Lib.hid hx1
    clear hx1 HHN
    go_wp2
    go_ret
    exact ⟨by rw [HF.out]; rfl, by rw [HF.out]; exact HA.out.grow HX.out⟩
  | true =>
    rw [hr] at HHN
    have HR0 := Lib.hid hr
    have HAT := Lib.hid (atN_get hr)
    have HIX := Lib.hid (hasN_iff.1 hr)
    clear hr
    go_wp2_with fail
    refine HHN.out.mono ?_
    rintro e1 w1 ⟨rfl, hx1⟩
    have HX := Lib.hid hx1
    clear hx1 HHN
    obtain ⟨k, rfl⟩ : ∃ k : Nat, i = k := ⟨i.toNat, by have := HIX.out; omega⟩
    obtain ⟨vL, vT, hi⟩ := (HA.out.ext HX.out).out
    obtain ⟨AL, cL, rfl, -, -, -⟩ := hi.rowL.slice_
    obtain ⟨AT, cT, rfl, -, -, -⟩ := hi.rowT.slice_
    rw [List.length_map] at hi
    have HIN := Lib.hid hi
    have HFI := Lib.hid (HA.out.isIn.ext HX.out)
    have HHR := Lib.hid HA.out.here
    clear hi
    rw [List.length_map] at HIN
    obtain ⟨n, hn⟩ : ∃ n, n = S.way.length := ⟨_, rfl⟩
    rw [← hn] at HIN
    have x1 : (0 : Int) ≤ (k : Int) ∧ (k : Int) < (n : Int) := by have := HIX.out; omega
    have HN := Lib.hid hn
    clear hn
    have c0 : w1.cell? ⟨h, 0, none⟩ = some (.slice AL n cL) := HIN.out.blk.cell 0
    by_cases h40 : n < 40
    rotate_left
    · have d0 : decide ((40 : Int) ≤ (n : Int)) = true := decide_eq_true (by omega)
      have d0' : decide (40 ≤ n) = true := decide_eq_true (by omega)
      have HF : Hid (twiceN S (k : Int) = (false, S)) := Lib.hid (by unfold twiceN; rw [if_neg (fun hc => h40 (by have := hc.2; unfold roomN at this; rw [HN.out]; simpa using this))])
      clear h40
      go_wp2
      go_ret
      exact ⟨by rw [HF.out]; rfl, by rw [HF.out]; exact HA.out.grow HX.out⟩
    · have d0 : decide ((40 : Int) ≤ (n : Int)) = false := decide_eq_false (by omega)
      have d0' : decide (40 ≤ n) = false := decide_eq_false (by omega)
      have HN40 := Lib.hid h40
      clear h40
      have HF : Hid (twiceN S (k : Int) = (true, ⟨S.way ++ [atN S (k : Int)], S.sent⟩)) := Lib.hid (by unfold twiceN; rw [if_pos ⟨HR0.out, by unfold roomN; rw [← HN.out]; exact decide_eq_true HN40.out⟩])
      obtain ⟨p, hp⟩ : ∃ p, p = atN S (k : Int) := ⟨_, rfl⟩
      rw [Int.toNat_natCast, ← hp] at HAT
      rw [← hp] at HF
      clear hp
      have hm : (S.way.map (·.1))[k]? = some p.1 := by rw [List.getElem?_map, HAT.out]; rfl
      have ht : (S.way.map tOf)[k]? = some (tOf p) := by rw [List.getElem?_map, HAT.out]; rfl
      obtain ⟨m, hmm⟩ : ∃ m, m = p.1 := ⟨_, rfl⟩
      obtain ⟨t, htt⟩ : ∃ t, t = tOf p := ⟨_, rfl⟩
      rw [← hmm] at hm
      rw [← htt] at ht
      have HMM := Lib.hid hmm
      have HTT := Lib.hid htt
      have HTK := Lib.hid ht
      clear hmm htt
      have HXD : Hid (Ext w1 w1.drew) := Lib.hid (Below.drewN' (Ext.refl w1) 1)
      have HID := Lib.hid (HIN.out.chg (Chg.of_ext (F := fun _ => False) HXD.out) (fun _ _ h => h) HHR.out)
      go_upto_region 3 with (fail)
      clear c0
      go_cut [] (fun wx => Hid (TwR F w w1.drew h S m (.slice AT n cT) wx))
      case first =>
        obtain ⟨bL, rfl, hbL, -, hcl⟩ := HID.out.rowL.at_ hm
        have m0 := hcl 0 m.node rfl
        have m1 := hcl 1 m.kind rfl
        have m2 := hcl 2 m.term rfl
        have m3 := hcl 3 m.gen rfl
        have m4 := hcl 4 m.job rfl
        have m5 := hcl 5 m.inc rfl
        have m6 := hcl 6 m.ver rfl
        have m7 := hcl 7 m.epoch rfl
        have m8 := hcl 8 m.til rfl
        have m9 := hcl 9 m.mode rfl
        have m10 := hcl 10 m.work rfl
        rw [Nat.add_zero] at m0
        clear hcl hm ht
        have c0 : w1.drew.cell? ⟨h, 0, none⟩ = some (.slice (some ⟨bL, 0, none⟩) n cL) := HID.out.blk.cell 0
        obtain ⟨wa, hwa⟩ : ∃ W, W = (w1.alloc (.cells #[.int .i64 m.node, .int .i64 m.kind, .int .i64 m.term, .int .i64 m.gen, .int .i64 m.job, .int .i64 m.inc, .int .i64 m.ver, .int .i64 m.epoch, .int .i64 m.til, .int .i64 m.mode, .int .i64 m.work] 49)).drew := ⟨_, rfl⟩
        have HWA := Lib.hid hwa
        have HWB : Hid (wa = w1.drew.alloc (.cells #[.int .i64 m.node, .int .i64 m.kind, .int .i64 m.term, .int .i64 m.gen, .int .i64 m.job, .int .i64 m.inc, .int .i64 m.ver, .int .i64 m.epoch, .int .i64 m.til, .int .i64 m.mode, .int .i64 m.work] 49)) := Lib.hid (by rw [hwa]; rfl)
        have HXA : Hid (Ext w1.drew wa) := Lib.hid (by rw [HWB.out]; exact Ext.alloc_ _ _)
        have c0b := HXA.out.cellOf c0 (Nat.lt_of_lt_of_le (HFI.out _ HHR.out) HXD.out.size)
        clear hwa
        refine held_begin (by kernel_rfl) ?_
        refine held_take (i := 0) (v := ?_) rfl (by kernel_rfl) (by kernel_rfl) (by kernel_rfl) (by rfl) (by first | assumption | exact True.intro) ?_ ?_
        rotate_left
        · (intro w hSw; go_simp; (try with_reducible rfl))
        try simp only [Act.put, List.setIfInBounds_toArray, List.set_cons_zero, List.set_cons_succ]
        refine held_take (i := 1) (v := ?_) rfl (by kernel_rfl) (by kernel_rfl) (by kernel_rfl) (by rfl) (by first | assumption | exact True.intro) ?_ ?_
        rotate_left
        · (intro w hSw; go_simp; (try with_reducible rfl))
        try simp only [Act.put, List.setIfInBounds_toArray, List.set_cons_zero, List.set_cons_succ]
        refine held_take (i := 2) (v := ?_) rfl (by kernel_rfl) (by kernel_rfl) (by kernel_rfl) (by rfl) (by first | assumption | exact True.intro) ?_ ?_
        rotate_left
        · (intro w hSw; go_simp; (try with_reducible rfl))
        try simp only [Act.put, List.setIfInBounds_toArray, List.set_cons_zero, List.set_cons_succ]
        refine held_take (i := 3) (v := ?_) rfl (by kernel_rfl) (by kernel_rfl) (by kernel_rfl) (by rfl) (by first | assumption | exact True.intro) ?_ ?_
        rotate_left
        · (intro w hSw; go_simp; (try with_reducible rfl))
        try simp only [Act.put, List.setIfInBounds_toArray, List.set_cons_zero, List.set_cons_succ]
        refine held_take (i := 5) (v := ?_) rfl (by kernel_rfl) (by kernel_rfl) (by kernel_rfl) (by rfl) (by first | assumption | exact True.intro) ?_ ?_
        rotate_left
        · (intro w hSw; go_simp; (try with_reducible rfl))
        try simp only [Act.put, List.setIfInBounds_toArray, List.set_cons_zero, List.set_cons_succ]
        refine held_take (i := 6) (v := ?_) rfl (by kernel_rfl) (by kernel_rfl) (by kernel_rfl) (by rfl) (by first | assumption | exact True.intro) ?_ ?_
        rotate_left
        · (intro w hSw; go_simp; (try with_reducible rfl))
        try simp only [Act.put, List.setIfInBounds_toArray, List.set_cons_zero, List.set_cons_succ]
        refine held_take (i := 7) (v := ?_) rfl (by kernel_rfl) (by kernel_rfl) (by kernel_rfl) (by rfl) (by first | assumption | exact True.intro) ?_ ?_
        rotate_left
        · (intro w hSw; go_simp; (try with_reducible rfl))
        try simp only [Act.put, List.setIfInBounds_toArray, List.set_cons_zero, List.set_cons_succ]
        refine held_take (i := 9) (v := ?_) rfl (by kernel_rfl) (by kernel_rfl) (by kernel_rfl) (by rfl) (by first | assumption | exact True.intro) ?_ ?_
        rotate_left
        · (intro w hSw; go_simp; (try with_reducible rfl))
        try simp only [Act.put, List.setIfInBounds_toArray, List.set_cons_zero, List.set_cons_succ]
        refine held_two (i := 4) (j := 8) (by kernel_rfl) rfl rfl (fun K hK => ?_) (fun K hK => ?_)
        · go_simp
          refine hK _ _ True.intro (fun _ => ?_)
          clear hK K
          try simp only [Act.put, List.setIfInBounds_toArray, List.set_cons_zero, List.set_cons_succ]
          refine held_op (i := 8) (by kernel_rfl) rfl (fun K hK => ?_)
          go_simp
          refine hK _ _ True.intro (fun _ => ?_)
          clear hK K
          try simp only [Act.put, List.setIfInBounds_toArray, List.set_cons_zero, List.set_cons_succ]
          refine held_take (i := 10) (v := ?_) rfl (by kernel_rfl) (by kernel_rfl) (by kernel_rfl) (by rfl) (by first | assumption | exact True.intro) ?_ ?_
          rotate_left
          · (intro w hSw; go_simp; (try with_reducible rfl))
          try simp only [Act.put, List.setIfInBounds_toArray, List.set_cons_zero, List.set_cons_succ]
          refine held_op (i := 11) (by kernel_rfl) rfl (fun K hK => ?_)
          go_simp
          refine hK _ _ True.intro (fun _ => ?_)
          clear hK K
          try simp only [Act.put, List.setIfInBounds_toArray, List.set_cons_zero, List.set_cons_succ]
          refine held_op (i := 12) (by kernel_rfl) rfl (fun K hK => ?_)
          go_simp
          rw [← HWA.out]
          refine hK _ _ True.intro (fun _ => ?_)
          clear hK K
          try simp only [Act.put, List.setIfInBounds_toArray, List.set_cons_zero, List.set_cons_succ]
          rw [HWB.out]
          refine held_op (i := 13) (by kernel_rfl) rfl (fun K hK => ?_)
          refine step_pushW (F := fun k => F k ∧ k ≠ h) _ _ 60 rfl (by rfl) 49 (.agg #[.int .i64 0, .int .i64 0, .int .i64 0, .int .i64 0, .int .i64 0, .int .i64 0, .int .i64 0, .int .i64 0, .int .i64 0, .int .i64 0, .int .i64 0]) 11 88 Try.underlying60 (by kernel_rfl) (by simp [Value.cells]) (by omega) _ _ _ (show WayF (fun k => F k ∧ k ≠ h) w1.drew 49 11 (.slice (some ⟨bL, 0, none⟩) n cL) n ((S.way.map (·.1)).flatMap msC) by have h1 := HID.out.rowL; unfold LsF at h1; rw [List.length_map, ← HN.out] at h1; exact h1) rfl _ rfl (by simp [Value.oneCell']) rfl rfl (by have := HN40.out; unfold maxLen; omega) (by have := HN40.out; omega) ?_
          intro v7 w7 hg7
          have HG7 : Hid (WayG (.slice (some ⟨bL, 0, none⟩) n cL) w1.drew 49 11 (n + 1) ((S.way.map (·.1)).flatMap msC ++ msC m) v7 w7) := Lib.hid hg7
          clear hg7
          obtain ⟨A7, c7, rfl⟩ := own_slice HG7.out.own
          have HN7 := Lib.hid (HID.out.blk.grown HG7.out.grown (fun e => HID.out.offL e.symm))
          refine hK _ _ True.intro (fun _ => ?_)
          clear hK K
          try simp only [Act.put, List.setIfInBounds_toArray, List.set_cons_zero, List.set_cons_succ]
          refine held_take (i := 14) (v := ?_) rfl (by kernel_rfl) (by kernel_rfl) (by kernel_rfl) (by rfl) (by first | assumption | exact True.intro) ?_ ?_
          rotate_left
          · (intro w hSw; go_simp; (try with_reducible rfl))
          try simp only [Act.put, List.setIfInBounds_toArray, List.set_cons_zero, List.set_cons_succ]
          refine held_take (i := 15) (v := ?_) rfl (by kernel_rfl) (by kernel_rfl) (by kernel_rfl) (by rfl) (by first | assumption | exact True.intro) ?_ ?_
          rotate_left
          · (intro w hSw; go_simp; (try with_reducible rfl))
          try simp only [Act.put, List.setIfInBounds_toArray, List.set_cons_zero, List.set_cons_succ]
          refine held_op (i := 16) (by kernel_rfl) rfl (fun K hK => ?_)
          have c07 := HN7.out.cell 0
          have f07 := HN7.out.frozen 0
          go_simp
          refine hK _ _ True.intro (fun _ => ?_)
          clear hK K
          try simp only [Act.put, List.setIfInBounds_toArray, List.set_cons_zero, List.set_cons_succ]
          refine wpAnyH_done (by kernel_rfl) ?_ _
          refine NoPanic.normal ?_
          clear c0 c0b c07 f07 m0 m1 m2 m3 m4 m5 m6 m7 m8 m9 m10
          have HT : Hid (TwR F w w1.drew h S m (.slice AT n cT) (w7.setCell ⟨h, 0, none⟩ (.slice A7 (n + 1) c7))) := Lib.hid (by obtain ⟨p1, p2⟩ := HID.out.putL (HFI.out.ext HXD.out) HHR.out (Ext.refl _) (by rw [List.length_map, ← HN.out]; exact HG7.out); exact ⟨w7, _, p1, p2, by simp, HG7.out.grown.size⟩)
          go_wp2_with fail
          go_meet
          exact HT
        · go_simp
          refine hK _ _ True.intro (fun _ => ?_)
          clear hK K
          try simp only [Act.put, List.setIfInBounds_toArray, List.set_cons_zero, List.set_cons_succ]
          refine held_take (i := 10) (v := ?_) rfl (by kernel_rfl) (by kernel_rfl) (by kernel_rfl) (by rfl) (by first | assumption | exact True.intro) ?_ ?_
          rotate_left
          · (intro w hSw; go_simp; (try with_reducible rfl))
          try simp only [Act.put, List.setIfInBounds_toArray, List.set_cons_zero, List.set_cons_succ]
          refine held_two (i := 4) (j := 11) (by kernel_rfl) rfl rfl (fun K hK => ?_) (fun K hK => ?_)
          · go_simp
            refine hK _ _ True.intro (fun _ => ?_)
            clear hK K
            try simp only [Act.put, List.setIfInBounds_toArray, List.set_cons_zero, List.set_cons_succ]
            refine held_op (i := 11) (by kernel_rfl) rfl (fun K hK => ?_)
            go_simp
            refine hK _ _ True.intro (fun _ => ?_)
            clear hK K
            try simp only [Act.put, List.setIfInBounds_toArray, List.set_cons_zero, List.set_cons_succ]
            refine held_op (i := 12) (by kernel_rfl) rfl (fun K hK => ?_)
            go_simp
            rw [← HWA.out]
            refine hK _ _ True.intro (fun _ => ?_)
            clear hK K
            try simp only [Act.put, List.setIfInBounds_toArray, List.set_cons_zero, List.set_cons_succ]
            rw [HWB.out]
            refine held_op (i := 13) (by kernel_rfl) rfl (fun K hK => ?_)
            refine step_pushW (F := fun k => F k ∧ k ≠ h) _ _ 60 rfl (by rfl) 49 (.agg #[.int .i64 0, .int .i64 0, .int .i64 0, .int .i64 0, .int .i64 0, .int .i64 0, .int .i64 0, .int .i64 0, .int .i64 0, .int .i64 0, .int .i64 0]) 11 88 Try.underlying60 (by kernel_rfl) (by simp [Value.cells]) (by omega) _ _ _ (show WayF (fun k => F k ∧ k ≠ h) w1.drew 49 11 (.slice (some ⟨bL, 0, none⟩) n cL) n ((S.way.map (·.1)).flatMap msC) by have h1 := HID.out.rowL; unfold LsF at h1; rw [List.length_map, ← HN.out] at h1; exact h1) rfl _ rfl (by simp [Value.oneCell']) rfl rfl (by have := HN40.out; unfold maxLen; omega) (by have := HN40.out; omega) ?_
            intro v7 w7 hg7
            have HG7 : Hid (WayG (.slice (some ⟨bL, 0, none⟩) n cL) w1.drew 49 11 (n + 1) ((S.way.map (·.1)).flatMap msC ++ msC m) v7 w7) := Lib.hid hg7
            clear hg7
            obtain ⟨A7, c7, rfl⟩ := own_slice HG7.out.own
            have HN7 := Lib.hid (HID.out.blk.grown HG7.out.grown (fun e => HID.out.offL e.symm))
            refine hK _ _ True.intro (fun _ => ?_)
            clear hK K
            try simp only [Act.put, List.setIfInBounds_toArray, List.set_cons_zero, List.set_cons_succ]
            refine held_take (i := 14) (v := ?_) rfl (by kernel_rfl) (by kernel_rfl) (by kernel_rfl) (by rfl) (by first | assumption | exact True.intro) ?_ ?_
            rotate_left
            · (intro w hSw; go_simp; (try with_reducible rfl))
            try simp only [Act.put, List.setIfInBounds_toArray, List.set_cons_zero, List.set_cons_succ]
            refine held_take (i := 15) (v := ?_) rfl (by kernel_rfl) (by kernel_rfl) (by kernel_rfl) (by rfl) (by first | assumption | exact True.intro) ?_ ?_
            rotate_left
            · (intro w hSw; go_simp; (try with_reducible rfl))
            try simp only [Act.put, List.setIfInBounds_toArray, List.set_cons_zero, List.set_cons_succ]
            refine held_op (i := 16) (by kernel_rfl) rfl (fun K hK => ?_)
            have c07 := HN7.out.cell 0
            have f07 := HN7.out.frozen 0
            go_simp
            refine hK _ _ True.intro (fun _ => ?_)
            clear hK K
            try simp only [Act.put, List.setIfInBounds_toArray, List.set_cons_zero, List.set_cons_succ]
            refine wpAnyH_done (by kernel_rfl) ?_ _
            refine NoPanic.normal ?_
            clear c0 c0b c07 f07 m0 m1 m2 m3 m4 m5 m6 m7 m8 m9 m10
            have HT : Hid (TwR F w w1.drew h S m (.slice AT n cT) (w7.setCell ⟨h, 0, none⟩ (.slice A7 (n + 1) c7))) := Lib.hid (by obtain ⟨p1, p2⟩ := HID.out.putL (HFI.out.ext HXD.out) HHR.out (Ext.refl _) (by rw [List.length_map, ← HN.out]; exact HG7.out); exact ⟨w7, _, p1, p2, by simp, HG7.out.grown.size⟩)
            go_wp2_with fail
            go_meet
            exact HT
          · go_simp
            refine hK _ _ True.intro (fun _ => ?_)
            clear hK K
            try simp only [Act.put, List.setIfInBounds_toArray, List.set_cons_zero, List.set_cons_succ]
            refine held_two (i := 4) (j := 12) (by kernel_rfl) rfl rfl (fun K hK => ?_) (fun K hK => ?_)
            · go_simp
              refine hK _ _ True.intro (fun _ => ?_)
              clear hK K
              try simp only [Act.put, List.setIfInBounds_toArray, List.set_cons_zero, List.set_cons_succ]
              refine held_op (i := 12) (by kernel_rfl) rfl (fun K hK => ?_)
              go_simp
              rw [← HWA.out]
              refine hK _ _ True.intro (fun _ => ?_)
              clear hK K
              try simp only [Act.put, List.setIfInBounds_toArray, List.set_cons_zero, List.set_cons_succ]
              rw [HWB.out]
              refine held_op (i := 13) (by kernel_rfl) rfl (fun K hK => ?_)
              refine step_pushW (F := fun k => F k ∧ k ≠ h) _ _ 60 rfl (by rfl) 49 (.agg #[.int .i64 0, .int .i64 0, .int .i64 0, .int .i64 0, .int .i64 0, .int .i64 0, .int .i64 0, .int .i64 0, .int .i64 0, .int .i64 0, .int .i64 0]) 11 88 Try.underlying60 (by kernel_rfl) (by simp [Value.cells]) (by omega) _ _ _ (show WayF (fun k => F k ∧ k ≠ h) w1.drew 49 11 (.slice (some ⟨bL, 0, none⟩) n cL) n ((S.way.map (·.1)).flatMap msC) by have h1 := HID.out.rowL; unfold LsF at h1; rw [List.length_map, ← HN.out] at h1; exact h1) rfl _ rfl (by simp [Value.oneCell']) rfl rfl (by have := HN40.out; unfold maxLen; omega) (by have := HN40.out; omega) ?_
              intro v7 w7 hg7
              have HG7 : Hid (WayG (.slice (some ⟨bL, 0, none⟩) n cL) w1.drew 49 11 (n + 1) ((S.way.map (·.1)).flatMap msC ++ msC m) v7 w7) := Lib.hid hg7
              clear hg7
              obtain ⟨A7, c7, rfl⟩ := own_slice HG7.out.own
              have HN7 := Lib.hid (HID.out.blk.grown HG7.out.grown (fun e => HID.out.offL e.symm))
              refine hK _ _ True.intro (fun _ => ?_)
              clear hK K
              try simp only [Act.put, List.setIfInBounds_toArray, List.set_cons_zero, List.set_cons_succ]
              refine held_take (i := 14) (v := ?_) rfl (by kernel_rfl) (by kernel_rfl) (by kernel_rfl) (by rfl) (by first | assumption | exact True.intro) ?_ ?_
              rotate_left
              · (intro w hSw; go_simp; (try with_reducible rfl))
              try simp only [Act.put, List.setIfInBounds_toArray, List.set_cons_zero, List.set_cons_succ]
              refine held_take (i := 15) (v := ?_) rfl (by kernel_rfl) (by kernel_rfl) (by kernel_rfl) (by rfl) (by first | assumption | exact True.intro) ?_ ?_
              rotate_left
              · (intro w hSw; go_simp; (try with_reducible rfl))
              try simp only [Act.put, List.setIfInBounds_toArray, List.set_cons_zero, List.set_cons_succ]
              refine held_op (i := 16) (by kernel_rfl) rfl (fun K hK => ?_)
              have c07 := HN7.out.cell 0
              have f07 := HN7.out.frozen 0
              go_simp
              refine hK _ _ True.intro (fun _ => ?_)
              clear hK K
              try simp only [Act.put, List.setIfInBounds_toArray, List.set_cons_zero, List.set_cons_succ]
              refine wpAnyH_done (by kernel_rfl) ?_ _
              refine NoPanic.normal ?_
              clear c0 c0b c07 f07 m0 m1 m2 m3 m4 m5 m6 m7 m8 m9 m10
              have HT : Hid (TwR F w w1.drew h S m (.slice AT n cT) (w7.setCell ⟨h, 0, none⟩ (.slice A7 (n + 1) c7))) := Lib.hid (by obtain ⟨p1, p2⟩ := HID.out.putL (HFI.out.ext HXD.out) HHR.out (Ext.refl _) (by rw [List.length_map, ← HN.out]; exact HG7.out); exact ⟨w7, _, p1, p2, by simp, HG7.out.grown.size⟩)
              go_wp2_with fail
              go_meet
              exact HT
            · have hwa := HWA.out
              go_simp
              rw [← hwa]
              clear hwa
              refine hK _ _ True.intro (fun _ => ?_)
              clear hK K
              try simp only [Act.put, List.setIfInBounds_toArray, List.set_cons_zero, List.set_cons_succ]
              refine held_op (i := 4) (by kernel_rfl) rfl (fun K hK => ?_)
              go_simp
              refine hK _ _ True.intro (fun _ => ?_)
              clear hK K
              try simp only [Act.put, List.setIfInBounds_toArray, List.set_cons_zero, List.set_cons_succ]
              rw [HWB.out]
              refine held_op (i := 13) (by kernel_rfl) rfl (fun K hK => ?_)
              refine step_pushW (F := fun k => F k ∧ k ≠ h) _ _ 60 rfl (by rfl) 49 (.agg #[.int .i64 0, .int .i64 0, .int .i64 0, .int .i64 0, .int .i64 0, .int .i64 0, .int .i64 0, .int .i64 0, .int .i64 0, .int .i64 0, .int .i64 0]) 11 88 Try.underlying60 (by kernel_rfl) (by simp [Value.cells]) (by omega) _ _ _ (show WayF (fun k => F k ∧ k ≠ h) w1.drew 49 11 (.slice (some ⟨bL, 0, none⟩) n cL) n ((S.way.map (·.1)).flatMap msC) by have h1 := HID.out.rowL; unfold LsF at h1; rw [List.length_map, ← HN.out] at h1; exact h1) rfl _ rfl (by simp [Value.oneCell']) rfl rfl (by have := HN40.out; unfold maxLen; omega) (by have := HN40.out; omega) ?_
              intro v7 w7 hg7
              have HG7 : Hid (WayG (.slice (some ⟨bL, 0, none⟩) n cL) w1.drew 49 11 (n + 1) ((S.way.map (·.1)).flatMap msC ++ msC m) v7 w7) := Lib.hid hg7
              clear hg7
              obtain ⟨A7, c7, rfl⟩ := own_slice HG7.out.own
              have HN7 := Lib.hid (HID.out.blk.grown HG7.out.grown (fun e => HID.out.offL e.symm))
              refine hK _ _ True.intro (fun _ => ?_)
              clear hK K
              try simp only [Act.put, List.setIfInBounds_toArray, List.set_cons_zero, List.set_cons_succ]
              refine held_take (i := 14) (v := ?_) rfl (by kernel_rfl) (by kernel_rfl) (by kernel_rfl) (by rfl) (by first | assumption | exact True.intro) ?_ ?_
              rotate_left
              · (intro w hSw; go_simp; (try with_reducible rfl))
              try simp only [Act.put, List.setIfInBounds_toArray, List.set_cons_zero, List.set_cons_succ]
              refine held_take (i := 15) (v := ?_) rfl (by kernel_rfl) (by kernel_rfl) (by kernel_rfl) (by rfl) (by first | assumption | exact True.intro) ?_ ?_
              rotate_left
              · (intro w hSw; go_simp; (try with_reducible rfl))
              try simp only [Act.put, List.setIfInBounds_toArray, List.set_cons_zero, List.set_cons_succ]
              refine held_op (i := 16) (by kernel_rfl) rfl (fun K hK => ?_)
              have c07 := HN7.out.cell 0
              have f07 := HN7.out.frozen 0
              go_simp
              refine hK _ _ True.intro (fun _ => ?_)
              clear hK K
              try simp only [Act.put, List.setIfInBounds_toArray, List.set_cons_zero, List.set_cons_succ]
              refine wpAnyH_done (by kernel_rfl) ?_ _
              refine NoPanic.normal ?_
              clear c0 c0b c07 f07 m0 m1 m2 m3 m4 m5 m6 m7 m8 m9 m10
              have HT : Hid (TwR F w w1.drew h S m (.slice AT n cT) (w7.setCell ⟨h, 0, none⟩ (.slice A7 (n + 1) c7))) := Lib.hid (by obtain ⟨p1, p2⟩ := HID.out.putL (HFI.out.ext HXD.out) HHR.out (Ext.refl _) (by rw [List.length_map, ← HN.out]; exact HG7.out); exact ⟨w7, _, p1, p2, by simp, HG7.out.grown.size⟩)
              go_wp2_with fail
              go_meet
              exact HT
      case rest =>
        clear HIN HID hm
        obtain ⟨w7, vL, h8, hc8, h78, hs8⟩ := hcut.out
        have H8 := Lib.hid h8
        have HC8 := Lib.hid (And.intro hc8 (And.intro h78 hs8))
        clear hcut h8 hc8 h78 hs8
        obtain ⟨w8, hw8⟩ : ∃ W, W = wc := ⟨_, rfl⟩
        rw [← hw8] at H8 HC8 ⊢
        clear hw8
        have HXE : Hid (Ext w8 w8.drew) := Lib.hid (Below.drewN' (Ext.refl w8) 1)
        have H8D := Lib.hid (H8.out.chg (Chg.of_ext (F := fun _ => False) HXE.out) (fun _ _ h => h) (.inl HHR.out))
        obtain ⟨bT, rfl, hbT, htc, -⟩ := H8D.out.rowT.at_ ht
        clear ht
        have c1 : w8.drew.cell? ⟨h, 1, none⟩ = some (.slice (some ⟨bT, 0, none⟩) n cT) := H8D.out.blk.cell 1
        go_upto_region 4 with (fail)
        obtain ⟨wa, hwa⟩ : ∃ W, W = (w8.alloc (.cells #[.bool t] 4)).drew := ⟨_, rfl⟩
        have HWA := Lib.hid hwa
        have HWB : Hid (wa = w8.drew.alloc (.cells #[.bool t] 4)) := Lib.hid (by rw [hwa]; rfl)
        have HXA : Hid (Ext w8.drew wa) := Lib.hid (by rw [HWB.out]; exact Ext.alloc_ _ _)
        have c1b := HXA.out.cellOf c1 (H8D.out.blk.lt)
        clear hwa
        refine held_begin (by kernel_rfl) ?_
        refine held_take (i := 0) (v := ?_) rfl (by kernel_rfl) (by kernel_rfl) (by kernel_rfl) (by rfl) (by first | assumption | exact True.intro) ?_ ?_
        rotate_left
        · (intro w hSw; go_simp; (try with_reducible rfl))
        try simp only [Act.put, List.setIfInBounds_toArray, List.set_cons_zero, List.set_cons_succ]
        refine held_take (i := 1) (v := ?_) rfl (by kernel_rfl) (by kernel_rfl) (by kernel_rfl) (by rfl) (by first | assumption | exact True.intro) ?_ ?_
        rotate_left
        · (intro w hSw; go_simp; (try with_reducible rfl))
        try simp only [Act.put, List.setIfInBounds_toArray, List.set_cons_zero, List.set_cons_succ]
        refine held_take (i := 2) (v := ?_) rfl (by kernel_rfl) (by kernel_rfl) (by kernel_rfl) (by rfl) (by first | assumption | exact True.intro) ?_ ?_
        rotate_left
        · (intro w hSw; go_simp; (try with_reducible rfl))
        try simp only [Act.put, List.setIfInBounds_toArray, List.set_cons_zero, List.set_cons_succ]
        refine held_take (i := 3) (v := ?_) rfl (by kernel_rfl) (by kernel_rfl) (by kernel_rfl) (by rfl) (by first | assumption | exact True.intro) ?_ ?_
        rotate_left
        · (intro w hSw; go_simp; (try with_reducible rfl))
        try simp only [Act.put, List.setIfInBounds_toArray, List.set_cons_zero, List.set_cons_succ]
        refine held_take (i := 5) (v := ?_) rfl (by kernel_rfl) (by kernel_rfl) (by kernel_rfl) (by rfl) (by first | assumption | exact True.intro) ?_ ?_
        rotate_left
        · (intro w hSw; go_simp; (try with_reducible rfl))
        try simp only [Act.put, List.setIfInBounds_toArray, List.set_cons_zero, List.set_cons_succ]
        refine held_take (i := 6) (v := ?_) rfl (by kernel_rfl) (by kernel_rfl) (by kernel_rfl) (by rfl) (by first | assumption | exact True.intro) ?_ ?_
        rotate_left
        · (intro w hSw; go_simp; (try with_reducible rfl))
        try simp only [Act.put, List.setIfInBounds_toArray, List.set_cons_zero, List.set_cons_succ]
        refine held_take (i := 7) (v := ?_) rfl (by kernel_rfl) (by kernel_rfl) (by kernel_rfl) (by rfl) (by first | assumption | exact True.intro) ?_ ?_
        rotate_left
        · (intro w hSw; go_simp; (try with_reducible rfl))
        try simp only [Act.put, List.setIfInBounds_toArray, List.set_cons_zero, List.set_cons_succ]
        refine held_take (i := 9) (v := ?_) rfl (by kernel_rfl) (by kernel_rfl) (by kernel_rfl) (by rfl) (by first | assumption | exact True.intro) ?_ ?_
        rotate_left
        · (intro w hSw; go_simp; (try with_reducible rfl))
        try simp only [Act.put, List.setIfInBounds_toArray, List.set_cons_zero, List.set_cons_succ]
        refine held_two (i := 4) (j := 8) (by kernel_rfl) rfl rfl (fun K hK => ?_) (fun K hK => ?_)
        · go_simp
          refine hK _ _ True.intro (fun _ => ?_)
          clear hK K
          try simp only [Act.put, List.setIfInBounds_toArray, List.set_cons_zero, List.set_cons_succ]
          refine held_op (i := 8) (by kernel_rfl) rfl (fun K hK => ?_)
          go_simp
          refine hK _ _ True.intro (fun _ => ?_)
          clear hK K
          try simp only [Act.put, List.setIfInBounds_toArray, List.set_cons_zero, List.set_cons_succ]
          refine held_take (i := 10) (v := ?_) rfl (by kernel_rfl) (by kernel_rfl) (by kernel_rfl) (by rfl) (by first | assumption | exact True.intro) ?_ ?_
          rotate_left
          · (intro w hSw; go_simp; (try with_reducible rfl))
          try simp only [Act.put, List.setIfInBounds_toArray, List.set_cons_zero, List.set_cons_succ]
          refine held_op (i := 11) (by kernel_rfl) rfl (fun K hK => ?_)
          go_simp
          refine hK _ _ True.intro (fun _ => ?_)
          clear hK K
          try simp only [Act.put, List.setIfInBounds_toArray, List.set_cons_zero, List.set_cons_succ]
          refine held_op (i := 12) (by kernel_rfl) rfl (fun K hK => ?_)
          go_simp
          rw [← HWA.out]
          refine hK _ _ True.intro (fun _ => ?_)
          clear hK K
          try simp only [Act.put, List.setIfInBounds_toArray, List.set_cons_zero, List.set_cons_succ]
          rw [HWB.out]
          refine held_op (i := 13) (by kernel_rfl) rfl (fun K hK => ?_)
          refine step_pushW (F := fun k => (F.since w1.drew w7) k ∧ k ≠ h) _ _ 70 rfl (by rfl) 4 (.bool false) 1 1 Try.underlying70 (by kernel_rfl) (by simp [Value.cells]) (by omega) _ _ _ (show WayF (fun k => (F.since w1.drew w7) k ∧ k ≠ h) w8.drew 4 1 (.slice (some ⟨bT, 0, none⟩) n cT) n ((S.way.map tOf).map Value.bool) by have h1 := H8D.out.rowT; unfold BsF at h1; rw [List.length_map, ← HN.out] at h1; exact h1) rfl _ rfl (by simp [Value.oneCell']) rfl rfl (by have := HN40.out; unfold maxLen; omega) (by have := HN40.out; omega) ?_
          intro v9 w9 hg9
          have HG9 : Hid (WayG (.slice (some ⟨bT, 0, none⟩) n cT) w8.drew 4 1 (n + 1) ((S.way.map tOf).map Value.bool ++ [.bool t]) v9 w9) := Lib.hid hg9
          clear hg9
          obtain ⟨A9, c9, rfl⟩ := own_slice HG9.out.own
          have HN9 := Lib.hid (H8D.out.blk.grown HG9.out.grown (fun e => H8D.out.offT e.symm))
          refine hK _ _ True.intro (fun _ => ?_)
          clear hK K
          try simp only [Act.put, List.setIfInBounds_toArray, List.set_cons_zero, List.set_cons_succ]
          refine held_take (i := 14) (v := ?_) rfl (by kernel_rfl) (by kernel_rfl) (by kernel_rfl) (by rfl) (by first | assumption | exact True.intro) ?_ ?_
          rotate_left
          · (intro w hSw; go_simp; (try with_reducible rfl))
          try simp only [Act.put, List.setIfInBounds_toArray, List.set_cons_zero, List.set_cons_succ]
          refine held_take (i := 15) (v := ?_) rfl (by kernel_rfl) (by kernel_rfl) (by kernel_rfl) (by rfl) (by first | assumption | exact True.intro) ?_ ?_
          rotate_left
          · (intro w hSw; go_simp; (try with_reducible rfl))
          try simp only [Act.put, List.setIfInBounds_toArray, List.set_cons_zero, List.set_cons_succ]
          refine held_op (i := 16) (by kernel_rfl) rfl (fun K hK => ?_)
          have c19 := HN9.out.cell 1
          have f19 := HN9.out.frozen 1
          go_simp
          refine hK _ _ True.intro (fun _ => ?_)
          clear hK K
          try simp only [Act.put, List.setIfInBounds_toArray, List.set_cons_zero, List.set_cons_succ]
          refine wpAnyH_done (by kernel_rfl) ?_ _
          refine NoPanic.normal ?_
          clear c1 c1b c19 f19 htc
          go_wp2
          go_ret
          exact ⟨by rw [HF.out]; rfl, by rw [HF.out]; exact RnAt.twice_fin HA.out.isIn HHR.out (HX.out.trans HXD.out) HC8.out.2.1 HC8.out.2.2 (by rw [← HMM.out]; exact H8.out) HC8.out.1 HXE.out HN.out (by rw [← HTT.out]; exact HG9.out)⟩
        · go_simp
          refine hK _ _ True.intro (fun _ => ?_)
          clear hK K
          try simp only [Act.put, List.setIfInBounds_toArray, List.set_cons_zero, List.set_cons_succ]
          refine held_take (i := 10) (v := ?_) rfl (by kernel_rfl) (by kernel_rfl) (by kernel_rfl) (by rfl) (by first | assumption | exact True.intro) ?_ ?_
          rotate_left
          · (intro w hSw; go_simp; (try with_reducible rfl))
          try simp only [Act.put, List.setIfInBounds_toArray, List.set_cons_zero, List.set_cons_succ]
          refine held_two (i := 4) (j := 11) (by kernel_rfl) rfl rfl (fun K hK => ?_) (fun K hK => ?_)
          · go_simp
            refine hK _ _ True.intro (fun _ => ?_)
            clear hK K
            try simp only [Act.put, List.setIfInBounds_toArray, List.set_cons_zero, List.set_cons_succ]
            refine held_op (i := 11) (by kernel_rfl) rfl (fun K hK => ?_)
            go_simp
            refine hK _ _ True.intro (fun _ => ?_)
            clear hK K
            try simp only [Act.put, List.setIfInBounds_toArray, List.set_cons_zero, List.set_cons_succ]
            refine held_op (i := 12) (by kernel_rfl) rfl (fun K hK => ?_)
            go_simp
            rw [← HWA.out]
            refine hK _ _ True.intro (fun _ => ?_)
            clear hK K
            try simp only [Act.put, List.setIfInBounds_toArray, List.set_cons_zero, List.set_cons_succ]
            rw [HWB.out]
            refine held_op (i := 13) (by kernel_rfl) rfl (fun K hK => ?_)
            refine step_pushW (F := fun k => (F.since w1.drew w7) k ∧ k ≠ h) _ _ 70 rfl (by rfl) 4 (.bool false) 1 1 Try.underlying70 (by kernel_rfl) (by simp [Value.cells]) (by omega) _ _ _ (show WayF (fun k => (F.since w1.drew w7) k ∧ k ≠ h) w8.drew 4 1 (.slice (some ⟨bT, 0, none⟩) n cT) n ((S.way.map tOf).map Value.bool) by have h1 := H8D.out.rowT; unfold BsF at h1; rw [List.length_map, ← HN.out] at h1; exact h1) rfl _ rfl (by simp [Value.oneCell']) rfl rfl (by have := HN40.out; unfold maxLen; omega) (by have := HN40.out; omega) ?_
            intro v9 w9 hg9
            have HG9 : Hid (WayG (.slice (some ⟨bT, 0, none⟩) n cT) w8.drew 4 1 (n + 1) ((S.way.map tOf).map Value.bool ++ [.bool t]) v9 w9) := Lib.hid hg9
            clear hg9
            obtain ⟨A9, c9, rfl⟩ := own_slice HG9.out.own
            have HN9 := Lib.hid (H8D.out.blk.grown HG9.out.grown (fun e => H8D.out.offT e.symm))
            refine hK _ _ True.intro (fun _ => ?_)
            clear hK K
            try simp only [Act.put, List.setIfInBounds_toArray, List.set_cons_zero, List.set_cons_succ]
            refine held_take (i := 14) (v := ?_) rfl (by kernel_rfl) (by kernel_rfl) (by kernel_rfl) (by rfl) (by first | assumption | exact True.intro) ?_ ?_
            rotate_left
            · (intro w hSw; go_simp; (try with_reducible rfl))
            try simp only [Act.put, List.setIfInBounds_toArray, List.set_cons_zero, List.set_cons_succ]
            refine held_take (i := 15) (v := ?_) rfl (by kernel_rfl) (by kernel_rfl) (by kernel_rfl) (by rfl) (by first | assumption | exact True.intro) ?_ ?_
            rotate_left
            · (intro w hSw; go_simp; (try with_reducible rfl))
            try simp only [Act.put, List.setIfInBounds_toArray, List.set_cons_zero, List.set_cons_succ]
            refine held_op (i := 16) (by kernel_rfl) rfl (fun K hK => ?_)
            have c19 := HN9.out.cell 1
            have f19 := HN9.out.frozen 1
            go_simp
            refine hK _ _ True.intro (fun _ => ?_)
            clear hK K
            try simp only [Act.put, List.setIfInBounds_toArray, List.set_cons_zero, List.set_cons_succ]
            refine wpAnyH_done (by kernel_rfl) ?_ _
            refine NoPanic.normal ?_
            clear c1 c1b c19 f19 htc
            go_wp2
            go_ret
            exact ⟨by rw [HF.out]; rfl, by rw [HF.out]; exact RnAt.twice_fin HA.out.isIn HHR.out (HX.out.trans HXD.out) HC8.out.2.1 HC8.out.2.2 (by rw [← HMM.out]; exact H8.out) HC8.out.1 HXE.out HN.out (by rw [← HTT.out]; exact HG9.out)⟩
          · go_simp
            refine hK _ _ True.intro (fun _ => ?_)
            clear hK K
            try simp only [Act.put, List.setIfInBounds_toArray, List.set_cons_zero, List.set_cons_succ]
            refine held_two (i := 4) (j := 12) (by kernel_rfl) rfl rfl (fun K hK => ?_) (fun K hK => ?_)
            · go_simp
              refine hK _ _ True.intro (fun _ => ?_)
              clear hK K
              try simp only [Act.put, List.setIfInBounds_toArray, List.set_cons_zero, List.set_cons_succ]
              refine held_op (i := 12) (by kernel_rfl) rfl (fun K hK => ?_)
              go_simp
              rw [← HWA.out]
              refine hK _ _ True.intro (fun _ => ?_)
              clear hK K
              try simp only [Act.put, List.setIfInBounds_toArray, List.set_cons_zero, List.set_cons_succ]
              rw [HWB.out]
              refine held_op (i := 13) (by kernel_rfl) rfl (fun K hK => ?_)
              refine step_pushW (F := fun k => (F.since w1.drew w7) k ∧ k ≠ h) _ _ 70 rfl (by rfl) 4 (.bool false) 1 1 Try.underlying70 (by kernel_rfl) (by simp [Value.cells]) (by omega) _ _ _ (show WayF (fun k => (F.since w1.drew w7) k ∧ k ≠ h) w8.drew 4 1 (.slice (some ⟨bT, 0, none⟩) n cT) n ((S.way.map tOf).map Value.bool) by have h1 := H8D.out.rowT; unfold BsF at h1; rw [List.length_map, ← HN.out] at h1; exact h1) rfl _ rfl (by simp [Value.oneCell']) rfl rfl (by have := HN40.out; unfold maxLen; omega) (by have := HN40.out; omega) ?_
              intro v9 w9 hg9
              have HG9 : Hid (WayG (.slice (some ⟨bT, 0, none⟩) n cT) w8.drew 4 1 (n + 1) ((S.way.map tOf).map Value.bool ++ [.bool t]) v9 w9) := Lib.hid hg9
              clear hg9
              obtain ⟨A9, c9, rfl⟩ := own_slice HG9.out.own
              have HN9 := Lib.hid (H8D.out.blk.grown HG9.out.grown (fun e => H8D.out.offT e.symm))
              refine hK _ _ True.intro (fun _ => ?_)
              clear hK K
              try simp only [Act.put, List.setIfInBounds_toArray, List.set_cons_zero, List.set_cons_succ]
              refine held_take (i := 14) (v := ?_) rfl (by kernel_rfl) (by kernel_rfl) (by kernel_rfl) (by rfl) (by first | assumption | exact True.intro) ?_ ?_
              rotate_left
              · (intro w hSw; go_simp; (try with_reducible rfl))
              try simp only [Act.put, List.setIfInBounds_toArray, List.set_cons_zero, List.set_cons_succ]
              refine held_take (i := 15) (v := ?_) rfl (by kernel_rfl) (by kernel_rfl) (by kernel_rfl) (by rfl) (by first | assumption | exact True.intro) ?_ ?_
              rotate_left
              · (intro w hSw; go_simp; (try with_reducible rfl))
              try simp only [Act.put, List.setIfInBounds_toArray, List.set_cons_zero, List.set_cons_succ]
              refine held_op (i := 16) (by kernel_rfl) rfl (fun K hK => ?_)
              have c19 := HN9.out.cell 1
              have f19 := HN9.out.frozen 1
              go_simp
              refine hK _ _ True.intro (fun _ => ?_)
              clear hK K
              try simp only [Act.put, List.setIfInBounds_toArray, List.set_cons_zero, List.set_cons_succ]
              refine wpAnyH_done (by kernel_rfl) ?_ _
              refine NoPanic.normal ?_
              clear c1 c1b c19 f19 htc
              go_wp2
              go_ret
              exact ⟨by rw [HF.out]; rfl, by rw [HF.out]; exact RnAt.twice_fin HA.out.isIn HHR.out (HX.out.trans HXD.out) HC8.out.2.1 HC8.out.2.2 (by rw [← HMM.out]; exact H8.out) HC8.out.1 HXE.out HN.out (by rw [← HTT.out]; exact HG9.out)⟩
            · have hwa := HWA.out
              go_simp
              rw [← hwa]
              clear hwa
              refine hK _ _ True.intro (fun _ => ?_)
              clear hK K
              try simp only [Act.put, List.setIfInBounds_toArray, List.set_cons_zero, List.set_cons_succ]
              refine held_op (i := 4) (by kernel_rfl) rfl (fun K hK => ?_)
              go_simp
              refine hK _ _ True.intro (fun _ => ?_)
              clear hK K
              try simp only [Act.put, List.setIfInBounds_toArray, List.set_cons_zero, List.set_cons_succ]
              rw [HWB.out]
              refine held_op (i := 13) (by kernel_rfl) rfl (fun K hK => ?_)
              refine step_pushW (F := fun k => (F.since w1.drew w7) k ∧ k ≠ h) _ _ 70 rfl (by rfl) 4 (.bool false) 1 1 Try.underlying70 (by kernel_rfl) (by simp [Value.cells]) (by omega) _ _ _ (show WayF (fun k => (F.since w1.drew w7) k ∧ k ≠ h) w8.drew 4 1 (.slice (some ⟨bT, 0, none⟩) n cT) n ((S.way.map tOf).map Value.bool) by have h1 := H8D.out.rowT; unfold BsF at h1; rw [List.length_map, ← HN.out] at h1; exact h1) rfl _ rfl (by simp [Value.oneCell']) rfl rfl (by have := HN40.out; unfold maxLen; omega) (by have := HN40.out; omega) ?_
              intro v9 w9 hg9
              have HG9 : Hid (WayG (.slice (some ⟨bT, 0, none⟩) n cT) w8.drew 4 1 (n + 1) ((S.way.map tOf).map Value.bool ++ [.bool t]) v9 w9) := Lib.hid hg9
              clear hg9
              obtain ⟨A9, c9, rfl⟩ := own_slice HG9.out.own
              have HN9 := Lib.hid (H8D.out.blk.grown HG9.out.grown (fun e => H8D.out.offT e.symm))
              refine hK _ _ True.intro (fun _ => ?_)
              clear hK K
              try simp only [Act.put, List.setIfInBounds_toArray, List.set_cons_zero, List.set_cons_succ]
              refine held_take (i := 14) (v := ?_) rfl (by kernel_rfl) (by kernel_rfl) (by kernel_rfl) (by rfl) (by first | assumption | exact True.intro) ?_ ?_
              rotate_left
              · (intro w hSw; go_simp; (try with_reducible rfl))
              try simp only [Act.put, List.setIfInBounds_toArray, List.set_cons_zero, List.set_cons_succ]
              refine held_take (i := 15) (v := ?_) rfl (by kernel_rfl) (by kernel_rfl) (by kernel_rfl) (by rfl) (by first | assumption | exact True.intro) ?_ ?_
              rotate_left
              · (intro w hSw; go_simp; (try with_reducible rfl))
              try simp only [Act.put, List.setIfInBounds_toArray, List.set_cons_zero, List.set_cons_succ]
              refine held_op (i := 16) (by kernel_rfl) rfl (fun K hK => ?_)
              have c19 := HN9.out.cell 1
              have f19 := HN9.out.frozen 1
              go_simp
              refine hK _ _ True.intro (fun _ => ?_)
              clear hK K
              try simp only [Act.put, List.setIfInBounds_toArray, List.set_cons_zero, List.set_cons_succ]
              refine wpAnyH_done (by kernel_rfl) ?_ _
              refine NoPanic.normal ?_
              clear c1 c1b c19 f19 htc
              go_wp2
              go_ret
              exact ⟨by rw [HF.out]; rfl, by rw [HF.out]; exact RnAt.twice_fin HA.out.isIn HHR.out (HX.out.trans HXD.out) HC8.out.2.1 HC8.out.2.2 (by rw [← HMM.out]; exact H8.out) HC8.out.1 HXE.out HN.out (by rw [← HTT.out]; exact HG9.out)⟩

end Go.Proofs.Ytdijinboopdheaa

/- The reference's net: Flip, List. -/
namespace Go.Proofs.Ytdijinboopdheaa
open Go.RowKit

theorem set_same {α : Type} : ∀ {l : List α} {k : Nat} {x : α}, l[k]? = some x → l.set k x = l
  | [], k, x, h => by simp at h
  | a :: l, 0, x, h => by
    obtain rfl : a = x := by simpa using h
    rfl
  | a :: l, k + 1, x, h => by
    rw [List.set_cons_succ, set_same (by simpa using h)]
theorem RnAt.flip_fin {F : Fp} {w0 w2 : World} {h b n c k q : Nat} {S : NtP} {p : PcP} {vL : Value} (hF : F.isIn w0) (hh : F h) (hx : Ext w0 w2) (hp : S.way[k]? = some p) (h2 : RnX F w2 h (S.way.map (·.1)) (S.way.map tOf) S.sent vL (.slice (some ⟨b, 0, none⟩) n c)) :
    RnAt (F.since w0 (w2.setCell ⟨b, k, none⟩ (.bool true))) (w2.setCell ⟨b, k, none⟩ (.bool true)) h ⟨S.way.set k (p.1, some q), S.sent⟩ ∧ Chg F w0 (w2.setCell ⟨b, k, none⟩ (.bool true)) := by
  obtain ⟨h3, hc3⟩ := h2.turn (j := k)
  refine RnAt.fin (w4 := w2) (vL := vL) (vT := .slice (some ⟨b, 0, none⟩) n c) hF hh hx (by simp) (S6 := ⟨S.way.set k (p.1, some q), S.sent⟩) ?_ hc3
  have e1 : (S.way.set k (p.1, some q)).map (·.1) = S.way.map (·.1) := by
    rw [List.map_set]
    exact set_same (by rw [List.getElem?_map, hp]; rfl)
  have e2 : (S.way.set k (p.1, some q)).map tOf = (S.way.map tOf).set k true := by rw [List.map_set]; rfl
  simp only [e1, e2]
  exact h3.mono (fun k hk => .inl hk)

set_option maxRecDepth 100000 in
set_option maxHeartbeats 4000000 in
theorem RnFlip_any (F : Fp) (h : Nat) (S : NtP) (i bit : Int) (w : World) (r : RnAt F w h S) (hok : OkNt S) : Calls Try.prog 47 #[.pointer (some ⟨h, 0, none⟩), .int .i64 i, .int .i64 bit] w fun e w' => e = .returned (.bool (flipN S i bit).1) ∧ RnAt (F.since w w') w' h (flipN S i bit).2 ∧ Chg F w w' := by
  have HHN := Lib.hid (RnHas_any F h S i w r)
  have HA := Lib.hid r
  have HOK := Lib.hid hok
  clear r hok
  go_enter Try.func47, Try.ntmps47
  cases hr : hasN S i with
  | false =>
    rw [hr] at HHN
    have HF : Hid (flipN S i bit = (false, S)) := Lib.hid (by unfold flipN; rw [if_neg (by rw [hr]; simp)])
    clear hr
    go_wp2_with fail
    refine HHN.out.mono ?_
    rintro e1 w1 ⟨rfl, hx1⟩
    have HX := Lib.hid hx1
    clear hx1 HHN
    go_wp2
    go_ret
    exact ⟨by rw [HF.out]; rfl, by rw [HF.out]; exact HA.out.grow HX.out⟩
  | true =>
    rw [hr] at HHN
    have HR0 := Lib.hid hr
    have HAT := Lib.hid (atN_get hr)
    have HOP := Lib.hid (HOK.out.each _ (atN_mem hr))
    have HIX := Lib.hid (hasN_iff.1 hr)
    clear hr
    go_wp2_with fail
    refine HHN.out.mono ?_
    rintro e1 w1 ⟨rfl, hx1⟩
    have HX := Lib.hid hx1
    clear hx1 HHN
    obtain ⟨k, rfl⟩ : ∃ k : Nat, i = k := ⟨i.toNat, by have := HIX.out; omega⟩
    obtain ⟨p, hp⟩ : ∃ p, p = atN S (k : Int) := ⟨_, rfl⟩
    have HFD : Hid (flipN S (k : Int) bit = if tOf p = false ∧ 0 ≤ bit ∧ bit < 8 * ((bsOf p).length : Int) then (true, ⟨S.way.set k (p.1, some bit.toNat), S.sent⟩) else (false, S)) := Lib.hid (by unfold flipN; rw [← hp]; simp only [HR0.out, true_and, Int.toNat_natCast])
    rw [Int.toNat_natCast, ← hp] at HAT
    rw [← hp] at HOP
    clear hp HR0
    by_cases hb0 : bit < 0
    · have d0 : decide (bit < 0) = true := decide_eq_true hb0
      have HF : Hid (flipN S (k : Int) bit = (false, S)) := Lib.hid (by rw [HFD.out, if_neg (by omega)])
      clear hb0
      go_wp2
      go_ret
      exact ⟨by rw [HF.out]; rfl, by rw [HF.out]; exact HA.out.grow HX.out⟩
    · have d0 : decide (bit < 0) = false := decide_eq_false hb0
      obtain ⟨vL, vT, hi⟩ := (HA.out.ext HX.out).out
      obtain ⟨AL, cL, rfl, -, -, -⟩ := hi.rowL.slice_
      obtain ⟨AT, cT, rfl, -, -, -⟩ := hi.rowT.slice_
      rw [List.length_map] at hi
      have HIN := Lib.hid hi
      have HFI := Lib.hid (HA.out.isIn.ext HX.out)
      have HHR := Lib.hid HA.out.here
      clear hi
      rw [List.length_map] at HIN
      obtain ⟨n, hn⟩ : ∃ n, n = S.way.length := ⟨_, rfl⟩
      rw [← hn] at HIN
      have x1 : (0 : Int) ≤ (k : Int) ∧ (k : Int) < (n : Int) := by have := HIX.out; omega
      clear hn
      have hm : (S.way.map (·.1))[k]? = some p.1 := by rw [List.getElem?_map, HAT.out]; rfl
      have ht : (S.way.map tOf)[k]? = some (tOf p) := by rw [List.getElem?_map, HAT.out]; rfl
      obtain ⟨m, hmm⟩ : ∃ m, m = p.1 := ⟨_, rfl⟩
      obtain ⟨t, htt⟩ : ∃ t, t = tOf p := ⟨_, rfl⟩
      rw [← hmm] at hm
      rw [← htt] at ht HFD
      obtain ⟨ln, hln⟩ : ∃ q, q = (bsOf p).length := ⟨_, rfl⟩
      rw [← hln] at HFD
      have HLN : Hid ((putM m).length = ln ∧ ln ≤ 120) := Lib.hid (by rw [hln, bsOf_len, hmm]; unfold putM; rw [if_pos HOP.out.right]; exact ⟨rfl, (ms_len HOP.out.right).2⟩)
      obtain ⟨bL, rfl, -, -, hcl⟩ := HIN.out.rowL.at_ hm
      obtain ⟨bT, rfl, hbT, htc, hfz⟩ := HIN.out.rowT.at_ ht
      have m0 := hcl 0 m.node rfl
      have m1 := hcl 1 m.kind rfl
      have m2 := hcl 2 m.term rfl
      have m3 := hcl 3 m.gen rfl
      have m4 := hcl 4 m.job rfl
      have m5 := hcl 5 m.inc rfl
      have m6 := hcl 6 m.ver rfl
      have m7 := hcl 7 m.epoch rfl
      have m8 := hcl 8 m.til rfl
      have m9 := hcl 9 m.mode rfl
      have m10 := hcl 10 m.work rfl
      rw [Nat.add_zero] at m0
      have c0 : w1.cell? ⟨h, 0, none⟩ = some (.slice (some ⟨bL, 0, none⟩) n cL) := HIN.out.blk.cell 0
      have HPU := Lib.hid (RefPut12_any m w1)
      unfold msV at HPU
      clear hcl hm hmm htt hln
      go_wp2_with fail
      refine HPU.out.mono ?_
      rintro e2 w2 ⟨v2, rfl, hr2, hx2⟩
      obtain ⟨A2, c2, rfl, -, -⟩ := hr2.sliceN (n := ln) (by rw [List.length_map]; exact HLN.out.1)
      have HX2 := Lib.hid (HX.out.trans hx2)
      have HIN2 := Lib.hid (HIN.out.chg (Chg.of_ext (F := fun _ => False) hx2) (fun _ _ h => h) HHR.out)
      clear hr2 hx2 HPU m0 m1 m2 m3 m4 m5 m6 m7 m8 m9 m10 c0 htc hfz hbT
      obtain ⟨e8, he8⟩ : ∃ q : Int, q = 8 * (ln : Int) := ⟨_, rfl⟩
      have hw8 : wrap64 (8 * (ln : Int)) = e8 := by rw [he8]; exact IntWalk.wrap64_in _ (by have := HLN.out; omega)
      have HE8 := Lib.hid he8
      clear he8
      by_cases hb1 : e8 ≤ bit
      · have d1 : decide (wrap64 (8 * (ln : Int)) ≤ bit) = true := by rw [hw8]; exact decide_eq_true hb1
        clear hw8
        have HF : Hid (flipN S (k : Int) bit = (false, S)) := Lib.hid (by rw [HFD.out, if_neg (by have := HE8.out; omega)])
        replace HX := HX2
        clear hb0 hb1 ht
        go_wp2
        go_ret
        exact ⟨by rw [HF.out]; rfl, by rw [HF.out]; exact HA.out.grow HX.out⟩
      · have d1 : decide (wrap64 (8 * (ln : Int)) ≤ bit) = false := by rw [hw8]; exact decide_eq_false hb1
        clear hw8
        obtain ⟨bT2, e2, -, htc, hfz⟩ := HIN2.out.rowT.at_ ht
        obtain rfl : bT = bT2 := by cases e2; rfl
        have c1 : w2.cell? ⟨h, 1, none⟩ = some (.slice (some ⟨bT, 0, none⟩) n cT) := HIN2.out.blk.cell 1
        have HBB := Lib.hid (And.intro hb0 hb1)
        clear hb0 hb1 ht e2
        cases t with
        | true =>
          have HF : Hid (flipN S (k : Int) bit = (false, S)) := Lib.hid (by rw [HFD.out, if_neg (by simp)])
          replace HX := HX2
          go_wp2
          go_ret
          exact ⟨by rw [HF.out]; rfl, by rw [HF.out]; exact HA.out.grow HX.out⟩
        | false =>
          have HF : Hid (flipN S (k : Int) bit = (true, ⟨S.way.set k (p.1, some bit.toNat), S.sent⟩)) := Lib.hid (by rw [HFD.out, if_pos ⟨rfl, by have := HBB.out; omega, by have := HBB.out; have := HE8.out; omega⟩])
          go_wp2
          go_ret
          exact ⟨by rw [HF.out]; rfl, by rw [HF.out]; exact RnAt.flip_fin HA.out.isIn HHR.out HX2.out HAT.out HIN2.out⟩

set_option maxRecDepth 100000 in
set_option maxHeartbeats 4000000 in
theorem RnList_any (F : Fp) (h : Nat) (S : NtP) (w : World) (r : RnAt F w h S) (hm40 : S.way.length ≤ 1000000) : Calls Try.prog 49 #[.pointer (some ⟨h, 0, none⟩)] w fun e w' => ∃ v, e = .returned v ∧ RdI 11 w' v ((listN S).map msL) ∧ Ext w w' := by
  have HA := Lib.hid r
  have HM40 := Lib.hid hm40
  obtain ⟨vL, vT, hi⟩ := r.out
  obtain ⟨AL, cL, rfl, -, -, -⟩ := hi.rowL.slice_
  obtain ⟨AT, cT, rfl, -, -, -⟩ := hi.rowT.slice_
  rw [List.length_map] at hi
  have HIN := Lib.hid hi
  rw [List.length_map] at HIN
  have HHR := Lib.hid HA.out.here
  clear hi r hm40
  obtain ⟨n, hn⟩ : ∃ n, n = S.way.length := ⟨_, rfl⟩
  rw [← hn] at HIN
  have HN := Lib.hid hn
  clear hn
  have HR0 : Hid (ListR w w (.slice none 0 0) (headL S 0)) := Lib.hid ⟨WayF.nil _ _ _ _, Ext.refl _⟩
  go_enter Try.func49, Try.ntmps49
  go_wp2_with fail
  go_loopg [3, 4] n (fun gg v i wr => ∃ q : Nat, i = .int .i64 q ∧ q ≤ n ∧ gg = n - q ∧ Hid (ListR w wr v (headL S q)))
  case atStart => exact ⟨0, rfl, Nat.zero_le _, rfl, HR0⟩
  case round =>
    obtain ⟨q, rfl, hq, rfl, HK⟩ := hrel
    clear HR0
    have HIW := Lib.hid (HIN.out.chg (Chg.of_ext (F := fun _ => False) HK.out.2) (fun _ _ h => h) HHR.out)
    have c0 : wr.cell? ⟨h, 0, none⟩ = some (.slice AL n cL) := HIW.out.blk.cell 0
    have c1 : wr.cell? ⟨h, 1, none⟩ = some (.slice AT n cT) := HIW.out.blk.cell 1
    obtain ⟨Al, cl, rfl, -, -, -⟩ := HK.out.1.slice_
    by_cases hlt : q < n
    · have e1 : decide ((q : Int) < (n : Int)) = true := decide_eq_true (by omega)
      have e1' : decide (q < n) = true := decide_eq_true hlt
      have HLT := Lib.hid hlt
      have hwq : wrap64 ((q : Int) + 1) = (q : Int) + 1 := IntWalk.wrap64_in _ (by have := HLT.out; have := HM40.out; have := HN.out; omega)
      obtain ⟨p, hp⟩ : ∃ p, S.way[q]? = some p := ⟨_, List.getElem?_eq_getElem (by rw [← HN.out]; exact hlt)⟩
      have hm : (S.way.map (·.1))[q]? = some p.1 := by rw [List.getElem?_map, hp]; rfl
      have ht : (S.way.map tOf)[q]? = some (tOf p) := by rw [List.getElem?_map, hp]; rfl
      have HNX := Lib.hid (headL_next hp)
      obtain ⟨m, hmm⟩ : ∃ m, m = p.1 := ⟨_, rfl⟩
      obtain ⟨t, htt⟩ : ∃ t, t = tOf p := ⟨_, rfl⟩
      rw [← hmm] at hm
      rw [← htt] at ht
      have HG : Hid (gotOf p = if t = true then none else some m) := Lib.hid (by rw [htt, hmm]; rfl)
      obtain ⟨bL, rfl, -, -, hcl⟩ := HIW.out.rowL.at_ hm
      obtain ⟨bT, rfl, -, htc, -⟩ := HIW.out.rowT.at_ ht
      have m0 := hcl 0 m.node rfl
      have m1 := hcl 1 m.kind rfl
      have m2 := hcl 2 m.term rfl
      have m3 := hcl 3 m.gen rfl
      have m4 := hcl 4 m.job rfl
      have m5 := hcl 5 m.inc rfl
      have m6 := hcl 6 m.ver rfl
      have m7 := hcl 7 m.epoch rfl
      have m8 := hcl 8 m.til rfl
      have m9 := hcl 9 m.mode rfl
      have m10 := hcl 10 m.work rfl
      rw [Nat.add_zero] at m0
      have x1 : (0 : Int) ≤ (q : Int) ∧ (q : Int) < (n : Int) := by have := HLT.out; omega
      have hl41 : (headL S q).length + 1 ≤ 1000001 := by have := headL_len (S := S) (k := q); have := HLT.out; have := HM40.out; have := HN.out; omega
      clear hcl hp hm ht hmm htt hlt
      cases t with
      | true =>
        have HK2 : Hid (ListR w wr (.slice Al (headL S q).length cl) (headL S (q + 1))) := Lib.hid (by rw [HNX.out, HG.out, if_pos rfl, Option.toList_none, List.append_nil]; exact HK.out)
        clear m0 m1 m2 m3 m4 m5 m6 m7 m8 m9 m10
        go_wp2_with fail
        go_roundg (n - (q + 1))
        case measure => have := HLT.out; omega
        case rel => exact ⟨q + 1, by go_num, HLT.out, rfl, HK2⟩
      | false =>
        go_wp2_with (at_builtin; refine wpList_pushW (F := fun q => w.heap.size ≤ q) rfl _ _ 60 rfl 49 (.agg #[.int .i64 0, .int .i64 0, .int .i64 0, .int .i64 0, .int .i64 0, .int .i64 0, .int .i64 0, .int .i64 0, .int .i64 0, .int .i64 0, .int .i64 0]) 11 88 Try.underlying60 (by kernel_rfl) (by simp [Value.cells]) (by omega) _ _ _ HK.out.1 rfl #[.int .i64 m.node, .int .i64 m.kind, .int .i64 m.term, .int .i64 m.gen, .int .i64 m.job, .int .i64 m.inc, .int .i64 m.ver, .int .i64 m.epoch, .int .i64 m.til, .int .i64 m.mode, .int .i64 m.work] rfl (by simp [Value.oneCell']) rfl rfl (by unfold maxLen; omega) (by omega) ?_; intro v6 w6 hg6)
        have HK2 : Hid (ListR w w6 v6 (headL S (q + 1))) := Lib.hid (by rw [HNX.out, HG.out, if_neg (by simp), Option.toList_some]; exact HK.out.push (m := m) hg6)
        clear hg6
        go_roundg (n - (q + 1))
        case measure => have := HLT.out; omega
        case rel => exact ⟨q + 1, by go_num, HLT.out, rfl, HK2⟩
    · obtain rfl : q = n := by omega
      have e1 : decide ((q : Int) < (q : Int)) = false := decide_eq_false (by omega)
      have e1' : decide (q < q) = false := decide_eq_false (by omega)
      have HFN := Lib.hid (And.intro HK.out.rdI HK.out.2)
      clear hlt hq HK
      go_wp2
      go_ret
      exact ⟨_, rfl, (by have e : headL S q = listN S := (by rw [HN.out, headL_all]); rw [← e]; exact HFN.out.1), HFN.out.2⟩

end Go.Proofs.Ytdijinboopdheaa

/- Package net: a net that is nil. -/
namespace Go.Proofs.Ytdijinboopdheaa
open Go.RowKit

set_option maxRecDepth 100000 in
set_option maxHeartbeats 1000000 in
theorem NDrop_nil (i : Int) (w : World) : Calls Try.prog 37 #[.pointer none, .int .i64 i] w fun e w' => e = .returned (.bool false) ∧ Ext w w' := by
  go_enter Try.func37, Try.ntmps37
  go_wp2_with fail
  refine (NHas_nil i w).mono ?_
  rintro e1 w1 ⟨rfl, hx⟩
  go_wp2
  go_ret
  exact ⟨rfl, hx⟩

set_option maxRecDepth 100000 in
set_option maxHeartbeats 1000000 in
theorem NTwice_nil (i : Int) (w : World) : Calls Try.prog 38 #[.pointer none, .int .i64 i] w fun e w' => e = .returned (.bool false) ∧ Ext w w' := by
  go_enter Try.func38, Try.ntmps38
  go_wp2_with fail
  refine (NHas_nil i w).mono ?_
  rintro e1 w1 ⟨rfl, hx⟩
  go_wp2
  go_ret
  exact ⟨rfl, hx⟩

set_option maxRecDepth 100000 in
set_option maxHeartbeats 1000000 in
theorem NFlip_nil (i b : Int) (w : World) : Calls Try.prog 39 #[.pointer none, .int .i64 i, .int .i64 b] w fun e w' => e = .returned (.bool false) ∧ Ext w w' := by
  go_enter Try.func39, Try.ntmps39
  go_wp2_with fail
  refine (NHas_nil i w).mono ?_
  rintro e1 w1 ⟨rfl, hx⟩
  go_wp2
  go_ret
  exact ⟨rfl, hx⟩

set_option maxRecDepth 100000 in
set_option maxHeartbeats 1000000 in
theorem NList_nil (w : World) : Calls Try.prog 42 #[.pointer none] w fun e w' => e = .returned (.slice none 0 0) ∧ Ext w w' := by
  go_enter Try.func42, Try.ntmps42
  go_wp2
  go_ret
  exact ⟨rfl, Ext.refl _⟩

set_option maxRecDepth 100000 in
set_option maxHeartbeats 1000000 in
theorem NSend_nil (m : Ms) (w : World) : Calls Try.prog 36 #[.pointer none, msV m] w fun e w' => e = .returned (.bool false) ∧ Ext w w' := by
  obtain ⟨W, hW⟩ : ∃ W, W = w.alloc (.cells #[.int .i64 m.node, .int .i64 m.kind, .int .i64 m.term, .int .i64 m.gen, .int .i64 m.job, .int .i64 m.inc, .int .i64 m.ver, .int .i64 m.epoch, .int .i64 m.til, .int .i64 m.mode, .int .i64 m.work] 49) := ⟨_, rfl⟩
  have HX := Lib.hid (show Ext w W by rw [hW]; exact Ext.alloc_ _ _)
  unfold msV
  go_enter Try.func36, Try.ntmps36
  go_upto_region 1 with (fail)
  rw [← hW]
  clear hW
  go_wp2_with fail
  refine (NRoom_nil W).mono ?_
  rintro e1 w1 ⟨rfl, hx⟩
  go_wp2
  go_ret
  exact ⟨rfl, HX.out.trans hx⟩

set_option maxRecDepth 100000 in
set_option maxHeartbeats 1000000 in
theorem NDeliver_nil (i : Int) (w : World) : Calls Try.prog 35 #[.pointer none, .int .i64 i] w fun e w' => e = .returned (getA none) ∧ Ext w w' := by
  obtain ⟨W, hW⟩ : ∃ W, W = w.alloc (.cells #[.int .i64 0, .int .i64 0, .int .i64 0, .int .i64 0, .int .i64 0, .int .i64 0, .int .i64 0, .int .i64 0, .int .i64 0, .int .i64 0, .int .i64 0] 49) := ⟨_, rfl⟩
  have HB := Lib.hid (show Blk W w.heap.size 49 #[.int .i64 0, .int .i64 0, .int .i64 0, .int .i64 0, .int .i64 0, .int .i64 0, .int .i64 0, .int .i64 0, .int .i64 0, .int .i64 0, .int .i64 0] by rw [hW]; exact Blk.new _ _ _)
  have HX := Lib.hid (show Ext w W by rw [hW]; exact Ext.alloc_ _ _)
  have HI : Hid ((Try.prog.info? 49).map (·.size) = some (#[.int .i64 0, .int .i64 0, .int .i64 0, .int .i64 0, .int .i64 0, .int .i64 0, .int .i64 0, .int .i64 0, .int .i64 0, .int .i64 0, .int .i64 0] : Array Value).size) := Lib.hid infoM12
  have HO : Hid ((#[.int .i64 0, .int .i64 0, .int .i64 0, .int .i64 0, .int .i64 0, .int .i64 0, .int .i64 0, .int .i64 0, .int .i64 0, .int .i64 0, .int .i64 0] : Array Value).all (·.oneCell') = true) := Lib.hid (by simp [Value.oneCell'])
  go_enter Try.func35, Try.ntmps35
  go_upto_region 1 with (fail)
  rw [← hW]
  clear hW
  go_wp2_with fail
  refine (NHas_nil i W).mono ?_
  rintro e1 w1 ⟨rfl, hx1⟩
  replace HX := Lib.hid (HX.out.trans hx1)
  replace HB := Lib.hid (HB.out.ext hx1)
  clear hx1
  go_wp2_with (refine wpList_storeB rfl 49 _ _ rfl w.heap.size #[.int .i64 0, .int .i64 0, .int .i64 0, .int .i64 0, .int .i64 0, .int .i64 0, .int .i64 0, .int .i64 0, .int .i64 0, .int .i64 0, .int .i64 0] rfl rfl 49 _ HB.out HI.out rfl HO.out w.heap.size w HX.out (Nat.le_refl _) ?_; intro w5 hb5 hx5)
  exact bodyPost_ret (run_ctG rfl rfl rfl hb5 rfl) rfl ⟨rfl, hx5⟩

end Go.Proofs.Ytdijinboopdheaa
