/- Texts that the proof of S rests on, one behind the other. -/
import Derived.Test.YtdijinboopdheaaSQ4
import Derived.Lib.SliceRun
import Derived.Lib.MinMax
import Derived.Laws.LoneSync
import Derived.Deep.DeepCutAuto
import Derived.Deep.CutBlock
import Derived.Laws.Rows
import Derived.BigQuiet
import Derived.Deep.RegionHeld3

/- The reference's store: Commit. -/
namespace Go.Proofs.Ytdijinboopdheaa
open Go.RowKit

theorem RsX.commit_fin {F : Fp} {w W7 w4 w7 : World} {h n4 nx c4 cx : Nat} {R : RsP} {job : Int} {lp4 : List PtL} {A4 Ax : Option Addr} {x : PtL} {v7 : Value} (hF : F.isIn w) (hh : F h) (hx7 : Ext w W7) (hc4 : Chg (fun k => k = h) W7 w4) (hF4 : (F.since W7 w4).isIn w4) (h4 : RsX (F.since W7 w4) w4 h (endR R job) lp4 (.slice A4 n4 c4)) (hnv : ∀ q, (Value.slice A4 n4 c4).ownBlock = some q → W7.heap.size ≤ q) (hn4 : n4 = lp4.length)
    (hg : WayG (.slice A4 n4 c4) w4.drew 103 4 (n4 + 1) (lp4.flatMap PtL.cells ++ [.int .i64 x.p.job, .int .i64 x.p.ep, .bool true, .slice Ax nx cx]) v7 w7) {b0 : Value} (hxd : RdF (fun k => F k ∧ k ≠ h ∧ b0.ownBlock ≠ some k) w4 (.slice Ax nx cx) (x.p.da.map B)) :
    RsF (F.since w (w7.setCell ⟨h, 2, none⟩ v7)) (w7.setCell ⟨h, 2, none⟩ v7) h { endR R job with L := (endR R job).L ++ [{ x.p with cnt := true }] } ∧ Chg F w (w7.setCell ⟨h, 2, none⟩ v7) := by
  subst hn4
  have hxd' : RdF (fun k => (F.since W7 w4) k ∧ k ≠ h ∧ (Value.slice A4 lp4.length c4).ownBlock ≠ some k) w4.drew (.slice Ax nx cx) (x.p.da.map B) :=
    (hxd.mono (fun k hk => ⟨.inl hk.1, hk.2.1, fun e => by have h1 := hnv k e; have h2 := hF k hk.1; have h3 := hx7.size; omega⟩)).chg (Chg.of_ext (F := fun _ => False) (Below.drewN' (Ext.refl w4) 1)) (fun _ _ h => h)
  obtain ⟨p1, p2⟩ := h4.push (x := ⟨{ x.p with cnt := true }, .slice Ax nx cx⟩) hF4 (.inl hh) (Below.drewN' (Ext.refl w4) 1) hg hxd'
  have s4 := hc4.size
  have s7 : w4.heap.size ≤ w7.heap.size := hg.grown.size
  refine RsF.fin (w4 := w7) hF hh hx7 (by simp) (p1.mono (fun k hk => ?_)) ((hc4.mono (fun k _ hk => by have hk : k = h := hk; rw [hk]; exact hh)).trans p2 (fun k hk hh2 => ?_))
  · rcases hk with (hk | hk) | hk
    · exact .inl hk
    · exact .inr ⟨hk.1, by omega⟩
    · exact .inr ⟨by omega, hk.2⟩
  · rcases hh2 with hh2 | hh2
    · exact hh2
    · omega

set_option maxRecDepth 100000 in
set_option maxHeartbeats 4000000 in
theorem XCommit_any (F : Fp) (h : Nat) (R : RsP) (job ep : Int) (w : World) (r : RsF F w h R) (hl : R.L.length ≤ 1000) : Calls Try.prog 63 #[.pointer (some ⟨h, 0, none⟩), .int .i64 job, .int .i64 ep] w fun e w' => e = .returned (.int .i64 (commitR R job ep).1) ∧ RsF (F.since w w') w' h (commitR R job ep).2 ∧ Chg F w w' := by
  have HR := Lib.hid r
  have HLS := Lib.hid hl
  have HE2 := Lib.hid (REpoch_any (fun k => k = h) h R job true w r.view hl)
  have HF := Lib.hid (RFind_any (fun k => k = h) h R job false w r.view hl)
  obtain ⟨lp, v, hi⟩ := r.out
  have HI := Lib.hid hi
  obtain ⟨Q, hQ⟩ : ∃ Q, Q = commitR R job ep := ⟨_, rfl⟩
  rw [← hQ]
  unfold commitR at hQ
  clear r hl hi
  go_enter Try.func63, Try.ntmps63
  by_cases c0 : 0 < ep
  · have d0 : decide ((0 : Int) < ep) = true := decide_eq_true c0
    obtain ⟨ec, hec⟩ : ∃ n, n = epochR R job true := ⟨_, rfl⟩
    rw [← hec] at hQ HE2
    clear hec
    go_wp2_with fail
    refine HE2.out.mono ?_
    rintro e0 w0 ⟨rfl, rfl⟩
    clear HE2 d0
    by_cases c1 : ec = ep
    · have d1 : (ec == ep) = true := by rw [c1]; simp
      have HQ : Hid (Q = (0, R)) := Lib.hid (hQ.trans (if_pos ⟨c0, c1⟩))
      clear c0 c1 hQ
      go_wp2
      go_ret
      exact ⟨by rw [HQ.out]; rfl, by rw [HQ.out]; exact HR.out.grow (Ext.refl _)⟩
    · have d2 : (ec == ep) = false := by simpa using c1
      rw [if_neg (fun hc => c1 hc.2)] at hQ
      clear c0 c1
      cases hf : R.L.findIdx? (hitP job false) with
      | none =>
        have h2 : findR R.L (hitP job false) = -1 := by unfold findR; rw [hf]
        have HQ : Hid (Q = (4, R)) := Lib.hid (by rw [hQ, List.find?_eq_none.2 (fun y hy => by rw [List.findIdx?_eq_none_iff.1 hf y hy]; decide)])
        rw [h2] at HF
        clear hf h2 hQ
        go_wp2_with fail
        refine HF.out.mono ?_
        rintro e1 w1 ⟨rfl, rfl⟩
        go_wp2
        go_ret
        exact ⟨by rw [HQ.out]; rfl, by rw [HQ.out]; exact HR.out.grow (Ext.refl _)⟩
      | some k =>
        obtain ⟨hk, hq, hn⟩ := List.findIdx?_eq_some_iff_getElem.1 hf
        have hfd := findR_at (L := R.L) (k := k) (List.getElem?_eq_getElem hk) hq (fun j y hj hy => by have := hn j hj; obtain ⟨_, rfl⟩ := List.getElem?_eq_some_iff.1 hy; simpa using this)
        rw [hfd.1] at HF
        have hkl : k < lp.length := by have := HI.out.eq; rw [← this, List.length_map] at hk; exact hk
        obtain ⟨x, hx⟩ : ∃ x, lp[k]? = some x := ⟨_, List.getElem?_eq_getElem hkl⟩
        have hxp : R.L[k] = x.p := by
          have h3 : R.L[k]? = some x.p := by rw [← HI.out.eq, List.getElem?_map, hx]; rfl
          exact Option.some.inj ((List.getElem?_eq_getElem hk).symm.trans h3)
        rw [hfd.2, hxp] at hQ
        dsimp only at hQ
        obtain ⟨n, hnn⟩ : ∃ n, n = lp.length := ⟨_, rfl⟩
        have HI' := HI.out
        obtain ⟨A, c, rfl, -, -, -⟩ := HI'.row.slice_
        rw [← hnn] at HI'
        obtain ⟨bL, rfl, hbL, hbF, a0, a1, a2, a3⟩ := HI'.row.at_ hx
        obtain ⟨Ax, cx, hv, -⟩ := HI'.dat x (List.mem_of_getElem? hx)
        rw [List.length_map] at hv
        have HXD := Lib.hid (HI'.dat x (List.mem_of_getElem? hx))
        rw [hv] at a3 HXD
        have x1 : (0 : Int) ≤ (k : Int) ∧ (k : Int) < (n : Int) := by omega
        have d1 : decide ((k : Int) < 0) = false := decide_eq_false (by omega)
        have c2 : w.cell? ⟨h, 2, none⟩ = some (.slice (some ⟨bL, 0, none⟩) n c) := HI'.blk.cell 2
        obtain ⟨xj, hxj⟩ : ∃ j, j = x.p.job := ⟨_, rfl⟩
        obtain ⟨xe, hxe⟩ : ∃ j, j = x.p.ep := ⟨_, rfl⟩
        obtain ⟨xc, hxc⟩ : ∃ j, j = x.p.cnt := ⟨_, rfl⟩
        obtain ⟨nx, hnx⟩ : ∃ j, j = x.p.da.length := ⟨_, rfl⟩
        rw [← hxj] at a0
        rw [← hxe] at a1
        rw [← hxc] at a2
        rw [← hnx] at a3 HXD
        have HXP := Lib.hid (And.intro hxj (And.intro hxe (And.intro hxc hnx)))
        clear hf hk hq hn hfd hkl hx hxp hnn HI' hv hxj hxe hxc hnx
        go_wp2_with fail
        refine HF.out.mono ?_
        rintro e1 w1 ⟨rfl, rfl⟩
        clear HF
        by_cases ce : xe = ep
        · have g1 : (xe != ep) = false := by rw [ce]; simp
          have HQ := Lib.hid (hQ.trans (if_pos (HXP.out.2.1.symm.trans ce)))
          clear hQ ce
          obtain ⟨W6, hW6⟩ : ∃ W, W = w.alloc (.cells #[.int .i64 xj, .int .i64 xe, .bool xc, .slice Ax nx cx] 103) := ⟨_, rfl⟩
          have HX6 := Lib.hid (show Ext w W6 by rw [hW6]; exact Ext.alloc_ _ _)
          have HB6 : Hid (Blk W6 w.heap.size 103 #[.int .i64 xj, .int .i64 xe, .bool xc, .slice Ax nx cx]) := Lib.hid (by rw [hW6]; exact Blk.new _ _ _)
          go_upto_region 7 with (fail)
          rw [← hW6]
          clear hW6 a0 a1 a2 a3 c2 x1
          obtain ⟨W7, hW7⟩ : ∃ W, W = W6.setCell ⟨w.heap.size, 2, none⟩ (.bool true) := ⟨_, rfl⟩
          have hc7 : Chg (fun q => q = w.heap.size) W6 W7 := by rw [hW7]; exact (Chg.refl _ _).setCell (fun _ => rfl)
          have HX7 := Lib.hid (hc7.ext HX6.out (fun q hq => by have hq : q = w.heap.size := hq; omega))
          have HB7 : Hid (Blk W7 w.heap.size 103 #[.int .i64 xj, .int .i64 xe, .bool true, .slice Ax nx cx]) := Lib.hid (by rw [hW7]; exact HB6.out.set_ 2 _)
          have p2 := HB6.out.cell 2
          have f2 := HB6.out.frozen 2
          go_upto_region 8 with (fail)
          (try rw [← hW7])
          clear hW7 p2 f2 hc7
          have HE := Lib.hid (XEnd_own F h R job W7 (HR.out.ext HX7.out) HLS.out)
          have HXD7 := Lib.hid (HXD.out.chg (Chg.of_ext (F := fun _ => False) HX7.out) (fun _ _ h => h))
          have HNB : Hid (w.heap.size ≠ h) := Lib.hid (by have := HR.out.lt; omega)
          go_wp2_with fail
          refine HE.out.mono ?_
          rintro e4 w4 ⟨lp4, v4, rfl, h4, hnv, hc4⟩
          obtain ⟨A4, c4, rfl, -, -, -⟩ := h4.row.slice_
          obtain ⟨n4, hn4⟩ : ∃ n, n = lp4.length := ⟨_, rfl⟩
          rw [← hn4] at h4 hnv
          have H4 := Lib.hid h4
          have HNV := Lib.hid hnv
          have HC4 := Lib.hid hc4
          have HN4 := Lib.hid hn4
          have HB4 : Hid (Blk w4 w.heap.size 103 #[.int .i64 xj, .int .i64 xe, .bool true, .slice Ax nx cx]) := Lib.hid ((hc4.block _ HB7.out.lt HNB.out).trans HB7.out)
          have HXD4 := Lib.hid (HXD7.out.chg hc4 (fun q hq e => hq.2.1 e))
          have HLN4 : Hid (n4 ≤ 1000) := Lib.hid (by have h5 := congrArg List.length h4.eq; rw [List.length_map, ← hn4] at h5; have h6 : (endR R job).L.length ≤ R.L.length := Nat.le_trans (List.length_filter_le _ _) (List.length_filter_le _ _); have := HLS.out; omega)
          have HF4 := Lib.hid ((HR.out.isIn.ext HX7.out).since hc4.size)
          clear h4 hnv hc4 hn4 HE
          have HDR : Hid (Ext w4 w4.drew) := Lib.hid (Below.drewN' (Ext.refl w4) 1)
          have HBD := Lib.hid (HB4.out.ext HDR.out)
          have HID := Lib.hid (H4.out.chg (Chg.of_ext (F := fun _ => False) HDR.out) (fun _ _ h => h) (.inl HR.out.here))
          go_upto_region 9 with (fail)
          have c0 : w4.drew.cell? ⟨h, 2, none⟩ = some (.slice A4 n4 c4) := HID.out.blk.cell 2
          obtain ⟨wa, hwa⟩ : ∃ W, W = (w4.alloc (.cells #[.int .i64 xj, .int .i64 xe, .bool true, .slice Ax nx cx] 103)).drew := ⟨_, rfl⟩
          have HWA := Lib.hid hwa
          have HWB : Hid (wa = w4.drew.alloc (.cells #[.int .i64 xj, .int .i64 xe, .bool true, .slice Ax nx cx] 103)) := Lib.hid (by rw [hwa]; rfl)
          have HXA : Hid (Ext w4.drew wa) := Lib.hid (by rw [HWB.out]; exact Ext.alloc_ _ _)
          have c0b := HXA.out.cellOf c0 (HID.out.blk.lt)
          clear hwa
          refine held_begin (by kernel_rfl) ?_
          refine held_more (S' := fun W' : World => Blk W' w.heap.size 103 #[.int .i64 xj, .int .i64 xe, .bool true, .slice Ax nx cx]) (fun _ _ => True.intro) ?_
          have hSx : (fun W' : World => Blk W' w.heap.size 103 #[.int .i64 xj, .int .i64 xe, .bool true, .slice Ax nx cx]) w4.drew := HBD.out
          refine held_take (i := 0) (v := ?_) rfl (by kernel_rfl) (by kernel_rfl) (by kernel_rfl) (by rfl) (by first | assumption | exact True.intro) ?_ ?_
          rotate_left
          · (intro W hSw; go_simp; (try with_reducible rfl))
          try simp only [Act.put, List.setIfInBounds_toArray, List.set_cons_zero, List.set_cons_succ]
          refine held_take (i := 1) (v := ?_) rfl (by kernel_rfl) (by kernel_rfl) (by kernel_rfl) (by rfl) (by first | assumption | exact True.intro) ?_ ?_
          rotate_left
          · (intro W hSw; go_simp; (try with_reducible rfl))
          try simp only [Act.put, List.setIfInBounds_toArray, List.set_cons_zero, List.set_cons_succ]
          refine held_take (i := 2) (v := ?_) rfl (by kernel_rfl) (by kernel_rfl) (by kernel_rfl) (by rfl) (by first | assumption | exact True.intro) ?_ ?_
          rotate_left
          · (intro W hSw; go_simp; (try with_reducible rfl))
          try simp only [Act.put, List.setIfInBounds_toArray, List.set_cons_zero, List.set_cons_succ]
          refine held_take (i := 3) (v := ?_) rfl (by kernel_rfl) (by kernel_rfl) (by kernel_rfl) (by rfl) (by first | assumption | exact True.intro) ?_ ?_
          rotate_left
          · (intro W hSw; go_simp; (try with_reducible rfl))
          try simp only [Act.put, List.setIfInBounds_toArray, List.set_cons_zero, List.set_cons_succ]
          refine held_take (i := 5) (v := ?_) rfl (by kernel_rfl) (by kernel_rfl) (by kernel_rfl) (by rfl) (by first | assumption | exact True.intro) ?_ ?_
          rotate_left
          · (intro W hSw; have k0 := hSw.cell 0; have k1 := hSw.cell 1; have k2 := hSw.cell 2; have k3 := hSw.cell 3; go_simp; (try with_reducible rfl))
          try simp only [Act.put, List.setIfInBounds_toArray, List.set_cons_zero, List.set_cons_succ]
          refine held_two (i := 4) (j := 6) (by kernel_rfl) rfl rfl (fun K hK => ?_) (fun K hK => ?_)
          · clear hSx
            go_simp
            refine hK _ _ (HBD.out) (fun hSx => ?_)
            clear hK K
            try simp only [Act.put, List.setIfInBounds_toArray, List.set_cons_zero, List.set_cons_succ]
            clear hSx
            refine held_op (i := 6) (by kernel_rfl) rfl (fun K hK => ?_)
            go_simp
            rw [← HWA.out]
            refine hK _ _ (HBD.out.ext HXA.out) (fun hSx => ?_)
            clear hK K
            try simp only [Act.put, List.setIfInBounds_toArray, List.set_cons_zero, List.set_cons_succ]
            rw [HWB.out]
            clear hSx
            refine held_op (i := 7) (by kernel_rfl) rfl (fun K hK => ?_)
            refine step_pushW (F := fun k => (F.since W7 w4) k ∧ k ≠ h) _ _ 44 rfl (by rfl) 103 (.agg #[.int .i64 0, .int .i64 0, .bool false, .slice none 0 0]) 4 48 Try.underlying44 (by kernel_rfl) (by simp [Value.cells]) (by omega) _ _ _ (show WayF (fun k => (F.since W7 w4) k ∧ k ≠ h) w4.drew 103 4 (.slice A4 n4 c4) n4 (lp4.flatMap PtL.cells) by have h1 := HID.out.row; unfold PsF at h1; rw [← HN4.out] at h1; exact h1) rfl _ rfl (by simp [Value.oneCell']) rfl rfl (by have := HLN4.out; unfold maxLen; omega) (by have := HLN4.out; omega) ?_
            intro v7 w7 hg7
            have HG7 : Hid (WayG (.slice A4 n4 c4) w4.drew 103 4 (n4 + 1) (lp4.flatMap PtL.cells ++ [.int .i64 xj, .int .i64 xe, .bool true, .slice Ax nx cx]) v7 w7) := Lib.hid hg7
            clear hg7
            obtain ⟨A7, c7, rfl⟩ := own_slice HG7.out.own
            have HB8 : Hid (Blk w7 w.heap.size 103 #[.int .i64 xj, .int .i64 xe, .bool true, .slice Ax nx cx]) := Lib.hid (HBD.out.grown HG7.out.grown (fun e => by have h1 := HNV.out _ e.symm; have h2 := HB7.out.lt; omega))
            have HN7 := Lib.hid (HID.out.blk.grown HG7.out.grown (fun e => (HID.out.row.inF h e.symm).2 rfl))
            refine hK _ _ (HB8.out) (fun hSx => ?_)
            clear hK K
            try simp only [Act.put, List.setIfInBounds_toArray, List.set_cons_zero, List.set_cons_succ]
            refine held_take (i := 8) (v := ?_) rfl (by kernel_rfl) (by kernel_rfl) (by kernel_rfl) (by rfl) (by first | assumption | exact True.intro) ?_ ?_
            rotate_left
            · (intro W hSw; go_simp; (try with_reducible rfl))
            try simp only [Act.put, List.setIfInBounds_toArray, List.set_cons_zero, List.set_cons_succ]
            refine held_take (i := 9) (v := ?_) rfl (by kernel_rfl) (by kernel_rfl) (by kernel_rfl) (by rfl) (by first | assumption | exact True.intro) ?_ ?_
            rotate_left
            · (intro W hSw; go_simp; (try with_reducible rfl))
            try simp only [Act.put, List.setIfInBounds_toArray, List.set_cons_zero, List.set_cons_succ]
            clear hSx
            refine held_op (i := 10) (by kernel_rfl) rfl (fun K hK => ?_)
            have c07 := HN7.out.cell 2
            have f07 := HN7.out.frozen 2
            go_simp
            refine hK _ _ (HB8.out.far (by exact HNB.out) _) (fun hSx => ?_)
            clear hK K
            try simp only [Act.put, List.setIfInBounds_toArray, List.set_cons_zero, List.set_cons_succ]
            refine wpAnyH_done (by kernel_rfl) ?_ _
            refine NoPanic.normal ?_
            clear c0 c0b c07 f07 hSx
            go_wp2
            go_ret
            exact ⟨by rw [HQ.out]; rfl, by rw [HQ.out]; exact RsX.commit_fin HR.out.isIn HR.out.here HX7.out HC4.out HF4.out H4.out HNV.out HN4.out (x := x) (by rw [← HXP.out.1, ← HXP.out.2.1]; exact HG7.out) HXD4.out⟩
          · clear hSx
            have hwa := HWA.out
            go_simp
            rw [← hwa]
            clear hwa
            refine hK _ _ (HBD.out.ext HXA.out) (fun hSx => ?_)
            clear hK K
            try simp only [Act.put, List.setIfInBounds_toArray, List.set_cons_zero, List.set_cons_succ]
            clear hSx
            refine held_op (i := 4) (by kernel_rfl) rfl (fun K hK => ?_)
            go_simp
            refine hK _ _ (HBD.out.ext HXA.out) (fun hSx => ?_)
            clear hK K
            try simp only [Act.put, List.setIfInBounds_toArray, List.set_cons_zero, List.set_cons_succ]
            rw [HWB.out]
            clear hSx
            refine held_op (i := 7) (by kernel_rfl) rfl (fun K hK => ?_)
            refine step_pushW (F := fun k => (F.since W7 w4) k ∧ k ≠ h) _ _ 44 rfl (by rfl) 103 (.agg #[.int .i64 0, .int .i64 0, .bool false, .slice none 0 0]) 4 48 Try.underlying44 (by kernel_rfl) (by simp [Value.cells]) (by omega) _ _ _ (show WayF (fun k => (F.since W7 w4) k ∧ k ≠ h) w4.drew 103 4 (.slice A4 n4 c4) n4 (lp4.flatMap PtL.cells) by have h1 := HID.out.row; unfold PsF at h1; rw [← HN4.out] at h1; exact h1) rfl _ rfl (by simp [Value.oneCell']) rfl rfl (by have := HLN4.out; unfold maxLen; omega) (by have := HLN4.out; omega) ?_
            intro v7 w7 hg7
            have HG7 : Hid (WayG (.slice A4 n4 c4) w4.drew 103 4 (n4 + 1) (lp4.flatMap PtL.cells ++ [.int .i64 xj, .int .i64 xe, .bool true, .slice Ax nx cx]) v7 w7) := Lib.hid hg7
            clear hg7
            obtain ⟨A7, c7, rfl⟩ := own_slice HG7.out.own
            have HB8 : Hid (Blk w7 w.heap.size 103 #[.int .i64 xj, .int .i64 xe, .bool true, .slice Ax nx cx]) := Lib.hid (HBD.out.grown HG7.out.grown (fun e => by have h1 := HNV.out _ e.symm; have h2 := HB7.out.lt; omega))
            have HN7 := Lib.hid (HID.out.blk.grown HG7.out.grown (fun e => (HID.out.row.inF h e.symm).2 rfl))
            refine hK _ _ (HB8.out) (fun hSx => ?_)
            clear hK K
            try simp only [Act.put, List.setIfInBounds_toArray, List.set_cons_zero, List.set_cons_succ]
            refine held_take (i := 8) (v := ?_) rfl (by kernel_rfl) (by kernel_rfl) (by kernel_rfl) (by rfl) (by first | assumption | exact True.intro) ?_ ?_
            rotate_left
            · (intro W hSw; go_simp; (try with_reducible rfl))
            try simp only [Act.put, List.setIfInBounds_toArray, List.set_cons_zero, List.set_cons_succ]
            refine held_take (i := 9) (v := ?_) rfl (by kernel_rfl) (by kernel_rfl) (by kernel_rfl) (by rfl) (by first | assumption | exact True.intro) ?_ ?_
            rotate_left
            · (intro W hSw; go_simp; (try with_reducible rfl))
            try simp only [Act.put, List.setIfInBounds_toArray, List.set_cons_zero, List.set_cons_succ]
            clear hSx
            refine held_op (i := 10) (by kernel_rfl) rfl (fun K hK => ?_)
            have c07 := HN7.out.cell 2
            have f07 := HN7.out.frozen 2
            go_simp
            refine hK _ _ (HB8.out.far (by exact HNB.out) _) (fun hSx => ?_)
            clear hK K
            try simp only [Act.put, List.setIfInBounds_toArray, List.set_cons_zero, List.set_cons_succ]
            refine wpAnyH_done (by kernel_rfl) ?_ _
            refine NoPanic.normal ?_
            clear c0 c0b c07 f07 hSx
            go_wp2
            go_ret
            exact ⟨by rw [HQ.out]; rfl, by rw [HQ.out]; exact RsX.commit_fin HR.out.isIn HR.out.here HX7.out HC4.out HF4.out H4.out HNV.out HN4.out (x := x) (by rw [← HXP.out.1, ← HXP.out.2.1]; exact HG7.out) HXD4.out⟩
        · have g1 : (xe != ep) = true := by simp only [bne_iff_ne, ne_eq]; exact ce
          have HQ : Hid (Q = (4, R)) := Lib.hid (hQ.trans (if_neg (fun hc => ce (HXP.out.2.1.trans hc))))
          clear hQ ce
          go_wp2
          go_ret
          exact ⟨by rw [HQ.out]; rfl, by rw [HQ.out]; exact HR.out.grow (Ext.refl _)⟩
  · have d0 : decide ((0 : Int) < ep) = false := decide_eq_false c0
    rw [if_neg (fun hc => c0 hc.1)] at hQ
    clear c0 HE2
    cases hf : R.L.findIdx? (hitP job false) with
    | none =>
      have h2 : findR R.L (hitP job false) = -1 := by unfold findR; rw [hf]
      have HQ : Hid (Q = (4, R)) := Lib.hid (by rw [hQ, List.find?_eq_none.2 (fun y hy => by rw [List.findIdx?_eq_none_iff.1 hf y hy]; decide)])
      rw [h2] at HF
      clear hf h2 hQ
      go_wp2_with fail
      refine HF.out.mono ?_
      rintro e1 w1 ⟨rfl, rfl⟩
      go_wp2
      go_ret
      exact ⟨by rw [HQ.out]; rfl, by rw [HQ.out]; exact HR.out.grow (Ext.refl _)⟩
    | some k =>
      obtain ⟨hk, hq, hn⟩ := List.findIdx?_eq_some_iff_getElem.1 hf
      have hfd := findR_at (L := R.L) (k := k) (List.getElem?_eq_getElem hk) hq (fun j y hj hy => by have := hn j hj; obtain ⟨_, rfl⟩ := List.getElem?_eq_some_iff.1 hy; simpa using this)
      rw [hfd.1] at HF
      have hkl : k < lp.length := by have := HI.out.eq; rw [← this, List.length_map] at hk; exact hk
      obtain ⟨x, hx⟩ : ∃ x, lp[k]? = some x := ⟨_, List.getElem?_eq_getElem hkl⟩
      have hxp : R.L[k] = x.p := by
        have h3 : R.L[k]? = some x.p := by rw [← HI.out.eq, List.getElem?_map, hx]; rfl
        exact Option.some.inj ((List.getElem?_eq_getElem hk).symm.trans h3)
      rw [hfd.2, hxp] at hQ
      dsimp only at hQ
      obtain ⟨n, hnn⟩ : ∃ n, n = lp.length := ⟨_, rfl⟩
      have HI' := HI.out
      obtain ⟨A, c, rfl, -, -, -⟩ := HI'.row.slice_
      rw [← hnn] at HI'
      obtain ⟨bL, rfl, hbL, hbF, a0, a1, a2, a3⟩ := HI'.row.at_ hx
      obtain ⟨Ax, cx, hv, -⟩ := HI'.dat x (List.mem_of_getElem? hx)
      rw [List.length_map] at hv
      have HXD := Lib.hid (HI'.dat x (List.mem_of_getElem? hx))
      rw [hv] at a3 HXD
      have x1 : (0 : Int) ≤ (k : Int) ∧ (k : Int) < (n : Int) := by omega
      have d1 : decide ((k : Int) < 0) = false := decide_eq_false (by omega)
      have c2 : w.cell? ⟨h, 2, none⟩ = some (.slice (some ⟨bL, 0, none⟩) n c) := HI'.blk.cell 2
      obtain ⟨xj, hxj⟩ : ∃ j, j = x.p.job := ⟨_, rfl⟩
      obtain ⟨xe, hxe⟩ : ∃ j, j = x.p.ep := ⟨_, rfl⟩
      obtain ⟨xc, hxc⟩ : ∃ j, j = x.p.cnt := ⟨_, rfl⟩
      obtain ⟨nx, hnx⟩ : ∃ j, j = x.p.da.length := ⟨_, rfl⟩
      rw [← hxj] at a0
      rw [← hxe] at a1
      rw [← hxc] at a2
      rw [← hnx] at a3 HXD
      have HXP := Lib.hid (And.intro hxj (And.intro hxe (And.intro hxc hnx)))
      clear hf hk hq hn hfd hkl hx hxp hnn HI' hv hxj hxe hxc hnx
      go_wp2_with fail
      refine HF.out.mono ?_
      rintro e1 w1 ⟨rfl, rfl⟩
      clear HF
      by_cases ce : xe = ep
      · have g1 : (xe != ep) = false := by rw [ce]; simp
        have HQ := Lib.hid (hQ.trans (if_pos (HXP.out.2.1.symm.trans ce)))
        clear hQ ce
        obtain ⟨W6, hW6⟩ : ∃ W, W = w.alloc (.cells #[.int .i64 xj, .int .i64 xe, .bool xc, .slice Ax nx cx] 103) := ⟨_, rfl⟩
        have HX6 := Lib.hid (show Ext w W6 by rw [hW6]; exact Ext.alloc_ _ _)
        have HB6 : Hid (Blk W6 w.heap.size 103 #[.int .i64 xj, .int .i64 xe, .bool xc, .slice Ax nx cx]) := Lib.hid (by rw [hW6]; exact Blk.new _ _ _)
        go_upto_region 7 with (fail)
        rw [← hW6]
        clear hW6 a0 a1 a2 a3 c2 x1
        obtain ⟨W7, hW7⟩ : ∃ W, W = W6.setCell ⟨w.heap.size, 2, none⟩ (.bool true) := ⟨_, rfl⟩
        have hc7 : Chg (fun q => q = w.heap.size) W6 W7 := by rw [hW7]; exact (Chg.refl _ _).setCell (fun _ => rfl)
        have HX7 := Lib.hid (hc7.ext HX6.out (fun q hq => by have hq : q = w.heap.size := hq; omega))
        have HB7 : Hid (Blk W7 w.heap.size 103 #[.int .i64 xj, .int .i64 xe, .bool true, .slice Ax nx cx]) := Lib.hid (by rw [hW7]; exact HB6.out.set_ 2 _)
        have p2 := HB6.out.cell 2
        have f2 := HB6.out.frozen 2
        go_upto_region 8 with (fail)
        (try rw [← hW7])
        clear hW7 p2 f2 hc7
        have HE := Lib.hid (XEnd_own F h R job W7 (HR.out.ext HX7.out) HLS.out)
        have HXD7 := Lib.hid (HXD.out.chg (Chg.of_ext (F := fun _ => False) HX7.out) (fun _ _ h => h))
        have HNB : Hid (w.heap.size ≠ h) := Lib.hid (by have := HR.out.lt; omega)
        go_wp2_with fail
        refine HE.out.mono ?_
        rintro e4 w4 ⟨lp4, v4, rfl, h4, hnv, hc4⟩
        obtain ⟨A4, c4, rfl, -, -, -⟩ := h4.row.slice_
        obtain ⟨n4, hn4⟩ : ∃ n, n = lp4.length := ⟨_, rfl⟩
        rw [← hn4] at h4 hnv
        have H4 := Lib.hid h4
        have HNV := Lib.hid hnv
        have HC4 := Lib.hid hc4
        have HN4 := Lib.hid hn4
        have HB4 : Hid (Blk w4 w.heap.size 103 #[.int .i64 xj, .int .i64 xe, .bool true, .slice Ax nx cx]) := Lib.hid ((hc4.block _ HB7.out.lt HNB.out).trans HB7.out)
        have HXD4 := Lib.hid (HXD7.out.chg hc4 (fun q hq e => hq.2.1 e))
        have HLN4 : Hid (n4 ≤ 1000) := Lib.hid (by have h5 := congrArg List.length h4.eq; rw [List.length_map, ← hn4] at h5; have h6 : (endR R job).L.length ≤ R.L.length := Nat.le_trans (List.length_filter_le _ _) (List.length_filter_le _ _); have := HLS.out; omega)
        have HF4 := Lib.hid ((HR.out.isIn.ext HX7.out).since hc4.size)
        clear h4 hnv hc4 hn4 HE
        have HDR : Hid (Ext w4 w4.drew) := Lib.hid (Below.drewN' (Ext.refl w4) 1)
        have HBD := Lib.hid (HB4.out.ext HDR.out)
        have HID := Lib.hid (H4.out.chg (Chg.of_ext (F := fun _ => False) HDR.out) (fun _ _ h => h) (.inl HR.out.here))
        go_upto_region 9 with (fail)
        have c0 : w4.drew.cell? ⟨h, 2, none⟩ = some (.slice A4 n4 c4) := HID.out.blk.cell 2
        obtain ⟨wa, hwa⟩ : ∃ W, W = (w4.alloc (.cells #[.int .i64 xj, .int .i64 xe, .bool true, .slice Ax nx cx] 103)).drew := ⟨_, rfl⟩
        have HWA := Lib.hid hwa
        have HWB : Hid (wa = w4.drew.alloc (.cells #[.int .i64 xj, .int .i64 xe, .bool true, .slice Ax nx cx] 103)) := Lib.hid (by rw [hwa]; rfl)
        have HXA : Hid (Ext w4.drew wa) := Lib.hid (by rw [HWB.out]; exact Ext.alloc_ _ _)
        have c0b := HXA.out.cellOf c0 (HID.out.blk.lt)
        clear hwa
        refine held_begin (by kernel_rfl) ?_
        refine held_more (S' := fun W' : World => Blk W' w.heap.size 103 #[.int .i64 xj, .int .i64 xe, .bool true, .slice Ax nx cx]) (fun _ _ => True.intro) ?_
        have hSx : (fun W' : World => Blk W' w.heap.size 103 #[.int .i64 xj, .int .i64 xe, .bool true, .slice Ax nx cx]) w4.drew := HBD.out
        refine held_take (i := 0) (v := ?_) rfl (by kernel_rfl) (by kernel_rfl) (by kernel_rfl) (by rfl) (by first | assumption | exact True.intro) ?_ ?_
        rotate_left
        · (intro W hSw; go_simp; (try with_reducible rfl))
        try simp only [Act.put, List.setIfInBounds_toArray, List.set_cons_zero, List.set_cons_succ]
        refine held_take (i := 1) (v := ?_) rfl (by kernel_rfl) (by kernel_rfl) (by kernel_rfl) (by rfl) (by first | assumption | exact True.intro) ?_ ?_
        rotate_left
        · (intro W hSw; go_simp; (try with_reducible rfl))
        try simp only [Act.put, List.setIfInBounds_toArray, List.set_cons_zero, List.set_cons_succ]
        refine held_take (i := 2) (v := ?_) rfl (by kernel_rfl) (by kernel_rfl) (by kernel_rfl) (by rfl) (by first | assumption | exact True.intro) ?_ ?_
        rotate_left
        · (intro W hSw; go_simp; (try with_reducible rfl))
        try simp only [Act.put, List.setIfInBounds_toArray, List.set_cons_zero, List.set_cons_succ]
        refine held_take (i := 3) (v := ?_) rfl (by kernel_rfl) (by kernel_rfl) (by kernel_rfl) (by rfl) (by first | assumption | exact True.intro) ?_ ?_
        rotate_left
        · (intro W hSw; go_simp; (try with_reducible rfl))
        try simp only [Act.put, List.setIfInBounds_toArray, List.set_cons_zero, List.set_cons_succ]
        refine held_take (i := 5) (v := ?_) rfl (by kernel_rfl) (by kernel_rfl) (by kernel_rfl) (by rfl) (by first | assumption | exact True.intro) ?_ ?_
        rotate_left
        · (intro W hSw; have k0 := hSw.cell 0; have k1 := hSw.cell 1; have k2 := hSw.cell 2; have k3 := hSw.cell 3; go_simp; (try with_reducible rfl))
        try simp only [Act.put, List.setIfInBounds_toArray, List.set_cons_zero, List.set_cons_succ]
        refine held_two (i := 4) (j := 6) (by kernel_rfl) rfl rfl (fun K hK => ?_) (fun K hK => ?_)
        · clear hSx
          go_simp
          refine hK _ _ (HBD.out) (fun hSx => ?_)
          clear hK K
          try simp only [Act.put, List.setIfInBounds_toArray, List.set_cons_zero, List.set_cons_succ]
          clear hSx
          refine held_op (i := 6) (by kernel_rfl) rfl (fun K hK => ?_)
          go_simp
          rw [← HWA.out]
          refine hK _ _ (HBD.out.ext HXA.out) (fun hSx => ?_)
          clear hK K
          try simp only [Act.put, List.setIfInBounds_toArray, List.set_cons_zero, List.set_cons_succ]
          rw [HWB.out]
          clear hSx
          refine held_op (i := 7) (by kernel_rfl) rfl (fun K hK => ?_)
          refine step_pushW (F := fun k => (F.since W7 w4) k ∧ k ≠ h) _ _ 44 rfl (by rfl) 103 (.agg #[.int .i64 0, .int .i64 0, .bool false, .slice none 0 0]) 4 48 Try.underlying44 (by kernel_rfl) (by simp [Value.cells]) (by omega) _ _ _ (show WayF (fun k => (F.since W7 w4) k ∧ k ≠ h) w4.drew 103 4 (.slice A4 n4 c4) n4 (lp4.flatMap PtL.cells) by have h1 := HID.out.row; unfold PsF at h1; rw [← HN4.out] at h1; exact h1) rfl _ rfl (by simp [Value.oneCell']) rfl rfl (by have := HLN4.out; unfold maxLen; omega) (by have := HLN4.out; omega) ?_
          intro v7 w7 hg7
          have HG7 : Hid (WayG (.slice A4 n4 c4) w4.drew 103 4 (n4 + 1) (lp4.flatMap PtL.cells ++ [.int .i64 xj, .int .i64 xe, .bool true, .slice Ax nx cx]) v7 w7) := Lib.hid hg7
          clear hg7
          obtain ⟨A7, c7, rfl⟩ := own_slice HG7.out.own
          have HB8 : Hid (Blk w7 w.heap.size 103 #[.int .i64 xj, .int .i64 xe, .bool true, .slice Ax nx cx]) := Lib.hid (HBD.out.grown HG7.out.grown (fun e => by have h1 := HNV.out _ e.symm; have h2 := HB7.out.lt; omega))
          have HN7 := Lib.hid (HID.out.blk.grown HG7.out.grown (fun e => (HID.out.row.inF h e.symm).2 rfl))
          refine hK _ _ (HB8.out) (fun hSx => ?_)
          clear hK K
          try simp only [Act.put, List.setIfInBounds_toArray, List.set_cons_zero, List.set_cons_succ]
          refine held_take (i := 8) (v := ?_) rfl (by kernel_rfl) (by kernel_rfl) (by kernel_rfl) (by rfl) (by first | assumption | exact True.intro) ?_ ?_
          rotate_left
          · (intro W hSw; go_simp; (try with_reducible rfl))
          try simp only [Act.put, List.setIfInBounds_toArray, List.set_cons_zero, List.set_cons_succ]
          refine held_take (i := 9) (v := ?_) rfl (by kernel_rfl) (by kernel_rfl) (by kernel_rfl) (by rfl) (by first | assumption | exact True.intro) ?_ ?_
          rotate_left
          · (intro W hSw; go_simp; (try with_reducible rfl))
          try simp only [Act.put, List.setIfInBounds_toArray, List.set_cons_zero, List.set_cons_succ]
          clear hSx
          refine held_op (i := 10) (by kernel_rfl) rfl (fun K hK => ?_)
          have c07 := HN7.out.cell 2
          have f07 := HN7.out.frozen 2
          go_simp
          refine hK _ _ (HB8.out.far (by exact HNB.out) _) (fun hSx => ?_)
          clear hK K
          try simp only [Act.put, List.setIfInBounds_toArray, List.set_cons_zero, List.set_cons_succ]
          refine wpAnyH_done (by kernel_rfl) ?_ _
          refine NoPanic.normal ?_
          clear c0 c0b c07 f07 hSx
          go_wp2
          go_ret
          exact ⟨by rw [HQ.out]; rfl, by rw [HQ.out]; exact RsX.commit_fin HR.out.isIn HR.out.here HX7.out HC4.out HF4.out H4.out HNV.out HN4.out (x := x) (by rw [← HXP.out.1, ← HXP.out.2.1]; exact HG7.out) HXD4.out⟩
        · clear hSx
          have hwa := HWA.out
          go_simp
          rw [← hwa]
          clear hwa
          refine hK _ _ (HBD.out.ext HXA.out) (fun hSx => ?_)
          clear hK K
          try simp only [Act.put, List.setIfInBounds_toArray, List.set_cons_zero, List.set_cons_succ]
          clear hSx
          refine held_op (i := 4) (by kernel_rfl) rfl (fun K hK => ?_)
          go_simp
          refine hK _ _ (HBD.out.ext HXA.out) (fun hSx => ?_)
          clear hK K
          try simp only [Act.put, List.setIfInBounds_toArray, List.set_cons_zero, List.set_cons_succ]
          rw [HWB.out]
          clear hSx
          refine held_op (i := 7) (by kernel_rfl) rfl (fun K hK => ?_)
          refine step_pushW (F := fun k => (F.since W7 w4) k ∧ k ≠ h) _ _ 44 rfl (by rfl) 103 (.agg #[.int .i64 0, .int .i64 0, .bool false, .slice none 0 0]) 4 48 Try.underlying44 (by kernel_rfl) (by simp [Value.cells]) (by omega) _ _ _ (show WayF (fun k => (F.since W7 w4) k ∧ k ≠ h) w4.drew 103 4 (.slice A4 n4 c4) n4 (lp4.flatMap PtL.cells) by have h1 := HID.out.row; unfold PsF at h1; rw [← HN4.out] at h1; exact h1) rfl _ rfl (by simp [Value.oneCell']) rfl rfl (by have := HLN4.out; unfold maxLen; omega) (by have := HLN4.out; omega) ?_
          intro v7 w7 hg7
          have HG7 : Hid (WayG (.slice A4 n4 c4) w4.drew 103 4 (n4 + 1) (lp4.flatMap PtL.cells ++ [.int .i64 xj, .int .i64 xe, .bool true, .slice Ax nx cx]) v7 w7) := Lib.hid hg7
          clear hg7
          obtain ⟨A7, c7, rfl⟩ := own_slice HG7.out.own
          have HB8 : Hid (Blk w7 w.heap.size 103 #[.int .i64 xj, .int .i64 xe, .bool true, .slice Ax nx cx]) := Lib.hid (HBD.out.grown HG7.out.grown (fun e => by have h1 := HNV.out _ e.symm; have h2 := HB7.out.lt; omega))
          have HN7 := Lib.hid (HID.out.blk.grown HG7.out.grown (fun e => (HID.out.row.inF h e.symm).2 rfl))
          refine hK _ _ (HB8.out) (fun hSx => ?_)
          clear hK K
          try simp only [Act.put, List.setIfInBounds_toArray, List.set_cons_zero, List.set_cons_succ]
          refine held_take (i := 8) (v := ?_) rfl (by kernel_rfl) (by kernel_rfl) (by kernel_rfl) (by rfl) (by first | assumption | exact True.intro) ?_ ?_
          rotate_left
          · (intro W hSw; go_simp; (try with_reducible rfl))
          try simp only [Act.put, List.setIfInBounds_toArray, List.set_cons_zero, List.set_cons_succ]
          refine held_take (i := 9) (v := ?_) rfl (by kernel_rfl) (by kernel_rfl) (by kernel_rfl) (by rfl) (by first | assumption | exact True.intro) ?_ ?_
          rotate_left
          · (intro W hSw; go_simp; (try with_reducible rfl))
          try simp only [Act.put, List.setIfInBounds_toArray, List.set_cons_zero, List.set_cons_succ]
          clear hSx
          refine held_op (i := 10) (by kernel_rfl) rfl (fun K hK => ?_)
          have c07 := HN7.out.cell 2
          have f07 := HN7.out.frozen 2
          go_simp
          refine hK _ _ (HB8.out.far (by exact HNB.out) _) (fun hSx => ?_)
          clear hK K
          try simp only [Act.put, List.setIfInBounds_toArray, List.set_cons_zero, List.set_cons_succ]
          refine wpAnyH_done (by kernel_rfl) ?_ _
          refine NoPanic.normal ?_
          clear c0 c0b c07 f07 hSx
          go_wp2
          go_ret
          exact ⟨by rw [HQ.out]; rfl, by rw [HQ.out]; exact RsX.commit_fin HR.out.isIn HR.out.here HX7.out HC4.out HF4.out H4.out HNV.out HN4.out (x := x) (by rw [← HXP.out.1, ← HXP.out.2.1]; exact HG7.out) HXD4.out⟩
      · have g1 : (xe != ep) = true := by simp only [bne_iff_ne, ne_eq]; exact ce
        have HQ : Hid (Q = (4, R)) := Lib.hid (hQ.trans (if_neg (fun hc => ce (HXP.out.2.1.trans hc))))
        clear hQ ce
        go_wp2
        go_ret
        exact ⟨by rw [HQ.out]; rfl, by rw [HQ.out]; exact HR.out.grow (Ext.refl _)⟩

end Go.Proofs.Ytdijinboopdheaa

/- Go's bytes.Clone: a copy of its own. -/
namespace Go.Proofs.Ytdijinboopdheaa
open Go.RowKit

theorem Clone_any (l : List UInt8) (v : Value) (w : World) (hr : Rd w v (l.map B)) (hlen : l.length ≤ 140737488355328) :
    Calls Try.prog 58 #[v] w fun e w' => ∃ v', e = .returned v' ∧ Grew w.heap.size 5 (.slice none 0 0) w (l.map B) v' w' := by
  have kn := fun (w : World) (a : Option Addr) (n c n' c' : Nat) => Lib.run_eql_slice_nil (P := Try.prog) w 27 5 a n c n' c' Try.underlying27
  obtain ⟨A, c, rfl, hlc, hcm⟩ := hr.sliceN (List.length_map _)
  unfold maxLen at hcm
  rcases A with _ | a
  · have h0 : l = [] := by
      rcases Nat.eq_zero_or_pos l.length with h | h
      · exact List.eq_nil_of_length_eq_zero h
      · obtain ⟨b, o, h, _⟩ := hr.get (by simpa using h)
        cases h
    subst h0
    have hg := Grew.nil (base := w.heap.size) (e := 5) w
    have HG := Lib.hid hg
    clear hg
    go_enter Try.func58, Try.ntmps58
    go_wp2
    go_ret
    exact ⟨_, rfl, HG.out⟩
  · have HR := Lib.hid hr
    clear hr
    go_enter Try.func58, Try.ntmps58
    go_wp2_with (at_builtin; refine app_u8 rfl _ _ rfl w.heap.size _ [] rfl (own_none _ _ _ rfl) _ l rfl (HR.out.ext ((Below.refl _ _).alloc (Nat.le_refl _) _)) (by simp; omega) (by simp) ?_; intro v2 w2 hg2; rw [List.nil_append] at hg2)
    go_ret
    exact ⟨_, rfl, Grew.from_empty rfl hg2⟩

end Go.Proofs.Ytdijinboopdheaa

/- Package store: where a job's checkpoints stand, and what is told of them. -/
namespace Go.Proofs.Ytdijinboopdheaa
open Go.RowKit

theorem isJob_any (job : Int) (w : World) :
    Calls Try.prog 59 #[.int .i64 job] w fun e w' => e = .returned (.bool (isJ job)) ∧ w = w' := by
  by_cases h1 : 1 ≤ job
  · have d1 : decide ((1 : Int) ≤ job) = true := decide_eq_true h1
    have HJ : Hid (isJ job = decide (job ≤ 24)) := Lib.hid (by unfold isJ; rw [d1]; rfl)
    go_enter Try.func59, Try.ntmps59
    go_wp2
    go_ret
    exact ⟨by rw [HJ.out]; rfl, rfl⟩
  · have d1 : decide ((1 : Int) ≤ job) = false := decide_eq_false h1
    have HJ : Hid (isJ job = false) := Lib.hid (by unfold isJ; rw [d1]; rfl)
    go_enter Try.func59, Try.ntmps59
    go_wp2
    go_ret
    exact ⟨by rw [HJ.out]; rfl, rfl⟩

theorem is_any (ep e : Int) (v : Value) (w : World) :
    Calls Try.prog 57 #[.agg #[.int .i64 ep, v], .int .i64 e] w fun x w' => x = .returned (.bool (decide (0 < ep) && decide (ep = e))) ∧ Ext w w' := by
  have hx : Ext w (w.alloc (.cells #[.int .i64 ep, v] 89)) := (Below.refl _ _).alloc (Nat.le_refl _) _
  have HX := Lib.hid hx
  by_cases h1 : 0 < ep
  · have d1 : decide ((0 : Int) < ep) = true := decide_eq_true h1
    clear hx
    go_enter Try.func57, Try.ntmps57
    go_wp2
    go_ret
    exact ⟨by simp [h1]; rfl, HX.out⟩
  · have d1 : decide ((0 : Int) < ep) = false := decide_eq_false h1
    clear hx
    go_enter Try.func57, Try.ntmps57
    go_wp2
    go_ret
    exact ⟨by simp, HX.out⟩

/-- Where a job's pair is. -/
structure OfPost (N : Fp) (w : World) (g : Nat) (S : StoP) (job : Int) (e : Ending) (w' : World) : Prop where
  out : ∃ b o, e = .returned (.pointer (some ⟨b, o, none⟩)) ∧ PairAt N w' b o (ofJ S job) ∧ Ext w w' ∧
    ((isJ job = true ∧ b = g ∧ o = 2 + 4 * (job - 1).toNat) ∨ (isJ job = false ∧ w.heap.size ≤ b ∧ o = 0 ∧ Blk w' b 91 #[.int .i64 0, .slice none 0 0, .int .i64 0, .slice none 0 0]))

theorem newPair (N : Fp) (w : World) : PairAt N (w.alloc (.cells #[.int .i64 0, .slice none 0 0, .int .i64 0, .slice none 0 0] 91)) w.heap.size 0 zPr := by
  have hb := Blk.new w 91 #[.int .i64 0, .slice none 0 0, .int .i64 0, .slice none 0 0]
  exact ⟨⟨_, _, ⟨hb.cell 0, hb.cell 1, hb.cell 2, hb.cell 3⟩, zLp_rd N _⟩, fun i => hb.frozen i, hb.lt⟩

theorem of_any (N : Fp) (g : Nat) (S : StoP) (job : Int) (w : World) (h : SoAt N w g S) (hS : OkS S) :
    Calls Try.prog 56 #[.pointer (some ⟨g, 0, none⟩), .int .i64 job] w (OfPost N w g S job) := by
  have HI := Lib.hid (isJob_any job w)
  cases hj : isJ job with
  | true =>
    rw [hj] at HI
    have hp := h.pair hS hj
    have h1 := isJ_iff.1 hj
    obtain ⟨k, hk⟩ : ∃ k : Nat, job = (k : Int) + 1 := ⟨(job - 1).toNat, by omega⟩
    have hk2 : (job - 1).toNat = k := by omega
    have x0 : (0 : Int) ≤ (k : Int) ∧ (k : Int) < 24 := by omega
    have hw1 : wrap64 (job - 1) = (k : Int) := by rw [IntWalk.wrap64_in _ (by omega)]; omega
    have HP := Lib.hid hp
    have HJ := Lib.hid hj
    have HK := Lib.hid hk2
    clear h hS hp hj h1 hk hk2
    go_enter Try.func56, Try.ntmps56
    go_wp2_with fail
    refine HI.out.mono ?_
    rintro e1 w1 ⟨rfl, rfl⟩
    go_wp2
    go_ret
    exact ⟨_, _, rfl, by rw [show 2 + k * 4 = 2 + 4 * (job - 1).toNat by rw [HK.out]; omega]; exact HP.out, Ext.refl _, .inl ⟨HJ.out, rfl, by rw [HK.out]; omega⟩⟩
  | false =>
    rw [hj] at HI
    have hz := ofJ_no (S := S) hj
    have HZ := Lib.hid hz
    have HJ := Lib.hid hj
    clear h hS hz hj
    go_enter Try.func56, Try.ntmps56
    go_wp2_with fail
    refine HI.out.mono ?_
    rintro e1 w1 ⟨rfl, rfl⟩
    go_wp2
    go_ret
    exact ⟨_, _, rfl, by rw [HZ.out]; exact newPair N w, (Below.refl _ _).alloc (Nat.le_refl _) _, .inr ⟨HJ.out, Nat.le_refl _, rfl, Blk.new _ _ _⟩⟩

/-- What is told of a job. -/
theorem Counts_any (N : Fp) (g : Nat) (S : StoP) (job : Int) (w : World) (h : SoAt N w g S) (hS : OkS S) :
    Calls Try.prog 17 #[.pointer (some ⟨g, 0, none⟩), .int .i64 job] w fun e w' => e = .returned (.int .i64 (ofJ S job).c.ep) ∧ Ext w w' := by
  have HO := Lib.hid (of_any N g S job w h hS)
  clear h hS
  go_enter Try.func17, Try.ntmps17
  go_wp2_with fail
  refine HO.out.mono ?_
  rintro e1 w1 ⟨b, o, rfl, hp, hx, -⟩
  obtain ⟨vc, vs, ⟨c0, -, -, -⟩, -⟩ := hp.out
  have HX := Lib.hid hx
  clear hx hp
  go_wp2
  go_ret
  exact ⟨rfl, HX.out⟩
theorem Term_any (N : Fp) (g : Nat) (S : StoP) (w : World) (h : SoAt N w g S) :
    Calls Try.prog 19 #[.pointer (some ⟨g, 0, none⟩)] w fun e w' => e = .returned (.int .i64 S.term) ∧ w = w' := by
  obtain ⟨lp, -, hb, -⟩ := h.out
  have c1 : w.cell? ⟨g, 1, none⟩ = some (.int .i64 S.term) := hb.cell 1
  clear hb h
  go_enter Try.func19, Try.ntmps19
  go_wp2
  go_ret
  exact ⟨rfl, rfl⟩
theorem SoAt.c98 {N : Fp} {w : World} {g : Nat} {S : StoP} (h : SoAt N w g S) (hS : OkS S) : w.cell? ⟨g, 98, none⟩ = some (.int .i64 S.writes) := by
  obtain ⟨lp, h1, hb, -⟩ := h.out
  rw [hb.cell, List.getElem?_toArray]
  exact soC_last _ _ _ _ (by have := hS.len; rw [← h1, List.length_map] at this; exact this)
theorem Writes_any (N : Fp) (g : Nat) (S : StoP) (w : World) (h : SoAt N w g S) (hS : OkS S) :
    Calls Try.prog 20 #[.pointer (some ⟨g, 0, none⟩)] w fun e w' => e = .returned (.int .i64 S.writes) ∧ w = w' := by
  have c98 := h.c98 hS
  have HL : Hid (Calls Try.prog 61 #[.pointer (some ⟨g, 98, none⟩)] w fun e w' => e = .returned (.int .i64 S.writes) ∧ w = w') := Lib.hid (by
    have hcall := run_call_load (P := Try.prog) (f := 92) Try.func92 (by kernel_rfl) (by kernel_rfl) (by kernel_rfl) .i64 (by kernel_rfl) c98
    go_enter Try.func61, Try.ntmps61
    go_wp2
    go_ret
    exact ⟨rfl, rfl⟩)
  clear h hS
  go_enter Try.func20, Try.ntmps20
  go_wp2_with fail
  refine HL.out.mono ?_
  rintro e1 w1 ⟨rfl, rfl⟩
  go_wp2
  go_ret
  exact ⟨rfl, rfl⟩
theorem SoAt.fence {N : Fp} {w : World} {g : Nat} {S : StoP} (h : SoAt N w g S) (t : Int) : SoAt N (w.setCell ⟨g, 1, none⟩ (.int .i64 t)) g { S with term := t } := by
  obtain ⟨lp, h1, hb, hr⟩ := h.out
  have hc : Chg (fun k => k = g) w (w.setCell ⟨g, 1, none⟩ (.int .i64 t)) := (Chg.refl _ _).setCell (fun _ => rfl)
  refine ⟨⟨lp, h1, ?_, fun x hx => (hr x hx).chg hc (fun k hk => by rw [hk]; exact h.here)⟩, h.isIn.chg hc, h.here⟩
  have h2 := hb.set_ 1 (.int .i64 t)
  rw [List.setIfInBounds_toArray] at h2
  exact h2
theorem Fence_any (N : Fp) (g : Nat) (S : StoP) (t : Int) (w : World) (h : SoAt N w g S) :
    Calls Try.prog 12 #[.pointer (some ⟨g, 0, none⟩), .int .i64 t] w fun e w' => e = .returned (.tuple #[]) ∧ SoAt N w' g (fenceS S t) ∧ Chg (fun k => k = g) w w' := by
  obtain ⟨lp, -, hb, -⟩ := h.out
  have c1 : w.cell? ⟨g, 1, none⟩ = some (.int .i64 S.term) := hb.cell 1
  have f1 := hb.frozen 1
  have HF := Lib.hid (h.fence (max S.term t))
  clear hb h
  go_enter Try.func12, Try.ntmps12
  go_wp2
  go_end0
  exact ⟨rfl, HF.out, (Chg.refl _ _).setCell (fun _ => rfl)⟩

end Go.Proofs.Ytdijinboopdheaa

/- Package store: how many bytes there are. -/
namespace Go.Proofs.Ytdijinboopdheaa
open Go.RowKit

section
variable {P : Program} {w : World} {ops : Array Oper} {rest : List Oper} {o : Oper} {a : Act} {Q : Exit → Act → World → Prop}
/-- A whole variable that lies anywhere in a block. -/
theorem run_loadVar_at (w : World) (ad : Addr) (ty : TypeId) (l : List Value) (d : TypeDesc) (hu : P.underlying ty = some d) (hd : (match d with | .struct _ | .array _ _ => true | _ => false) = true)
    (hi : (P.info? ty).map (·.size) = some l.length) (h : ∀ j v, l[j]? = some v → w.cell? (ad.add j) = some v) : (loadVar ty ad).run P w = .ok (.agg l.toArray) w := by
  have hl := run_loadCells_list (P := P) w ad l h
  cases hq : P.info? ty with
  | none => simp [hq] at hi
  | some i =>
    simp only [hq, Option.map_some, Option.some.injEq] at hi
    cases d <;> simp_all [loadVar, isAgg, run_underlying, sizeOf, typeInfo, go_sem]
theorem wpList_loadV (hgd : o.guard = none) (t : TypeId) (p : Operand) (ho : o.op = .load t p) (ad : Addr) (hp : a.eval p = .pointer (some ad)) (v : Value) (hrun : (loadVar t ad).run P w = .ok v w)
    (h : wpList P ops Q rest (a.put o.dst v) w) : wpList P ops Q (o :: rest) a w := by
  refine wpList_plain hgd fun K hK => ?_
  unfold Oper.wp execOp
  simp only [ho, hp, Instr.loadAt, Instr.sureAddr, Sem.run_bind, Sem.run_pure, Result.andThen_ok, hrun]
  exact hK _ _ h
theorem wpList_indexV (hgd : o.guard = none) (t : TypeId) (x ix : Operand) (ho : o.op = .index t x ix) (v : Value) (hrun : (Instr.index t (a.eval x) (a.eval ix)).run P w = .ok v w)
    (h : wpList P ops Q rest (a.put o.dst v) w) : wpList P ops Q (o :: rest) a w := by
  refine wpList_plain hgd fun K hK => ?_
  unfold Oper.wp execOp
  simp only [ho, Sem.run_bind, Sem.run_pure, Result.andThen_ok, hrun]
  exact hK _ _ h
theorem run_index_agg (w : World) (t e : TypeId) (n m : Nat) (fs : Array Field) (hu : P.underlying t = some (.array n e)) (he : P.underlying e = some (.struct fs)) (hi : (P.info? e).map (·.size) = some m)
    (A : Array Value) (k : Nat) (hk : k < n) (c : Array Value) (hc : A.extract (k * m) (k * m + m) = c) : (Instr.index t (.agg A) (.int .i64 (k : Int))).run P w = .ok (.agg c) w := by
  cases hq : P.info? e with
  | none => simp [hq] at hi
  | some i =>
    simp only [hq, Option.map_some, Option.some.injEq] at hi
    simp [Instr.index, run_underlying hu, asIntOf, part, isAgg, run_underlying he, sizeOf, typeInfo, hq, hi, hc, go_sem]
    intro h; omega
end
theorem flat_cut4 : ∀ (lp : List LpP) (k : Nat), k < lp.length → ((lp.flatMap LpP.cells).drop (k * 4)).take 4 = (lp.getD k zLp).cells
  | [], _, h => absurd h (by simp)
  | x :: lp, 0, _ => by rw [List.flatMap_cons, Nat.zero_mul, List.drop_zero]; rfl
  | x :: lp, k + 1, h => by
    rw [List.flatMap_cons, Nat.succ_mul]
    exact flat_cut4 lp k (by simpa using h)
theorem usedJ_take (l : List PrP) (k : Nat) (hk : k < l.length) : usedJ (l.take (k + 1)) = usedJ (l.take k) + wtP (l.getD k zPr) := by
  rw [List.take_add_one, List.getElem?_eq_getElem hk, List.getD_eq_getElem?_getD, List.getElem?_eq_getElem hk]
  simp only [usedJ, List.map_append, List.sum_append, List.map_cons, List.map_nil, List.sum_cons, List.sum_nil, Option.getD_some, Option.toList_some, Nat.add_zero]
theorem usedJ_take_le (l : List PrP) : ∀ k, usedJ (l.take k) ≤ usedJ l := fun k => by
  have : usedJ (l.take k) + usedJ (l.drop k) = usedJ l := by
    have h := congrArg usedJ (List.take_append_drop k l)
    rw [← h]; simp only [usedJ, List.map_append, List.sum_append]
  omega

set_option maxRecDepth 100000 in
theorem Used_any (N : Fp) (g : Nat) (S : StoP) (w : World) (h : SoAt N w g S) (hS : OkS S) (hu : usedJ S.jobs ≤ 1000000000) :
    Calls Try.prog 18 #[.pointer (some ⟨g, 0, none⟩)] w fun e w' => e = .returned (.int .i64 (usedJ S.jobs : Int)) ∧ Ext w w' := by
  obtain ⟨lp, h1, hb, hr⟩ := h.out
  have hl : lp.length = 24 := by have := hS.len; rw [← h1, List.length_map] at this; exact this
  obtain ⟨A, hA⟩ : ∃ A, A = (lp.flatMap LpP.cells).toArray := ⟨_, rfl⟩
  have HLD : Hid ((loadVar 92 ⟨g, 2, none⟩).run Try.prog w = .ok (.agg A) w) := Lib.hid (by
    rw [hA]
    refine run_loadVar_at w _ _ _ _ Try.underlying92 rfl (by rw [flat4_len, hl]; kernel_rfl) (fun j v hj => ?_)
    have hjl : j < 96 := by have := (List.getElem?_eq_some_iff.1 hj).1; rw [flat4_len, hl] at this; exact this
    rw [Addr.add_lit, hb.cell, List.getElem?_toArray, show 2 + j = j + 1 + 1 by omega]
    show (lp.flatMap LpP.cells ++ _)[j]? = _
    rw [List.getElem?_append_left (by rw [flat4_len, hl]; exact hjl)]
    exact hj)
  have HIX : Hid (∀ (k : Nat) (W : World), k < 24 → (Instr.index 92 (.agg A) (.int .i64 (k : Int))).run Try.prog W = .ok (.agg #[.int .i64 (lp.getD k zLp).p.c.ep, (lp.getD k zLp).vc, .int .i64 (lp.getD k zLp).p.s.ep, (lp.getD k zLp).vs]) W) := Lib.hid (fun k W hk => by
    refine run_index_agg W _ _ 24 4 _ Try.underlying92 Try.underlying91 (by kernel_rfl) A k hk _ ?_
    rw [hA, List.extract_toArray]
    congr 1
    rw [List.extract_eq_take_drop, show k * 4 + 4 - k * 4 = 4 by omega]
    exact flat_cut4 lp k (by omega))
  have HRD : Hid (∀ (k : Nat) (W : World), Ext w W → k < 24 → (lp.getD k zLp).rd N W ∧ (lp.getD k zLp).p = S.jobs.getD k zPr) := Lib.hid (fun k W hx hk => by
    have hm : lp.getD k zLp ∈ lp := by rw [List.getD_eq_getElem?_getD, List.getElem?_eq_getElem (by omega)]; exact List.getElem_mem _
    exact ⟨(hr _ hm).chg (G := fun _ => False) (Chg.of_ext hx) (fun _ h => h.elim), by rw [← h1, getD_map]⟩)
  obtain ⟨J, hJ⟩ : ∃ J, J = S.jobs := ⟨_, rfl⟩
  have HJL : Hid (J.length = 24) := Lib.hid (by rw [hJ]; exact hS.len)
  have HU : Hid (usedJ J ≤ 1000000000) := Lib.hid (by rw [hJ]; exact hu)
  have HT : Hid (∀ k, k < 24 → usedJ (J.take (k + 1)) = usedJ (J.take k) + wtP (J.getD k zPr) ∧ usedJ (J.take (k + 1)) ≤ usedJ J) := Lib.hid (fun k hk => ⟨usedJ_take J k (by rw [hJ, hS.len]; exact hk), usedJ_take_le J _⟩)
  rw [← hJ] at HRD ⊢
  clear hb h hr h1 hS hA hl hJ hu
  go_enter Try.func18, Try.ntmps18
  go_upto_region 4 with (fail)
  iterate 10 go_step
  refine wpList_loadV (by rfl) _ _ (by rfl) ⟨g, 2, none⟩ (by rfl) (.agg A) HLD.out ?_
  clear HLD
  go_wp2
  go_loopw [3, 12] (fun n' i' wr => ∃ k : Nat, i' = .int .i64 k ∧ k ≤ 24 ∧ n' = .int .i64 (usedJ (J.take k) : Int) ∧ Ext w wr) (fun _ i' _ => 24 - (intOf i').toNat)
  case atStart => exact ⟨0, rfl, Nat.zero_le _, rfl, Ext.refl _⟩
  case round =>
    obtain ⟨k, rfl, hk, rfl, hx⟩ := hrel
    by_cases hlt : k < 24
    · have e1 : decide ((k : Int) < 24) = true := decide_eq_true (by omega)
      obtain ⟨hxr, hxp⟩ := HRD.out k wr hx hlt
      have hix := HIX.out k wr hlt
      have hte := HT.out k hlt
      have hub := HU.out
      rw [← hxp] at hte
      generalize lp.getD k zLp = x at hxr hxp hix hte
      obtain ⟨Ac, cc, hvc, -⟩ := hxr.1
      obtain ⟨As, cs, hvs, -⟩ := hxr.2
      rw [List.length_map] at hvc hvs
      rw [hvc, hvs] at hix
      obtain ⟨m, hm⟩ : ∃ m, m = usedJ (J.take k) := ⟨_, rfl⟩
      obtain ⟨nc, hnc⟩ : ∃ n, n = x.p.c.da.length := ⟨_, rfl⟩
      obtain ⟨ns, hns⟩ : ∃ n, n = x.p.s.da.length := ⟨_, rfl⟩
      rw [← hnc, ← hns] at hix
      unfold wtP at hte
      rw [← hnc, ← hns, ← hm] at hte
      have hw1 : wrap64 ((nc : Int) + (ns : Int)) = (nc : Int) + (ns : Int) := IntWalk.wrap64_in _ (by omega)
      have hw2 : wrap64 ((m : Int) + ((nc : Int) + (ns : Int))) = (m : Int) + ((nc : Int) + (ns : Int)) := IntWalk.wrap64_in _ (by omega)
      have HTE : Hid (usedJ (J.take (k + 1)) = m + (nc + ns)) := Lib.hid hte.1
      rw [← hm]
      clear hte hub hxr hxp hvc hvs hnc hns hm
      go_upto_region 6 with (fail)
      go_step
      refine wpList_indexV (by rfl) _ _ _ (by rfl) _ hix ?_
      clear hix
      go_wp2
      go_roundw
      case rel => exact ⟨k + 1, by go_num, by omega, by rw [HTE.out, hw2]; go_num, hx.trans ((Below.refl _ _).alloc (Nat.le_refl _) _)⟩
      case measure => simp [intOf]; omega
    · obtain rfl : k = 24 := by omega
      rw [List.take_of_length_le (i := 24) (by rw [HJL.out]; omega)]
      have e1 : decide ((24 : Int) < 24) = false := by decide
      go_wp2
      go_ret
      exact ⟨rfl, hx⟩

end Go.Proofs.Ytdijinboopdheaa

/- Package store: a checkpoint's data. -/
namespace Go.Proofs.Ytdijinboopdheaa
open Go.RowKit

theorem is_c (c : CkP) (e : Int) (b : Bool) (hb : isC c e = b) (v : Value) (w : World) :
    Calls Try.prog 57 #[.agg #[.int .i64 c.ep, v], .int .i64 e] w fun x w' => x = .returned (.bool b) ∧ Ext w w' := by
  subst hb
  exact is_any c.ep e v w
theorem RdF.made {N : Fp} {w w' : World} {v : Value} {l : List UInt8} (hN : N.isIn w) (h : Grew w.heap.size 5 (.slice none 0 0) w (l.map B) v w') : RdF (fun k => ¬ N k) w' v (l.map B) :=
  (RowF.made h).rdF.mono (fun k hk hN' => by have := hN k hN'; omega)
/-- The four cells, whatever is added. -/
theorem PairAt.cells {N : Fp} {w : World} {b o : Nat} {p : PrP} (h : PairAt N w b o p) : ∃ vc vs, (∀ W, Ext w W → (W.cell? ⟨b, o, none⟩ = some (.int .i64 p.c.ep) ∧ W.cell? ⟨b, o + 1, none⟩ = some vc ∧ W.cell? ⟨b, o + 2, none⟩ = some (.int .i64 p.s.ep) ∧ W.cell? ⟨b, o + 3, none⟩ = some vs ∧ W.cell? ⟨b, o + 2 + 1, none⟩ = some vs) ∧ LpP.rd N W ⟨p, vc, vs⟩) := by
  obtain ⟨vc, vs, ⟨c0, c1, c2, c3⟩, hr⟩ := h.out
  exact ⟨vc, vs, fun W hx => ⟨⟨(hx.cell (p := ⟨b, o, none⟩) h.lt).trans c0, (hx.cell (p := ⟨b, o + 1, none⟩) h.lt).trans c1, (hx.cell (p := ⟨b, o + 2, none⟩) h.lt).trans c2, (hx.cell (p := ⟨b, o + 3, none⟩) h.lt).trans c3, (hx.cell (p := ⟨b, o + 3, none⟩) h.lt).trans c3⟩, hr.chg (G := fun _ => False) (Chg.of_ext hx) (fun _ h => h.elim)⟩⟩

set_option maxRecDepth 100000 in
theorem Get_any (N : Fp) (g : Nat) (S : StoP) (job epoch : Int) (w : World) (h : SoAt N w g S) (hS : OkS S) :
    Calls Try.prog 14 #[.pointer (some ⟨g, 0, none⟩), .int .i64 job, .int .i64 epoch] w fun e w' =>
      ∃ v, e = .returned (.tuple #[v, .bool (getS S job epoch).2]) ∧ RdF (fun k => ¬ N k) w' v ((getS S job epoch).1.map B) ∧ Ext w w' := by
  have HO := Lib.hid (of_any N g S job w h hS)
  have HIN := Lib.hid h.isIn
  have ho := hS.of job
  have HCL := Lib.hid ho.cl
  have HSL := Lib.hid ho.sl
  clear h hS ho
  go_enter Try.func14, Try.ntmps14
  go_wp2_with fail
  refine HO.out.mono ?_
  rintro e1 w1 ⟨b, o, rfl, hp, hx, -⟩
  obtain ⟨vc, vs, hcc⟩ := hp.cells
  have HC := Lib.hid hcc
  have HX := Lib.hid hx
  obtain ⟨⟨c0, c1, c2, c3, c3'⟩, -⟩ := hcc w1 (Ext.refl _)
  obtain ⟨p, hpp⟩ : ∃ p, p = ofJ S job := ⟨_, rfl⟩
  have HG : Hid (getS S job epoch = if isC p.c epoch = true then (p.c.da, true) else if isC p.s epoch = true then (p.s.da, true) else ([], false)) := Lib.hid (by rw [hpp]; rfl)
  rw [← hpp] at HC HCL HSL c0 c2
  clear hp hx hcc HO hpp
  cases h1 : isC p.c epoch with
  | true =>
    rw [h1, if_pos rfl] at HG
    have HI := Lib.hid (is_c p.c epoch true h1)
    clear h1
    go_wp2_with fail
    refine (HI.out _ _).mono ?_
    rintro e2 w2 ⟨rfl, hx2⟩
    obtain ⟨⟨c0, c1, c2, c3, c3'⟩, hr⟩ := HC.out w2 hx2
    have HCN := Lib.hid (Clone_any p.c.da vc w2 hr.1.rd (by have := HCL.out; omega))
    have HX2 := Lib.hid (HX.out.trans hx2)
    clear hr hx2 HI
    go_wp2_with fail
    refine HCN.out.mono ?_
    rintro e3 w3 ⟨v3, rfl, hg3⟩
    have HX3 := Lib.hid (HX2.out.trans hg3.ext)
    have HR3 := Lib.hid (RdF.made (HIN.out.ext HX2.out) hg3)
    clear hg3 HCN
    go_wp2
    go_ret2
    exact ⟨_, by rw [HG.out]; rfl, by rw [HG.out]; exact HR3.out, HX3.out⟩
  | false =>
    rw [h1, if_neg (by decide)] at HG
    have HI := Lib.hid (is_c p.c epoch false h1)
    clear h1
    go_wp2_with fail
    refine (HI.out _ _).mono ?_
    rintro e2 w2 ⟨rfl, hx2⟩
    obtain ⟨⟨c0, c1, c2, c3, c3'⟩, -⟩ := HC.out w2 hx2
    have HX2 := Lib.hid hx2
    clear hx2 HI
    cases h1 : isC p.s epoch with
    | true =>
      rw [h1, if_pos rfl] at HG
      have HI := Lib.hid (is_c p.s epoch true h1)
      clear h1
      go_wp2_with fail
      refine (HI.out _ _).mono ?_
      rintro e3 w3 ⟨rfl, hx3⟩
      obtain ⟨⟨c0, c1, c2, c3, c3'⟩, hr⟩ := HC.out w3 (HX2.out.trans hx3)
      have HCN := Lib.hid (Clone_any p.s.da vs w3 hr.2.rd (by have := HSL.out; omega))
      have HX3 := Lib.hid (HX.out.trans (HX2.out.trans hx3))
      clear hr hx3 HI
      go_wp2_with fail
      refine HCN.out.mono ?_
      rintro e4 w4 ⟨v4, rfl, hg4⟩
      have HX4 := Lib.hid (HX3.out.trans hg4.ext)
      have HR4 := Lib.hid (RdF.made (HIN.out.ext HX3.out) hg4)
      clear hg4 HCN
      go_wp2
      go_ret2
      exact ⟨_, by rw [HG.out]; rfl, by rw [HG.out]; exact HR4.out, HX4.out⟩
    | false =>
      rw [h1, if_neg (by decide)] at HG
      have HI := Lib.hid (is_c p.s epoch false h1)
      clear h1
      go_wp2_with fail
      refine (HI.out _ _).mono ?_
      rintro e3 w3 ⟨rfl, hx3⟩
      have HX3 := Lib.hid (HX.out.trans (HX2.out.trans hx3))
      clear hx3 HI
      go_wp2
      go_ret2
      exact ⟨_, by rw [HG.out]; rfl, by rw [HG.out]; exact RdF.nilF _ _, HX3.out⟩

end Go.Proofs.Ytdijinboopdheaa

/- Package store: a new store, Commit and End. -/
namespace Go.Proofs.Ytdijinboopdheaa
open Go.RowKit

theorem Chg.set1 {w w' : World} {b : Nat} (h : Chg (fun k => k = b) w w') (o : Nat) (v : Value) : Chg (fun k => k = b) w (w'.setCell ⟨b, o, none⟩ v) := h.setCell (fun _ => rfl)
/-- A pair's four cells are written. -/
theorem SoAt.put4 {N : Fp} {w w' : World} {g : Nat} {S : StoP} (h : SoAt N w g S) (hS : OkS S) {job : Int} (hj : isJ job = true) (x : LpP) (hx : x.rd N w)
    (hw : w' = (((w.setCell ⟨g, 2 + 4 * (job - 1).toNat, none⟩ (.int .i64 x.p.c.ep)).setCell ⟨g, 2 + 4 * (job - 1).toNat + 1, none⟩ x.vc).setCell ⟨g, 2 + 4 * (job - 1).toNat + 2, none⟩ (.int .i64 x.p.s.ep)).setCell ⟨g, 2 + 4 * (job - 1).toNat + 3, none⟩ x.vs) :
    SoAt N w' g (setJ S job x.p) ∧ Chg (fun k => k = g) w w' := by
  obtain ⟨lp, h1, hb, hr⟩ := h.out
  have hk : (job - 1).toNat < lp.length := by have := hS.idx hj; rw [← h1, List.length_map] at this; exact this
  have hc : Chg (fun k => k = g) w w' := by rw [hw]; exact ((((Chg.refl _ _).set1 _ _).set1 _ _).set1 _ _).set1 _ _
  have hN : ∀ k, k = g → N k := fun k hk => by rw [hk]; exact h.here
  refine ⟨⟨⟨lp.set (job - 1).toNat x, ?_, ?_, fun y hy => ?_⟩, h.isIn.chg hc, h.here⟩, hc⟩
  · unfold setJ; rw [if_pos hj, List.map_set, h1]
  · have h2 := (((hb.set_ (2 + 4 * (job - 1).toNat) (.int .i64 x.p.c.ep)).set_ (2 + 4 * (job - 1).toNat + 1) x.vc).set_ (2 + 4 * (job - 1).toNat + 2) (.int .i64 x.p.s.ep)).set_ (2 + 4 * (job - 1).toNat + 3) x.vs
    simp only [List.setIfInBounds_toArray] at h2
    rw [soC_set4 _ _ _ _ _ _ hk] at h2
    rw [hw, (setJ_room S job x.p).1, (setJ_room S job x.p).2.1, (setJ_room S job x.p).2.2]
    exact h2
  · rcases List.mem_or_eq_of_mem_set hy with hy | rfl
    · exact (hr y hy).chg hc hN
    · exact hx.chg hc hN
/-- The two cells of what is staged are written. -/
theorem SoAt.put2 {N : Fp} {w w' : World} {g : Nat} {S : StoP} (h : SoAt N w g S) (hS : OkS S) {job : Int} (hj : isJ job = true) (e : Int) (d : List UInt8) (v : Value) (hv : RdF (fun k => ¬ N k) w v (d.map B))
    (hw : w' = (w.setCell ⟨g, 2 + 4 * (job - 1).toNat + 2, none⟩ (.int .i64 e)).setCell ⟨g, 2 + 4 * (job - 1).toNat + 3, none⟩ v) :
    SoAt N w' g (setJ S job ⟨(ofJ S job).c, ⟨e, d⟩⟩) ∧ Chg (fun k => k = g) w w' := by
  obtain ⟨lp, h1, hb, hr⟩ := h.out
  have hk : (job - 1).toNat < lp.length := by have := hS.idx hj; rw [← h1, List.length_map] at this; exact this
  have hc : Chg (fun k => k = g) w w' := by rw [hw]; exact ((Chg.refl _ _).set1 _ _).set1 _ _
  have hN : ∀ k, k = g → N k := fun k hk => by rw [hk]; exact h.here
  have hp : (lp.getD (job - 1).toNat zLp).p = ofJ S job := by
    unfold ofJ
    rw [if_pos hj, ← h1, getD_map]
  have hm : lp.getD (job - 1).toNat zLp ∈ lp := by rw [List.getD_eq_getElem?_getD, List.getElem?_eq_getElem hk]; exact List.getElem_mem hk
  refine ⟨⟨⟨lp.set (job - 1).toNat ⟨⟨(lp.getD (job - 1).toNat zLp).p.c, ⟨e, d⟩⟩, (lp.getD (job - 1).toNat zLp).vc, v⟩, ?_, ?_, fun y hy => ?_⟩, h.isIn.chg hc, h.here⟩, hc⟩
  · unfold setJ; rw [if_pos hj, List.map_set, h1, hp]
  · have h2 := (hb.set_ (2 + 4 * (job - 1).toNat + 2) (.int .i64 e)).set_ (2 + 4 * (job - 1).toNat + 3) v
    simp only [List.setIfInBounds_toArray] at h2
    rw [soC_set2 _ _ _ _ _ _ d _ hk] at h2
    rw [hw, (setJ_room S job _).1, (setJ_room S job _).2.1, (setJ_room S job _).2.2]
    exact h2
  · rcases List.mem_or_eq_of_mem_set hy with hy | rfl
    · exact (hr y hy).chg hc hN
    · exact ⟨(hr _ hm).1.chg hc (fun k hk hG => hk (hN k hG)), hv.chg hc (fun k hk hG => hk (hN k hG))⟩

set_option maxRecDepth 100000 in
theorem End_any (N : Fp) (g : Nat) (S : StoP) (job : Int) (w : World) (h : SoAt N w g S) (hS : OkS S) :
    Calls Try.prog 13 #[.pointer (some ⟨g, 0, none⟩), .int .i64 job] w fun e w' => e = .returned (.tuple #[]) ∧ SoAt N w' g (endS S job) ∧ Chg (fun k => k = g) w w' := by
  have HO := Lib.hid (of_any N g S job w h hS)
  have HS := Lib.hid h
  have HK := Lib.hid hS
  clear h hS
  go_enter Try.func13, Try.ntmps13
  go_wp2_with fail
  refine HO.out.mono ?_
  rintro e1 w1 ⟨b, o, rfl, hp, hx, hcase⟩
  obtain ⟨vc, vs, hcc⟩ := hp.cells
  obtain ⟨⟨c0, c1, c2, c3, c3'⟩, -⟩ := hcc w1 (Ext.refl _)
  have f0 := hp.fr o
  have f1 := hp.fr (o + 1)
  have f2 := hp.fr (o + 2)
  have f3 := hp.fr (o + 3)
  have HX := Lib.hid hx
  have HCA := Lib.hid hcase
  clear hp hcc hx hcase HO
  go_wp2
  go_end0
  refine ⟨rfl, ?_⟩
  rcases HCA.out with ⟨hj, rfl, rfl⟩ | ⟨hj, hb, rfl, hk⟩
  · have h1 := (HS.out.ext HX.out).put4 HK.out hj zLp (zLp_rd _ _) rfl
    exact ⟨h1.1, (Chg.of_ext HX.out).trans h1.2 (fun _ _ h => h)⟩
  · have hc := ((((Chg.refl (fun k => k = b) w1).set1 0 (.int .i64 0)).set1 (0 + 1) (.slice none 0 0)).set1 (0 + 2) (.int .i64 0)).set1 (0 + 3) (.slice none 0 0)
    have hx2 := hc.ext HX.out (fun k hk => by rw [hk]; exact hb)
    have e : endS S job = S := by unfold endS; rw [setJ_no hj]
    rw [e]
    exact ⟨HS.out.ext hx2, Chg.of_ext hx2⟩

set_option maxRecDepth 100000 in
theorem Commit_any (N : Fp) (g : Nat) (S : StoP) (job epoch : Int) (w : World) (h : SoAt N w g S) (hS : OkS S) :
    Calls Try.prog 16 #[.pointer (some ⟨g, 0, none⟩), .int .i64 job, .int .i64 epoch] w fun e w' =>
      e = .returned (.int .i64 (commitS S job epoch).1) ∧ SoAt N w' g (commitS S job epoch).2 ∧ Chg (fun k => k = g) w w' := by
  have HO := Lib.hid (of_any N g S job w h hS)
  have HS := Lib.hid h
  have HK := Lib.hid hS
  clear h hS
  go_enter Try.func16, Try.ntmps16
  go_wp2_with fail
  refine HO.out.mono ?_
  rintro e1 w1 ⟨b, o, rfl, hp, hx, hcase⟩
  obtain ⟨vc, vs, hcc⟩ := hp.cells
  have HC := Lib.hid hcc
  have HX := Lib.hid hx
  have HCA := Lib.hid hcase
  have HFR := Lib.hid (fun W (hw : Ext w1 W) (i : Nat) => (hp.ext hw).fr i)
  obtain ⟨⟨c0, c1, c2, c3, c3'⟩, -⟩ := hcc w1 (Ext.refl _)
  obtain ⟨p, hpp⟩ : ∃ p, p = ofJ S job := ⟨_, rfl⟩
  have HG : Hid (commitS S job epoch = if isC p.c epoch = true then (0, S) else if isC p.s epoch = true then (0, setJ S job ⟨p.s, zCk⟩) else (4, S)) := Lib.hid (by rw [hpp]; rfl)
  have HPP := Lib.hid hpp
  rw [← hpp] at HC c0 c2
  clear hp hx hcc hcase HO hpp
  cases h1 : isC p.c epoch with
  | true =>
    rw [h1, if_pos rfl] at HG
    have HI := Lib.hid (is_c p.c epoch true h1)
    clear h1
    go_wp2_with fail
    refine (HI.out _ _).mono ?_
    rintro e2 w2 ⟨rfl, hx2⟩
    have HX2 := Lib.hid (HX.out.trans hx2)
    clear hx2 HI
    go_wp2
    go_ret
    exact ⟨by rw [HG.out]; rfl, by rw [HG.out]; exact HS.out.ext HX2.out, Chg.of_ext HX2.out⟩
  | false =>
    rw [h1, if_neg (by decide)] at HG
    have HI := Lib.hid (is_c p.c epoch false h1)
    clear h1
    go_wp2_with fail
    refine (HI.out _ _).mono ?_
    rintro e2 w2 ⟨rfl, hx2⟩
    obtain ⟨⟨c0, c1, c2, c3, c3'⟩, -⟩ := HC.out w2 hx2
    have HX2 := Lib.hid hx2
    clear hx2 HI
    cases h1 : isC p.s epoch with
    | true =>
      rw [h1, if_pos rfl] at HG
      have HI := Lib.hid (is_c p.s epoch true h1)
      have HJ : Hid (isJ job = true) := Lib.hid (by
        cases hj : isJ job with
        | true => rfl
        | false => rw [HPP.out, ofJ_no hj] at h1; have := (isC_iff.1 h1).1; exact absurd this (by decide))
      clear h1
      go_wp2_with fail
      refine (HI.out _ _).mono ?_
      rintro e3 w3 ⟨rfl, hx3⟩
      obtain ⟨⟨c0, c1, c2, c3, c3'⟩, hr⟩ := HC.out w3 (HX2.out.trans hx3)
      have hf := HFR.out w3 (HX2.out.trans hx3)
      have f0 := hf o
      have f1 := hf (o + 1)
      have f2 := hf (o + 2)
      have f3 := hf (o + 3)
      have HX3 := Lib.hid (HX.out.trans (HX2.out.trans hx3))
      have HR := Lib.hid hr.2
      obtain ⟨As, cs, hvs, -⟩ := hr.2
      clear hr hx3 HI hf
      rw [List.length_map] at hvs
      have hvs : vs = .slice As p.s.da.length cs := hvs
      subst hvs
      go_wp2
      go_ret
      rw [HG.out]
      refine ⟨rfl, ?_⟩
      rcases HCA.out with ⟨hj, rfl, rfl⟩ | ⟨hj, -⟩
      · have h1 := (HS.out.ext HX3.out).put4 HK.out hj ⟨⟨p.s, zCk⟩, _, .slice none 0 0⟩ ⟨HR.out, RdF.nilF _ _⟩ rfl
        exact ⟨h1.1, (Chg.of_ext HX3.out).trans h1.2 (fun _ _ h => h)⟩
      · rw [HJ.out] at hj; cases hj
    | false =>
      rw [h1, if_neg (by decide)] at HG
      have HI := Lib.hid (is_c p.s epoch false h1)
      clear h1
      go_wp2_with fail
      refine (HI.out _ _).mono ?_
      rintro e3 w3 ⟨rfl, hx3⟩
      have HX3 := Lib.hid (HX.out.trans (HX2.out.trans hx3))
      clear hx3 HI
      go_wp2
      go_ret
      exact ⟨by rw [HG.out]; rfl, by rw [HG.out]; exact HS.out.ext HX3.out, Chg.of_ext HX3.out⟩

end Go.Proofs.Ytdijinboopdheaa

/- Package store: a new store, and Stage. -/
namespace Go.Proofs.Ytdijinboopdheaa
open Go.RowKit

theorem SoAt.count {N : Fp} {w : World} {g : Nat} {S : StoP} (h : SoAt N w g S) (hS : OkS S) (n : Int) : SoAt N (w.setCell ⟨g, 98, none⟩ (.int .i64 n)) g { S with writes := n } := by
  obtain ⟨lp, h1, hb, hr⟩ := h.out
  have hl : lp.length = 24 := by have := hS.len; rw [← h1, List.length_map] at this; exact this
  have hc := (Chg.refl (fun k => k = g) w).set1 98 (.int .i64 n)
  refine ⟨⟨lp, h1, ?_, fun x hx => (hr x hx).chg hc (fun k hk => by rw [hk]; exact h.here)⟩, h.isIn.chg hc, h.here⟩
  have h2 := hb.set_ 98 (.int .i64 n)
  rw [List.setIfInBounds_toArray, soC_setN _ _ _ _ _ hl] at h2
  exact h2
theorem Add_any (N : Fp) (g : Nat) (S : StoP) (w : World) (h : SoAt N w g S) (hS : OkS S) (h0 : 0 ≤ S.writes) (h1 : S.writes ≤ 1000000) :
    Calls Try.prog 60 #[.pointer (some ⟨g, 98, none⟩), .int .i64 1] w fun e w' => e = .returned (.int .i64 (S.writes + 1)) ∧ w' = w.setCell ⟨g, 98, none⟩ (.int .i64 (S.writes + 1)) := by
  obtain ⟨lp, -, hb, -⟩ := h.out
  have hc := h.c98 hS
  have hz := hb.frozen 98
  have hs : (Op.intArith .add .i64 S.writes 1).run Try.prog w = .ok (.int .i64 (S.writes + 1)) w := by
    simp [Op.intArith, go_sem]
    rw [IntWalk.i64_in _ (by omega)]
  have hcall := run_call_add (P := Try.prog) (f := 91) Try.func91 (by kernel_rfl) (by kernel_rfl) (by kernel_rfl) .i64 (by kernel_rfl) hc hz hs
  clear hb h hS hc hz hs
  go_enter Try.func60, Try.ntmps60
  go_wp2
  go_ret
  exact ⟨rfl, rfl⟩

theorem ext_drew11 {B : Nat} {a w : World} (h : Below B a w) : Below B a w.drew := Below.drewN' h 1

set_option maxRecDepth 100000 in
theorem Stage_any (N : Fp) (g : Nat) (S : StoP) (t job epoch : Int) (d : List UInt8) (A : Option Addr) (c : Nat) (w : World) (h : SoAt N w g S) (hS : OkS S) (hr : Rd w (.slice A d.length c) (d.map B)) (hd : d.length ≤ 1000000)
    (h0 : 0 ≤ S.writes) (h1 : S.writes ≤ 1000000) (hu : usedJ S.jobs ≤ 1000000) :
    Calls Try.prog 15 #[.pointer (some ⟨g, 0, none⟩), .int .i64 t, .int .i64 job, .int .i64 epoch, .slice A d.length c] w fun e w' =>
      e = .returned (.int .i64 (stageS S t job epoch d).1) ∧ SoAt N w' g (stageS S t job epoch d).2 ∧ Chg (fun k => k = g) w w' := by
  have HO := Lib.hid (of_any N g S job w h hS)
  have HS := Lib.hid h
  have HK := Lib.hid hS
  have HR := Lib.hid hr
  have HW := Lib.hid (And.intro h0 h1)
  have HJ := Lib.hid (fun W => isJob_any job W)
  have ho := hS.of job
  have HSL := Lib.hid ho.sl
  have HIN := Lib.hid h.isIn
  obtain ⟨nd, hnd⟩ : ∃ n, n = d.length := ⟨_, rfl⟩
  obtain ⟨R, hR⟩ : ∃ R, R = stageS S t job epoch d := ⟨_, rfl⟩
  have HRR := Lib.hid hR
  rw [← hR, ← hnd]
  unfold stageS at hR
  rw [← hnd] at hR hd
  have HND := Lib.hid hnd
  have HD := Lib.hid hd
  have HU := Lib.hid hu
  clear h hS hr h0 h1 hu ho hnd hd
  go_enter Try.func15, Try.ntmps15
  go_wp2_with fail
  refine HO.out.mono ?_
  rintro e1 w1 ⟨b, o, rfl, hp, hx, hcase⟩
  have HS1 := Lib.hid (HS.out.ext hx)
  have HX := Lib.hid hx
  have HCA := Lib.hid hcase
  have hsx := HS1.out
  obtain ⟨lp, -, hb, -⟩ := hsx.out
  have s1 : w1.cell? ⟨g, 1, none⟩ = some (.int .i64 S.term) := hb.cell 1
  have HP := Lib.hid hp
  clear hp hx hcase HO hsx hb
  -- an elder term
  by_cases c1 : t < S.term
  · have d1 : decide (t < S.term) = true := decide_eq_true c1
    rw [if_pos c1] at hR
    have HRE := Lib.hid hR
    clear c1 hR
    go_wp2
    go_ret
    exact ⟨by rw [HRE.out]; rfl, by rw [HRE.out]; exact HS1.out, Chg.of_ext HX.out⟩
  have d1 : decide (t < S.term) = false := decide_eq_false c1
  rw [if_neg c1] at hR
  have HRE := Lib.hid hR
  clear c1 hR
  -- an argument that isn't right
  have HARG : Hid (¬ (isJ job = true ∧ 1 ≤ epoch ∧ epoch ≤ 1000000 ∧ 1 ≤ nd ∧ nd ≤ 100) → R = (1, S)) := Lib.hid (fun hc => by rw [HRE.out, if_pos hc])
  cases hj : isJ job with
  | false =>
    have HI := Lib.hid (HJ.out w1)
    rw [hj] at HI HARG
    have HE : Hid (R = (1, S)) := Lib.hid (HARG.out (fun hc => by cases hc.1))
    clear hj
    go_wp2_with fail
    refine HI.out.mono ?_
    rintro e2 w2 ⟨rfl, rfl⟩
    go_wp2
    go_ret
    exact ⟨by rw [HE.out]; rfl, by rw [HE.out]; exact HS1.out, Chg.of_ext HX.out⟩
  | true =>
  have HI := Lib.hid (HJ.out w1)
  have HJT := Lib.hid hj
  rw [hj] at HI
  clear hj
  go_wp2_with fail
  refine HI.out.mono ?_
  rintro e2 w2 ⟨rfl, rfl⟩
  clear HI
  by_cases c2 : epoch < 1
  · have d2 : decide (epoch < 1) = true := decide_eq_true c2
    have HE : Hid (R = (1, S)) := Lib.hid (HARG.out (fun hc => by omega))
    clear c2
    go_wp2
    go_ret
    exact ⟨by rw [HE.out]; rfl, by rw [HE.out]; exact HS1.out, Chg.of_ext HX.out⟩
  have d2 : decide (epoch < 1) = false := decide_eq_false c2
  by_cases c3 : 1000000 < epoch
  · have d3 : decide ((1000000 : Int) < epoch) = true := decide_eq_true c3
    have HE : Hid (R = (1, S)) := Lib.hid (HARG.out (fun hc => by omega))
    clear c2 c3
    go_wp2
    go_ret
    exact ⟨by rw [HE.out]; rfl, by rw [HE.out]; exact HS1.out, Chg.of_ext HX.out⟩
  have d3 : decide ((1000000 : Int) < epoch) = false := decide_eq_false c3
  by_cases c4 : nd < 1
  · have d4 : decide ((nd : Int) < 1) = true := decide_eq_true (by omega)
    have HE : Hid (R = (1, S)) := Lib.hid (HARG.out (fun hc => by omega))
    clear c2 c3 c4
    go_wp2
    go_ret
    exact ⟨by rw [HE.out]; rfl, by rw [HE.out]; exact HS1.out, Chg.of_ext HX.out⟩
  have d4 : decide ((nd : Int) < 1) = false := decide_eq_false (by omega)
  by_cases c5 : 100 < nd
  · have d5 : decide ((100 : Int) < (nd : Int)) = true := decide_eq_true (by omega)
    have HE : Hid (R = (1, S)) := Lib.hid (HARG.out (fun hc => by omega))
    clear c2 c3 c4 c5
    go_wp2
    go_ret
    exact ⟨by rw [HE.out]; rfl, by rw [HE.out]; exact HS1.out, Chg.of_ext HX.out⟩
  have d5 : decide ((100 : Int) < (nd : Int)) = false := decide_eq_false (by omega)
  have HRE2 := Lib.hid (HRE.out.trans (if_neg (Classical.not_not.2 ⟨HJT.out, by omega, by omega, by omega, by omega⟩)))
  have HE1 : Hid (1 ≤ epoch ∧ 1 ≤ nd ∧ nd ≤ 100) := Lib.hid ⟨by omega, by omega, by omega⟩
  clear c2 c3 c4 c5 HARG HRE
  -- an elder epoch
  obtain ⟨hbg, hog⟩ : b = g ∧ o = 2 + 4 * (job - 1).toNat := by
    rcases HCA.out with ⟨-, h1, h2⟩ | ⟨h1, -⟩
    · exact ⟨h1, h2⟩
    · rw [HJT.out] at h1; cases h1
  have HOG := Lib.hid hog
  subst hbg
  clear hog HCA
  obtain ⟨vc, vs, hcc⟩ := HP.out.cells
  obtain ⟨⟨k0, k1, k2, k3, k3'⟩, hlr⟩ := hcc w1 (Ext.refl _)
  obtain ⟨p, hpp⟩ : ∃ p, p = ofJ S job := ⟨_, rfl⟩
  have HC := Lib.hid hcc
  have HPP := Lib.hid hpp
  rw [← hpp] at HC HRE2 HSL k0 k2
  obtain ⟨As, cs, hvs, -⟩ := hlr.2
  rw [List.length_map] at hvs
  replace hvs : vs = .slice As (ofJ S job).s.da.length cs := hvs
  rw [← hpp] at hvs
  obtain ⟨ns, hns⟩ : ∃ n, n = p.s.da.length := ⟨_, rfl⟩
  rw [← hns] at hvs HRE2 HSL
  subst hvs
  have HNS := Lib.hid hns
  have HFR := Lib.hid HP.out.fr
  clear hcc hlr hpp HP hns
  by_cases c6 : epoch ≤ p.c.ep
  · have d6 : decide (epoch ≤ p.c.ep) = true := decide_eq_true c6
    have HE : Hid (R = (6, S)) := Lib.hid (HRE2.out.trans (if_pos (.inl c6)))
    clear c6
    go_wp2
    go_ret
    exact ⟨by rw [HE.out]; rfl, by rw [HE.out]; exact HS1.out, Chg.of_ext HX.out⟩
  have d6 : decide (epoch ≤ p.c.ep) = false := decide_eq_false c6
  by_cases c7 : epoch < p.s.ep
  · have d7 : decide (epoch < p.s.ep) = true := decide_eq_true c7
    have HE : Hid (R = (6, S)) := Lib.hid (HRE2.out.trans (if_pos (.inr c7)))
    clear c6 c7
    go_wp2
    go_ret
    exact ⟨by rw [HE.out]; rfl, by rw [HE.out]; exact HS1.out, Chg.of_ext HX.out⟩
  have d7 : decide (epoch < p.s.ep) = false := decide_eq_false c7
  have HRE3 := Lib.hid (HRE2.out.trans (if_neg (fun hc => by rcases hc with hc | hc; exact c6 hc; exact c7 hc)))
  clear c6 c7 HRE2
  -- it is staged already
  cases h1 : isC p.s epoch with
  | true =>
    have HE : Hid (R = (0, S)) := Lib.hid (HRE3.out.trans (if_pos h1))
    have HI := Lib.hid (is_c p.s epoch true h1)
    clear h1
    go_wp2_with fail
    refine (HI.out _ _).mono ?_
    rintro e3 w3 ⟨rfl, hx3⟩
    have HX3 := Lib.hid hx3
    clear hx3 HI
    go_wp2
    go_ret
    exact ⟨by rw [HE.out]; rfl, by rw [HE.out]; exact HS1.out.ext HX3.out, Chg.of_ext (HX.out.trans HX3.out)⟩
  | false =>
  have HRE4 := Lib.hid (HRE3.out.trans (if_neg (by rw [h1]; decide)))
  have HI := Lib.hid (is_c p.s epoch false h1)
  clear h1 HRE3
  go_wp2_with fail
  refine (HI.out _ _).mono ?_
  rintro e3 w3 ⟨rfl, hx3⟩
  obtain ⟨⟨k0, k1, k2, k3, k3'⟩, -⟩ := HC.out w3 hx3
  have HX3 := Lib.hid (HX.out.trans hx3)
  have HS3 := Lib.hid (HS1.out.ext hx3)
  have HXX := Lib.hid hx3
  clear hx3 HI HS1
  obtain ⟨U, hU⟩ : ∃ U, U = usedJ S.jobs := ⟨_, rfl⟩
  have HUL : Hid (U ≤ 1000000) := Lib.hid (by rw [hU]; exact HU.out)
  have K1 : Hid (∀ W, Ext w3 W → Calls Try.prog 18 #[.pointer (some ⟨b, 0, none⟩)] W fun e w' => e = .returned (.int .i64 (U : Int)) ∧ Ext w3 w') := Lib.hid fun W hW => by
    have h9 := HU.out
    refine (Used_any N b S W (HS3.out.ext hW) HK.out (by omega)).mono ?_
    rintro e w' ⟨rfl, hh⟩
    exact ⟨by rw [hU], hW.trans hh⟩
  have HCS : Hid (∀ W, Ext w3 W → W.cell? ⟨b, o + 3, none⟩ = some (.slice As ns cs) ∧ W.cell? ⟨b, 0, none⟩ = some (.int .i64 S.room)) := Lib.hid fun W hW => by
    have h5 := HC.out W (HXX.out.trans hW)
    have h6 := HS3.out.ext hW
    obtain ⟨lp, -, hb, -⟩ := h6.out
    exact ⟨h5.1.2.2.2.1, hb.cell 0⟩
  rw [← hU] at HRE4
  clear hU
  have hw1 : IntKind.i64.wrap ((U : Int) - (ns : Int)) = (U : Int) - (ns : Int) := IntWalk.i64_in _ (by have := HUL.out; have := HSL.out; omega)
  obtain ⟨M, hM⟩ : ∃ M, M = (U : Int) - (ns : Int) + (nd : Int) := ⟨_, rfl⟩
  have HM := Lib.hid hM
  have hw2 : IntKind.i64.wrap ((U : Int) - (ns : Int) + (nd : Int)) = M := by rw [hM]; exact IntWalk.i64_in _ (by have := HUL.out; have := HSL.out; have := HD.out; omega)
  rw [← hM] at HRE4
  clear hM k0 k1 k2 k3 k3' s1
  have hge : Ext w3 w3 := Ext.refl w3
  go_wp2_with fail
  go_region_held3 (fun W => W.cell? ⟨b, o + 3, none⟩ = some (.slice As ns cs) ∧ W.cell? ⟨b, 0, none⟩ = some (.int .i64 S.room)) (first | exact HCS.out _ y1 | exact HCS.out _ (Ext.refl _) | exact HCS.out _ (ext_drew11 (Ext.refl _)) | go_keep) (first | (go_at_call 18; (first | (with_reducible refine (K1.out _ (Ext.refl w3)).mono ?_) | (with_reducible refine (K1.out _ (ext_drew11 (Ext.refl w3))).mono ?_)); rintro e4 w4 ⟨rfl, y1⟩))
  have HX4 := Lib.hid (HX3.out.trans y1)
  have HX14 := Lib.hid (HXX.out.trans y1)
  have HS4 := Lib.hid (HS3.out.ext y1)
  clear y1 HCS K1 HS3 HX3 HXX hw1 hw2 hge
  by_cases c8 : S.room < M
  · have d8 : decide (S.room < M) = true := decide_eq_true c8
    have HE : Hid (R = (3, S)) := Lib.hid (HRE4.out.trans (if_pos c8))
    clear c8
    rw [d8]
    go_wp2
    go_ret
    exact ⟨by rw [HE.out]; rfl, by rw [HE.out]; exact HS4.out, Chg.of_ext HX4.out⟩
  have d8 : decide (S.room < M) = false := decide_eq_false c8
  have HE : Hid (R = (0, { setJ S job ⟨p.c, ⟨epoch, d⟩⟩ with writes := S.writes + 1 })) := Lib.hid (by rw [HRE4.out, if_neg c8])
  have HCN : Hid (Calls Try.prog 58 #[.slice A nd c] w4 fun e w' => ∃ v', e = .returned v' ∧ Grew w4.heap.size 5 (.slice none 0 0) w4 (d.map B) v' w') := Lib.hid (by
    have h1 := HR.out.ext HX4.out
    rw [← HND.out] at h1
    exact Clone_any d _ w4 h1 (by have := HD.out; rw [HND.out] at this; omega))
  clear c8 HRE4
  rw [d8]
  go_wp2_with fail
  refine HCN.out.mono ?_
  rintro e5 w5 ⟨v5, rfl, hg5⟩
  have hv5 := RdF.made (HIN.out.ext HX4.out) hg5
  obtain ⟨A5, c5, hv⟩ := own_slice hg5.1
  rw [List.length_map] at hv
  subst hv
  have hx5 := hg5.ext
  have hs5 := HS4.out.ext hx5
  obtain ⟨h6, hc6⟩ := hs5.put2 HK.out HJT.out epoch d _ hv5 rfl
  rw [← HOG.out, ← HPP.out] at h6
  rw [← HOG.out] at hc6
  obtain ⟨lp5, -, hb5, -⟩ := hs5.out
  have f2 := hb5.frozen (o + 2)
  have f3 := hb5.frozen (o + 3)
  have f3' := hb5.frozen (o + 2 + 1)
  obtain ⟨⟨k0, k1, k2, k3, k3'⟩, -⟩ := HC.out w5 (HX14.out.trans hx5)
  have H6 := Lib.hid h6
  have HC6 := Lib.hid hc6
  have HX5 := Lib.hid (HX4.out.trans hx5)
  clear h6 hc6 hx5 hs5 hb5 hv5 hg5 HCN
  have HOK : Hid (OkS (setJ S job ⟨p.c, ⟨epoch, d⟩⟩)) := Lib.hid (by
    have h9 := HK.out.stage t job epoch d
    rw [← HRR.out, HE.out] at h9
    exact ⟨h9.len, h9.each, h9.room, h9.term⟩)
  have HWR : Hid ((setJ S job ⟨p.c, ⟨epoch, d⟩⟩).writes = S.writes) := Lib.hid (setJ_room _ _ _).2.2
  go_wp2_with fail
  refine (Add_any N b (setJ S job ⟨p.c, ⟨epoch, d⟩⟩) _ H6.out HOK.out (by rw [HWR.out]; exact HW.out.1) (by rw [HWR.out]; exact HW.out.2)).mono ?_
  rintro e6 w6 ⟨rfl, rfl⟩
  have h7 := H6.out.count HOK.out (S.writes + 1)
  have HC7 := Lib.hid ((Chg.of_ext HX5.out).trans (HC6.out.set1 98 (.int .i64 (S.writes + 1))) (fun _ _ h => h))
  have H7 := Lib.hid h7
  clear h7
  rw [HWR.out]
  go_wp2
  go_ret
  refine ⟨by rw [HE.out]; rfl, by rw [HE.out]; exact H7.out, HC7.out⟩

end Go.Proofs.Ytdijinboopdheaa

/- Package store: a new store; what a nil one answers. -/
namespace Go.Proofs.Ytdijinboopdheaa
open Go.RowKit

theorem soC_new (r : Int) : Try.zeroCells94.setIfInBounds 0 (.int .i64 r) = (soC r 0 (List.replicate 24 zLp) 0).toArray := by kernel_rfl

set_option maxRecDepth 100000 in
theorem New_any (room : Int) (w : World) :
    Calls Try.prog 21 #[.int .i64 room] w fun e w' => e = .returned (.pointer (some ⟨w.heap.size, 0, none⟩)) ∧ Ext w w' ∧ w.heap.size < w'.heap.size ∧
      ∀ N : Fp, N.isIn w' → N w.heap.size → SoAt N w' w.heap.size (newS room) := by
  go_enter Try.func21, Try.ntmps21
  go_wp2
  go_ret
  refine ⟨rfl, (Below.refl _ _).alloc (Nat.le_refl _) _, by simp, fun N hN hg => ⟨⟨List.replicate 24 zLp, rfl, ?_, fun x hx => by rw [List.eq_of_mem_replicate hx]; exact zLp_rd _ _⟩, hN, hg⟩⟩
  rw [soC_new]
  exact Blk.new _ _ _

/-! A nil store. -/
theorem of_nil (job : Int) (w : World) :
    Calls Try.prog 56 #[.pointer none, .int .i64 job] w fun e w' => ∃ b, e = .returned (.pointer (some ⟨b, 0, none⟩)) ∧ Ext w w' ∧ w.heap.size ≤ b ∧ Blk w' b 91 #[.int .i64 0, .slice none 0 0, .int .i64 0, .slice none 0 0] := by
  go_enter Try.func56, Try.ntmps56
  go_wp2
  go_ret
  exact ⟨_, rfl, (Below.refl _ _).alloc (Nat.le_refl _) _, Nat.le_refl _, Blk.new _ _ _⟩
theorem Fence_nil (t : Int) (w : World) : Calls Try.prog 12 #[.pointer none, .int .i64 t] w fun e w' => e = .returned (.tuple #[]) ∧ Ext w w' := by
  go_enter Try.func12, Try.ntmps12
  go_wp2
  go_end0
  exact ⟨rfl, Ext.refl _⟩
theorem Term_nil (w : World) : Calls Try.prog 19 #[.pointer none] w fun e w' => e = .returned (.int .i64 0) ∧ Ext w w' := by
  go_enter Try.func19, Try.ntmps19
  go_wp2
  go_ret
  exact ⟨rfl, Ext.refl _⟩
theorem Writes_nil (w : World) : Calls Try.prog 20 #[.pointer none] w fun e w' => e = .returned (.int .i64 0) ∧ Ext w w' := by
  go_enter Try.func20, Try.ntmps20
  go_wp2
  go_ret
  exact ⟨rfl, Ext.refl _⟩
theorem Used_nil (w : World) : Calls Try.prog 18 #[.pointer none] w fun e w' => e = .returned (.int .i64 0) ∧ Ext w w' := by
  go_enter Try.func18, Try.ntmps18
  go_wp2
  go_ret
  exact ⟨rfl, Ext.refl _⟩
theorem Stage_nil (t job e : Int) (v : Value) (w : World) : Calls Try.prog 15 #[.pointer none, .int .i64 t, .int .i64 job, .int .i64 e, v] w fun e w' => e = .returned (.int .i64 1) ∧ Ext w w' := by
  go_enter Try.func15, Try.ntmps15
  go_wp2
  go_ret
  exact ⟨rfl, Ext.refl _⟩
theorem Commit_nil (job e : Int) (w : World) : Calls Try.prog 16 #[.pointer none, .int .i64 job, .int .i64 e] w fun e w' => e = .returned (.int .i64 1) ∧ Ext w w' := by
  go_enter Try.func16, Try.ntmps16
  go_wp2
  go_ret
  exact ⟨rfl, Ext.refl _⟩
theorem Counts_nil (job : Int) (w : World) : Calls Try.prog 17 #[.pointer none, .int .i64 job] w fun e w' => e = .returned (.int .i64 0) ∧ Ext w w' := by
  go_enter Try.func17, Try.ntmps17
  go_wp2_with fail
  refine (of_nil job w).mono ?_
  rintro e1 w1 ⟨b, rfl, hx, -, hb⟩
  have c0 : w1.cell? ⟨b, 0, none⟩ = some (.int .i64 0) := hb.cell 0
  have HX := Lib.hid hx
  clear hx hb
  go_wp2
  go_ret
  exact ⟨rfl, HX.out⟩
theorem End_nil (job : Int) (w : World) : Calls Try.prog 13 #[.pointer none, .int .i64 job] w fun e w' => e = .returned (.tuple #[]) ∧ Ext w w' := by
  go_enter Try.func13, Try.ntmps13
  go_wp2_with fail
  refine (of_nil job w).mono ?_
  rintro e1 w1 ⟨b, rfl, hx, hlb, hb⟩
  have c0 : w1.cell? ⟨b, 0, none⟩ = some (.int .i64 0) := hb.cell 0
  have c1 : w1.cell? ⟨b, 1, none⟩ = some (.slice none 0 0) := hb.cell 1
  have c2 : w1.cell? ⟨b, 2, none⟩ = some (.int .i64 0) := hb.cell 2
  have c3 : w1.cell? ⟨b, 3, none⟩ = some (.slice none 0 0) := hb.cell 3
  have f0 := hb.frozen 0
  have f1 := hb.frozen 1
  have f2 := hb.frozen 2
  have f3 := hb.frozen 3
  have HX := Lib.hid (fun (W : World) (hc : Chg (fun k => k = b) w1 W) => hc.ext hx (fun k hk => by rw [hk]; exact hlb))
  clear hx hb hlb
  go_wp2
  go_end0
  exact ⟨rfl, HX.out _ (((((Chg.refl _ _).set1 _ _).set1 _ _).set1 _ _).set1 _ _)⟩
theorem Get_nil (job e : Int) (w : World) : Calls Try.prog 14 #[.pointer none, .int .i64 job, .int .i64 e] w fun x w' => x = .returned (.tuple #[.slice none 0 0, .bool false]) ∧ Ext w w' := by
  go_enter Try.func14, Try.ntmps14
  go_wp2_with fail
  refine (of_nil job w).mono ?_
  rintro e1 w1 ⟨b, rfl, hx, -, hb⟩
  have c0 : w1.cell? ⟨b, 0, none⟩ = some (.int .i64 0) := hb.cell 0
  have c1 : w1.cell? ⟨b, 1, none⟩ = some (.slice none 0 0) := hb.cell 1
  have HX := Lib.hid hx
  have HB := Lib.hid hb
  clear hx hb
  go_wp2_with fail
  refine (is_c zCk e false (by simp [isC, zCk]) (.slice none 0 0) w1).mono ?_
  rintro e2 w2 ⟨rfl, hx2⟩
  have hb := HB.out.ext hx2
  have c2 : w2.cell? ⟨b, 2, none⟩ = some (.int .i64 0) := hb.cell 2
  have c3 : w2.cell? ⟨b, 3, none⟩ = some (.slice none 0 0) := hb.cell 3
  have HX2 := Lib.hid (HX.out.trans hx2)
  clear hx2 hb
  go_wp2_with fail
  refine (is_c zCk e false (by simp [isC, zCk]) (.slice none 0 0) w2).mono ?_
  rintro e3 w3 ⟨rfl, hx3⟩
  have HX3 := Lib.hid (HX2.out.trans hx3)
  clear hx3
  go_wp2
  go_ret2
  exact ⟨rfl, HX3.out⟩

end Go.Proofs.Ytdijinboopdheaa
