/- Texts that the proof of K rests on, one behind the other. -/
import Derived.Test.YtkkmldoohokdfaaKQ14
import Derived.Test.YtkkmldoohokdfaaRows

/- The reference's store: Commit. -/
namespace Go.Proofs.Ytkkmldoohokdfaa
open Go.RowKit

theorem RsX.commit_fin {F : Fp} {w W7 w4 w7 : World} {h n4 nx c4 cx : Nat} {R : RsP} {job : Int} {lp4 : List PtL} {A4 Ax : Option Addr} {x : PtL} {v7 : Value} (hF : F.isIn w) (hh : F h) (hx7 : Ext w W7) (hc4 : Chg (fun k => k = h) W7 w4) (hF4 : (F.since W7 w4).isIn w4) (h4 : RsX (F.since W7 w4) w4 h (endR R job) lp4 (.slice A4 n4 c4)) (hnv : ∀ q, (Value.slice A4 n4 c4).ownBlock = some q → W7.heap.size ≤ q) (hn4 : n4 = lp4.length)
    (hg : WayG (.slice A4 n4 c4) w4.drew 93 4 (n4 + 1) (lp4.flatMap PtL.cells ++ [.int .i64 x.p.job, .int .i64 x.p.ep, .bool true, .slice Ax nx cx]) v7 w7) {b0 : Value} (hxd : RdF (fun k => F k ∧ k ≠ h ∧ b0.ownBlock ≠ some k) w4 (.slice Ax nx cx) (x.p.da.map B)) :
    RsF (F.since w (w7.setCell ⟨h, 2, none⟩ v7)) (w7.setCell ⟨h, 2, none⟩ v7) h { endR R job with L := (endR R job).L ++ [{ x.p with cnt := true }] } ∧ Chg F w (w7.setCell ⟨h, 2, none⟩ v7) := by
  subst hn4
  have hxd' : RdF (fun k => (F.since W7 w4) k ∧ k ≠ h ∧ (Value.slice A4 lp4.length c4).ownBlock ≠ some k) w4.drew (.slice Ax nx cx) (x.p.da.map B) :=
    (hxd.mono (fun k hk => ⟨.inl hk.1, hk.2.1, fun e => by have h1 := hnv k e; have h2 := hF k hk.1; have h3 := hx7.size; omega⟩)).chg (Chg.of_ext (F := fun _ => False) (Below.drewN' (Ext.refl w4) 1)) (fun _ _ h => h)
  obtain ⟨p1, p2⟩ := h4.push (x := ⟨{ x.p with cnt := true }, .slice Ax nx cx⟩) hF4 (.inl hh) (Below.drewN' (Ext.refl w4) 1) hg hxd'
  have s4 := hc4.size
  have s7 : w4.heap.size ≤ w7.heap.size := hg.grown.size
  refine RsF.fin (w4 := w7) hF hh hx7 (by simp) (p1.mono (fun k hk => ?_)) ((hc4.mono (fun k _ hk => by have hk : k = h := hk; rw [hk]; exact hh)).trans p2 (fun k hk hh2 => ?_))
  · rcases hk with (hk | hk) | hk
    · exact .inl hk
    · exact .inr ⟨hk.1, by omega⟩
    · exact .inr ⟨by omega, hk.2⟩
  · rcases hh2 with hh2 | hh2
    · exact hh2
    · omega

set_option maxRecDepth 100000 in
set_option maxHeartbeats 4000000 in
theorem XCommit_any (F : Fp) (h : Nat) (R : RsP) (job ep : Int) (w : World) (r : RsF F w h R) (hl : R.L.length ≤ 1000) : Calls Try.prog 51 #[.pointer (some ⟨h, 0, none⟩), .int .i64 job, .int .i64 ep] w fun e w' => e = .returned (.int .i64 (commitR R job ep).1) ∧ RsF (F.since w w') w' h (commitR R job ep).2 ∧ Chg F w w' := by
  have HR := Lib.hid r
  have HLS := Lib.hid hl
  have HE2 := Lib.hid (REpoch_any (fun k => k = h) h R job true w r.view hl)
  have HF := Lib.hid (RFind_any (fun k => k = h) h R job false w r.view hl)
  obtain ⟨lp, v, hi⟩ := r.out
  have HI := Lib.hid hi
  obtain ⟨Q, hQ⟩ : ∃ Q, Q = commitR R job ep := ⟨_, rfl⟩
  rw [← hQ]
  unfold commitR at hQ
  clear r hl hi
  go_enter Try.func51, Try.ntmps51
  by_cases c0 : 0 < ep
  · have d0 : decide ((0 : Int) < ep) = true := decide_eq_true c0
    obtain ⟨ec, hec⟩ : ∃ n, n = epochR R job true := ⟨_, rfl⟩
    rw [← hec] at hQ HE2
    clear hec
    go_wp2_with fail
    refine HE2.out.mono ?_
    rintro e0 w0 ⟨rfl, rfl⟩
    clear HE2 d0
    by_cases c1 : ec = ep
    · have d1 : (ec == ep) = true := by rw [c1]; simp
      have HQ : Hid (Q = (0, R)) := Lib.hid (hQ.trans (if_pos ⟨c0, c1⟩))
      clear c0 c1 hQ
      go_wp2
      go_ret
      exact ⟨by rw [HQ.out]; rfl, by rw [HQ.out]; exact HR.out.grow (Ext.refl _)⟩
    · have d2 : (ec == ep) = false := by simpa using c1
      rw [if_neg (fun hc => c1 hc.2)] at hQ
      clear c0 c1
      cases hf : R.L.findIdx? (hitP job false) with
      | none =>
        have h2 : findR R.L (hitP job false) = -1 := by unfold findR; rw [hf]
        have HQ : Hid (Q = (4, R)) := Lib.hid (by rw [hQ, List.find?_eq_none.2 (fun y hy => by rw [List.findIdx?_eq_none_iff.1 hf y hy]; decide)])
        rw [h2] at HF
        clear hf h2 hQ
        go_wp2_with fail
        refine HF.out.mono ?_
        rintro e1 w1 ⟨rfl, rfl⟩
        go_wp2
        go_ret
        exact ⟨by rw [HQ.out]; rfl, by rw [HQ.out]; exact HR.out.grow (Ext.refl _)⟩
      | some k =>
        obtain ⟨hk, hq, hn⟩ := List.findIdx?_eq_some_iff_getElem.1 hf
        have hfd := findR_at (L := R.L) (k := k) (List.getElem?_eq_getElem hk) hq (fun j y hj hy => by have := hn j hj; obtain ⟨_, rfl⟩ := List.getElem?_eq_some_iff.1 hy; simpa using this)
        rw [hfd.1] at HF
        have hkl : k < lp.length := by have := HI.out.eq; rw [← this, List.length_map] at hk; exact hk
        obtain ⟨x, hx⟩ : ∃ x, lp[k]? = some x := ⟨_, List.getElem?_eq_getElem hkl⟩
        have hxp : R.L[k] = x.p := by
          have h3 : R.L[k]? = some x.p := by rw [← HI.out.eq, List.getElem?_map, hx]; rfl
          exact Option.some.inj ((List.getElem?_eq_getElem hk).symm.trans h3)
        rw [hfd.2, hxp] at hQ
        dsimp only at hQ
        obtain ⟨n, hnn⟩ : ∃ n, n = lp.length := ⟨_, rfl⟩
        have HI' := HI.out
        obtain ⟨A, c, rfl, -, -, -⟩ := HI'.row.slice_
        rw [← hnn] at HI'
        obtain ⟨bL, rfl, hbL, hbF, a0, a1, a2, a3⟩ := HI'.row.at_ hx
        obtain ⟨Ax, cx, hv, -⟩ := HI'.dat x (List.mem_of_getElem? hx)
        rw [List.length_map] at hv
        have HXD := Lib.hid (HI'.dat x (List.mem_of_getElem? hx))
        rw [hv] at a3 HXD
        have x1 : (0 : Int) ≤ (k : Int) ∧ (k : Int) < (n : Int) := by omega
        have d1 : decide ((k : Int) < 0) = false := decide_eq_false (by omega)
        have c2 : w.cell? ⟨h, 2, none⟩ = some (.slice (some ⟨bL, 0, none⟩) n c) := HI'.blk.cell 2
        obtain ⟨xj, hxj⟩ : ∃ j, j = x.p.job := ⟨_, rfl⟩
        obtain ⟨xe, hxe⟩ : ∃ j, j = x.p.ep := ⟨_, rfl⟩
        obtain ⟨xc, hxc⟩ : ∃ j, j = x.p.cnt := ⟨_, rfl⟩
        obtain ⟨nx, hnx⟩ : ∃ j, j = x.p.da.length := ⟨_, rfl⟩
        rw [← hxj] at a0
        rw [← hxe] at a1
        rw [← hxc] at a2
        rw [← hnx] at a3 HXD
        have HXP := Lib.hid (And.intro hxj (And.intro hxe (And.intro hxc hnx)))
        clear hf hk hq hn hfd hkl hx hxp hnn HI' hv hxj hxe hxc hnx
        go_wp2_with fail
        refine HF.out.mono ?_
        rintro e1 w1 ⟨rfl, rfl⟩
        clear HF
        by_cases ce : xe = ep
        · have g1 : (xe != ep) = false := by rw [ce]; simp
          have HQ := Lib.hid (hQ.trans (if_pos (HXP.out.2.1.symm.trans ce)))
          clear hQ ce
          obtain ⟨W6, hW6⟩ : ∃ W, W = w.alloc (.cells #[.int .i64 xj, .int .i64 xe, .bool xc, .slice Ax nx cx] 93) := ⟨_, rfl⟩
          have HX6 := Lib.hid (show Ext w W6 by rw [hW6]; exact Ext.alloc_ _ _)
          have HB6 : Hid (Blk W6 w.heap.size 93 #[.int .i64 xj, .int .i64 xe, .bool xc, .slice Ax nx cx]) := Lib.hid (by rw [hW6]; exact Blk.new _ _ _)
          go_upto_region 7 with (fail)
          rw [← hW6]
          clear hW6 a0 a1 a2 a3 c2 x1
          obtain ⟨W7, hW7⟩ : ∃ W, W = W6.setCell ⟨w.heap.size, 2, none⟩ (.bool true) := ⟨_, rfl⟩
          have hc7 : Chg (fun q => q = w.heap.size) W6 W7 := by rw [hW7]; exact (Chg.refl _ _).setCell (fun _ => rfl)
          have HX7 := Lib.hid (hc7.ext HX6.out (fun q hq => by have hq : q = w.heap.size := hq; omega))
          have HB7 : Hid (Blk W7 w.heap.size 93 #[.int .i64 xj, .int .i64 xe, .bool true, .slice Ax nx cx]) := Lib.hid (by rw [hW7]; exact HB6.out.set_ 2 _)
          have p2 := HB6.out.cell 2
          have f2 := HB6.out.frozen 2
          go_upto_region 8 with (fail)
          (try rw [← hW7])
          clear hW7 p2 f2 hc7
          have HE := Lib.hid (XEnd_own F h R job W7 (HR.out.ext HX7.out) HLS.out)
          have HXD7 := Lib.hid (HXD.out.chg (Chg.of_ext (F := fun _ => False) HX7.out) (fun _ _ h => h))
          have HNB : Hid (w.heap.size ≠ h) := Lib.hid (by have := HR.out.lt; omega)
          go_wp2_with fail
          refine HE.out.mono ?_
          rintro e4 w4 ⟨lp4, v4, rfl, h4, hnv, hc4⟩
          obtain ⟨A4, c4, rfl, -, -, -⟩ := h4.row.slice_
          obtain ⟨n4, hn4⟩ : ∃ n, n = lp4.length := ⟨_, rfl⟩
          rw [← hn4] at h4 hnv
          have H4 := Lib.hid h4
          have HNV := Lib.hid hnv
          have HC4 := Lib.hid hc4
          have HN4 := Lib.hid hn4
          have HB4 : Hid (Blk w4 w.heap.size 93 #[.int .i64 xj, .int .i64 xe, .bool true, .slice Ax nx cx]) := Lib.hid ((hc4.block _ HB7.out.lt HNB.out).trans HB7.out)
          have HXD4 := Lib.hid (HXD7.out.chg hc4 (fun q hq e => hq.2.1 e))
          have HLN4 : Hid (n4 ≤ 1000) := Lib.hid (by have h5 := congrArg List.length h4.eq; rw [List.length_map, ← hn4] at h5; have h6 : (endR R job).L.length ≤ R.L.length := Nat.le_trans (List.length_filter_le _ _) (List.length_filter_le _ _); have := HLS.out; omega)
          have HF4 := Lib.hid ((HR.out.isIn.ext HX7.out).since hc4.size)
          clear h4 hnv hc4 hn4 HE
          have HDR : Hid (Ext w4 w4.drew) := Lib.hid (Below.drewN' (Ext.refl w4) 1)
          have HBD := Lib.hid (HB4.out.ext HDR.out)
          have HID := Lib.hid (H4.out.chg (Chg.of_ext (F := fun _ => False) HDR.out) (fun _ _ h => h) (.inl HR.out.here))
          go_upto_region 9 with (fail)
          have c0 : w4.drew.cell? ⟨h, 2, none⟩ = some (.slice A4 n4 c4) := HID.out.blk.cell 2
          obtain ⟨wa, hwa⟩ : ∃ W, W = (w4.alloc (.cells #[.int .i64 xj, .int .i64 xe, .bool true, .slice Ax nx cx] 93)).drew := ⟨_, rfl⟩
          have HWA := Lib.hid hwa
          have HWB : Hid (wa = w4.drew.alloc (.cells #[.int .i64 xj, .int .i64 xe, .bool true, .slice Ax nx cx] 93)) := Lib.hid (by rw [hwa]; rfl)
          have HXA : Hid (Ext w4.drew wa) := Lib.hid (by rw [HWB.out]; exact Ext.alloc_ _ _)
          have c0b := HXA.out.cellOf c0 (HID.out.blk.lt)
          clear hwa
          refine held_begin (by kernel_rfl) ?_
          refine held_more (S' := fun W' : World => Blk W' w.heap.size 93 #[.int .i64 xj, .int .i64 xe, .bool true, .slice Ax nx cx]) (fun _ _ => True.intro) ?_
          have hSx : (fun W' : World => Blk W' w.heap.size 93 #[.int .i64 xj, .int .i64 xe, .bool true, .slice Ax nx cx]) w4.drew := HBD.out
          refine held_take (i := 0) (v := ?_) rfl (by kernel_rfl) (by kernel_rfl) (by kernel_rfl) (by rfl) (by first | assumption | exact True.intro) ?_ ?_
          rotate_left
          · (intro W hSw; go_simp; (try with_reducible rfl))
          try simp only [Act.put, List.setIfInBounds_toArray, List.set_cons_zero, List.set_cons_succ]
          refine held_take (i := 1) (v := ?_) rfl (by kernel_rfl) (by kernel_rfl) (by kernel_rfl) (by rfl) (by first | assumption | exact True.intro) ?_ ?_
          rotate_left
          · (intro W hSw; go_simp; (try with_reducible rfl))
          try simp only [Act.put, List.setIfInBounds_toArray, List.set_cons_zero, List.set_cons_succ]
          refine held_take (i := 2) (v := ?_) rfl (by kernel_rfl) (by kernel_rfl) (by kernel_rfl) (by rfl) (by first | assumption | exact True.intro) ?_ ?_
          rotate_left
          · (intro W hSw; go_simp; (try with_reducible rfl))
          try simp only [Act.put, List.setIfInBounds_toArray, List.set_cons_zero, List.set_cons_succ]
          refine held_take (i := 3) (v := ?_) rfl (by kernel_rfl) (by kernel_rfl) (by kernel_rfl) (by rfl) (by first | assumption | exact True.intro) ?_ ?_
          rotate_left
          · (intro W hSw; go_simp; (try with_reducible rfl))
          try simp only [Act.put, List.setIfInBounds_toArray, List.set_cons_zero, List.set_cons_succ]
          refine held_take (i := 5) (v := ?_) rfl (by kernel_rfl) (by kernel_rfl) (by kernel_rfl) (by rfl) (by first | assumption | exact True.intro) ?_ ?_
          rotate_left
          · (intro W hSw; have k0 := hSw.cell 0; have k1 := hSw.cell 1; have k2 := hSw.cell 2; have k3 := hSw.cell 3; go_simp; (try with_reducible rfl))
          try simp only [Act.put, List.setIfInBounds_toArray, List.set_cons_zero, List.set_cons_succ]
          refine held_two (i := 4) (j := 6) (by kernel_rfl) rfl rfl (fun K hK => ?_) (fun K hK => ?_)
          · clear hSx
            go_simp
            refine hK _ _ (HBD.out) (fun hSx => ?_)
            clear hK K
            try simp only [Act.put, List.setIfInBounds_toArray, List.set_cons_zero, List.set_cons_succ]
            clear hSx
            refine held_op (i := 6) (by kernel_rfl) rfl (fun K hK => ?_)
            go_simp
            rw [← HWA.out]
            refine hK _ _ (HBD.out.ext HXA.out) (fun hSx => ?_)
            clear hK K
            try simp only [Act.put, List.setIfInBounds_toArray, List.set_cons_zero, List.set_cons_succ]
            rw [HWB.out]
            clear hSx
            refine held_op (i := 7) (by kernel_rfl) rfl (fun K hK => ?_)
            refine step_pushW (F := fun k => (F.since W7 w4) k ∧ k ≠ h) _ _ 44 rfl (by rfl) 93 (.agg #[.int .i64 0, .int .i64 0, .bool false, .slice none 0 0]) 4 48 Try.underlying44 (by kernel_rfl) (by simp [Value.cells]) (by omega) _ _ _ (show WayF (fun k => (F.since W7 w4) k ∧ k ≠ h) w4.drew 93 4 (.slice A4 n4 c4) n4 (lp4.flatMap PtL.cells) by have h1 := HID.out.row; unfold PsF at h1; rw [← HN4.out] at h1; exact h1) rfl _ rfl (by simp [Value.oneCell']) rfl rfl (by have := HLN4.out; unfold maxLen; omega) (by have := HLN4.out; omega) ?_
            intro v7 w7 hg7
            have HG7 : Hid (WayG (.slice A4 n4 c4) w4.drew 93 4 (n4 + 1) (lp4.flatMap PtL.cells ++ [.int .i64 xj, .int .i64 xe, .bool true, .slice Ax nx cx]) v7 w7) := Lib.hid hg7
            clear hg7
            obtain ⟨A7, c7, rfl⟩ := own_slice HG7.out.own
            have HB8 : Hid (Blk w7 w.heap.size 93 #[.int .i64 xj, .int .i64 xe, .bool true, .slice Ax nx cx]) := Lib.hid (HBD.out.grown HG7.out.grown (fun e => by have h1 := HNV.out _ e.symm; have h2 := HB7.out.lt; omega))
            have HN7 := Lib.hid (HID.out.blk.grown HG7.out.grown (fun e => (HID.out.row.inF h e.symm).2 rfl))
            refine hK _ _ (HB8.out) (fun hSx => ?_)
            clear hK K
            try simp only [Act.put, List.setIfInBounds_toArray, List.set_cons_zero, List.set_cons_succ]
            refine held_take (i := 8) (v := ?_) rfl (by kernel_rfl) (by kernel_rfl) (by kernel_rfl) (by rfl) (by first | assumption | exact True.intro) ?_ ?_
            rotate_left
            · (intro W hSw; go_simp; (try with_reducible rfl))
            try simp only [Act.put, List.setIfInBounds_toArray, List.set_cons_zero, List.set_cons_succ]
            refine held_take (i := 9) (v := ?_) rfl (by kernel_rfl) (by kernel_rfl) (by kernel_rfl) (by rfl) (by first | assumption | exact True.intro) ?_ ?_
            rotate_left
            · (intro W hSw; go_simp; (try with_reducible rfl))
            try simp only [Act.put, List.setIfInBounds_toArray, List.set_cons_zero, List.set_cons_succ]
            clear hSx
            refine held_op (i := 10) (by kernel_rfl) rfl (fun K hK => ?_)
            have c07 := HN7.out.cell 2
            have f07 := HN7.out.frozen 2
            go_simp
            refine hK _ _ (HB8.out.far (by exact HNB.out) _) (fun hSx => ?_)
            clear hK K
            try simp only [Act.put, List.setIfInBounds_toArray, List.set_cons_zero, List.set_cons_succ]
            refine wpAnyH_done (by kernel_rfl) ?_ _
            refine NoPanic.normal ?_
            clear c0 c0b c07 f07 hSx
            go_wp2
            go_ret
            exact ⟨by rw [HQ.out]; rfl, by rw [HQ.out]; exact RsX.commit_fin HR.out.isIn HR.out.here HX7.out HC4.out HF4.out H4.out HNV.out HN4.out (x := x) (by rw [← HXP.out.1, ← HXP.out.2.1]; exact HG7.out) HXD4.out⟩
          · clear hSx
            have hwa := HWA.out
            go_simp
            rw [← hwa]
            clear hwa
            refine hK _ _ (HBD.out.ext HXA.out) (fun hSx => ?_)
            clear hK K
            try simp only [Act.put, List.setIfInBounds_toArray, List.set_cons_zero, List.set_cons_succ]
            clear hSx
            refine held_op (i := 4) (by kernel_rfl) rfl (fun K hK => ?_)
            go_simp
            refine hK _ _ (HBD.out.ext HXA.out) (fun hSx => ?_)
            clear hK K
            try simp only [Act.put, List.setIfInBounds_toArray, List.set_cons_zero, List.set_cons_succ]
            rw [HWB.out]
            clear hSx
            refine held_op (i := 7) (by kernel_rfl) rfl (fun K hK => ?_)
            refine step_pushW (F := fun k => (F.since W7 w4) k ∧ k ≠ h) _ _ 44 rfl (by rfl) 93 (.agg #[.int .i64 0, .int .i64 0, .bool false, .slice none 0 0]) 4 48 Try.underlying44 (by kernel_rfl) (by simp [Value.cells]) (by omega) _ _ _ (show WayF (fun k => (F.since W7 w4) k ∧ k ≠ h) w4.drew 93 4 (.slice A4 n4 c4) n4 (lp4.flatMap PtL.cells) by have h1 := HID.out.row; unfold PsF at h1; rw [← HN4.out] at h1; exact h1) rfl _ rfl (by simp [Value.oneCell']) rfl rfl (by have := HLN4.out; unfold maxLen; omega) (by have := HLN4.out; omega) ?_
            intro v7 w7 hg7
            have HG7 : Hid (WayG (.slice A4 n4 c4) w4.drew 93 4 (n4 + 1) (lp4.flatMap PtL.cells ++ [.int .i64 xj, .int .i64 xe, .bool true, .slice Ax nx cx]) v7 w7) := Lib.hid hg7
            clear hg7
            obtain ⟨A7, c7, rfl⟩ := own_slice HG7.out.own
            have HB8 : Hid (Blk w7 w.heap.size 93 #[.int .i64 xj, .int .i64 xe, .bool true, .slice Ax nx cx]) := Lib.hid (HBD.out.grown HG7.out.grown (fun e => by have h1 := HNV.out _ e.symm; have h2 := HB7.out.lt; omega))
            have HN7 := Lib.hid (HID.out.blk.grown HG7.out.grown (fun e => (HID.out.row.inF h e.symm).2 rfl))
            refine hK _ _ (HB8.out) (fun hSx => ?_)
            clear hK K
            try simp only [Act.put, List.setIfInBounds_toArray, List.set_cons_zero, List.set_cons_succ]
            refine held_take (i := 8) (v := ?_) rfl (by kernel_rfl) (by kernel_rfl) (by kernel_rfl) (by rfl) (by first | assumption | exact True.intro) ?_ ?_
            rotate_left
            · (intro W hSw; go_simp; (try with_reducible rfl))
            try simp only [Act.put, List.setIfInBounds_toArray, List.set_cons_zero, List.set_cons_succ]
            refine held_take (i := 9) (v := ?_) rfl (by kernel_rfl) (by kernel_rfl) (by kernel_rfl) (by rfl) (by first | assumption | exact True.intro) ?_ ?_
            rotate_left
            · (intro W hSw; go_simp; (try with_reducible rfl))
            try simp only [Act.put, List.setIfInBounds_toArray, List.set_cons_zero, List.set_cons_succ]
            clear hSx
            refine held_op (i := 10) (by kernel_rfl) rfl (fun K hK => ?_)
            have c07 := HN7.out.cell 2
            have f07 := HN7.out.frozen 2
            go_simp
            refine hK _ _ (HB8.out.far (by exact HNB.out) _) (fun hSx => ?_)
            clear hK K
            try simp only [Act.put, List.setIfInBounds_toArray, List.set_cons_zero, List.set_cons_succ]
            refine wpAnyH_done (by kernel_rfl) ?_ _
            refine NoPanic.normal ?_
            clear c0 c0b c07 f07 hSx
            go_wp2
            go_ret
            exact ⟨by rw [HQ.out]; rfl, by rw [HQ.out]; exact RsX.commit_fin HR.out.isIn HR.out.here HX7.out HC4.out HF4.out H4.out HNV.out HN4.out (x := x) (by rw [← HXP.out.1, ← HXP.out.2.1]; exact HG7.out) HXD4.out⟩
        · have g1 : (xe != ep) = true := by simp only [bne_iff_ne, ne_eq]; exact ce
          have HQ : Hid (Q = (4, R)) := Lib.hid (hQ.trans (if_neg (fun hc => ce (HXP.out.2.1.trans hc))))
          clear hQ ce
          go_wp2
          go_ret
          exact ⟨by rw [HQ.out]; rfl, by rw [HQ.out]; exact HR.out.grow (Ext.refl _)⟩
  · have d0 : decide ((0 : Int) < ep) = false := decide_eq_false c0
    rw [if_neg (fun hc => c0 hc.1)] at hQ
    clear c0 HE2
    cases hf : R.L.findIdx? (hitP job false) with
    | none =>
      have h2 : findR R.L (hitP job false) = -1 := by unfold findR; rw [hf]
      have HQ : Hid (Q = (4, R)) := Lib.hid (by rw [hQ, List.find?_eq_none.2 (fun y hy => by rw [List.findIdx?_eq_none_iff.1 hf y hy]; decide)])
      rw [h2] at HF
      clear hf h2 hQ
      go_wp2_with fail
      refine HF.out.mono ?_
      rintro e1 w1 ⟨rfl, rfl⟩
      go_wp2
      go_ret
      exact ⟨by rw [HQ.out]; rfl, by rw [HQ.out]; exact HR.out.grow (Ext.refl _)⟩
    | some k =>
      obtain ⟨hk, hq, hn⟩ := List.findIdx?_eq_some_iff_getElem.1 hf
      have hfd := findR_at (L := R.L) (k := k) (List.getElem?_eq_getElem hk) hq (fun j y hj hy => by have := hn j hj; obtain ⟨_, rfl⟩ := List.getElem?_eq_some_iff.1 hy; simpa using this)
      rw [hfd.1] at HF
      have hkl : k < lp.length := by have := HI.out.eq; rw [← this, List.length_map] at hk; exact hk
      obtain ⟨x, hx⟩ : ∃ x, lp[k]? = some x := ⟨_, List.getElem?_eq_getElem hkl⟩
      have hxp : R.L[k] = x.p := by
        have h3 : R.L[k]? = some x.p := by rw [← HI.out.eq, List.getElem?_map, hx]; rfl
        exact Option.some.inj ((List.getElem?_eq_getElem hk).symm.trans h3)
      rw [hfd.2, hxp] at hQ
      dsimp only at hQ
      obtain ⟨n, hnn⟩ : ∃ n, n = lp.length := ⟨_, rfl⟩
      have HI' := HI.out
      obtain ⟨A, c, rfl, -, -, -⟩ := HI'.row.slice_
      rw [← hnn] at HI'
      obtain ⟨bL, rfl, hbL, hbF, a0, a1, a2, a3⟩ := HI'.row.at_ hx
      obtain ⟨Ax, cx, hv, -⟩ := HI'.dat x (List.mem_of_getElem? hx)
      rw [List.length_map] at hv
      have HXD := Lib.hid (HI'.dat x (List.mem_of_getElem? hx))
      rw [hv] at a3 HXD
      have x1 : (0 : Int) ≤ (k : Int) ∧ (k : Int) < (n : Int) := by omega
      have d1 : decide ((k : Int) < 0) = false := decide_eq_false (by omega)
      have c2 : w.cell? ⟨h, 2, none⟩ = some (.slice (some ⟨bL, 0, none⟩) n c) := HI'.blk.cell 2
      obtain ⟨xj, hxj⟩ : ∃ j, j = x.p.job := ⟨_, rfl⟩
      obtain ⟨xe, hxe⟩ : ∃ j, j = x.p.ep := ⟨_, rfl⟩
      obtain ⟨xc, hxc⟩ : ∃ j, j = x.p.cnt := ⟨_, rfl⟩
      obtain ⟨nx, hnx⟩ : ∃ j, j = x.p.da.length := ⟨_, rfl⟩
      rw [← hxj] at a0
      rw [← hxe] at a1
      rw [← hxc] at a2
      rw [← hnx] at a3 HXD
      have HXP := Lib.hid (And.intro hxj (And.intro hxe (And.intro hxc hnx)))
      clear hf hk hq hn hfd hkl hx hxp hnn HI' hv hxj hxe hxc hnx
      go_wp2_with fail
      refine HF.out.mono ?_
      rintro e1 w1 ⟨rfl, rfl⟩
      clear HF
      by_cases ce : xe = ep
      · have g1 : (xe != ep) = false := by rw [ce]; simp
        have HQ := Lib.hid (hQ.trans (if_pos (HXP.out.2.1.symm.trans ce)))
        clear hQ ce
        obtain ⟨W6, hW6⟩ : ∃ W, W = w.alloc (.cells #[.int .i64 xj, .int .i64 xe, .bool xc, .slice Ax nx cx] 93) := ⟨_, rfl⟩
        have HX6 := Lib.hid (show Ext w W6 by rw [hW6]; exact Ext.alloc_ _ _)
        have HB6 : Hid (Blk W6 w.heap.size 93 #[.int .i64 xj, .int .i64 xe, .bool xc, .slice Ax nx cx]) := Lib.hid (by rw [hW6]; exact Blk.new _ _ _)
        go_upto_region 7 with (fail)
        rw [← hW6]
        clear hW6 a0 a1 a2 a3 c2 x1
        obtain ⟨W7, hW7⟩ : ∃ W, W = W6.setCell ⟨w.heap.size, 2, none⟩ (.bool true) := ⟨_, rfl⟩
        have hc7 : Chg (fun q => q = w.heap.size) W6 W7 := by rw [hW7]; exact (Chg.refl _ _).setCell (fun _ => rfl)
        have HX7 := Lib.hid (hc7.ext HX6.out (fun q hq => by have hq : q = w.heap.size := hq; omega))
        have HB7 : Hid (Blk W7 w.heap.size 93 #[.int .i64 xj, .int .i64 xe, .bool true, .slice Ax nx cx]) := Lib.hid (by rw [hW7]; exact HB6.out.set_ 2 _)
        have p2 := HB6.out.cell 2
        have f2 := HB6.out.frozen 2
        go_upto_region 8 with (fail)
        (try rw [← hW7])
        clear hW7 p2 f2 hc7
        have HE := Lib.hid (XEnd_own F h R job W7 (HR.out.ext HX7.out) HLS.out)
        have HXD7 := Lib.hid (HXD.out.chg (Chg.of_ext (F := fun _ => False) HX7.out) (fun _ _ h => h))
        have HNB : Hid (w.heap.size ≠ h) := Lib.hid (by have := HR.out.lt; omega)
        go_wp2_with fail
        refine HE.out.mono ?_
        rintro e4 w4 ⟨lp4, v4, rfl, h4, hnv, hc4⟩
        obtain ⟨A4, c4, rfl, -, -, -⟩ := h4.row.slice_
        obtain ⟨n4, hn4⟩ : ∃ n, n = lp4.length := ⟨_, rfl⟩
        rw [← hn4] at h4 hnv
        have H4 := Lib.hid h4
        have HNV := Lib.hid hnv
        have HC4 := Lib.hid hc4
        have HN4 := Lib.hid hn4
        have HB4 : Hid (Blk w4 w.heap.size 93 #[.int .i64 xj, .int .i64 xe, .bool true, .slice Ax nx cx]) := Lib.hid ((hc4.block _ HB7.out.lt HNB.out).trans HB7.out)
        have HXD4 := Lib.hid (HXD7.out.chg hc4 (fun q hq e => hq.2.1 e))
        have HLN4 : Hid (n4 ≤ 1000) := Lib.hid (by have h5 := congrArg List.length h4.eq; rw [List.length_map, ← hn4] at h5; have h6 : (endR R job).L.length ≤ R.L.length := Nat.le_trans (List.length_filter_le _ _) (List.length_filter_le _ _); have := HLS.out; omega)
        have HF4 := Lib.hid ((HR.out.isIn.ext HX7.out).since hc4.size)
        clear h4 hnv hc4 hn4 HE
        have HDR : Hid (Ext w4 w4.drew) := Lib.hid (Below.drewN' (Ext.refl w4) 1)
        have HBD := Lib.hid (HB4.out.ext HDR.out)
        have HID := Lib.hid (H4.out.chg (Chg.of_ext (F := fun _ => False) HDR.out) (fun _ _ h => h) (.inl HR.out.here))
        go_upto_region 9 with (fail)
        have c0 : w4.drew.cell? ⟨h, 2, none⟩ = some (.slice A4 n4 c4) := HID.out.blk.cell 2
        obtain ⟨wa, hwa⟩ : ∃ W, W = (w4.alloc (.cells #[.int .i64 xj, .int .i64 xe, .bool true, .slice Ax nx cx] 93)).drew := ⟨_, rfl⟩
        have HWA := Lib.hid hwa
        have HWB : Hid (wa = w4.drew.alloc (.cells #[.int .i64 xj, .int .i64 xe, .bool true, .slice Ax nx cx] 93)) := Lib.hid (by rw [hwa]; rfl)
        have HXA : Hid (Ext w4.drew wa) := Lib.hid (by rw [HWB.out]; exact Ext.alloc_ _ _)
        have c0b := HXA.out.cellOf c0 (HID.out.blk.lt)
        clear hwa
        refine held_begin (by kernel_rfl) ?_
        refine held_more (S' := fun W' : World => Blk W' w.heap.size 93 #[.int .i64 xj, .int .i64 xe, .bool true, .slice Ax nx cx]) (fun _ _ => True.intro) ?_
        have hSx : (fun W' : World => Blk W' w.heap.size 93 #[.int .i64 xj, .int .i64 xe, .bool true, .slice Ax nx cx]) w4.drew := HBD.out
        refine held_take (i := 0) (v := ?_) rfl (by kernel_rfl) (by kernel_rfl) (by kernel_rfl) (by rfl) (by first | assumption | exact True.intro) ?_ ?_
        rotate_left
        · (intro W hSw; go_simp; (try with_reducible rfl))
        try simp only [Act.put, List.setIfInBounds_toArray, List.set_cons_zero, List.set_cons_succ]
        refine held_take (i := 1) (v := ?_) rfl (by kernel_rfl) (by kernel_rfl) (by kernel_rfl) (by rfl) (by first | assumption | exact True.intro) ?_ ?_
        rotate_left
        · (intro W hSw; go_simp; (try with_reducible rfl))
        try simp only [Act.put, List.setIfInBounds_toArray, List.set_cons_zero, List.set_cons_succ]
        refine held_take (i := 2) (v := ?_) rfl (by kernel_rfl) (by kernel_rfl) (by kernel_rfl) (by rfl) (by first | assumption | exact True.intro) ?_ ?_
        rotate_left
        · (intro W hSw; go_simp; (try with_reducible rfl))
        try simp only [Act.put, List.setIfInBounds_toArray, List.set_cons_zero, List.set_cons_succ]
        refine held_take (i := 3) (v := ?_) rfl (by kernel_rfl) (by kernel_rfl) (by kernel_rfl) (by rfl) (by first | assumption | exact True.intro) ?_ ?_
        rotate_left
        · (intro W hSw; go_simp; (try with_reducible rfl))
        try simp only [Act.put, List.setIfInBounds_toArray, List.set_cons_zero, List.set_cons_succ]
        refine held_take (i := 5) (v := ?_) rfl (by kernel_rfl) (by kernel_rfl) (by kernel_rfl) (by rfl) (by first | assumption | exact True.intro) ?_ ?_
        rotate_left
        · (intro W hSw; have k0 := hSw.cell 0; have k1 := hSw.cell 1; have k2 := hSw.cell 2; have k3 := hSw.cell 3; go_simp; (try with_reducible rfl))
        try simp only [Act.put, List.setIfInBounds_toArray, List.set_cons_zero, List.set_cons_succ]
        refine held_two (i := 4) (j := 6) (by kernel_rfl) rfl rfl (fun K hK => ?_) (fun K hK => ?_)
        · clear hSx
          go_simp
          refine hK _ _ (HBD.out) (fun hSx => ?_)
          clear hK K
          try simp only [Act.put, List.setIfInBounds_toArray, List.set_cons_zero, List.set_cons_succ]
          clear hSx
          refine held_op (i := 6) (by kernel_rfl) rfl (fun K hK => ?_)
          go_simp
          rw [← HWA.out]
          refine hK _ _ (HBD.out.ext HXA.out) (fun hSx => ?_)
          clear hK K
          try simp only [Act.put, List.setIfInBounds_toArray, List.set_cons_zero, List.set_cons_succ]
          rw [HWB.out]
          clear hSx
          refine held_op (i := 7) (by kernel_rfl) rfl (fun K hK => ?_)
          refine step_pushW (F := fun k => (F.since W7 w4) k ∧ k ≠ h) _ _ 44 rfl (by rfl) 93 (.agg #[.int .i64 0, .int .i64 0, .bool false, .slice none 0 0]) 4 48 Try.underlying44 (by kernel_rfl) (by simp [Value.cells]) (by omega) _ _ _ (show WayF (fun k => (F.since W7 w4) k ∧ k ≠ h) w4.drew 93 4 (.slice A4 n4 c4) n4 (lp4.flatMap PtL.cells) by have h1 := HID.out.row; unfold PsF at h1; rw [← HN4.out] at h1; exact h1) rfl _ rfl (by simp [Value.oneCell']) rfl rfl (by have := HLN4.out; unfold maxLen; omega) (by have := HLN4.out; omega) ?_
          intro v7 w7 hg7
          have HG7 : Hid (WayG (.slice A4 n4 c4) w4.drew 93 4 (n4 + 1) (lp4.flatMap PtL.cells ++ [.int .i64 xj, .int .i64 xe, .bool true, .slice Ax nx cx]) v7 w7) := Lib.hid hg7
          clear hg7
          obtain ⟨A7, c7, rfl⟩ := own_slice HG7.out.own
          have HB8 : Hid (Blk w7 w.heap.size 93 #[.int .i64 xj, .int .i64 xe, .bool true, .slice Ax nx cx]) := Lib.hid (HBD.out.grown HG7.out.grown (fun e => by have h1 := HNV.out _ e.symm; have h2 := HB7.out.lt; omega))
          have HN7 := Lib.hid (HID.out.blk.grown HG7.out.grown (fun e => (HID.out.row.inF h e.symm).2 rfl))
          refine hK _ _ (HB8.out) (fun hSx => ?_)
          clear hK K
          try simp only [Act.put, List.setIfInBounds_toArray, List.set_cons_zero, List.set_cons_succ]
          refine held_take (i := 8) (v := ?_) rfl (by kernel_rfl) (by kernel_rfl) (by kernel_rfl) (by rfl) (by first | assumption | exact True.intro) ?_ ?_
          rotate_left
          · (intro W hSw; go_simp; (try with_reducible rfl))
          try simp only [Act.put, List.setIfInBounds_toArray, List.set_cons_zero, List.set_cons_succ]
          refine held_take (i := 9) (v := ?_) rfl (by kernel_rfl) (by kernel_rfl) (by kernel_rfl) (by rfl) (by first | assumption | exact True.intro) ?_ ?_
          rotate_left
          · (intro W hSw; go_simp; (try with_reducible rfl))
          try simp only [Act.put, List.setIfInBounds_toArray, List.set_cons_zero, List.set_cons_succ]
          clear hSx
          refine held_op (i := 10) (by kernel_rfl) rfl (fun K hK => ?_)
          have c07 := HN7.out.cell 2
          have f07 := HN7.out.frozen 2
          go_simp
          refine hK _ _ (HB8.out.far (by exact HNB.out) _) (fun hSx => ?_)
          clear hK K
          try simp only [Act.put, List.setIfInBounds_toArray, List.set_cons_zero, List.set_cons_succ]
          refine wpAnyH_done (by kernel_rfl) ?_ _
          refine NoPanic.normal ?_
          clear c0 c0b c07 f07 hSx
          go_wp2
          go_ret
          exact ⟨by rw [HQ.out]; rfl, by rw [HQ.out]; exact RsX.commit_fin HR.out.isIn HR.out.here HX7.out HC4.out HF4.out H4.out HNV.out HN4.out (x := x) (by rw [← HXP.out.1, ← HXP.out.2.1]; exact HG7.out) HXD4.out⟩
        · clear hSx
          have hwa := HWA.out
          go_simp
          rw [← hwa]
          clear hwa
          refine hK _ _ (HBD.out.ext HXA.out) (fun hSx => ?_)
          clear hK K
          try simp only [Act.put, List.setIfInBounds_toArray, List.set_cons_zero, List.set_cons_succ]
          clear hSx
          refine held_op (i := 4) (by kernel_rfl) rfl (fun K hK => ?_)
          go_simp
          refine hK _ _ (HBD.out.ext HXA.out) (fun hSx => ?_)
          clear hK K
          try simp only [Act.put, List.setIfInBounds_toArray, List.set_cons_zero, List.set_cons_succ]
          rw [HWB.out]
          clear hSx
          refine held_op (i := 7) (by kernel_rfl) rfl (fun K hK => ?_)
          refine step_pushW (F := fun k => (F.since W7 w4) k ∧ k ≠ h) _ _ 44 rfl (by rfl) 93 (.agg #[.int .i64 0, .int .i64 0, .bool false, .slice none 0 0]) 4 48 Try.underlying44 (by kernel_rfl) (by simp [Value.cells]) (by omega) _ _ _ (show WayF (fun k => (F.since W7 w4) k ∧ k ≠ h) w4.drew 93 4 (.slice A4 n4 c4) n4 (lp4.flatMap PtL.cells) by have h1 := HID.out.row; unfold PsF at h1; rw [← HN4.out] at h1; exact h1) rfl _ rfl (by simp [Value.oneCell']) rfl rfl (by have := HLN4.out; unfold maxLen; omega) (by have := HLN4.out; omega) ?_
          intro v7 w7 hg7
          have HG7 : Hid (WayG (.slice A4 n4 c4) w4.drew 93 4 (n4 + 1) (lp4.flatMap PtL.cells ++ [.int .i64 xj, .int .i64 xe, .bool true, .slice Ax nx cx]) v7 w7) := Lib.hid hg7
          clear hg7
          obtain ⟨A7, c7, rfl⟩ := own_slice HG7.out.own
          have HB8 : Hid (Blk w7 w.heap.size 93 #[.int .i64 xj, .int .i64 xe, .bool true, .slice Ax nx cx]) := Lib.hid (HBD.out.grown HG7.out.grown (fun e => by have h1 := HNV.out _ e.symm; have h2 := HB7.out.lt; omega))
          have HN7 := Lib.hid (HID.out.blk.grown HG7.out.grown (fun e => (HID.out.row.inF h e.symm).2 rfl))
          refine hK _ _ (HB8.out) (fun hSx => ?_)
          clear hK K
          try simp only [Act.put, List.setIfInBounds_toArray, List.set_cons_zero, List.set_cons_succ]
          refine held_take (i := 8) (v := ?_) rfl (by kernel_rfl) (by kernel_rfl) (by kernel_rfl) (by rfl) (by first | assumption | exact True.intro) ?_ ?_
          rotate_left
          · (intro W hSw; go_simp; (try with_reducible rfl))
          try simp only [Act.put, List.setIfInBounds_toArray, List.set_cons_zero, List.set_cons_succ]
          refine held_take (i := 9) (v := ?_) rfl (by kernel_rfl) (by kernel_rfl) (by kernel_rfl) (by rfl) (by first | assumption | exact True.intro) ?_ ?_
          rotate_left
          · (intro W hSw; go_simp; (try with_reducible rfl))
          try simp only [Act.put, List.setIfInBounds_toArray, List.set_cons_zero, List.set_cons_succ]
          clear hSx
          refine held_op (i := 10) (by kernel_rfl) rfl (fun K hK => ?_)
          have c07 := HN7.out.cell 2
          have f07 := HN7.out.frozen 2
          go_simp
          refine hK _ _ (HB8.out.far (by exact HNB.out) _) (fun hSx => ?_)
          clear hK K
          try simp only [Act.put, List.setIfInBounds_toArray, List.set_cons_zero, List.set_cons_succ]
          refine wpAnyH_done (by kernel_rfl) ?_ _
          refine NoPanic.normal ?_
          clear c0 c0b c07 f07 hSx
          go_wp2
          go_ret
          exact ⟨by rw [HQ.out]; rfl, by rw [HQ.out]; exact RsX.commit_fin HR.out.isIn HR.out.here HX7.out HC4.out HF4.out H4.out HNV.out HN4.out (x := x) (by rw [← HXP.out.1, ← HXP.out.2.1]; exact HG7.out) HXD4.out⟩
      · have g1 : (xe != ep) = true := by simp only [bne_iff_ne, ne_eq]; exact ce
        have HQ : Hid (Q = (4, R)) := Lib.hid (hQ.trans (if_neg (fun hc => ce (HXP.out.2.1.trans hc))))
        clear hQ ce
        go_wp2
        go_ret
        exact ⟨by rw [HQ.out]; rfl, by rw [HQ.out]; exact HR.out.grow (Ext.refl _)⟩

end Go.Proofs.Ytkkmldoohokdfaa

/- Both stores, beside each other, as a law uses them. -/
namespace Go.Proofs.Ytkkmldoohokdfaa
open Go.RowKit

section
variable {N N' G F : Fp} {w w' w2 w3 W W' : World} {g h n n' : Nat} {S S' : StoP} {R R' : RsP}
theorem SoAt.over (q : SoAt N w g S) (hc : Chg G w w') (hG : ∀ k, G k → N k) (hg : ¬ G g) (hN : ∀ k, N' k → N k ∨ w.heap.size ≤ k) (hi : N'.isIn w') (hg' : N' g) : SoAt N' w' g S := by
  obtain ⟨lp, h1, h2, h3⟩ := q.out
  have hr : ∀ v xs, RdF (fun k => ¬ N k) w v xs → RdF (fun k => ¬ N' k) w' v xs := by
    rintro v xs ⟨A, c, e, q1, q2, q3⟩
    refine ⟨A, c, e, q1, q2, fun hn => ?_⟩
    obtain ⟨b, o, hA, hb, hNb, hcl⟩ := q3 hn
    refine ⟨b, o, hA, Nat.lt_of_lt_of_le hb hc.size, fun hb' => ?_, fun j u hu => (World.cell?_of_block (a := ⟨b, o + j, none⟩) (hc.block b hb (fun hGb => hNb (hG b hGb)))).trans (hcl j u hu)⟩
    rcases hN b hb' with h | h
    · exact hNb h
    · omega
  exact ⟨⟨lp, h1, (hc.block g h2.lt hg).trans h2, fun x hxm => ⟨hr _ _ (h3 x hxm).1, hr _ _ (h3 x hxm).2⟩⟩, hi, hg'⟩
theorem SX.over (q : SX N w W g S n) (hc : Chg G W W') (hG : ∀ k, G k → N k) (hg : ¬ G g) (hN : ∀ k, N' k → N k ∨ W.heap.size ≤ k) (hi : N'.isIn W') (hg' : N' g) : SX N' w W' g S n :=
  ⟨q.so.over hc hG hg hN hi hg', q.ok, hc.ext q.ext (fun k hk => q.low k (hG k hk)), fun k hk => by rcases hN k hk with h1 | h1; exact q.low k h1; have := q.ext.size; omega, q.wr⟩
theorem SX.stage (q : SX N w W g S n) (hn : n ≤ 1000) (t j e : Int) (d : List UInt8) (A : Option Addr) (c : Nat) (hr : Rd W (.slice A d.length c) (d.map B)) (hd : d.length ≤ 1000) :
    Calls Try.prog 13 #[.pointer (some ⟨g, 0, none⟩), .int .i64 t, .int .i64 j, .int .i64 e, .slice A d.length c] W fun x w' => x = .returned (.int .i64 (stageS S t j e d).1) ∧ SX N w w' g (stageS S t j e d).2 (n + 1) ∧ Chg (G1 g) W w' :=
  (Stage_any N g S t j e d A c W q.so q.ok hr (by omega) q.wr.1 (by have := q.wr.2; omega) (by have := q.ok.used_le; omega)).mono (by
    rintro x w' ⟨rfl, hs, hc⟩
    have hw := stage_room S t j e d
    exact ⟨rfl, ⟨hs, q.ok.stage _ _ _ _, hc.ext q.ext (fun k hk => by have hk : k = g := hk; rw [hk]; exact q.low g q.so.here), q.low, by have := q.wr; omega, by have := q.wr; omega⟩, hc⟩)
theorem SX.commit (q : SX N w W g S n) (j e : Int) :
    Calls Try.prog 14 #[.pointer (some ⟨g, 0, none⟩), .int .i64 j, .int .i64 e] W fun x w' => x = .returned (.int .i64 (commitS S j e).1) ∧ SX N w w' g (commitS S j e).2 n ∧ Chg (G1 g) W w' :=
  (Commit_any N g S j e W q.so q.ok).mono (by
    rintro x w' ⟨rfl, hs, hc⟩
    have hw := commit_room S j e
    exact ⟨rfl, ⟨hs, q.ok.commit _ _, hc.ext q.ext (fun k hk => by have hk : k = g := hk; rw [hk]; exact q.low g q.so.here), q.low, by have := q.wr; omega, by have := q.wr; omega⟩, hc⟩)
theorem SX.end_ (q : SX N w W g S n) (j : Int) :
    Calls Try.prog 11 #[.pointer (some ⟨g, 0, none⟩), .int .i64 j] W fun x w' => x = .returned (.tuple #[]) ∧ SX N w w' g (endS S j) n ∧ Chg (G1 g) W w' :=
  (End_any N g S j W q.so q.ok).mono (by
    rintro x w' ⟨rfl, hs, hc⟩
    have hw := setJ_room S j zPr
    exact ⟨rfl, ⟨hs, q.ok.end_ _, hc.ext q.ext (fun k hk => by have hk : k = g := hk; rw [hk]; exact q.low g q.so.here), q.low, by unfold endS; have := q.wr; omega, by unfold endS; have := q.wr; omega⟩, hc⟩)
theorem SX.fence (q : SX N w W g S n) (t : Int) :
    Calls Try.prog 10 #[.pointer (some ⟨g, 0, none⟩), .int .i64 t] W fun x w' => x = .returned (.tuple #[]) ∧ SX N w w' g (fenceS S t) n ∧ Chg (G1 g) W w' :=
  (Fence_any N g S t W q.so).mono (by
    rintro x w' ⟨rfl, hs, hc⟩
    exact ⟨rfl, ⟨hs, q.ok.fence _, hc.ext q.ext (fun k hk => by have hk : k = g := hk; rw [hk]; exact q.low g q.so.here), q.low, q.wr⟩, hc⟩)

theorem stageR_len (R : RsP) (t j e : Int) (d : List UInt8) : (stageR R t j e d).2.L.length ≤ R.L.length + 1 := by
  have h1 : (withoutR R.L j false).length ≤ R.L.length := List.length_filter_le _ _
  unfold stageR
  split
  · exact Nat.le_succ _
  · split
    · exact Nat.le_succ _
    · split
      · exact Nat.le_succ _
      · split
        · exact Nat.le_succ _
        · split
          · exact Nat.le_succ _
          · simp only [List.length_append, List.length_singleton]
            omega
theorem endR_len (R : RsP) (j : Int) : (endR R j).L.length ≤ R.L.length := Nat.le_trans (List.length_filter_le _ _) (List.length_filter_le _ _)
theorem commitR_len (R : RsP) (j e : Int) : (commitR R j e).2.L.length ≤ R.L.length + 1 := by
  have h1 := endR_len R j
  unfold commitR
  split
  · exact Nat.le_succ _
  · split
    · exact Nat.le_succ _
    · split
      · simp only [List.length_append, List.length_singleton]
        omega
      · exact Nat.le_succ _

/-- The store S in block g, the reference's R in block h, alike; F: the blocks of the reference's. -/
structure St2 (w W : World) (g h n : Nat) (S : StoP) (R : RsP) (F : Fp) : Prop where
  sx : SX (fun k => k = g ∨ F k) w W g S n
  rs : RsF F W h R
  rel : RelP S R
  off : ¬ F g
  len : R.L.length ≤ n
theorem St2.more (q : St2 w W g h n S R F) (hx : Ext W W') : St2 w W' g h n S R F := ⟨q.sx.more hx, q.rs.ext hx, q.rel, q.off, q.len⟩
theorem St2.le (q : St2 w W g h n S R F) (hn : n ≤ n') : St2 w W g h n' S R F := ⟨q.sx.le hn, q.rs, q.rel, q.off, Nat.le_trans q.len hn⟩
theorem St2.mid (q : St2 w W g h n S R F) (hc : Chg (G1 g) W W') : RsF F W' h R := q.rs.chg hc (fun k hk e => by have e : k = g := e; rw [e] at hk; exact q.off hk)
theorem St2.both (q2 : SX (fun k => k = g ∨ F k) w w2 g S' n') (hoff : ¬ F g) (hr : RsF (F.since w2 w3) w3 h R') (hc3 : Chg F w2 w3) (hrel : RelP S' R') (hl : R'.L.length ≤ n') : St2 w w3 g h n' S' R' (F.since w2 w3) := by
  have hg := q2.so.lt
  refine ⟨q2.over hc3 (fun k hk => .inr hk) hoff (fun k hk => ?_) (fun k hk => ?_) (.inl rfl), hr, hrel, fun hk => ?_, hl⟩
  · rcases hk with hk | hk | hk
    · exact .inl (.inl hk)
    · exact .inl (.inr hk)
    · exact .inr hk.1
  · rcases hk with hk | hk
    · rw [hk]; exact Nat.lt_of_lt_of_le hg hc3.size
    · exact hr.isIn k hk
  · rcases hk with hk | hk
    · exact hoff hk
    · omega
theorem St2.turn (hx : Ext W W') (hc : Chg (G1 g) W' w2) (hc2 : Chg F w2 w3) : Chg (fun q => q = g ∨ F q) W w3 :=
  ((Chg.of_ext (F := fun q => q = g ∨ F q) hx).trans hc (fun k _ hk => .inl hk)).trans hc2 (fun k _ hk => .inr hk)
theorem St2.bytes (q : St2 w W g h n S R F) : bytesP R.L ≤ 1000000 := by have h1 := q.rel.used; have h2 := q.sx.ok.used_le; omega
theorem St2.new {w W2 W3 : World} {g : Nat} {room : Int} (q : SW w W2 g (newS room) 0) (hx : Ext W2 W3) (hr : RsF (fun k => W2.heap.size ≤ k ∧ k < W3.heap.size) W3 h (newR room)) : St2 w W3 g h 0 (newS room) (newR room) (fun k => W2.heap.size ≤ k ∧ k < W3.heap.size) :=
  ⟨q.sx.wide hx (fun k hk => by rcases hk with hk | hk; exact .inl hk; exact .inr hk.1) (fun k hk => by rcases hk with hk | hk; (rw [hk]; exact Nat.lt_of_lt_of_le q.so.lt hx.size); exact hk.2) (.inl rfl), hr, relP_new room, fun hk => by have := q.so.lt; omega, Nat.zero_le _⟩
end
/-- Behind what was done. -/
def StR (w : World) (g h n : Nat) (S : StoP) (W : World) : Prop := ∃ R F, St2 w W g h n S R F

end Go.Proofs.Ytkkmldoohokdfaa

/- The reference's Take, whatever it is told. -/
namespace Go.Proofs.Ytkkmldoohokdfaa
open Go.RowKit

theorem RefTake_any {F : Fp} {W : World} {h : Nat} {S : StoP} {R : RsP} (a : Ag) (m : Ms) (now : Int) (hS : OkS S) (hrel : RelP S R) (r : RsF F W h R) (hlen : R.L.length ≤ 800) (hb : bytesP R.L ≤ 1000000) (hw : 0 ≤ R.writes ∧ R.writes ≤ 1000000) (h0 : 0 ≤ a.worked) (h1 : a.worked ≤ 1000000000) :
    Calls Try.prog 36 #[agV a, msV m, .int .i64 now, .pointer (some ⟨h, 0, none⟩)] W fun e w' => e = .returned (.tuple #[agV (takeA a m now (svS S a m now)), .bool (goesA a m)]) ∧ (∃ R', RelP (soS S a m now) R' ∧ R'.L.length ≤ R.L.length + 1 ∧ RsF (F.since W w') w' h R') ∧ Chg F W w' := by
  cases hg : goesA a m with
  | false =>
    refine (RefTake_no a m now (some ⟨h, 0, none⟩) W hg).mono ?_
    rintro e w' ⟨rfl, hx⟩
    have ha : asksA a m now = false := by unfold asksA; rw [hg]; rfl
    have h2 := r.grow hx
    refine ⟨by unfold takeA; rw [hg]; rfl, ⟨R, ?_, Nat.le_succ _, h2.1⟩, h2.2⟩
    unfold soS
    rw [ha]
    exact hrel
  | true =>
    refine (RefTake_yes a m now h R F W hg r h0 h1 (by omega) hb hw.1 hw.2).mono ?_
    rintro e w' ⟨sv, rfl, hno, hy⟩
    have hrs := hrel.stage hS m.term a.job a.inc (svB a.worked)
    cases ha : asksA a m now with
    | false =>
      obtain ⟨rfl, h2, h3⟩ := hno ha
      refine ⟨by unfold takeA svS; rw [hg, ha]; rfl, ⟨R, ?_, Nat.le_succ _, h2⟩, h3⟩
      unfold soS
      rw [ha]
      exact hrel
    | true =>
      obtain ⟨rfl, h2, h3⟩ := hy ha
      refine ⟨by unfold takeA svS; rw [hg, ha, if_pos rfl, if_pos rfl, hrs.1], ⟨_, ?_, stageR_len R m.term a.job a.inc (svB a.worked), h2⟩, h3⟩
      unfold soS
      rw [ha]
      exact hrs.2

end Go.Proofs.Ytkkmldoohokdfaa

/- Layer 13's statements: the document's example. -/
namespace Go.Proofs.Ytkkmldoohokdfaa
open Go.RowKit

def exM1 : Ms := ⟨0, 2, 0, 0, 1, 1, 1, 0, 9, 0, 0⟩
def exM2 : Ms := ⟨0, 3, 0, 0, 1, 1, 0, 0, 9, 0, 0⟩
def exA1 : Ag := ⟨true, 0, 0, 1, 1, 1, 1, 9, 0, 0⟩
def exA2 : Ag := ⟨true, 0, 0, 2, 1, 1, 1, 9, 0, 0⟩
theorem ex_t1 (w : World) : Calls Try.prog 35 #[.agg #[.bool true, .int .i64 0, .int .i64 0, .int .i64 0, .int .i64 0, .int .i64 0, .int .i64 1, .int .i64 0, .int .i64 0, .int .i64 0], .int .i64 2, .agg #[.int .i64 0, .int .i64 2, .int .i64 0, .int .i64 0, .int .i64 1, .int .i64 1, .int .i64 1, .int .i64 0, .int .i64 9, .int .i64 0, .int .i64 0], .int .i64 3, .pointer none] w fun e w' =>
    e = .returned (.tuple #[.agg #[.bool true, .int .i64 0, .int .i64 0, .int .i64 1, .int .i64 1, .int .i64 1, .int .i64 1, .int .i64 9, .int .i64 0, .int .i64 0], .agg #[.int .i64 2, .int .i64 6, .int .i64 0, .int .i64 0, .int .i64 1, .int .i64 1, .int .i64 1, .int .i64 0, .int .i64 0, .int .i64 1, .int .i64 0], .bool true]) ∧ Ext w w' :=
  (Take_nil newA exM1 2 3 w (by decide) (by decide) (by decide)).mono (by
    rintro e w' ⟨rfl, hx⟩
    exact ⟨by rw [show takeA newA exM1 3 (nilS newA exM1 3) = exA1 from rfl, show goesA newA exM1 = true from rfl]; rfl, hx⟩)
theorem ex_t2 (w : World) : Calls Try.prog 35 #[.agg #[.bool true, .int .i64 0, .int .i64 0, .int .i64 1, .int .i64 1, .int .i64 1, .int .i64 1, .int .i64 9, .int .i64 0, .int .i64 0], .int .i64 2, .agg #[.int .i64 0, .int .i64 3, .int .i64 0, .int .i64 0, .int .i64 1, .int .i64 1, .int .i64 0, .int .i64 0, .int .i64 9, .int .i64 0, .int .i64 0], .int .i64 3, .pointer none] w fun e w' =>
    e = .returned (.tuple #[.agg #[.bool true, .int .i64 0, .int .i64 0, .int .i64 2, .int .i64 1, .int .i64 1, .int .i64 1, .int .i64 9, .int .i64 0, .int .i64 0], .agg #[.int .i64 2, .int .i64 6, .int .i64 0, .int .i64 0, .int .i64 1, .int .i64 1, .int .i64 1, .int .i64 0, .int .i64 0, .int .i64 2, .int .i64 0], .bool true]) ∧ Ext w w' :=
  (Take_nil exA1 exM2 2 3 w (by decide) (by decide) (by decide)).mono (by
    rintro e w' ⟨rfl, hx⟩
    exact ⟨by rw [show takeA exA1 exM2 3 (nilS exA1 exM2 3) = exA2 from rfl, show goesA exA1 exM2 = true from rfl]; rfl, hx⟩)

theorem ex_a9 (w : World) : Calls Try.prog 41 #[.agg #[.bool true, .int .i64 0, .int .i64 0, .int .i64 2, .int .i64 1, .int .i64 1, .int .i64 1, .int .i64 9, .int .i64 0, .int .i64 0], .int .i64 9] w fun e w' => e = .returned (.agg #[.bool true, .int .i64 0, .int .i64 0, .int .i64 0, .int .i64 0, .int .i64 0, .int .i64 1, .int .i64 0, .int .i64 0, .int .i64 0]) ∧ Ext w w' := (Act_any exA2 9 w (by decide)).mono (by rintro e w' ⟨rfl, hx⟩; exact ⟨rfl, hx⟩)
theorem ex_a8 (w : World) : Calls Try.prog 41 #[.agg #[.bool true, .int .i64 0, .int .i64 0, .int .i64 2, .int .i64 1, .int .i64 1, .int .i64 1, .int .i64 9, .int .i64 0, .int .i64 0], .int .i64 8] w fun e w' => e = .returned (.agg #[.bool true, .int .i64 0, .int .i64 0, .int .i64 2, .int .i64 1, .int .i64 1, .int .i64 1, .int .i64 9, .int .i64 1, .int .i64 0]) ∧ Ext w w' := (Act_any exA2 8 w (by decide)).mono (by rintro e w' ⟨rfl, hx⟩; exact ⟨rfl, hx⟩)
theorem ex_fn (w : World) : Calls Try.prog 73 #[.agg #[.bool true, .int .i64 0, .int .i64 0, .int .i64 2, .int .i64 1, .int .i64 1, .int .i64 1, .int .i64 9, .int .i64 0, .int .i64 0], .int .i64 9] w fun e w' => e = .returned (.bool true) ∧ Ext w w' := (Fenced_any exA2 9 w).mono (by rintro e w' ⟨rfl, hx⟩; exact ⟨rfl, hx⟩)
theorem ex_fa (w : World) : Calls Try.prog 42 #[.agg #[.bool true, .int .i64 0, .int .i64 0, .int .i64 2, .int .i64 1, .int .i64 1, .int .i64 1, .int .i64 9, .int .i64 0, .int .i64 0]] w fun e w' => e = .returned (.agg #[.bool false, .int .i64 0, .int .i64 0, .int .i64 0, .int .i64 0, .int .i64 0, .int .i64 1, .int .i64 0, .int .i64 0, .int .i64 0]) ∧ Ext w w' := (Fail_any exA2 w).mono (by rintro e w' ⟨rfl, hx⟩; exact ⟨rfl, hx⟩)
theorem ex_ba (w : World) : Calls Try.prog 43 #[.agg #[.bool false, .int .i64 0, .int .i64 0, .int .i64 0, .int .i64 0, .int .i64 0, .int .i64 1, .int .i64 0, .int .i64 0, .int .i64 0]] w fun e w' => e = .returned (.agg #[.bool true, .int .i64 0, .int .i64 0, .int .i64 0, .int .i64 0, .int .i64 0, .int .i64 1, .int .i64 0, .int .i64 0, .int .i64 0]) ∧ Ext w w' := (Back_any (failA exA2) w).mono (by rintro e w' ⟨rfl, hx⟩; exact ⟨rfl, hx⟩)
theorem ex_te (w : World) : Calls Try.prog 38 #[.agg #[.bool true, .int .i64 0, .int .i64 0, .int .i64 1, .int .i64 1, .int .i64 1, .int .i64 1, .int .i64 9, .int .i64 0, .int .i64 0], .int .i64 1] w fun e w' => e = .returned (.agg #[.int .i64 1, .int .i64 6, .int .i64 0, .int .i64 0, .int .i64 1, .int .i64 1, .int .i64 1, .int .i64 0, .int .i64 0, .int .i64 1, .int .i64 0]) ∧ Ext w w' := (Tell_any exA1 1 w).mono (by rintro e w' ⟨rfl, hx⟩; exact ⟨rfl, hx⟩)
theorem ex_nw (w : World) : Calls Try.prog 40 #[] w fun e w' => e = .returned (.agg #[.bool true, .int .i64 0, .int .i64 0, .int .i64 0, .int .i64 0, .int .i64 0, .int .i64 1, .int .i64 0, .int .i64 0, .int .i64 0]) ∧ Ext w w' := (NewA_any w).mono (by rintro e w' ⟨rfl, hx⟩; exact ⟨rfl, hx⟩)
set_option maxRecDepth 100000 in
set_option maxHeartbeats 4000000 in
theorem alive13_any (w : World) : Calls Try.prog 33 #[] w fun e w' => e = .returned (.bool true) ∧ Ext w w' := by
  have hf0 : ∀ W, (Instr.field 56 (.agg #[.bool true, .int .i64 0, .int .i64 0, .int .i64 0, .int .i64 0, .int .i64 0, .int .i64 1, .int .i64 0, .int .i64 0, .int .i64 0]) 3).run Try.prog W = .ok (.int .i64 0) W := fun _ => by kernel_rfl
  have hf1 : ∀ W, (Instr.field 56 (.agg #[.bool true, .int .i64 0, .int .i64 0, .int .i64 2, .int .i64 1, .int .i64 1, .int .i64 1, .int .i64 9, .int .i64 1, .int .i64 0]) 8).run Try.prog W = .ok (.int .i64 1) W := fun _ => by kernel_rfl
  have hf2 : ∀ W, (Instr.field 56 (.agg #[.bool false, .int .i64 0, .int .i64 0, .int .i64 0, .int .i64 0, .int .i64 0, .int .i64 1, .int .i64 0, .int .i64 0, .int .i64 0]) 0).run Try.prog W = .ok (.bool false) W := fun _ => by kernel_rfl
  have hf3 : ∀ W, (Instr.field 56 (.agg #[.bool true, .int .i64 0, .int .i64 0, .int .i64 0, .int .i64 0, .int .i64 0, .int .i64 1, .int .i64 0, .int .i64 0, .int .i64 0]) 0).run Try.prog W = .ok (.bool true) W := fun _ => by kernel_rfl
  have hf4 : ∀ W, (Instr.field 49 (.agg #[.int .i64 1, .int .i64 6, .int .i64 0, .int .i64 0, .int .i64 1, .int .i64 1, .int .i64 1, .int .i64 0, .int .i64 0, .int .i64 1, .int .i64 0]) 4).run Try.prog W = .ok (.int .i64 1) W := fun _ => by kernel_rfl
  go_enter Try.func33, Try.ntmps33
  go_wp2_with fail
  refine (ex_nw w).mono ?_
  rintro e0 w0 ⟨rfl, hx0⟩
  have HX0 := Lib.hid hx0
  clear hx0
  go_wp2_with fail
  refine (ex_t1 w0).mono ?_
  rintro e1 w1 ⟨rfl, hx1⟩
  have HX1 := Lib.hid (HX0.out.trans hx1)
  clear hx1
  obtain ⟨b1, b2, hx⟩ := two_new w1 #[.bool true, .int .i64 0, .int .i64 0, .int .i64 1, .int .i64 1, .int .i64 1, .int .i64 1, .int .i64 9, .int .i64 0, .int .i64 0] #[.int .i64 2, .int .i64 6, .int .i64 0, .int .i64 0, .int .i64 1, .int .i64 1, .int .i64 1, .int .i64 0, .int .i64 0, .int .i64 1, .int .i64 0] 56 49
  obtain ⟨w2, hw2⟩ : ∃ W, W = (w1.alloc (.cells #[.bool true, .int .i64 0, .int .i64 0, .int .i64 1, .int .i64 1, .int .i64 1, .int .i64 1, .int .i64 9, .int .i64 0, .int .i64 0] 56)).alloc (.cells #[.int .i64 2, .int .i64 6, .int .i64 0, .int .i64 0, .int .i64 1, .int .i64 1, .int .i64 1, .int .i64 0, .int .i64 0, .int .i64 1, .int .i64 0] 49) := ⟨_, rfl⟩
  rw [← hw2] at b1 b2 hx
  have HB1 := Lib.hid b1
  have HB2 := Lib.hid b2
  have HX2 := Lib.hid (HX1.out.trans hx)
  clear b1 b2 hx
  go_wp2_with fail
  rw [← hw2]
  clear hw2
  refine (ex_t2 w2).mono ?_
  rintro e3 w3 ⟨rfl, hx3⟩
  obtain ⟨b4, b5, hx⟩ := two_new w3 #[.bool true, .int .i64 0, .int .i64 0, .int .i64 2, .int .i64 1, .int .i64 1, .int .i64 1, .int .i64 9, .int .i64 0, .int .i64 0] #[.int .i64 2, .int .i64 6, .int .i64 0, .int .i64 0, .int .i64 1, .int .i64 1, .int .i64 1, .int .i64 0, .int .i64 0, .int .i64 2, .int .i64 0] 56 49
  obtain ⟨w4, hw4⟩ : ∃ W, W = (w3.alloc (.cells #[.bool true, .int .i64 0, .int .i64 0, .int .i64 2, .int .i64 1, .int .i64 1, .int .i64 1, .int .i64 9, .int .i64 0, .int .i64 0] 56)).alloc (.cells #[.int .i64 2, .int .i64 6, .int .i64 0, .int .i64 0, .int .i64 1, .int .i64 1, .int .i64 1, .int .i64 0, .int .i64 0, .int .i64 2, .int .i64 0] 49) := ⟨_, rfl⟩
  rw [← hw4] at b4 hx
  have HX4 := Lib.hid (HX2.out.trans (hx3.trans hx))
  have HA := Lib.hid (HB1.out.ext (hx3.trans hx))
  have HR := Lib.hid (HB2.out.ext (hx3.trans hx))
  have HB := Lib.hid b4
  clear b4 b5 hx hx3 HB1 HB2 HX0 HX1 HX2
  go_upto_region 3 with (fail)
  rw [← hw4]
  clear hw4
  have a3 : w4.cell? ⟨w1.heap.size, 3, none⟩ = some (.int .i64 1) := HA.out.cell 3
  have r9 : w4.cell? ⟨w1.heap.size + 1, 9, none⟩ = some (.int .i64 1) := HR.out.cell 9
  have r0 : w4.cell? ⟨w1.heap.size + 1, 0, none⟩ = some (.int .i64 2) := HR.out.cell 0
  have k0 : w4.cell? ⟨w3.heap.size, 0, none⟩ = some (.bool true) := HB.out.cell 0
  have k1 : w4.cell? ⟨w3.heap.size, 1, none⟩ = some (.int .i64 0) := HB.out.cell 1
  have k2 : w4.cell? ⟨w3.heap.size, 2, none⟩ = some (.int .i64 0) := HB.out.cell 2
  have k3 : w4.cell? ⟨w3.heap.size, 3, none⟩ = some (.int .i64 2) := HB.out.cell 3
  have k4 : w4.cell? ⟨w3.heap.size, 4, none⟩ = some (.int .i64 1) := HB.out.cell 4
  have k5 : w4.cell? ⟨w3.heap.size, 5, none⟩ = some (.int .i64 1) := HB.out.cell 5
  have k6 : w4.cell? ⟨w3.heap.size, 6, none⟩ = some (.int .i64 1) := HB.out.cell 6
  have k7 : w4.cell? ⟨w3.heap.size, 7, none⟩ = some (.int .i64 9) := HB.out.cell 7
  have k8 : w4.cell? ⟨w3.heap.size, 8, none⟩ = some (.int .i64 0) := HB.out.cell 8
  have k9 : w4.cell? ⟨w3.heap.size, 9, none⟩ = some (.int .i64 0) := HB.out.cell 9
  go_wp2_with fail
  refine (ex_a9 w4).mono ?_
  rintro e5 w5 ⟨rfl, hx⟩
  clear k0 k1 k2 k3 k4 k5 k6 k7 k8 k9
  clear a3 r9 r0
  replace HB := Lib.hid (HB.out.ext hx)
  replace HA := Lib.hid (HA.out.ext hx)
  replace HX4 := Lib.hid (HX4.out.trans hx)
  clear hx
  have k0 : w5.cell? ⟨w3.heap.size, 0, none⟩ = some (.bool true) := HB.out.cell 0
  have k1 : w5.cell? ⟨w3.heap.size, 1, none⟩ = some (.int .i64 0) := HB.out.cell 1
  have k2 : w5.cell? ⟨w3.heap.size, 2, none⟩ = some (.int .i64 0) := HB.out.cell 2
  have k3 : w5.cell? ⟨w3.heap.size, 3, none⟩ = some (.int .i64 2) := HB.out.cell 3
  have k4 : w5.cell? ⟨w3.heap.size, 4, none⟩ = some (.int .i64 1) := HB.out.cell 4
  have k5 : w5.cell? ⟨w3.heap.size, 5, none⟩ = some (.int .i64 1) := HB.out.cell 5
  have k6 : w5.cell? ⟨w3.heap.size, 6, none⟩ = some (.int .i64 1) := HB.out.cell 6
  have k7 : w5.cell? ⟨w3.heap.size, 7, none⟩ = some (.int .i64 9) := HB.out.cell 7
  have k8 : w5.cell? ⟨w3.heap.size, 8, none⟩ = some (.int .i64 0) := HB.out.cell 8
  have k9 : w5.cell? ⟨w3.heap.size, 9, none⟩ = some (.int .i64 0) := HB.out.cell 9
  go_wp2_with fail
  refine (ex_a8 w5).mono ?_
  rintro e6 w6 ⟨rfl, hx⟩
  clear k0 k1 k2 k3 k4 k5 k6 k7 k8 k9
  replace HB := Lib.hid (HB.out.ext hx)
  replace HA := Lib.hid (HA.out.ext hx)
  replace HX4 := Lib.hid (HX4.out.trans hx)
  clear hx
  have k0 : w6.cell? ⟨w3.heap.size, 0, none⟩ = some (.bool true) := HB.out.cell 0
  have k1 : w6.cell? ⟨w3.heap.size, 1, none⟩ = some (.int .i64 0) := HB.out.cell 1
  have k2 : w6.cell? ⟨w3.heap.size, 2, none⟩ = some (.int .i64 0) := HB.out.cell 2
  have k3 : w6.cell? ⟨w3.heap.size, 3, none⟩ = some (.int .i64 2) := HB.out.cell 3
  have k4 : w6.cell? ⟨w3.heap.size, 4, none⟩ = some (.int .i64 1) := HB.out.cell 4
  have k5 : w6.cell? ⟨w3.heap.size, 5, none⟩ = some (.int .i64 1) := HB.out.cell 5
  have k6 : w6.cell? ⟨w3.heap.size, 6, none⟩ = some (.int .i64 1) := HB.out.cell 6
  have k7 : w6.cell? ⟨w3.heap.size, 7, none⟩ = some (.int .i64 9) := HB.out.cell 7
  have k8 : w6.cell? ⟨w3.heap.size, 8, none⟩ = some (.int .i64 0) := HB.out.cell 8
  have k9 : w6.cell? ⟨w3.heap.size, 9, none⟩ = some (.int .i64 0) := HB.out.cell 9
  go_wp2_with fail
  refine (ex_fn w6).mono ?_
  rintro e7 w7 ⟨rfl, hx⟩
  clear k0 k1 k2 k3 k4 k5 k6 k7 k8 k9
  replace HB := Lib.hid (HB.out.ext hx)
  replace HA := Lib.hid (HA.out.ext hx)
  replace HX4 := Lib.hid (HX4.out.trans hx)
  clear hx
  have k0 : w7.cell? ⟨w3.heap.size, 0, none⟩ = some (.bool true) := HB.out.cell 0
  have k1 : w7.cell? ⟨w3.heap.size, 1, none⟩ = some (.int .i64 0) := HB.out.cell 1
  have k2 : w7.cell? ⟨w3.heap.size, 2, none⟩ = some (.int .i64 0) := HB.out.cell 2
  have k3 : w7.cell? ⟨w3.heap.size, 3, none⟩ = some (.int .i64 2) := HB.out.cell 3
  have k4 : w7.cell? ⟨w3.heap.size, 4, none⟩ = some (.int .i64 1) := HB.out.cell 4
  have k5 : w7.cell? ⟨w3.heap.size, 5, none⟩ = some (.int .i64 1) := HB.out.cell 5
  have k6 : w7.cell? ⟨w3.heap.size, 6, none⟩ = some (.int .i64 1) := HB.out.cell 6
  have k7 : w7.cell? ⟨w3.heap.size, 7, none⟩ = some (.int .i64 9) := HB.out.cell 7
  have k8 : w7.cell? ⟨w3.heap.size, 8, none⟩ = some (.int .i64 0) := HB.out.cell 8
  have k9 : w7.cell? ⟨w3.heap.size, 9, none⟩ = some (.int .i64 0) := HB.out.cell 9
  go_wp2_with fail
  refine (ex_fa w7).mono ?_
  rintro e8 w8 ⟨rfl, hx⟩
  clear k0 k1 k2 k3 k4 k5 k6 k7 k8 k9
  replace HB := Lib.hid (HB.out.ext hx)
  replace HA := Lib.hid (HA.out.ext hx)
  replace HX4 := Lib.hid (HX4.out.trans hx)
  clear hx
  have k0 : w8.cell? ⟨w3.heap.size, 0, none⟩ = some (.bool true) := HB.out.cell 0
  have k1 : w8.cell? ⟨w3.heap.size, 1, none⟩ = some (.int .i64 0) := HB.out.cell 1
  have k2 : w8.cell? ⟨w3.heap.size, 2, none⟩ = some (.int .i64 0) := HB.out.cell 2
  have k3 : w8.cell? ⟨w3.heap.size, 3, none⟩ = some (.int .i64 2) := HB.out.cell 3
  have k4 : w8.cell? ⟨w3.heap.size, 4, none⟩ = some (.int .i64 1) := HB.out.cell 4
  have k5 : w8.cell? ⟨w3.heap.size, 5, none⟩ = some (.int .i64 1) := HB.out.cell 5
  have k6 : w8.cell? ⟨w3.heap.size, 6, none⟩ = some (.int .i64 1) := HB.out.cell 6
  have k7 : w8.cell? ⟨w3.heap.size, 7, none⟩ = some (.int .i64 9) := HB.out.cell 7
  have k8 : w8.cell? ⟨w3.heap.size, 8, none⟩ = some (.int .i64 0) := HB.out.cell 8
  have k9 : w8.cell? ⟨w3.heap.size, 9, none⟩ = some (.int .i64 0) := HB.out.cell 9
  go_wp2_with fail
  refine (ex_fa w8).mono ?_
  rintro e9 w9 ⟨rfl, hx⟩
  clear k0 k1 k2 k3 k4 k5 k6 k7 k8 k9
  replace HB := Lib.hid (HB.out.ext hx)
  replace HA := Lib.hid (HA.out.ext hx)
  replace HX4 := Lib.hid (HX4.out.trans hx)
  clear hx
  go_wp2_with fail
  refine (ex_ba w9).mono ?_
  rintro e10 w10 ⟨rfl, hx⟩
  replace HB := Lib.hid (HB.out.ext hx)
  replace HA := Lib.hid (HA.out.ext hx)
  replace HX4 := Lib.hid (HX4.out.trans hx)
  clear hx
  have k0 : w10.cell? ⟨w1.heap.size, 0, none⟩ = some (.bool true) := HA.out.cell 0
  have k1 : w10.cell? ⟨w1.heap.size, 1, none⟩ = some (.int .i64 0) := HA.out.cell 1
  have k2 : w10.cell? ⟨w1.heap.size, 2, none⟩ = some (.int .i64 0) := HA.out.cell 2
  have k3 : w10.cell? ⟨w1.heap.size, 3, none⟩ = some (.int .i64 1) := HA.out.cell 3
  have k4 : w10.cell? ⟨w1.heap.size, 4, none⟩ = some (.int .i64 1) := HA.out.cell 4
  have k5 : w10.cell? ⟨w1.heap.size, 5, none⟩ = some (.int .i64 1) := HA.out.cell 5
  have k6 : w10.cell? ⟨w1.heap.size, 6, none⟩ = some (.int .i64 1) := HA.out.cell 6
  have k7 : w10.cell? ⟨w1.heap.size, 7, none⟩ = some (.int .i64 9) := HA.out.cell 7
  have k8 : w10.cell? ⟨w1.heap.size, 8, none⟩ = some (.int .i64 0) := HA.out.cell 8
  have k9 : w10.cell? ⟨w1.heap.size, 9, none⟩ = some (.int .i64 0) := HA.out.cell 9
  go_wp2_with fail
  refine (ex_te w10).mono ?_
  rintro e11 w11 ⟨rfl, hx⟩
  clear k0 k1 k2 k3 k4 k5 k6 k7 k8 k9
  replace HX4 := Lib.hid (HX4.out.trans hx)
  clear hx
  go_wp2
  go_ret
  exact ⟨rfl, HX4.out⟩

end Go.Proofs.Ytkkmldoohokdfaa

/- Layer 13's statement AgentTakes, walked. -/
namespace Go.Proofs.Ytkkmldoohokdfaa
open Go.RowKit

theorem BytesT (l : List UInt8) (u v : Value) (w : World) (hu : Rd w u (l.map B)) (hv : Rd w v (l.map B)) : Calls Try.prog 23 #[u, v] w fun e w' => e = .returned (.bool true) ∧ Ext w w' :=
  (Bytes_any l l u v w hu hv).mono (by
    rintro e w' ⟨rfl, n, rfl⟩
    exact ⟨by simp, Below.drewN' (Ext.refl _) n⟩)
theorem rightM_kt {m : Ms} (h : rightM m = true) : -9223372036854775808 ≤ m.kind ∧ m.kind ≤ 9223372036854775807 := by
  have h2 := rightM_all h
  have h3 := List.all_eq_true.1 h2 m.kind (by simp [msL])
  unfold okN at h3
  simp only [Bool.and_eq_true, decide_eq_true_eq] at h3
  omega
theorem rightA_wk {a : Ag} (h : rightA a = true) : 0 ≤ a.worked ∧ a.worked ≤ 1000000000 := by
  unfold rightA at h
  have h9 := of_decide_eq_true h
  omega

set_option maxRecDepth 100000 in
set_option maxHeartbeats 4000000 in
theorem AgentTakes_calls (a : Ag) (node : Int) (m : Ms) (now : Int) (w : World) : Calls Try.prog 5 #[agV a, .int .i64 node, msV m, .int .i64 now] w fun e w' => e = .returned (.bool true) ∧ Ext w w' := by
  obtain ⟨h1, h2, hx⟩ := two_new w #[.bool a.up, .int .i64 a.term, .int .i64 a.gen, .int .i64 a.mode, .int .i64 a.job, .int .i64 a.inc, .int .i64 a.ver, .int .i64 a.lease, .int .i64 a.worked, .int .i64 a.aim] #[.int .i64 m.node, .int .i64 m.kind, .int .i64 m.term, .int .i64 m.gen, .int .i64 m.job, .int .i64 m.inc, .int .i64 m.ver, .int .i64 m.epoch, .int .i64 m.til, .int .i64 m.mode, .int .i64 m.work] 56 49
  obtain ⟨W, hW⟩ : ∃ W, W = (w.alloc (.cells #[.bool a.up, .int .i64 a.term, .int .i64 a.gen, .int .i64 a.mode, .int .i64 a.job, .int .i64 a.inc, .int .i64 a.ver, .int .i64 a.lease, .int .i64 a.worked, .int .i64 a.aim] 56)).alloc (.cells #[.int .i64 m.node, .int .i64 m.kind, .int .i64 m.term, .int .i64 m.gen, .int .i64 m.job, .int .i64 m.inc, .int .i64 m.ver, .int .i64 m.epoch, .int .i64 m.til, .int .i64 m.mode, .int .i64 m.work] 49) := ⟨_, rfl⟩
  rw [← hW] at h1 h2 hx
  have HA0 : Hid (AgAt W w.heap.size a) := Lib.hid ⟨h1⟩
  have HM0 : Hid (MsAt W (w.heap.size + 1) m) := Lib.hid ⟨h2⟩
  have HXW := Lib.hid hx
  clear h1 h2 hx
  have HTE := Lib.hid (fun W => Tell_any a node W)
  have HTR := Lib.hid (fun W => RefTell_any a node W)
  unfold agV msV at HTE HTR
  have HR1 := Lib.hid (fun W => RefRight13_any a W)
  have HR2 := Lib.hid (fun W => RefRight12_any m W)
  unfold agV at HR1
  unfold msV at HR2
  unfold agV msV
  go_enter Try.func5, Try.ntmps5
  go_upto_region 1 with (fail)
  rw [← hW]
  clear hW
  go_wp2_with fail
  refine (alive13_any W).mono ?_
  rintro e0 w0 ⟨rfl, hx0⟩
  have HX0 := Lib.hid (HXW.out.trans hx0)
  have HA := Lib.hid (HA0.out.ext hx0)
  have HM := Lib.hid (HM0.out.ext hx0)
  clear hx0 HA0 HM0 HXW
  obtain ⟨c0, c1, c2, c3, c4, c5, c6, c7, c8, c9⟩ := HA.out.cells
  obtain ⟨m0, m1, m2, m3, m4, m5, m6, m7, m8, m9, m10⟩ := HM.out.cells
  cases ra : rightA a with
  | false =>
    rw [ra] at HR1
    clear ra
    go_wp2_with fail
    refine (HR1.out w0).mono ?_
    rintro e1 w1 ⟨rfl, hx1⟩
    have HX1 := Lib.hid (HX0.out.trans hx1)
    clear hx1
    go_wp2
    go_ret
    exact ⟨rfl, HX1.out⟩
  | true =>
    rw [ra] at HR1
    have HWK := Lib.hid (rightA_wk ra)
    clear ra
    go_wp2_with fail
    refine (HR1.out w0).mono ?_
    rintro e1 w1 ⟨rfl, hx1⟩
    have H01 := Lib.hid hx1
    clear hx1 c0 c1 c2 c3 c4 c5 c6 c7 c8 c9 m0 m1 m2 m3 m4 m5 m6 m7 m8 m9 m10
    obtain ⟨m0, m1, m2, m3, m4, m5, m6, m7, m8, m9, m10⟩ := (HM.out.ext H01.out).cells
    cases rm : rightM m with
    | false =>
      rw [rm] at HR2
      clear rm
      go_wp2_with fail
      refine (HR2.out w1).mono ?_
      rintro e2 w2 ⟨rfl, hx2⟩
      have HX2 := Lib.hid (HX0.out.trans (H01.out.trans hx2))
      clear hx2
      go_wp2
      go_ret
      exact ⟨rfl, HX2.out⟩
    | true =>
      rw [rm] at HR2
      have HKB := Lib.hid (rightM_kt rm)
      clear rm
      go_wp2_with fail
      refine (HR2.out w1).mono ?_
      rintro e2 w2 ⟨rfl, hx2⟩
      have H02 := Lib.hid (H01.out.trans hx2)
      have HX2 := Lib.hid (HX0.out.trans H02.out)
      replace HA := Lib.hid (HA.out.ext H02.out)
      replace HM := Lib.hid (HM.out.ext H02.out)
      clear hx2 H01 H02 HX0 HR1 HR2 m0 m1 m2 m3 m4 m5 m6 m7 m8 m9 m10
      go_wp2_with fail
      refine (SW.new (Ext.refl w2) 500).mono ?_
      rintro e3 w3 ⟨g, rfl, hs⟩
      go_wp2_with fail
      refine (XNew_any 500 w3).mono ?_
      rintro e4 w4 ⟨rfl, hx4, hrn⟩
      obtain ⟨h, hh⟩ : ∃ q, q = w3.heap.size := ⟨_, rfl⟩
      obtain ⟨F, hq, hF⟩ : ∃ F : Fp, St2 w2 w4 g w3.heap.size 0 (newS 500) (newR 500) F ∧ ∀ k, F k → w2.heap.size ≤ k ∧ k < w4.heap.size := ⟨_, St2.new hs hx4 hrn, fun k hk => ⟨Nat.le_trans hs.ext.size hk.1, hk.2⟩⟩
      rw [← hh] at hq ⊢
      have HQ := Lib.hid hq
      have HF := Lib.hid hF
      have HX4 := Lib.hid hq.sx.ext
      clear hs hx4 hrn hq hF hh
      have HNS := Lib.hid (relP_new 500)
      have HTK := Lib.hid (Take_so HQ.out.sx (by omega) a m node now HKB.out HWK.out.1 HWK.out.2)
      have HRT := Lib.hid (fun (W' : World) (r : RsF F W' h (newR 500)) => RefTake_any (W := W') a m now HQ.out.sx.ok HNS.out r (by have := HQ.out.len; omega) HQ.out.bytes ⟨Int.le_refl 0, by decide⟩ HWK.out.1 HWK.out.2)
      obtain ⟨bb, hbb⟩ : ∃ x, x = takeA a m now (svS (newS 500) a m now) := ⟨_, rfl⟩
      rw [← hbb] at HTK HRT
      obtain ⟨tt, htt⟩ : ∃ x, x = (if goesA a m = true then tellA bb node else zMs) := ⟨_, rfl⟩
      rw [← htt] at HTK
      obtain ⟨gz, hgz⟩ : ∃ x, x = goesA a m := ⟨_, rfl⟩
      rw [← hgz] at HTK HRT htt
      obtain ⟨S1, hS1⟩ : ∃ x, x = soS (newS 500) a m now := ⟨_, rfl⟩
      rw [← hS1] at HTK HRT
      have HTT := Lib.hid htt
      have HTB := Lib.hid (fun W => RefTell_any bb node W)
      unfold agV msV at HTK HTB
      unfold agV msV at HRT
      clear hbb htt hgz hS1 HKB HWK
      have HI := Lib.hid infoA_
      have HI2 := Lib.hid infoM_
      have HO := Lib.hid (agA_one bb)
      have HO2 := Lib.hid (msA_one tt)
      obtain ⟨c0, c1, c2, c3, c4, c5, c6, c7, c8, c9⟩ := (HA.out.ext HX4.out).cells
      obtain ⟨m0, m1, m2, m3, m4, m5, m6, m7, m8, m9, m10⟩ := (HM.out.ext HX4.out).cells
      go_wp2_with fail
      refine HTK.out.mono ?_
      rintro e6 w6 ⟨rfl, hs6, hc6⟩
      have HS6 := Lib.hid hs6
      have HC6 := Lib.hid hc6
      have HX6 := Lib.hid hs6.ext
      clear hs6 hc6 HTK
      clear c0 c1 c2 c3 c4 c5 c6 c7 c8 c9 m0 m1 m2 m3 m4 m5 m6 m7 m8 m9 m10
      obtain ⟨n1, n2, nx⟩ := two_new w6 #[.bool false, .int .i64 0, .int .i64 0, .int .i64 0, .int .i64 0, .int .i64 0, .int .i64 0, .int .i64 0, .int .i64 0, .int .i64 0] #[.int .i64 0, .int .i64 0, .int .i64 0, .int .i64 0, .int .i64 0, .int .i64 0, .int .i64 0, .int .i64 0, .int .i64 0, .int .i64 0, .int .i64 0] 56 49
      have N1 := Lib.hid n1
      have N2 := Lib.hid n2
      have NX := Lib.hid nx
      clear n1 n2 nx
      go_upto_region 7 with (first | (refine wpList_storeC rfl 56 _ _ rfl w6.heap.size (agA bb) rfl rfl 56 _ N1.out HI.out rfl HO.out ?_; intro wa hba hca; have N3 := Lib.hid ((hca.block _ N2.out.lt (by intro e; have e : w6.heap.size + 1 = w6.heap.size := e; omega)).trans N2.out); have N4 := Lib.hid (hca.ext NX.out (fun k hk => by have hk : k = w6.heap.size := hk; omega)); have N5 := Lib.hid hba; clear hba hca) | (refine wpList_storeC rfl 49 _ _ rfl (w6.heap.size + 1) (msA tt) rfl rfl 49 _ N3.out HI2.out rfl HO2.out ?_; intro wb hbb hcb; have HB11 : Hid (AgAt wb w6.heap.size bb) := Lib.hid ⟨(hcb.block _ N5.out.lt (by intro e; have e : w6.heap.size = w6.heap.size + 1 := e; omega)).trans N5.out⟩; have HB12 : Hid (MsAt wb (w6.heap.size + 1) tt) := Lib.hid ⟨hbb⟩; have H6B := Lib.hid (hcb.ext N4.out (fun k hk => by have hk : k = w6.heap.size + 1 := hk; omega)); clear hbb hcb))
      obtain ⟨g11, hg11⟩ : ∃ q, q = w6.heap.size := ⟨_, rfl⟩
      rw [← hg11] at HB11 HB12 ⊢
      have HG11 : Hid (w4.heap.size ≤ g11) := Lib.hid (by rw [hg11]; exact HC6.out.size)
      clear hg11 N1 N2 N3 N4 N5 NX
      have HSB := Lib.hid (HS6.out.more H6B.out)
      have HRB := Lib.hid ((HQ.out.mid HC6.out).ext H6B.out)
      have HXB := Lib.hid HSB.out.ext
      have HRC := Lib.hid (HRT.out wb HRB.out)
      clear HS6 HC6 HX6 H6B HRT HX4
      obtain ⟨c0, c1, c2, c3, c4, c5, c6, c7, c8, c9⟩ := (HA.out.ext HXB.out).cells
      obtain ⟨m0, m1, m2, m3, m4, m5, m6, m7, m8, m9, m10⟩ := (HM.out.ext HXB.out).cells
      go_wp2_with fail
      refine HRC.out.mono ?_
      rintro e7 w7 ⟨rfl, ⟨R1, hrel, hlen, hr7⟩, hc7⟩
      have HREL := Lib.hid hrel
      have HLEN : Hid (R1.L.length ≤ 1000) := Lib.hid (by have := HQ.out.len; omega)
      have HR7 := Lib.hid hr7
      have HS7 := Lib.hid (HSB.out.over (N' := fun k => k = g ∨ F k) hc7 (fun k hk => .inr hk) HQ.out.off (fun k hk => .inl hk) (fun k hk => Nat.lt_of_lt_of_le (HSB.out.so.isIn k hk) hc7.size) (.inl rfl))
      have HNF : Hid (∀ k, g11 ≤ k → ¬ F k) := Lib.hid (fun k hk hf => by have := HF.out k hf; have := HG11.out; omega)
      replace HB11 := Lib.hid (HB11.out.chg hc7 (HNF.out _ (Nat.le_refl _)))
      replace HB12 := Lib.hid (HB12.out.chg hc7 (HNF.out _ (Nat.le_succ _)))
      have HX7 := Lib.hid HS7.out.ext
      clear hrel hlen hr7 hc7 HRC HRB HSB HXB
      clear c0 c1 c2 c3 c4 c5 c6 c7 c8 c9 m0 m1 m2 m3 m4 m5 m6 m7 m8 m9 m10
      have n1 := Blk.new w7 56 #[.bool false, .int .i64 0, .int .i64 0, .int .i64 0, .int .i64 0, .int .i64 0, .int .i64 0, .int .i64 0, .int .i64 0, .int .i64 0]
      have N1 := Lib.hid n1
      have NX := Lib.hid (Ext.alloc_ w7 (.cells #[.bool false, .int .i64 0, .int .i64 0, .int .i64 0, .int .i64 0, .int .i64 0, .int .i64 0, .int .i64 0, .int .i64 0, .int .i64 0] 56))
      clear n1
      go_upto_region 8 with (refine wpList_storeC rfl 56 _ _ rfl w7.heap.size (agA bb) rfl rfl 56 _ N1.out HI.out rfl HO.out ?_; intro wc hba hca; have HB14 : Hid (AgAt wc w7.heap.size bb) := Lib.hid ⟨hba⟩; have H7C := Lib.hid (hca.ext NX.out (fun k hk => by have hk : k = w7.heap.size := hk; omega)); clear hba hca)
      obtain ⟨g14, hg14⟩ : ∃ q, q = w7.heap.size := ⟨_, rfl⟩
      rw [← hg14] at HB14 ⊢
      clear hg14 N1 NX
      obtain ⟨wd, hwd⟩ : ∃ W', W' = wc.alloc (.cells #[.int .i64 0, .int .i64 0, .int .i64 0, .int .i64 0, .int .i64 0, .int .i64 0, .int .i64 0, .int .i64 0, .int .i64 0, .int .i64 0, .int .i64 0] 49) := ⟨_, rfl⟩
      obtain ⟨g16, hg16⟩ : ∃ q, q = wc.heap.size := ⟨_, rfl⟩
      have HB16 : Hid (Blk wd g16 49 #[.int .i64 0, .int .i64 0, .int .i64 0, .int .i64 0, .int .i64 0, .int .i64 0, .int .i64 0, .int .i64 0, .int .i64 0, .int .i64 0, .int .i64 0]) := Lib.hid (by rw [hwd, hg16]; exact Blk.new _ _ _)
      have HCD := Lib.hid (show Ext wc wd by rw [hwd]; exact Ext.alloc_ _ _)
      have HGD : Hid (wc.heap.size ≤ g16) := Lib.hid (by rw [hg16]; exact Nat.le_refl _)
      go_upto_region 9 with (fail)
      rw [← hwd, ← hg16]
      clear hwd hg16
      go_upto_if 51 with (fail)
      go_cut [] (fun wx => Hid (MsAt wx g16 tt) ∧ Hid (Ext wc wx))
      case first =>
        have HBE := Lib.hid (HB14.out.ext HCD.out)
        obtain ⟨c0, c1, c2, c3, c4, c5, c6, c7, c8, c9⟩ := HBE.out.cells
        cases gz with
        | true =>
          go_wp2_with fail
          refine (HTB.out wd).mono ?_
          rintro e8 w8 ⟨rfl, hx8⟩
          have HB8 := Lib.hid (HB16.out.ext hx8)
          have HX8 := Lib.hid (HCD.out.trans hx8)
          have HTQ : Hid (tt = tellA bb node) := Lib.hid HTT.out
          have HO3 := Lib.hid (msA_one (tellA bb node))
          clear hx8
          go_wp2_with (refine wpList_storeC rfl 49 _ _ rfl g16 (msA (tellA bb node)) rfl rfl 49 _ HB8.out HI2.out rfl HO3.out ?_; intro w9 hb9 hc9)
          go_meet
          exact ⟨Lib.hid ⟨by rw [HTQ.out]; exact hb9⟩, Lib.hid (hc9.ext HX8.out (fun k hk => by have hk : k = g16 := hk; rw [hk]; exact HGD.out))⟩
        | false =>
          have HTQ : Hid (tt = zMs) := Lib.hid HTT.out
          go_wp2_with fail
          go_meet
          exact ⟨Lib.hid ⟨by rw [HTQ.out]; exact HB16.out⟩, HCD⟩
      case rest =>
        obtain ⟨HT16, HCX⟩ := hcut
        have HS8 := Lib.hid (HS7.out.more (H7C.out.trans HCX.out))
        have HR8 := Lib.hid (HR7.out.ext (H7C.out.trans HCX.out))
        replace HB11 := Lib.hid (HB11.out.ext (H7C.out.trans HCX.out))
        replace HB12 := Lib.hid (HB12.out.ext (H7C.out.trans HCX.out))
        replace HB14 := Lib.hid (HB14.out.ext HCX.out)
        have HX8 := Lib.hid HS8.out.ext
        clear HS7 HR7 HX7 H7C HCX HB16 HCD HTT HTB HO HO2 HI HI2
        obtain ⟨c0, c1, c2, c3, c4, c5, c6, c7, c8, c9⟩ := (HA.out.ext HX8.out).cells
        go_wp2_with fail
        refine (HS8.out.sw.get a.job a.inc).mono ?_
        rintro e9 w9 ⟨v1, rfl, hv1, -, hx9⟩
        have H9 := Lib.hid hx9
        have HV1 := Lib.hid hv1.rd
        have HG := Lib.hid (RGet_any (fun k => k = h) h R1 a.job a.inc w9 (HR8.out.ext hx9).view HLEN.out)
        rw [← HREL.out.get HS8.out.ok a.job a.inc] at HG
        clear hx9 hv1 c0 c1 c2 c3 c4 c5 c6 c7 c8 c9
        obtain ⟨c0, c1, c2, c3, c4, c5, c6, c7, c8, c9⟩ := (HA.out.ext (HX8.out.trans H9.out)).cells
        go_wp2_with fail
        refine HG.out.mono ?_
        rintro e10 w10 ⟨v2, rfl, hv2, rfl⟩
        have HV2 := Lib.hid hv2.rd
        obtain ⟨gb, hgb⟩ : ∃ q, q = (getS S1 a.job a.inc).2 := ⟨_, rfl⟩
        rw [← hgb]
        obtain ⟨gd, hgd⟩ : ∃ q, q = (getS S1 a.job a.inc).1 := ⟨_, rfl⟩
        rw [← hgd] at HV1 HV2
        clear hgb hgd hv2 HG c0 c1 c2 c3 c4 c5 c6 c7 c8 c9
        have HXD : Hid (Ext w9 w9.drew) := Lib.hid (Below.drewN' (Ext.refl w9) 1)
        go_upto_region 13 with (fail)
        refine held_begin (by kernel_rfl) ?_
        refine held_more (S' := fun W' : World => Ext w9 W') (fun _ _ => True.intro) ?_
        have hSx : (fun W' : World => Ext w9 W') w9.drew := HXD.out
        refine held_take (i := 0) (v := ?_) rfl (by kernel_rfl) (by kernel_rfl) (by kernel_rfl) (by rfl) (by first | assumption | exact True.intro) ?_ ?_
        rotate_left
        · (intro W hSw; go_simp; (try with_reducible rfl))
        try simp only [Act.put, List.setIfInBounds_toArray, List.set_cons_zero, List.set_cons_succ]
        refine held_take (i := 1) (v := ?_) rfl (by kernel_rfl) (by kernel_rfl) (by kernel_rfl) (by rfl) (by first | assumption | exact True.intro) ?_ ?_
        rotate_left
        · (intro W hSw; go_simp; (try with_reducible rfl))
        try simp only [Act.put, List.setIfInBounds_toArray, List.set_cons_zero, List.set_cons_succ]
        refine held_take (i := 2) (v := ?_) rfl (by kernel_rfl) (by kernel_rfl) (by kernel_rfl) (by rfl) (by first | assumption | exact True.intro) ?_ ?_
        rotate_left
        · (intro W hSw; go_simp; (try with_reducible rfl))
        try simp only [Act.put, List.setIfInBounds_toArray, List.set_cons_zero, List.set_cons_succ]
        refine held_take (i := 3) (v := ?_) rfl (by kernel_rfl) (by kernel_rfl) (by kernel_rfl) (by rfl) (by first | assumption | exact True.intro) ?_ ?_
        rotate_left
        · (intro W hSw; go_simp; (try with_reducible rfl))
        try simp only [Act.put, List.setIfInBounds_toArray, List.set_cons_zero, List.set_cons_succ]
        refine held_take (i := 4) (v := ?_) rfl (by kernel_rfl) (by kernel_rfl) (by kernel_rfl) (by rfl) (by first | assumption | exact True.intro) ?_ ?_
        rotate_left
        · (intro W hSw; obtain ⟨x0, x1, x2, x3, x4, x5, x6, x7, x8, x9⟩ := ((HB11.out.ext H9.out).ext hSw).cells; go_simp; (try with_reducible rfl))
        try simp only [Act.put, List.setIfInBounds_toArray, List.set_cons_zero, List.set_cons_succ]
        refine held_take (i := 5) (v := ?_) rfl (by kernel_rfl) (by kernel_rfl) (by kernel_rfl) (by rfl) (by first | assumption | exact True.intro) ?_ ?_
        rotate_left
        · (intro W hSw; obtain ⟨x0, x1, x2, x3, x4, x5, x6, x7, x8, x9⟩ := ((HB14.out.ext H9.out).ext hSw).cells; go_simp; (try with_reducible rfl))
        try simp only [Act.put, List.setIfInBounds_toArray, List.set_cons_zero, List.set_cons_succ]
        refine held_take (i := 6) (v := ?_) rfl (by kernel_rfl) (by kernel_rfl) (by kernel_rfl) (by rfl) (by first | assumption | exact True.intro) ?_ ?_
        rotate_left
        · (intro W hSw; go_simp; (try with_reducible rfl))
        try simp only [Act.put, List.setIfInBounds_toArray, List.set_cons_zero, List.set_cons_succ]
        refine held_take (i := 7) (v := ?_) rfl (by kernel_rfl) (by kernel_rfl) (by kernel_rfl) (by rfl) (by first | assumption | exact True.intro) ?_ ?_
        rotate_left
        · (intro W hSw; go_simp; (try with_reducible rfl))
        try simp only [Act.put, List.setIfInBounds_toArray, List.set_cons_zero, List.set_cons_succ]
        refine held_take (i := 8) (v := ?_) rfl (by kernel_rfl) (by kernel_rfl) (by kernel_rfl) (by rfl) (by first | assumption | exact True.intro) ?_ ?_
        rotate_left
        · (intro W hSw; go_simp; (try with_reducible rfl))
        try simp only [Act.put, List.setIfInBounds_toArray, List.set_cons_zero, List.set_cons_succ]
        refine held_take (i := 9) (v := ?_) rfl (by kernel_rfl) (by kernel_rfl) (by kernel_rfl) (by rfl) (by first | assumption | exact True.intro) ?_ ?_
        rotate_left
        · (intro W hSw; obtain ⟨x0, x1, x2, x3, x4, x5, x6, x7, x8, x9, x10⟩ := ((HB12.out.ext H9.out).ext hSw).cells; go_simp; (try with_reducible rfl))
        try simp only [Act.put, List.setIfInBounds_toArray, List.set_cons_zero, List.set_cons_succ]
        refine held_take (i := 10) (v := ?_) rfl (by kernel_rfl) (by kernel_rfl) (by kernel_rfl) (by rfl) (by first | assumption | exact True.intro) ?_ ?_
        rotate_left
        · (intro W hSw; obtain ⟨x0, x1, x2, x3, x4, x5, x6, x7, x8, x9, x10⟩ := ((HT16.out.ext H9.out).ext hSw).cells; go_simp; (try with_reducible rfl))
        try simp only [Act.put, List.setIfInBounds_toArray, List.set_cons_zero, List.set_cons_succ]
        refine held_take (i := 11) (v := ?_) rfl (by kernel_rfl) (by kernel_rfl) (by kernel_rfl) (by rfl) (by first | assumption | exact True.intro) ?_ ?_
        rotate_left
        · (intro W hSw; go_simp; (try with_reducible rfl))
        try simp only [Act.put, List.setIfInBounds_toArray, List.set_cons_zero, List.set_cons_succ]
        refine held_take (i := 12) (v := ?_) rfl (by kernel_rfl) (by kernel_rfl) (by kernel_rfl) (by rfl) (by first | assumption | exact True.intro) ?_ ?_
        rotate_left
        · (intro W hSw; go_simp; (try with_reducible rfl))
        try simp only [Act.put, List.setIfInBounds_toArray, List.set_cons_zero, List.set_cons_succ]
        refine held_take (i := 13) (v := ?_) rfl (by kernel_rfl) (by kernel_rfl) (by kernel_rfl) (by rfl) (by first | assumption | exact True.intro) ?_ ?_
        rotate_left
        · (intro W hSw; go_simp; (try with_reducible rfl))
        try simp only [Act.put, List.setIfInBounds_toArray, List.set_cons_zero, List.set_cons_succ]
        refine held_take (i := 14) (v := ?_) rfl (by kernel_rfl) (by kernel_rfl) (by kernel_rfl) (by rfl) (by first | assumption | exact True.intro) ?_ ?_
        rotate_left
        · (intro W hSw; go_simp; (try with_reducible rfl))
        try simp only [Act.put, List.setIfInBounds_toArray, List.set_cons_zero, List.set_cons_succ]
        refine held_take (i := 15) (v := ?_) rfl (by kernel_rfl) (by kernel_rfl) (by kernel_rfl) (by rfl) (by first | assumption | exact True.intro) ?_ ?_
        rotate_left
        · (intro W hSw; go_simp; (try with_reducible rfl))
        try simp only [Act.put, List.setIfInBounds_toArray, List.set_cons_zero, List.set_cons_succ]
        refine held_take (i := 16) (v := ?_) rfl (by kernel_rfl) (by kernel_rfl) (by kernel_rfl) (by rfl) (by first | assumption | exact True.intro) ?_ ?_
        rotate_left
        · (intro W hSw; go_simp; (try with_reducible rfl))
        try simp only [Act.put, List.setIfInBounds_toArray, List.set_cons_zero, List.set_cons_succ]
        refine held_take (i := 17) (v := ?_) rfl (by kernel_rfl) (by kernel_rfl) (by kernel_rfl) (by rfl) (by first | assumption | exact True.intro) ?_ ?_
        rotate_left
        · (intro W hSw; go_simp; (try with_reducible rfl))
        try simp only [Act.put, List.setIfInBounds_toArray, List.set_cons_zero, List.set_cons_succ]
        refine held_take (i := 18) (v := ?_) rfl (by kernel_rfl) (by kernel_rfl) (by kernel_rfl) (by rfl) (by first | assumption | exact True.intro) ?_ ?_
        rotate_left
        · (intro W hSw; go_simp; (try with_reducible rfl))
        try simp only [Act.put, List.setIfInBounds_toArray, List.set_cons_zero, List.set_cons_succ]
        refine held_take (i := 19) (v := ?_) rfl (by kernel_rfl) (by kernel_rfl) (by kernel_rfl) (by rfl) (by first | assumption | exact True.intro) ?_ ?_
        rotate_left
        · (intro W hSw; go_simp; (try with_reducible rfl))
        try simp only [Act.put, List.setIfInBounds_toArray, List.set_cons_zero, List.set_cons_succ]
        refine held_take (i := 20) (v := ?_) rfl (by kernel_rfl) (by kernel_rfl) (by kernel_rfl) (by rfl) (by first | assumption | exact True.intro) ?_ ?_
        rotate_left
        · (intro W hSw; go_simp; (try with_reducible rfl))
        try simp only [Act.put, List.setIfInBounds_toArray, List.set_cons_zero, List.set_cons_succ]
        clear hSx
        refine held_op (i := 21) (by kernel_rfl) rfl (fun K hK => ?_)
        go_simp
        go_at_call 23
        refine (BytesT gd _ _ _ (HV1.out.ext HXD.out) (HV2.out.ext HXD.out)).mono ?_
        rintro e11 w11 ⟨rfl, hx11⟩
        have H11 := Lib.hid (HXD.out.trans hx11)
        clear hx11
        refine hK _ _ (H11.out) (fun hSx => ?_)
        clear hK K
        try simp only [Act.put, List.setIfInBounds_toArray, List.set_cons_zero, List.set_cons_succ]
        refine held_take (i := 22) (v := ?_) rfl (by kernel_rfl) (by kernel_rfl) (by kernel_rfl) (by rfl) (by first | assumption | exact True.intro) ?_ ?_
        rotate_left
        · (intro W hSw; go_simp; (try with_reducible rfl))
        try simp only [Act.put, List.setIfInBounds_toArray, List.set_cons_zero, List.set_cons_succ]
        refine held_take (i := 23) (v := ?_) rfl (by kernel_rfl) (by kernel_rfl) (by kernel_rfl) (by rfl) (by first | assumption | exact True.intro) ?_ ?_
        rotate_left
        · (intro W hSw; go_simp; (try with_reducible rfl))
        try simp only [Act.put, List.setIfInBounds_toArray, List.set_cons_zero, List.set_cons_succ]
        refine held_take (i := 24) (v := ?_) rfl (by kernel_rfl) (by kernel_rfl) (by kernel_rfl) (by rfl) (by first | assumption | exact True.intro) ?_ ?_
        rotate_left
        · (intro W hSw; obtain ⟨x0, x1, x2, x3, x4, x5, x6, x7, x8, x9⟩ := ((HA.out.ext (HX8.out.trans H9.out)).ext hSw).cells; go_simp; (try with_reducible rfl))
        try simp only [Act.put, List.setIfInBounds_toArray, List.set_cons_zero, List.set_cons_succ]
        refine held_take (i := 25) (v := ?_) rfl (by kernel_rfl) (by kernel_rfl) (by kernel_rfl) (by rfl) (by first | assumption | exact True.intro) ?_ ?_
        rotate_left
        · (intro W hSw; go_simp; (try with_reducible rfl))
        try simp only [Act.put, List.setIfInBounds_toArray, List.set_cons_zero, List.set_cons_succ]
        refine held_take (i := 27) (v := ?_) rfl (by kernel_rfl) (by kernel_rfl) (by kernel_rfl) (by rfl) (by first | assumption | exact True.intro) ?_ ?_
        rotate_left
        · (intro W hSw; obtain ⟨x0, x1, x2, x3, x4, x5, x6, x7, x8, x9⟩ := ((HA.out.ext (HX8.out.trans H9.out)).ext hSw).cells; go_simp; (try with_reducible rfl))
        try simp only [Act.put, List.setIfInBounds_toArray, List.set_cons_zero, List.set_cons_succ]
        refine held_take (i := 28) (v := ?_) rfl (by kernel_rfl) (by kernel_rfl) (by kernel_rfl) (by rfl) (by first | assumption | exact True.intro) ?_ ?_
        rotate_left
        · (intro W hSw; go_simp; (try with_reducible rfl))
        try simp only [Act.put, List.setIfInBounds_toArray, List.set_cons_zero, List.set_cons_succ]
        clear hSx
        refine held_op (i := 26) (by kernel_rfl) rfl (fun K hK => ?_)
        go_simp
        go_at_call 38
        refine (HTE.out _).mono ?_
        rintro e12 w12 ⟨rfl, hx12⟩
        have H12 := Lib.hid (H11.out.trans hx12)
        clear hx12
        refine hK _ _ (H12.out) (fun hSx => ?_)
        clear hK K
        try simp only [Act.put, List.setIfInBounds_toArray, List.set_cons_zero, List.set_cons_succ]
        clear hSx
        refine held_op (i := 29) (by kernel_rfl) rfl (fun K hK => ?_)
        go_simp
        go_at_call 37
        refine (HTR.out _).mono ?_
        rintro e13 w13 ⟨rfl, hx13⟩
        have H13 := Lib.hid (H12.out.trans hx13)
        clear hx13
        refine hK _ _ (H13.out) (fun hSx => ?_)
        clear hK K
        try simp only [Act.put, List.setIfInBounds_toArray, List.set_cons_zero, List.set_cons_succ]
        refine held_take (i := 30) (v := ?_) rfl (by kernel_rfl) (by kernel_rfl) (by kernel_rfl) (by rfl) (by first | assumption | exact True.intro) ?_ ?_
        rotate_left
        · (intro W hSw; go_simp; (try with_reducible rfl))
        try simp only [Act.put, List.setIfInBounds_toArray, List.set_cons_zero, List.set_cons_succ]
        refine held_take (i := 31) (v := ?_) rfl (by kernel_rfl) (by kernel_rfl) (by kernel_rfl) (by rfl) (by first | assumption | exact True.intro) ?_ ?_
        rotate_left
        · (intro W hSw; go_simp; (try with_reducible rfl))
        try simp only [Act.put, List.setIfInBounds_toArray, List.set_cons_zero, List.set_cons_succ]
        refine held_take (i := 32) (v := ?_) rfl (by kernel_rfl) (by kernel_rfl) (by kernel_rfl) (by rfl) (by first | assumption | exact True.intro) ?_ ?_
        rotate_left
        · (intro W hSw; go_simp; (try with_reducible rfl))
        try simp only [Act.put, List.setIfInBounds_toArray, List.set_cons_zero, List.set_cons_succ]
        clear hSx
        refine wpAnyH_done (by kernel_rfl) ?_ _
        refine NoPanic.normal ?_
        go_wp2
        go_ret
        exact ⟨rfl, HX2.out.trans (HX8.out.trans (H9.out.trans H13.out))⟩

end Go.Proofs.Ytkkmldoohokdfaa

/- Two closed facts on the program that every row asks. -/
namespace Go.Proofs.Ytkkmldoohokdfaa
open Go.RowKit

theorem Try.ownKnob : ownKnob Try.prog.godebug = none := by kernel_rfl

theorem Try.laidOut : laidOutB Try.prog = true := by kernel_rfl

end Go.Proofs.Ytkkmldoohokdfaa
