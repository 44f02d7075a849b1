/- Texts that the proof of R rests on, one behind the other. -/
import Derived.Test.YtdijinboopdheaaRQ6

/- Package net: Twice. -/
namespace Go.Proofs.Ytdijinboopdheaa
open Go.RowKit

theorem NtPushFin {F : Fp} {w0 w2 w4 w6 : World} {g : Nat} {S6 : NtP} {v6 : Value} {ps6 : List PvP} (hF : F.isIn w0) (hg : F g) (hx : Ext w0 w2) (h46 : w4.heap.size = w6.heap.size) (h6 : NtIn (F.since w2 w4) w6 g S6 v6 ps6 ∧ Chg F w2 w6) : NtAt (F.since w0 w6) w6 g S6 ∧ Chg F w0 w6 := by
  obtain ⟨hi, hc6⟩ := h6
  have s1 := hx.size
  have s3 := hc6.size
  refine ⟨⟨⟨v6, ps6, hi.mono (fun k hk => ?_)⟩, hF.since (by omega), .inl hg⟩, (Chg.of_ext (F := F) hx).trans hc6 (fun _ _ h => h)⟩
  rcases hk with hk | hk
  · exact .inl hk
  · exact .inr ⟨by omega, by omega⟩

set_option maxRecDepth 100000 in
set_option maxHeartbeats 4000000 in
theorem NTwice_any (F : Fp) (g : Nat) (S : NtP) (i : Int) (w : World) (h : NtAt F w g S) (hok : OkNt S) : Calls Try.prog 38 #[.pointer (some ⟨g, 0, none⟩), .int .i64 i] w fun e w' => e = .returned (.bool (twiceN S i).1) ∧ NtAt (F.since w w') w' g (twiceN S i).2 ∧ Chg F w w' := by
  have HHN := Lib.hid (NHas_any F g S i w h)
  have HA := Lib.hid h
  have HOK := Lib.hid hok
  clear h hok
  go_enter Try.func38, Try.ntmps38
  cases hr : hasN S i with
  | false =>
    rw [hr] at HHN
    have HF : Hid (twiceN S i = (false, S)) := Lib.hid (by unfold twiceN; rw [if_neg (by rw [hr]; simp)])
    clear hr
    go_wp2_with fail
    refine HHN.out.mono ?_
    rintro e1 w1 ⟨rfl, hx1⟩
    have HX := Lib.hid hx1
    clear hx1 HHN
    go_wp2
    go_ret
    exact ⟨by rw [HF.out]; rfl, by rw [HF.out]; exact HA.out.grow HX.out⟩
  | true =>
    rw [hr] at HHN
    have HR0 := Lib.hid hr
    clear hr
    go_wp2_with fail
    refine HHN.out.mono ?_
    rintro e1 w1 ⟨rfl, hx1⟩
    have HX := Lib.hid hx1
    clear hx1 HHN
    have HRM := Lib.hid (NRoom_any F g S w1 (HA.out.ext HX.out))
    cases hr : roomN S with
    | false =>
      rw [hr] at HRM
      have HF : Hid (twiceN S i = (false, S)) := Lib.hid (by unfold twiceN; rw [if_neg (by rw [hr]; simp)])
      clear hr
      go_wp2_with fail
      refine HRM.out.mono ?_
      rintro e2 w2 ⟨rfl, hx2⟩
      replace HX := Lib.hid (HX.out.trans hx2)
      clear hx2 HRM
      go_wp2
      go_ret
      exact ⟨by rw [HF.out]; rfl, by rw [HF.out]; exact HA.out.grow HX.out⟩
    | true =>
      rw [hr] at HRM
      have HF : Hid (twiceN S i = (true, ⟨S.way ++ [atN S i], S.sent⟩)) := Lib.hid (by unfold twiceN; rw [if_pos ⟨HR0.out, hr⟩])
      have HRO := Lib.hid hr
      have HAT := Lib.hid (atN_get HR0.out)
      have HOP := Lib.hid (HOK.out.each _ (atN_mem HR0.out))
      have HIX := Lib.hid (hasN_iff.1 HR0.out)
      clear hr
      go_wp2_with fail
      refine HRM.out.mono ?_
      rintro e2 w2 ⟨rfl, hx2⟩
      replace HX := Lib.hid (HX.out.trans hx2)
      clear hx2 HRM
      obtain ⟨v, ps, hi⟩ := (HA.out.ext HX.out).out
      have HIN := Lib.hid hi
      have HFI := Lib.hid (HA.out.isIn.ext HX.out)
      have HHR := Lib.hid HA.out.here
      obtain ⟨k, rfl⟩ : ∃ k : Nat, i = k := ⟨i.toNat, by have := HIX.out; omega⟩
      have hk : k < ps.length := by rw [hi.len]; have := HIX.out; omega
      obtain ⟨A, c, rfl, hnc, hcm, hA⟩ := hi.row.slice_
      obtain ⟨-, b, cur, rfl, -⟩ := hi.row.at_ (fun e => by have := (hA e).1; omega)
      clear hA
      obtain ⟨x, hx⟩ : ∃ x, ps[k]? = some x := ⟨_, List.getElem?_eq_getElem hk⟩
      have hxp : x.2 = atN S (k : Int) := by
        have h1 := HAT.out
        rw [← hi.eq, Int.toNat_natCast, List.getElem?_map, hx] at h1
        simpa using h1
      obtain ⟨hcl, hct⟩ := wayC_at ps k x hx
      replace hcl := hi.row.cells.2.1 _ _ hcl
      replace hct := hi.row.cells.2.1 _ _ hct
      have hbx := hi.bytes x (List.mem_of_getElem? hx)
      obtain ⟨vx, px⟩ := x
      simp only at hxp hcl hct hbx
      subst hxp
      obtain ⟨Ax, cx, rfl, -, -⟩ := hbx.rd.sliceN (List.length_map _)
      obtain ⟨t, ht⟩ : ∃ t, t = tOf (atN S (k : Int)) := ⟨_, rfl⟩
      rw [← ht] at hct
      have HT := Lib.hid ht
      clear ht
      have c0 : w2.cell? ⟨g, 0, none⟩ = some (.slice (some ⟨b, 0, none⟩) ps.length c) := hi.blk.cell 0
      have x1 : (0 : Int) ≤ (k : Int) ∧ (k : Int) < (ps.length : Int) := by omega
      obtain ⟨W3, hW3⟩ : ∃ W3, W3 = w2.alloc (.cells #[.slice Ax (bsOf (atN S (k : Int))).length cx, .bool t] 117) := ⟨_, rfl⟩
      have HX3 := Lib.hid (show Ext w2 W3 by rw [hW3]; exact Ext.alloc_ _ _)
      have HB3 : Hid (Blk W3 w2.heap.size 117 #[.slice Ax (bsOf (atN S (k : Int))).length cx, .bool t]) := Lib.hid (by rw [hW3]; exact Blk.new _ _ _)
      have HSZ : Hid (W3.heap.size = w2.heap.size + 1) := Lib.hid (by rw [hW3]; simp)
      have HCL := Lib.hid (Clone_any _ _ W3 (hbx.rd.ext HX3.out) (by rw [bsOf_len]; have := (ms_len HOP.out.right).2; omega))
      clear hi hbx hx hk hnc hcm
      go_upto_region 4 with (fail)
      (try rw [← hW3])
      clear hW3 hcl hct c0
      have p3 := HB3.out.cell 0
      go_wp2_with fail
      refine HCL.out.mono ?_
      rintro e4 w4 ⟨v4, rfl, hg4⟩
      have HG4 := Lib.hid hg4
      clear hg4 HCL p3
      have HX4 := Lib.hid (HX3.out.trans HG4.out.ext)
      have HB4 := Lib.hid (HB3.out.ext HG4.out.ext)
      obtain ⟨A4, c4, rfl, -, -⟩ := (Rd.own HG4.out.own).sliceN (List.length_map _)
      have p0 := HB4.out.cell 0
      have p1 := HB4.out.frozen 0
      obtain ⟨w5, hw5⟩ : ∃ W, W = w4.setCell ⟨w2.heap.size, 0, none⟩ (.slice A4 (bsOf (atN S (k : Int))).length c4) := ⟨_, rfl⟩
      have hc5 : Chg (fun q => q = w2.heap.size) w4 w5 := by rw [hw5]; exact (Chg.refl _ _).setCell (fun _ => rfl)
      have HX5 := Lib.hid (hc5.ext HX4.out (fun q hq => by have hq : q = w2.heap.size := hq; omega))
      have HB5 : Hid (Blk w5 w2.heap.size 117 #[.slice A4 (bsOf (atN S (k : Int))).length c4, .bool t]) := Lib.hid (by rw [hw5]; exact HB4.out.set_ 0 _)
      have HR5 : Hid (RowF (fun q => w2.heap.size ≤ q ∧ q < w5.heap.size) w5 5 (.slice A4 (bsOf (atN S (k : Int))).length c4) ((bsOf (atN S (k : Int))).map B)) := Lib.hid (((RowF.made HG4.out).chg hc5 (fun q hq e => by have e : q = w2.heap.size := e; have := HSZ.out; omega)).mono (fun q hq => ⟨by have := HSZ.out; omega, Nat.lt_of_lt_of_le hq.2 hc5.size⟩))
      clear hc5
      have HDR : Hid (Ext w5 w5.drew) := Lib.hid (Below.drewN' (Ext.refl w5) 1)
      have HX6 := Lib.hid (HX5.out.trans HDR.out)
      have HB6 : Hid (Blk w5.drew w2.heap.size 117 #[.slice A4 (bsOf (atN S (k : Int))).length c4, .bool t]) := Lib.hid HB5.out
      have HR6 : Hid (RowF (fun q => w2.heap.size ≤ q ∧ q < w5.drew.heap.size) w5.drew 5 (.slice A4 (bsOf (atN S (k : Int))).length c4) ((bsOf (atN S (k : Int))).map B)) := Lib.hid HR5.out
      have HN40 : Hid (ps.length < 40) := Lib.hid (by rw [HIN.out.len]; have := HRO.out; unfold roomN at this; simpa using this)
      go_upto_region 5 with (fail)
      (try rw [← hw5])
      clear hw5 p0 p1
      have c0 : w5.drew.cell? ⟨g, 0, none⟩ = some (.slice (some ⟨b, 0, none⟩) ps.length c) := (HIN.out.blk.ext HX6.out).cell 0
      obtain ⟨wa, hwa⟩ : ∃ W, W = (w5.alloc (.cells #[.slice A4 (bsOf (atN S (k : Int))).length c4, .bool t] 117)).drew := ⟨_, rfl⟩
      have HWA := Lib.hid hwa
      have HWB : Hid (wa = w5.drew.alloc (.cells #[.slice A4 (bsOf (atN S (k : Int))).length c4, .bool t] 117)) := Lib.hid (by rw [hwa]; rfl)
      have HXA : Hid (Ext w5.drew wa) := Lib.hid (by rw [HWB.out]; exact Ext.alloc_ _ _)
      have c0b := HXA.out.cellOf c0 (Nat.lt_of_lt_of_le (HFI.out _ HHR.out) HX6.out.size)
      clear hwa
      refine held_begin (by kernel_rfl) ?_
      refine held_more (S' := fun (W' : World) => W'.cell? ⟨w2.heap.size, 0, none⟩ = some (.slice A4 (bsOf (atN S (k : Int))).length c4) ∧ W'.cell? ⟨w2.heap.size, 1, none⟩ = some (.bool t)) (fun _ _ => True.intro) ?_
      have hHeld0 : (fun (W' : World) => W'.cell? ⟨w2.heap.size, 0, none⟩ = some (.slice A4 (bsOf (atN S (k : Int))).length c4) ∧ W'.cell? ⟨w2.heap.size, 1, none⟩ = some (.bool t)) _ := ⟨HB6.out.cell 0, HB6.out.cell 1⟩
      refine held_take (i := 0) (v := ?_) rfl (by kernel_rfl) (by kernel_rfl) (by kernel_rfl) (by rfl) (by first | assumption | exact True.intro) ?_ ?_
      rotate_left
      · (intro w hSw; (try dsimp only at hSw); (try obtain ⟨k0, k1⟩ := hSw); go_simp; (try with_reducible rfl))
      try simp only [Act.put, List.setIfInBounds_toArray, List.set_cons_zero, List.set_cons_succ]
      refine held_take (i := 1) (v := ?_) rfl (by kernel_rfl) (by kernel_rfl) (by kernel_rfl) (by rfl) (by first | assumption | exact True.intro) ?_ ?_
      rotate_left
      · (intro w hSw; (try dsimp only at hSw); (try obtain ⟨k0, k1⟩ := hSw); go_simp; (try with_reducible rfl))
      try simp only [Act.put, List.setIfInBounds_toArray, List.set_cons_zero, List.set_cons_succ]
      refine held_take (i := 2) (v := ?_) rfl (by kernel_rfl) (by kernel_rfl) (by kernel_rfl) (by rfl) (by first | assumption | exact True.intro) ?_ ?_
      rotate_left
      · (intro w hSw; (try dsimp only at hSw); (try obtain ⟨k0, k1⟩ := hSw); go_simp; (try with_reducible rfl))
      try simp only [Act.put, List.setIfInBounds_toArray, List.set_cons_zero, List.set_cons_succ]
      refine held_take (i := 3) (v := ?_) rfl (by kernel_rfl) (by kernel_rfl) (by kernel_rfl) (by rfl) (by first | assumption | exact True.intro) ?_ ?_
      rotate_left
      · (intro w hSw; (try dsimp only at hSw); (try obtain ⟨k0, k1⟩ := hSw); go_simp; (try with_reducible rfl))
      try simp only [Act.put, List.setIfInBounds_toArray, List.set_cons_zero, List.set_cons_succ]
      refine held_take (i := 5) (v := ?_) rfl (by kernel_rfl) (by kernel_rfl) (by kernel_rfl) (by rfl) (by first | assumption | exact True.intro) ?_ ?_
      rotate_left
      · (intro w hSw; (try dsimp only at hSw); (try obtain ⟨k0, k1⟩ := hSw); go_simp; (try with_reducible rfl))
      try simp only [Act.put, List.setIfInBounds_toArray, List.set_cons_zero, List.set_cons_succ]
      refine held_two (i := 4) (j := 6) (by kernel_rfl) rfl rfl (fun K hK => ?_) (fun K hK => ?_)
      · go_simp
        refine hK _ _ ?_ (fun hHeld3 => ?_)
        · exact ⟨HB6.out.cell 0, HB6.out.cell 1⟩
        clear hK K
        try simp only [Act.put, List.setIfInBounds_toArray, List.set_cons_zero, List.set_cons_succ]
        refine held_op (i := 6) (by kernel_rfl) rfl (fun K hK => ?_)
        go_simp
        rw [← HWA.out]
        refine hK _ _ ?_ (fun hHeld4 => ?_)
        · exact ⟨(HB6.out.ext HXA.out).cell 0, (HB6.out.ext HXA.out).cell 1⟩
        clear hK K
        try simp only [Act.put, List.setIfInBounds_toArray, List.set_cons_zero, List.set_cons_succ]
        rw [HWB.out]
        refine held_op (i := 7) (by kernel_rfl) rfl (fun K hK => ?_)
        refine step_pushW (F := fun k => F k ∧ k ≠ g) _ _ 62 rfl (by rfl) 117 (.agg #[.slice none 0 0, .bool false]) 2 32 Try.underlying62 (by kernel_rfl) (by simp [Value.cells]) (by omega) _ _ _ (HIN.out.row.chg (Chg.of_ext (F := fun _ => False) HX6.out) (fun _ _ h => h)) rfl _ rfl (by simp [Value.oneCell']) rfl rfl (by have := HN40.out; unfold maxLen; omega) (by have := HN40.out; omega) ?_
        intro v7 w7 hg7
        have HG7 := Lib.hid hg7
        clear hg7
        obtain ⟨A7, c7, rfl⟩ := own_slice HG7.out.own
        have HB7 : Hid (Blk w7 w2.heap.size 117 #[.slice A4 (bsOf (atN S (k : Int))).length c4, .bool t]) := Lib.hid (HB6.out.grown HG7.out.grown (fun e => by have := HFI.out _ (HIN.out.row.inF _ e.symm).1; omega))
        have HN7 := Lib.hid ((HIN.out.blk.ext HX6.out).grown HG7.out.grown (fun e => HIN.out.off e.symm))
        refine hK _ _ ?_ (fun hHeld1 => ?_)
        · exact ⟨HB7.out.cell 0, HB7.out.cell 1⟩
        clear hK K
        try simp only [Act.put, List.setIfInBounds_toArray, List.set_cons_zero, List.set_cons_succ]
        refine held_take (i := 8) (v := ?_) rfl (by kernel_rfl) (by kernel_rfl) (by kernel_rfl) (by rfl) (by first | assumption | exact True.intro) ?_ ?_
        rotate_left
        · (intro w hSw; (try dsimp only at hSw); (try obtain ⟨k0, k1⟩ := hSw); go_simp; (try with_reducible rfl))
        try simp only [Act.put, List.setIfInBounds_toArray, List.set_cons_zero, List.set_cons_succ]
        refine held_take (i := 9) (v := ?_) rfl (by kernel_rfl) (by kernel_rfl) (by kernel_rfl) (by rfl) (by first | assumption | exact True.intro) ?_ ?_
        rotate_left
        · (intro w hSw; (try dsimp only at hSw); (try obtain ⟨k0, k1⟩ := hSw); go_simp; (try with_reducible rfl))
        try simp only [Act.put, List.setIfInBounds_toArray, List.set_cons_zero, List.set_cons_succ]
        refine held_op (i := 10) (by kernel_rfl) rfl (fun K hK => ?_)
        have c07 := HN7.out.cell 0
        have f07 := HN7.out.frozen 0
        go_simp
        refine hK _ _ ?_ (fun hHeld2 => ?_)
        · exact (by have hb := HB7.out.far (p := ⟨g, 0, none⟩) (by have := HFI.out _ HHR.out; show w2.heap.size ≠ g; omega) (.slice A7 (ps.length + 1) c7); exact ⟨hb.cell 0, hb.cell 1⟩)
        clear hK K
        try simp only [Act.put, List.setIfInBounds_toArray, List.set_cons_zero, List.set_cons_succ]
        refine wpAnyH_done (by kernel_rfl) ?_ _
        refine NoPanic.normal ?_
        clear c0 c0b c07 f07
        have H8 := Lib.hid (HIN.out.push HFI.out HHR.out HX6.out (_, atN S (k : Int)) HR6.out (by rw [← HT.out]; exact HG7.out))
        go_wp2
        go_ret
        exact ⟨by rw [HF.out]; rfl, by rw [HF.out]; exact NtPushFin HA.out.isIn HA.out.here HX.out (by simp) H8.out⟩
      · have hwa := HWA.out
        go_simp
        rw [← hwa]
        clear hwa
        refine hK _ _ ?_ (fun hHeld5 => ?_)
        · exact ⟨(HB6.out.ext HXA.out).cell 0, (HB6.out.ext HXA.out).cell 1⟩
        clear hK K
        try simp only [Act.put, List.setIfInBounds_toArray, List.set_cons_zero, List.set_cons_succ]
        refine held_op (i := 4) (by kernel_rfl) rfl (fun K hK => ?_)
        go_simp
        refine hK _ _ ?_ (fun hHeld6 => ?_)
        · exact ⟨(HB6.out.ext HXA.out).cell 0, (HB6.out.ext HXA.out).cell 1⟩
        clear hK K
        try simp only [Act.put, List.setIfInBounds_toArray, List.set_cons_zero, List.set_cons_succ]
        rw [HWB.out]
        refine held_op (i := 7) (by kernel_rfl) rfl (fun K hK => ?_)
        refine step_pushW (F := fun k => F k ∧ k ≠ g) _ _ 62 rfl (by rfl) 117 (.agg #[.slice none 0 0, .bool false]) 2 32 Try.underlying62 (by kernel_rfl) (by simp [Value.cells]) (by omega) _ _ _ (HIN.out.row.chg (Chg.of_ext (F := fun _ => False) HX6.out) (fun _ _ h => h)) rfl _ rfl (by simp [Value.oneCell']) rfl rfl (by have := HN40.out; unfold maxLen; omega) (by have := HN40.out; omega) ?_
        intro v7 w7 hg7
        have HG7 := Lib.hid hg7
        clear hg7
        obtain ⟨A7, c7, rfl⟩ := own_slice HG7.out.own
        have HB7 : Hid (Blk w7 w2.heap.size 117 #[.slice A4 (bsOf (atN S (k : Int))).length c4, .bool t]) := Lib.hid (HB6.out.grown HG7.out.grown (fun e => by have := HFI.out _ (HIN.out.row.inF _ e.symm).1; omega))
        have HN7 := Lib.hid ((HIN.out.blk.ext HX6.out).grown HG7.out.grown (fun e => HIN.out.off e.symm))
        refine hK _ _ ?_ (fun hHeld1 => ?_)
        · exact ⟨HB7.out.cell 0, HB7.out.cell 1⟩
        clear hK K
        try simp only [Act.put, List.setIfInBounds_toArray, List.set_cons_zero, List.set_cons_succ]
        refine held_take (i := 8) (v := ?_) rfl (by kernel_rfl) (by kernel_rfl) (by kernel_rfl) (by rfl) (by first | assumption | exact True.intro) ?_ ?_
        rotate_left
        · (intro w hSw; (try dsimp only at hSw); (try obtain ⟨k0, k1⟩ := hSw); go_simp; (try with_reducible rfl))
        try simp only [Act.put, List.setIfInBounds_toArray, List.set_cons_zero, List.set_cons_succ]
        refine held_take (i := 9) (v := ?_) rfl (by kernel_rfl) (by kernel_rfl) (by kernel_rfl) (by rfl) (by first | assumption | exact True.intro) ?_ ?_
        rotate_left
        · (intro w hSw; (try dsimp only at hSw); (try obtain ⟨k0, k1⟩ := hSw); go_simp; (try with_reducible rfl))
        try simp only [Act.put, List.setIfInBounds_toArray, List.set_cons_zero, List.set_cons_succ]
        refine held_op (i := 10) (by kernel_rfl) rfl (fun K hK => ?_)
        have c07 := HN7.out.cell 0
        have f07 := HN7.out.frozen 0
        go_simp
        refine hK _ _ ?_ (fun hHeld2 => ?_)
        · exact (by have hb := HB7.out.far (p := ⟨g, 0, none⟩) (by have := HFI.out _ HHR.out; show w2.heap.size ≠ g; omega) (.slice A7 (ps.length + 1) c7); exact ⟨hb.cell 0, hb.cell 1⟩)
        clear hK K
        try simp only [Act.put, List.setIfInBounds_toArray, List.set_cons_zero, List.set_cons_succ]
        refine wpAnyH_done (by kernel_rfl) ?_ _
        refine NoPanic.normal ?_
        clear c0 c0b c07 f07
        have H8 := Lib.hid (HIN.out.push HFI.out HHR.out HX6.out (_, atN S (k : Int)) HR6.out (by rw [← HT.out]; exact HG7.out))
        go_wp2
        go_ret
        exact ⟨by rw [HF.out]; rfl, by rw [HF.out]; exact NtPushFin HA.out.isIn HA.out.here HX.out (by simp) H8.out⟩

end Go.Proofs.Ytdijinboopdheaa

/- Package net: Flip. -/
namespace Go.Proofs.Ytdijinboopdheaa
open Go.RowKit

theorem bitN_all : ∀ (x : Fin 256) (s : Fin 8), bits .xor .u8 ((x.val : Nat) : Int) (2 ^ s.val % 256) = (((x.val ^^^ 2 ^ s.val) : Nat) : Int) := by decide +kernel
theorem bitN_xor0 (x : UInt8) (s : Nat) (h : s < 8) : bits .xor .u8 (x.toNat : Int) (2 ^ s % 256) = ((x ^^^ UInt8.ofNat (2 ^ s)).toNat : Int) := by
  have h1 := bitN_all ⟨x.toNat, x.toNat_lt⟩ ⟨s, h⟩
  simp only at h1
  have h2 : 2 ^ s ≤ 2 ^ 7 := Nat.pow_le_pow_right (by omega) (by omega)
  rw [h1, UInt8.toNat_xor, u8_toNat, Nat.mod_eq_of_lt (by omega)]
theorem bitN_xor (x : UInt8) (q : Nat) : bits .xor .u8 (x.toNat : Int) (2 ^ (q % 8) % 256) = ((x ^^^ bitAt q).toNat : Int) := bitN_xor0 x (q % 8) (by omega)
theorem RowF.setN {F : Fp} {w : World} {e : TypeId} {g n c : Nat} {xs : List Value} (h : RowF F w e (.slice (some ⟨g, 0, none⟩) n c) xs) (j : Nat) (u : Value) : RowF F (w.setCell ⟨g, j, none⟩ u) e (.slice (some ⟨g, 0, none⟩) n c) (xs.set j u) := by
  have hl : n = xs.length := by
    rcases h.1.2 with ⟨h', _⟩ | ⟨g', cap', cur, h', _⟩
    · cases h'
    · cases h'; rfl
  subst hl
  have hs := h.1.stored j u
  exact ⟨by rw [List.length_set]; exact hs.1, h.2⟩
theorem RowF.cellN {F : Fp} {w : World} {e : TypeId} {g n c : Nat} {xs : List Value} (h : RowF F w e (.slice (some ⟨g, 0, none⟩) n c) xs) (j : Nat) (hj : j < xs.length) : w.cell? ⟨g, j, none⟩ = xs[j]? ∧ w.frozen? ⟨g, j, none⟩ = false := by
  have hl : n = xs.length := by
    rcases h.1.2 with ⟨h', _⟩ | ⟨g', cap', cur, h', _⟩
    · cases h'
    · cases h'; rfl
  subst hl
  exact ⟨h.1.cellAt j (by omega), h.1.frozenAt j⟩
def apartB (a b : Value) : Prop := ∀ k, a.ownBlock = some k → b.ownBlock ≠ some k
theorem apart_map {ps : List PvP} : ps.Pairwise apartV ↔ (ps.map (·.1)).Pairwise apartB := by rw [List.pairwise_map]; rfl
theorem map_set1 {ps : List PvP} {k : Nat} {v : Value} {p p' : PcP} (h : ps[k]? = some (v, p)) : (ps.set k (v, p')).map (·.1) = ps.map (·.1) := by
  rw [List.map_set]
  apply List.ext_getElem?
  intro i
  rw [List.getElem?_set]
  split
  next e => subst e; rw [List.getElem?_map, h]; simp [(List.getElem?_eq_some_iff.1 h).1]
  · rfl
theorem NtIn.flip {F : Fp} {w : World} {g : Nat} {S : NtP} {b n c k bk nk ck : Nat} {ps : List PvP} {p : PcP} (h : NtIn F w g S (.slice (some ⟨b, 0, none⟩) n c) ps) (hx : ps[k]? = some (.slice (some ⟨bk, 0, none⟩) nk ck, p)) (ht : tOf p = false) (q : Nat) (u : Value)
    (hu : u = B ((bsOf p).getD (q / 8) 0 ^^^ bitAt q)) :
    NtIn F ((w.setCell ⟨bk, q / 8, none⟩ u).setCell ⟨b, k * 2 + 1, none⟩ (.bool true)) g ⟨S.way.set k (p.1, some q), S.sent⟩ (.slice (some ⟨b, 0, none⟩) n c) (ps.set k (.slice (some ⟨bk, 0, none⟩) nk ck, (p.1, some q))) ∧ Chg F w ((w.setCell ⟨bk, q / 8, none⟩ u).setCell ⟨b, k * 2 + 1, none⟩ (.bool true)) := by
  have hbx := h.bytes _ (List.mem_of_getElem? hx)
  obtain ⟨hFk, hkg, hkb⟩ := hbx.2 bk rfl
  have hkb : b ≠ bk := fun e => hkb (by rw [e]; rfl)
  obtain ⟨hFb, hbg⟩ := h.row.inF b rfl
  have hc1 : Chg (fun z => z = bk) w (w.setCell ⟨bk, q / 8, none⟩ u) := (Chg.refl _ _).setCell (fun _ => rfl)
  have hc2 : Chg (fun z => z = b) (w.setCell ⟨bk, q / 8, none⟩ u) ((w.setCell ⟨bk, q / 8, none⟩ u).setCell ⟨b, k * 2 + 1, none⟩ (.bool true)) := (Chg.refl _ _).setCell (fun _ => rfl)
  have hb1 : Blk (w.setCell ⟨bk, q / 8, none⟩ u) g 69 #[.slice (some ⟨b, 0, none⟩) n c, .int .i64 (S.sent : Int)] := (hc1.block g h.blk.lt (fun e => hkg e.symm)).trans h.blk
  refine ⟨⟨(hc2.block g hb1.lt (fun e => hbg e.symm)).trans hb1, by rw [List.map_set, h.eq], ?_, fun x hxm => ?_, ?_⟩, (hc1.mono (fun z _ hz => by have hz : z = bk := hz; rw [hz]; exact hFk)).trans hc2 (fun z _ hz => by have hz : z = b := hz; rw [hz]; exact hFb)⟩
  · have h1 := (h.row.chg hc1 (fun z hz e => hkb (by simp only [Value.ownBlock, Option.some.injEq] at hz; rw [hz]; exact e))).set (k * 2 + 1) (.bool true)
    rw [List.length_set, ← wayC_set ps k _ (.slice (some ⟨bk, 0, none⟩) nk ck, (p.1, some q)) hx rfl]
    exact h1
  · obtain ⟨j, hj⟩ := List.getElem?_of_mem hxm
    rw [List.getElem?_set] at hj
    split at hj
    next e =>
      subst e
      split at hj
      · obtain rfl := (Option.some.inj hj).symm
        have h1 := hbx.setN (q / 8) u
        rw [hu, ← List.map_set, ← hu] at h1
        have e2 : bsOf (p.1, some q) = (bsOf p).set (q / 8) ((bsOf p).getD (q / 8) 0 ^^^ bitAt q) := bsOf_flip ht q
        rw [e2]
        exact h1.chg hc2 (fun z hz e => hz.2.2 (by have e : z = b := e; rw [e]; rfl))
      · cases hj
    next e =>
      have hxj := h.bytes x (List.mem_of_getElem? hj)
      have hap : ∀ z, x.1.ownBlock = some z → z ≠ bk := by
        obtain ⟨l1, e1⟩ := List.getElem?_eq_some_iff.1 hj
        obtain ⟨l2, e2⟩ := List.getElem?_eq_some_iff.1 hx
        rintro z hz rfl
        have hp := List.pairwise_iff_getElem.1 h.apart
        rcases Nat.lt_or_gt_of_ne e with hlt | hlt
        · have := hp k j l2 l1 hlt
          rw [e1, e2] at this
          exact this z rfl hz
        · have := hp j k l1 l2 hlt
          rw [e1, e2] at this
          exact this z hz rfl
      have h1 : RowF (fun z => x.1.ownBlock = some z) w 5 x.1 ((bsOf x.2).map B) := ⟨hxj.1, fun z hz => hz⟩
      have h2 := (h1.chg hc1 (fun z hz e => hap z hz e)).chg hc2 (fun z hz e => (hxj.2 z hz).2.2 (by have e : z = b := e; rw [e]; rfl))
      exact ⟨h2.1, hxj.2⟩
  · rw [apart_map, map_set1 hx, ← apart_map]
    exact h.apart
theorem NtFlipFin {F : Fp} {w0 w2 w6 : World} {g : Nat} {S6 : NtP} {v6 : Value} {ps6 : List PvP} (hF : F.isIn w0) (hg : F g) (hx : Ext w0 w2) (h6 : NtIn F w6 g S6 v6 ps6 ∧ Chg F w2 w6) : NtAt (F.since w0 w6) w6 g S6 ∧ Chg F w0 w6 := by
  obtain ⟨hi, hc6⟩ := h6
  have s1 := hx.size
  have s3 := hc6.size
  exact ⟨⟨⟨v6, ps6, hi.mono (fun k hk => .inl hk)⟩, hF.since (by omega), .inl hg⟩, (Chg.of_ext (F := F) hx).trans hc6 (fun _ _ h => h)⟩

set_option maxRecDepth 100000 in
set_option maxHeartbeats 4000000 in
theorem NFlip_any (F : Fp) (g : Nat) (S : NtP) (i bit : Int) (w : World) (h : NtAt F w g S) (hok : OkNt S) : Calls Try.prog 39 #[.pointer (some ⟨g, 0, none⟩), .int .i64 i, .int .i64 bit] w fun e w' => e = .returned (.bool (flipN S i bit).1) ∧ NtAt (F.since w w') w' g (flipN S i bit).2 ∧ Chg F w w' := by
  have HHN := Lib.hid (NHas_any F g S i w h)
  have HA := Lib.hid h
  have HOK := Lib.hid hok
  clear h hok
  go_enter Try.func39, Try.ntmps39
  cases hr : hasN S i with
  | false =>
    rw [hr] at HHN
    have HF : Hid (flipN S i bit = (false, S)) := Lib.hid (by unfold flipN; rw [if_neg (by rw [hr]; simp)])
    clear hr
    go_wp2_with fail
    refine HHN.out.mono ?_
    rintro e1 w1 ⟨rfl, hx1⟩
    have HX := Lib.hid hx1
    clear hx1 HHN
    go_wp2
    go_ret
    exact ⟨by rw [HF.out]; rfl, by rw [HF.out]; exact HA.out.grow HX.out⟩
  | true =>
    rw [hr] at HHN
    have HR0 := Lib.hid hr
    have HAT := Lib.hid (atN_get HR0.out)
    have HOP := Lib.hid (HOK.out.each _ (atN_mem HR0.out))
    have HIX := Lib.hid (hasN_iff.1 HR0.out)
    clear hr
    go_wp2_with fail
    refine HHN.out.mono ?_
    rintro e2 w2 ⟨rfl, hx2⟩
    have HX := Lib.hid hx2
    clear hx2 HHN
    obtain ⟨v, ps, hi⟩ := (HA.out.ext HX.out).out
    have HIN := Lib.hid hi
    have HFI := Lib.hid (HA.out.isIn.ext HX.out)
    have HHR := Lib.hid HA.out.here
    obtain ⟨k, rfl⟩ : ∃ k : Nat, i = k := ⟨i.toNat, by have := HIX.out; omega⟩
    have hk : k < ps.length := by rw [hi.len]; have := HIX.out; omega
    obtain ⟨A, c, rfl, hnc, hcm, hA⟩ := hi.row.slice_
    obtain ⟨-, b, cur, rfl, -⟩ := hi.row.at_ (fun e => by have := (hA e).1; omega)
    clear hA
    obtain ⟨x, hx⟩ : ∃ x, ps[k]? = some x := ⟨_, List.getElem?_eq_getElem hk⟩
    have hxp : x.2 = atN S (k : Int) := by
      have h1 := HAT.out
      rw [← hi.eq, Int.toNat_natCast, List.getElem?_map, hx] at h1
      simpa using h1
    obtain ⟨hcl, hct⟩ := wayC_at ps k x hx
    replace hcl := hi.row.cells.2.1 _ _ hcl
    replace hct := hi.row.cells.2.1 _ _ hct
    have hbx := hi.bytes x (List.mem_of_getElem? hx)
    obtain ⟨vx, px⟩ := x
    simp only at hxp hcl hct hbx
    obtain ⟨P, hP⟩ : ∃ P, P = atN S (k : Int) := ⟨_, rfl⟩
    rw [← hP] at hxp HOP HAT
    have HPE := Lib.hid hP
    subst hxp
    clear hP
    have hln : 7 ≤ (bsOf px).length ∧ (bsOf px).length ≤ 120 := by rw [bsOf_len]; exact ms_len HOP.out.right
    obtain ⟨bk, ck, rfl⟩ : ∃ bk ck, vx = .slice (some ⟨bk, 0, none⟩) (bsOf px).length ck := by
      rcases hbx.1.2 with ⟨_, h0⟩ | ⟨q, cap, cu, e1, _⟩
      · rw [List.length_map] at h0; omega
      · exact ⟨q, cap, by rw [e1, List.length_map]⟩
    obtain ⟨t, ht⟩ : ∃ t, t = tOf px := ⟨_, rfl⟩
    rw [← ht] at hct
    have HT := Lib.hid ht
    have c0 : w2.cell? ⟨g, 0, none⟩ = some (.slice (some ⟨b, 0, none⟩) ps.length c) := hi.blk.cell 0
    have x1 : (0 : Int) ≤ (k : Int) ∧ (k : Int) < (ps.length : Int) := by omega
    have HLN := Lib.hid hln
    have HBX := Lib.hid hbx
    have HXK := Lib.hid hx
    clear hi hbx hx hk hnc hcm hln
    cases t with
    | true =>
      have HF : Hid (flipN S (k : Int) bit = (false, S)) := Lib.hid (by unfold flipN; rw [if_neg (by rw [← HPE.out, ← ht]; simp)])
      clear ht
      go_wp2
      go_ret
      exact ⟨by rw [HF.out]; rfl, by rw [HF.out]; exact HA.out.grow HX.out⟩
    | false =>
      by_cases h0 : bit < 0
      · have d0 : decide (bit < 0) = true := decide_eq_true h0
        have HF : Hid (flipN S (k : Int) bit = (false, S)) := Lib.hid (by unfold flipN; rw [if_neg (by rintro ⟨-, -, h, -⟩; omega)])
        clear ht h0
        go_wp2
        go_ret
        exact ⟨by rw [HF.out]; rfl, by rw [HF.out]; exact HA.out.grow HX.out⟩
      have d0 : decide (bit < 0) = false := decide_eq_false h0
      obtain ⟨q, rfl⟩ : ∃ q : Nat, bit = q := ⟨bit.toNat, by omega⟩
      have hwm : wrap64 (8 * ((bsOf px).length : Int)) = 8 * ((bsOf px).length : Int) := IntWalk.wrap64_in _ (by have := HLN.out; omega)
      have hwi : IntKind.i64.wrap (8 * ((bsOf px).length : Int)) = 8 * ((bsOf px).length : Int) := by have := HLN.out; simp [IntKind.wrap_i64]; omega
      by_cases h1 : q < 8 * (bsOf px).length
      · have d1 : decide (8 * ((bsOf px).length : Int) ≤ (q : Int)) = false := decide_eq_false (by omega)
        have d1' : decide (8 * (bsOf px).length ≤ q) = false := decide_eq_false (by omega)
        have HF : Hid (flipN S (k : Int) (q : Int) = (true, ⟨S.way.set k (px.1, some q), S.sent⟩)) := Lib.hid (by unfold flipN; rw [if_pos ⟨HR0.out, by rw [← HPE.out, ← ht], by omega, by rw [← HPE.out]; omega⟩, ← HPE.out]; rfl)
        have HQ := Lib.hid h1
        clear ht h0 h1
        have HDR : Hid (Ext w2 w2.drew) := Lib.hid (Below.drewN' (Ext.refl w2) 1)
        have HID := Lib.hid (HIN.out.chg (Chg.of_ext (F := fun _ => False) HDR.out) (fun _ _ h => h) HHR.out)
        have HBD := Lib.hid (HBX.out.chg (Chg.of_ext (F := fun _ => False) HDR.out) (fun _ _ h => h))
        obtain ⟨hby, hfy⟩ := HBD.out.cellN (q / 8) (by rw [List.length_map]; have := HQ.out; omega)
        have hq8 : q / 8 < (bsOf px).length := by have := HQ.out; omega
        rw [List.getElem?_map, List.getElem?_eq_getElem hq8, Option.map_some] at hby
        obtain ⟨y, hy⟩ : ∃ y, y = (bsOf px)[q / 8] := ⟨_, rfl⟩
        rw [← hy] at hby
        simp only [B] at hby
        have HY : Hid ((bsOf px).getD (q / 8) 0 = y) := Lib.hid (by rw [List.getD_eq_getElem?_getD, List.getElem?_eq_getElem hq8, hy]; rfl)
        have x2 : (0 : Int) ≤ ((q / 8 : Nat) : Int) ∧ ((q / 8 : Nat) : Int) < ((bsOf px).length : Int) := by omega
        have HQ8 := Lib.hid hq8
        clear hy
        have hbx := bitN_xor y q
        have hc1 : Chg (fun z => z = bk) w2.drew (w2.drew.setCell ⟨bk, q / 8, none⟩ (B (y ^^^ bitAt q))) := (Chg.refl _ _).setCell (fun _ => rfl)
        have HK1 : Hid (b ≠ bk) := Lib.hid (fun e => (HBD.out.2 bk rfl).2.2 (by rw [e]; rfl))
        have HR1 := Lib.hid (HID.out.row.chg hc1 (fun z hz e => HK1.out (by simp only [Value.ownBlock, Option.some.injEq] at hz; rw [hz]; exact e)))
        clear hc1
        have HCW := Lib.hid (wayC_at ps k _ HXK.out)
        have HHT := Lib.hid HT.out
        have x3 : (0 : Int) ≤ (q : Int) / 8 ∧ (q : Int) / 8 < ((bsOf px).length : Int) := by omega
        have htn : ((q : Int) / 8).toNat = q / 8 := by omega
        have hmn : ((q : Int) % 8).toNat = q % 8 := by omega
        have hwu : IntKind.u8.wrap (2 ^ (q % 8)) = 2 ^ (q % 8) % 256 := by simp [IntKind.wrap, IntKind.signed, IntKind.bits]
        have hwr : IntKind.i64.wrap ((q : Int) / 8) = ((q / 8 : Nat) : Int) := by have := HLN.out; have := HQ.out; simp [IntKind.wrap_i64]; omega
        have htm : (q : Int).tmod 8 = ((q % 8 : Nat) : Int) := by rw [Int.tmod_eq_emod_of_nonneg (by omega)]; omega
        go_upto_region 6 with (fail)
        clear hct c0
        refine held_begin (by kernel_rfl) ?_
        refine held_more (S' := fun (W' : World) => W'.cell? ⟨b, k * 2, none⟩ = some (.slice (some ⟨bk, 0, none⟩) (bsOf px).length ck)) (fun _ _ => True.intro) ?_
        have hHeld0 : (fun (W' : World) => W'.cell? ⟨b, k * 2, none⟩ = some (.slice (some ⟨bk, 0, none⟩) (bsOf px).length ck)) _ := HID.out.row.cells.2.1 _ _ HCW.out.1
        refine held_take (i := 0) (v := ?_) rfl (by kernel_rfl) (by kernel_rfl) (by kernel_rfl) (by rfl) (by first | assumption | exact True.intro) ?_ ?_
        rotate_left
        · (intro w hSw; (try dsimp only at hSw); go_simp; (try with_reducible rfl))
        try simp only [Act.put, List.setIfInBounds_toArray, List.set_cons_zero, List.set_cons_succ]
        refine held_take (i := 1) (v := ?_) rfl (by kernel_rfl) (by kernel_rfl) (by kernel_rfl) (by rfl) (by first | assumption | exact True.intro) ?_ ?_
        rotate_left
        · (intro w hSw; (try dsimp only at hSw); go_simp; (try with_reducible rfl))
        try simp only [Act.put, List.setIfInBounds_toArray, List.set_cons_zero, List.set_cons_succ]
        refine held_take (i := 2) (v := ?_) rfl (by kernel_rfl) (by kernel_rfl) (by kernel_rfl) (by rfl) (by first | assumption | exact True.intro) ?_ ?_
        rotate_left
        · (intro w hSw; (try dsimp only at hSw); go_simp; (try with_reducible rfl))
        try simp only [Act.put, List.setIfInBounds_toArray, List.set_cons_zero, List.set_cons_succ]
        refine held_take (i := 3) (v := ?_) rfl (by kernel_rfl) (by kernel_rfl) (by kernel_rfl) (by rfl) (by first | assumption | exact True.intro) ?_ ?_
        rotate_left
        · (intro w hSw; (try dsimp only at hSw); go_simp; (try with_reducible rfl))
        try simp only [Act.put, List.setIfInBounds_toArray, List.set_cons_zero, List.set_cons_succ]
        refine held_take (i := 4) (v := ?_) rfl (by kernel_rfl) (by kernel_rfl) (by kernel_rfl) (by rfl) (by first | assumption | exact True.intro) ?_ ?_
        rotate_left
        · (intro w hSw; (try dsimp only at hSw); go_simp; (try with_reducible rfl))
        try simp only [Act.put, List.setIfInBounds_toArray, List.set_cons_zero, List.set_cons_succ]
        refine held_take (i := 5) (v := ?_) rfl (by kernel_rfl) (by kernel_rfl) (by kernel_rfl) (by rfl) (by first | assumption | exact True.intro) ?_ ?_
        rotate_left
        · (intro w hSw; (try dsimp only at hSw); go_simp; (try with_reducible rfl))
        try simp only [Act.put, List.setIfInBounds_toArray, List.set_cons_zero, List.set_cons_succ]
        refine held_take (i := 6) (v := ?_) rfl (by kernel_rfl) (by kernel_rfl) (by kernel_rfl) (by rfl) (by first | assumption | exact True.intro) ?_ ?_
        rotate_left
        · (intro w hSw; (try dsimp only at hSw); go_simp; (try with_reducible rfl))
        try simp only [Act.put, List.setIfInBounds_toArray, List.set_cons_zero, List.set_cons_succ]
        refine held_take (i := 8) (v := ?_) rfl (by kernel_rfl) (by kernel_rfl) (by kernel_rfl) (by rfl) (by first | assumption | exact True.intro) ?_ ?_
        rotate_left
        · (intro w hSw; (try dsimp only at hSw); go_simp; (try with_reducible rfl))
        try simp only [Act.put, List.setIfInBounds_toArray, List.set_cons_zero, List.set_cons_succ]
        refine held_take (i := 9) (v := ?_) rfl (by kernel_rfl) (by kernel_rfl) (by kernel_rfl) (by rfl) (by first | assumption | exact True.intro) ?_ ?_
        rotate_left
        · (intro w hSw; (try dsimp only at hSw); go_simp; (try with_reducible rfl))
        try simp only [Act.put, List.setIfInBounds_toArray, List.set_cons_zero, List.set_cons_succ]
        refine held_take (i := 10) (v := ?_) rfl (by kernel_rfl) (by kernel_rfl) (by kernel_rfl) (by rfl) (by first | assumption | exact True.intro) ?_ ?_
        rotate_left
        · (intro w hSw; (try dsimp only at hSw); go_simp; (try with_reducible rfl))
        try simp only [Act.put, List.setIfInBounds_toArray, List.set_cons_zero, List.set_cons_succ]
        refine held_op (i := 7) (by kernel_rfl) rfl (fun K hK => ?_)
        go_simp
        refine hK _ _ ?_ (fun hHeld1 => ?_)
        · exact HID.out.row.cells.2.1 _ _ HCW.out.1
        clear hK K
        try simp only [Act.put, List.setIfInBounds_toArray, List.set_cons_zero, List.set_cons_succ]
        refine held_take (i := 11) (v := ?_) rfl (by kernel_rfl) (by kernel_rfl) (by kernel_rfl) (by rfl) (by first | assumption | exact True.intro) ?_ ?_
        rotate_left
        · (intro w hSw; (try dsimp only at hSw); go_simp; (try with_reducible rfl))
        try simp only [Act.put, List.setIfInBounds_toArray, List.set_cons_zero, List.set_cons_succ]
        refine held_take (i := 12) (v := ?_) rfl (by kernel_rfl) (by kernel_rfl) (by kernel_rfl) (by rfl) (by first | assumption | exact True.intro) ?_ ?_
        rotate_left
        · (intro w hSw; (try dsimp only at hSw); go_simp; (try with_reducible rfl))
        try simp only [Act.put, List.setIfInBounds_toArray, List.set_cons_zero, List.set_cons_succ]
        refine held_op (i := 13) (by kernel_rfl) rfl (fun K hK => ?_)
        go_simp
        refine hK _ _ ?_ (fun hHeld2 => ?_)
        · exact HR1.out.cells.2.1 _ _ HCW.out.1
        clear hK K
        try simp only [Act.put, List.setIfInBounds_toArray, List.set_cons_zero, List.set_cons_succ]
        refine wpAnyH_done (by kernel_rfl) ?_ _
        refine NoPanic.normal ?_
        have H8 := Lib.hid (HID.out.flip HXK.out HHT.out.symm q (B (y ^^^ bitAt q)) (by rw [HY.out]))
        obtain ⟨w6, hw6⟩ : ∃ W, W = (w2.setCell ⟨bk, q / 8, none⟩ (.int .u8 ((y.toNat ^^^ (bitAt q).toNat : Nat) : Int))).drew := ⟨_, rfl⟩
        have hw7 : w6 = w2.drew.setCell ⟨bk, q / 8, none⟩ (B (y ^^^ bitAt q)) := by rw [hw6, ← UInt8.toNat_xor]; rfl
        rw [← hw7] at HR1 H8
        clear hw7
        have c6 := HR1.out.cells.2.1 _ _ HCW.out.2
        have f6 := HR1.out.cells.2.2 (k * 2 + 1)
        rw [← hw6]
        clear hw6 hbx hwu htm hwr hmn htn hby hfy hcl
        go_wp2
        go_ret
        exact ⟨by rw [HF.out]; rfl, by rw [HF.out]; exact NtFlipFin HA.out.isIn HA.out.here (HX.out.trans HDR.out) H8.out⟩
      · have d1 : decide (8 * ((bsOf px).length : Int) ≤ (q : Int)) = true := decide_eq_true (by omega)
        have d1' : decide (8 * (bsOf px).length ≤ q) = true := decide_eq_true (by omega)
        have HF : Hid (flipN S (k : Int) (q : Int) = (false, S)) := Lib.hid (by unfold flipN; rw [if_neg (by rw [← HPE.out]; rintro ⟨-, -, -, h⟩; omega)])
        clear ht h0 h1
        go_wp2
        go_ret
        exact ⟨by rw [HF.out]; rfl, by rw [HF.out]; exact HA.out.grow HX.out⟩

end Go.Proofs.Ytdijinboopdheaa

/- Package net: List. -/
namespace Go.Proofs.Ytdijinboopdheaa
open Go.RowKit

def msC (m : Ms) : List Value := (msL m).map I
theorem msC_len (m : Ms) : (msC m).length = 11 := rfl
/-- The messages of the first ones. -/
def headL (S : NtP) (k : Nat) : List Ms := (S.way.take k).filterMap gotOf
theorem headL_next {S : NtP} {k : Nat} {p : PcP} (h : S.way[k]? = some p) : headL S (k + 1) = headL S k ++ (gotOf p).toList := by
  unfold headL
  rw [List.take_add_one, h, List.filterMap_append]
  cases hg : gotOf p <;> simp [hg]
theorem headL_all (S : NtP) : headL S S.way.length = listN S := by unfold headL listN; rw [List.take_length]
theorem headL_len {S : NtP} {k : Nat} : (headL S k).length ≤ k := by
  unfold headL
  have := List.length_filterMap_le gotOf (S.way.take k)
  rw [List.length_take] at this
  omega
def ListR (w0 w : World) (v : Value) (L : List Ms) : Prop := WayF (fun q => w0.heap.size ≤ q) w 49 11 v L.length (L.flatMap msC) ∧ Ext w0 w
theorem ListR.ext {w0 w w' : World} {v : Value} {L : List Ms} (h : ListR w0 w v L) (hx : Ext w w') : ListR w0 w' v L := ⟨h.1.chg (Chg.of_ext (F := fun _ => False) hx) (fun _ _ h => h), h.2.trans hx⟩
theorem ListR.push {w0 w w' : World} {v v' : Value} {L : List Ms} {m : Ms} (h : ListR w0 w v L) (hg : WayG v w 49 11 (L.length + 1) (L.flatMap msC ++ msC m) v' w') : ListR w0 w' v' (L ++ [m]) := by
  obtain ⟨h1, h2⟩ := hg.way h.1
  refine ⟨?_, h2.ext h.2 (fun k hk => h.1.inF k hk)⟩
  have e : (L ++ [m]).flatMap msC = L.flatMap msC ++ msC m := by simp
  rw [e, List.length_append]
  refine h1.mono (fun k hk => ?_)
  rcases hk with hk | hk
  · exact hk
  · exact Nat.le_trans h.2.size hk.1
theorem flat11 : ∀ (L : List Ms) (j i : Nat) (m : Ms) (z : Int), L[j]? = some m → (msL m)[i]? = some z → (L.flatMap msC)[j * 11 + i]? = some (.int .i64 z)
  | [], j, i, m, z, h, _ => by simp at h
  | x :: L, 0, i, m, z, h, hz => by
    obtain rfl : x = m := by simpa using h
    have hi : i < (msC x).length := by rw [msC_len]; exact (List.getElem?_eq_some_iff.1 hz).1
    rw [List.flatMap_cons, List.getElem?_append_left (by omega), Nat.zero_mul, Nat.zero_add]
    show ((msL x).map I)[i]? = _
    rw [List.getElem?_map, hz]
    rfl
  | x :: L, j + 1, i, m, z, h, hz => by
    rw [List.flatMap_cons, List.getElem?_append_right (by rw [msC_len]; omega), msC_len, show (j + 1) * 11 + i - 11 = j * 11 + i by omega]
    exact flat11 L j i m z (by simpa using h) hz
theorem ListR.rdI {w0 w : World} {v : Value} {L : List Ms} (h : ListR w0 w v L) : RdI 11 w v (L.map msL) := by
  obtain ⟨A, c, rfl, hnc, hcm, hA⟩ := h.1.slice_
  refine ⟨A, c, by rw [List.length_map], by rw [List.length_map]; exact hnc, hcm, fun hn => ?_⟩
  obtain ⟨-, b, cur, rfl, hb, -⟩ := h.1.at_ (fun e => by have := (hA e).1; rw [List.length_map] at hn; omega)
  refine ⟨b, 0, rfl, (Array.getElem?_eq_some_iff.1 hb).1, fun j x i z hx hz => ?_⟩
  rw [List.getElem?_map] at hx
  cases hm : L[j]? with
  | none => rw [hm] at hx; cases hx
  | some m =>
    rw [hm] at hx
    obtain rfl : msL m = x := by simpa using hx
    rw [Nat.zero_add]
    exact h.1.cells.2.1 _ _ (flat11 L j i m z hm hz)

set_option maxRecDepth 100000 in
set_option maxHeartbeats 4000000 in
theorem NList_any (F : Fp) (g : Nat) (S : NtP) (w : World) (h : NtAt F w g S) (hok : OkNt S) : Calls Try.prog 42 #[.pointer (some ⟨g, 0, none⟩)] w fun e w' => ∃ v, e = .returned v ∧ RdI 11 w' v ((listN S).map msL) ∧ Ext w w' := by
  obtain ⟨v, ps, hi⟩ := h.out
  have HA := Lib.hid h
  have HOK := Lib.hid hok
  have HIN := Lib.hid hi
  have HGL := Lib.hid h.lt
  obtain ⟨A, c, rfl, hnc, hcm, hA⟩ := hi.row.slice_
  have HAA := Lib.hid hA
  have HCC := Lib.hid (And.intro hnc hcm)
  have c0 : w.cell? ⟨g, 0, none⟩ = some (.slice A ps.length c) := hi.blk.cell 0
  have HLN := Lib.hid hi.len
  have HL40 : Hid (ps.length ≤ 40) := Lib.hid (by rw [hi.len]; exact hok.most)
  have HR0 : Hid (ListR w w (.slice none 0 0) []) := Lib.hid ⟨WayF.nil _ _ _ _, Ext.refl _⟩
  clear hi h hok hA hnc hcm
  go_enter Try.func42, Try.ntmps42
  go_wp2_with fail
  go_loopw [3, 15] (fun v i wr => ∃ k : Nat, i = .int .i64 k ∧ k ≤ ps.length ∧ Hid (ListR w wr v (headL S k))) (fun _ i _ => ps.length - (intOf i).toNat)
  case atStart => exact ⟨0, rfl, Nat.zero_le _, HR0⟩
  case round =>
    obtain ⟨k, rfl, hk, HK⟩ := hrel
    obtain ⟨Al, cl, rfl, -, -, -⟩ := HK.out.1.slice_
    by_cases hlt : k < ps.length
    · have e1 : decide ((k : Int) < (ps.length : Int)) = true := decide_eq_true (by omega)
      have e1' : decide (k < ps.length) = true := decide_eq_true hlt
      obtain ⟨b, rfl⟩ : ∃ b, A = some ⟨b, 0, none⟩ := by
        obtain ⟨-, b, cur, h1, -⟩ := HIN.out.row.at_ (fun e => by have := (HAA.out e).1; omega)
        exact ⟨b, h1⟩
      have HIR := Lib.hid (HIN.out.chg (Chg.of_ext (F := fun _ => False) HK.out.2) (fun _ _ h => h) HA.out.here)
      obtain ⟨x, hx⟩ : ∃ x, ps[k]? = some x := ⟨_, List.getElem?_eq_getElem hlt⟩
      have hxw : S.way[k]? = some x.2 := by rw [← HIN.out.eq, List.getElem?_map, hx]; rfl
      obtain ⟨hcl, hct⟩ := wayC_at ps k x hx
      replace hcl := HIR.out.row.cells.2.1 _ _ hcl
      replace hct := HIR.out.row.cells.2.1 _ _ hct
      have hbx := HIR.out.bytes x (List.mem_of_getElem? hx)
      obtain ⟨vx, px⟩ := x
      simp only at hcl hct hbx hxw
      obtain ⟨Ax, cx, rfl, -, -⟩ := hbx.rd.sliceN (List.length_map _)
      obtain ⟨t, ht⟩ : ∃ t, t = tOf px := ⟨_, rfl⟩
      rw [← ht] at hct
      clear ht
      have x1 : (0 : Int) ≤ (k : Int) ∧ (k : Int) < (ps.length : Int) := by omega
      obtain ⟨W3, hW3⟩ : ∃ W3, W3 = wr.alloc (.cells #[.slice Ax (bsOf px).length cx, .bool t] 117) := ⟨_, rfl⟩
      have HX3 := Lib.hid (show Ext wr W3 by rw [hW3]; exact Ext.alloc_ _ _)
      have HB3 : Hid (Blk W3 wr.heap.size 117 #[.slice Ax (bsOf px).length cx, .bool t]) := Lib.hid (by rw [hW3]; exact Blk.new _ _ _)
      have HGT := Lib.hid (Get12_any _ _ W3 (hbx.rd.ext HX3.out))
      rw [(HOK.out.each px (List.mem_of_getElem? hxw)).get] at HGT
      have HNX := Lib.hid (headL_next hxw)
      have HLT := Lib.hid hlt
      have hwq : wrap64 ((k : Int) + 1) = (k : Int) + 1 := IntWalk.wrap64_in _ (by have := HL40.out; omega)
      obtain ⟨r, hr⟩ : ∃ r, r = gotOf px := ⟨_, rfl⟩
      rw [← hr] at HGT HNX
      clear hr hx hxw hbx hlt
      go_upto_region 7 with (fail)
      (try rw [← hW3])
      clear hW3 hcl hct
      have p3 := HB3.out.cell 0
      go_wp2_with fail
      refine HGT.out.mono ?_
      rintro e4 w4 ⟨rfl, hx4⟩
      have HX4 := Lib.hid (HX3.out.trans hx4)
      clear hx4 HGT p3
      cases r with
      | none =>
        have e0 : getA none = .tuple #[.agg #[.int .i64 0, .int .i64 0, .int .i64 0, .int .i64 0, .int .i64 0, .int .i64 0, .int .i64 0, .int .i64 0, .int .i64 0, .int .i64 0, .int .i64 0], .bool false] := rfl
        rw [e0]
        clear e0
        obtain ⟨W5, hW5⟩ : ∃ W, W = w4.alloc (.cells #[.int .i64 0, .int .i64 0, .int .i64 0, .int .i64 0, .int .i64 0, .int .i64 0, .int .i64 0, .int .i64 0, .int .i64 0, .int .i64 0, .int .i64 0] 49) := ⟨_, rfl⟩
        have HX5 := Lib.hid (HX4.out.trans (show Ext w4 W5 by rw [hW5]; exact Ext.alloc_ _ _))
        have hk6 : Hid (ListR w W5 (.slice Al (headL S k).length cl) (headL S (k + 1))) := Lib.hid (by rw [HNX.out, Option.toList_none, List.append_nil]; exact HK.out.ext HX5.out)
        go_upto_region 8 with (fail)
        rw [← hW5]
        clear hW5
        go_wp2
        go_roundw
        case rel => exact ⟨k + 1, by go_num, HLT.out, hk6⟩
        case measure => (rw [hwq]; show ps.length - ((k : Int) + 1).toNat < ps.length - ((k : Int)).toNat; have := HLT.out; omega)
      | some M =>
        obtain ⟨W5, hW5⟩ : ∃ W, W = w4.alloc (.cells #[.int .i64 M.node, .int .i64 M.kind, .int .i64 M.term, .int .i64 M.gen, .int .i64 M.job, .int .i64 M.inc, .int .i64 M.ver, .int .i64 M.epoch, .int .i64 M.til, .int .i64 M.mode, .int .i64 M.work] 49) := ⟨_, rfl⟩
        have HX5 := Lib.hid (HX4.out.trans (show Ext w4 W5 by rw [hW5]; exact Ext.alloc_ _ _))
        have HM5 : Hid (MsAt W5 w4.heap.size M) := Lib.hid ⟨by rw [hW5]; exact Blk.new _ _ _⟩
        unfold getA msV
        go_upto_region 9 with (fail)
        rw [← hW5]
        clear hW5
        obtain ⟨m0, m1, m2, m3, m4, m5, m6, m7, m8, m9, m10⟩ := HM5.out.cells
        have HK5 := Lib.hid (HK.out.ext HX5.out)
        have hl40 : (headL S k).length + 1 ≤ 41 := by have := headL_len (S := S) (k := k); have := HLT.out; have := HL40.out; omega
        go_wp2_with (at_builtin; refine wpList_pushW (F := fun q => w.heap.size ≤ q) rfl _ _ 60 rfl 49 (.agg #[.int .i64 0, .int .i64 0, .int .i64 0, .int .i64 0, .int .i64 0, .int .i64 0, .int .i64 0, .int .i64 0, .int .i64 0, .int .i64 0, .int .i64 0]) 11 88 Try.underlying60 (by kernel_rfl) (by simp [Value.cells]) (by omega) _ _ _ HK5.out.1 rfl #[.int .i64 M.node, .int .i64 M.kind, .int .i64 M.term, .int .i64 M.gen, .int .i64 M.job, .int .i64 M.inc, .int .i64 M.ver, .int .i64 M.epoch, .int .i64 M.til, .int .i64 M.mode, .int .i64 M.work] rfl (by simp [Value.oneCell']) rfl rfl (by unfold maxLen; omega) (by omega) ?_; intro v6 w6 hg6)
        have hk6 := HK5.out.push (m := M) hg6
        go_roundw
        case rel => exact ⟨k + 1, by go_num, HLT.out, Lib.hid (by rw [HNX.out]; exact hk6)⟩
        case measure => (rw [hwq]; show ps.length - ((k : Int) + 1).toNat < ps.length - ((k : Int)).toNat; have := HLT.out; omega)
    · obtain rfl : k = ps.length := by omega
      have e1 : decide ((ps.length : Int) < (ps.length : Int)) = false := decide_eq_false (by omega)
      have e1' : decide (ps.length < ps.length) = false := decide_eq_false (by omega)
      have HF := Lib.hid (And.intro HK.out.rdI HK.out.2)
      clear HK
      go_wp2
      go_ret
      exact ⟨_, rfl, (by have e : headL S ps.length = listN S := (by rw [HLN.out, headL_all]); rw [← e]; exact HF.out.1), HF.out.2⟩

end Go.Proofs.Ytdijinboopdheaa

/- Package net: a net alone, as a law uses it. -/
namespace Go.Proofs.Ytdijinboopdheaa
open Go.RowKit

/-- The net S in block g; all that it wrote but that block is newer than w0; k: how often was sent, at most. -/
structure NW (w0 w : World) (g : Nat) (S : NtP) (k : Nat) : Prop where
  ok : OkNt S
  sent : S.sent ≤ k
  chg : Chg (fun q => q = g) w0 w
  lt : g < w0.heap.size
  at_ : ∃ F : Fp, NtAt F w g S ∧ ∀ q, F q → q = g ∨ w0.heap.size ≤ q

section
variable {w0 w w' : World} {g : Nat} {S S' : NtP} {k k' : Nat}
theorem NW.new {w0 : World} {g : Nat} (hb : Blk w0 g 69 #[.slice none 0 0, .int .i64 0]) : NW w0 w0 g newN12 0 :=
  ⟨okNt_new, Nat.le_refl _, Chg.refl _ _, hb.lt, fun q => q = g, ⟨⟨.slice none 0 0, [], hb, rfl, WayF.nil _ _ _ _, fun x hx => (by cases hx), List.Pairwise.nil⟩, fun q hq => (by have hq : q = g := hq; rw [hq]; exact hb.lt), rfl⟩, fun q hq => .inl hq⟩
theorem NW.more (h : NW w0 w g S k) (hx : Ext w w') : NW w0 w' g S k := by
  obtain ⟨F, h1, h2⟩ := h.at_
  exact ⟨h.ok, h.sent, h.chg.trans (Chg.of_ext (F := fun _ => False) hx) (fun _ _ h => h.elim), h.lt, F, h1.ext hx, h2⟩
theorem NW.le (h : NW w0 w g S k) (hk : k ≤ k') : NW w0 w g S k' := ⟨h.ok, Nat.le_trans h.sent hk, h.chg, h.lt, h.at_⟩
theorem NW.turn {F G : Fp} (h : NW w0 w g S k) (hF : ∀ q, F q → q = g ∨ w0.heap.size ≤ q) (hG : ∀ q, G q → F q) (ho : OkNt S') (hs : S'.sent ≤ k') (hn : NtAt (F.since w w') w' g S') (hc : Chg G w w') : NW w0 w' g S' k' := by
  refine ⟨ho, hs, h.chg.trans hc (fun q hq hGq => ?_), h.lt, _, hn, fun q hq => ?_⟩
  · rcases hF q (hG q hGq) with e | e
    · exact e
    · omega
  · rcases hq with hq | hq
    · exact hF q hq
    · exact .inr (Nat.le_trans h.chg.size hq.1)
/-- What the law made beside it. -/
theorem NW.blk {b : Nat} {T : TypeId} {cs : Array Value} (h : NW w0 w g S k) (hb : Blk w0 b T cs) (hne : b ≠ g) : Blk w b T cs := (h.chg.block b hb.lt hne).trans hb
theorem NW.ext_ {w1 : World} (h : NW w0 w g S k) (hx : Ext w1 w0) (hg : w1.heap.size ≤ g) : Ext w1 w := h.chg.ext hx (fun q hq => by have hq : q = g := hq; omega)
theorem sendN_sent (S : NtP) (m : Ms) : (sendN S m).2.sent ≤ S.sent + 1 := by unfold sendN; split <;> simp
theorem dropN_sent (S : NtP) (i : Int) : (dropN S i).2.sent = S.sent := by unfold dropN; split <;> rfl
theorem twiceN_sent (S : NtP) (i : Int) : (twiceN S i).2.sent = S.sent := by unfold twiceN; split <;> rfl
theorem flipN_sent (S : NtP) (i b : Int) : (flipN S i b).2.sent = S.sent := by unfold flipN; split <;> rfl
theorem NW.send (h : NW w0 w g S k) (hk : k < 1000000) (m : Ms) : Calls Try.prog 36 #[.pointer (some ⟨g, 0, none⟩), msV m] w fun e w' => e = .returned (.bool (sendN S m).1) ∧ NW w0 w' g (sendN S m).2 (k + 1) := by
  obtain ⟨F, h1, h2⟩ := h.at_
  have hs := h.sent
  refine (NSend_any F g S m w h1 (by omega)).mono ?_
  rintro e w' ⟨rfl, h3, h4⟩
  exact ⟨rfl, h.turn h2 (fun _ h => h) (h.ok.send m) (Nat.le_trans (sendN_sent S m) (by omega)) h3 h4⟩
theorem NW.drop (h : NW w0 w g S k) (i : Int) : Calls Try.prog 37 #[.pointer (some ⟨g, 0, none⟩), .int .i64 i] w fun e w' => e = .returned (.bool (dropN S i).1) ∧ NW w0 w' g (dropN S i).2 k := by
  obtain ⟨F, h1, h2⟩ := h.at_
  refine (NDrop_any F g S i w h1 (by have := h.ok.most; omega)).mono ?_
  rintro e w' ⟨rfl, h3, h4⟩
  exact ⟨rfl, h.turn (G := fun q => q = g) h2 (fun q hq => by have hq : q = g := hq; rw [hq]; exact h1.here) (h.ok.drop i) (by rw [dropN_sent]; exact h.sent) h3 h4⟩
theorem NW.deliver (h : NW w0 w g S k) (i : Int) : Calls Try.prog 35 #[.pointer (some ⟨g, 0, none⟩), .int .i64 i] w fun e w' => e = .returned (getA (delivN S i)) ∧ NW w0 w' g (dropN S i).2 k := by
  obtain ⟨F, h1, h2⟩ := h.at_
  refine (NDeliver_any F g S i w h1 h.ok).mono ?_
  rintro e w' ⟨rfl, h3, h4⟩
  exact ⟨rfl, h.turn (G := fun q => q = g) h2 (fun q hq => by have hq : q = g := hq; rw [hq]; exact h1.here) (h.ok.drop i) (by rw [dropN_sent]; exact h.sent) h3 h4⟩
theorem NW.twice (h : NW w0 w g S k) (i : Int) : Calls Try.prog 38 #[.pointer (some ⟨g, 0, none⟩), .int .i64 i] w fun e w' => e = .returned (.bool (twiceN S i).1) ∧ NW w0 w' g (twiceN S i).2 k := by
  obtain ⟨F, h1, h2⟩ := h.at_
  refine (NTwice_any F g S i w h1 h.ok).mono ?_
  rintro e w' ⟨rfl, h3, h4⟩
  exact ⟨rfl, h.turn h2 (fun _ h => h) (h.ok.twice i) (by rw [twiceN_sent]; exact h.sent) h3 h4⟩
theorem NW.flip (h : NW w0 w g S k) (i b : Int) : Calls Try.prog 39 #[.pointer (some ⟨g, 0, none⟩), .int .i64 i, .int .i64 b] w fun e w' => e = .returned (.bool (flipN S i b).1) ∧ NW w0 w' g (flipN S i b).2 k := by
  obtain ⟨F, h1, h2⟩ := h.at_
  refine (NFlip_any F g S i b w h1 h.ok).mono ?_
  rintro e w' ⟨rfl, h3, h4⟩
  exact ⟨rfl, h.turn h2 (fun _ h => h) (h.ok.flip i b) (by rw [flipN_sent]; exact h.sent) h3 h4⟩
theorem NW.len (h : NW w0 w g S k) : Calls Try.prog 40 #[.pointer (some ⟨g, 0, none⟩)] w fun e w' => e = .returned (.int .i64 S.way.length) ∧ Ext w w' := by
  obtain ⟨F, h1, -⟩ := h.at_
  exact NLen_any F g S w h1
theorem NW.sent_ (h : NW w0 w g S k) : Calls Try.prog 41 #[.pointer (some ⟨g, 0, none⟩)] w fun e w' => e = .returned (.int .i64 (S.sent : Int)) ∧ Ext w w' := by
  obtain ⟨F, h1, -⟩ := h.at_
  exact NSent_any F g S w h1
theorem NW.list (h : NW w0 w g S k) : Calls Try.prog 42 #[.pointer (some ⟨g, 0, none⟩)] w fun e w' => ∃ v, e = .returned v ∧ RdI 11 w' v ((listN S).map msL) ∧ Ext w w' := by
  obtain ⟨F, h1, -⟩ := h.at_
  exact NList_any F g S w h1 h.ok
end

end Go.Proofs.Ytdijinboopdheaa

/- Layer 12's statements: the document's example. -/
namespace Go.Proofs.Ytdijinboopdheaa
open Go.RowKit

def exM12 : Ms := ⟨0, 1, 300, 0, 0, 0, 0, 0, 0, 0, 0⟩
theorem exM12_right : rightM exM12 = true := by decide
def ex1 : NtP := ⟨[(exM12, none)], 1⟩
def ex2 : NtP := ⟨[(exM12, none), (exM12, none)], 1⟩
theorem ex12_send : sendN newN12 exM12 = (true, ex1) := by unfold sendN; rw [if_pos ⟨by decide, exM12_right⟩]; rfl
theorem ex12_twice : twiceN ex1 0 = (true, ex2) := by unfold twiceN; rw [if_pos ⟨by decide, by decide⟩]; rfl
theorem ex12_deliv : delivN ex2 1 = some exM12 := by unfold delivN; rw [if_pos (by decide)]; rfl
theorem ex12_drop : dropN ex2 1 = (true, ex1) := by unfold dropN; rw [if_pos (by decide)]; rfl
theorem ex12_list : listN ex1 = [exM12] := rfl
def ex3 : NtP := ⟨[(exM12, some 3)], 1⟩
theorem ex12_flip : flipN ex1 0 3 = (true, ex3) := by
  have h := ms_len exM12_right
  unfold flipN
  rw [if_pos ⟨by decide, rfl, by decide, by rw [bsOf_len]; show (3 : Int) < 8 * ((msgB exM12).length : Int); omega⟩]
  rfl
theorem ex12_drop2 : dropN ex3 0 = (true, ⟨[], 1⟩) := by unfold dropN; rw [if_pos (by decide)]; rfl
theorem ex12_get : getM (putM exM12) = some exM12 := by unfold putM; rw [if_pos exM12_right]; exact getM_put exM12_right
theorem ex12_zero : rightM zMs = false := by decide

set_option maxRecDepth 100000 in
set_option maxHeartbeats 4000000 in
theorem alive12_any (w : World) : Calls Try.prog 28 #[] w fun e w' => e = .returned (.bool true) ∧ Ext w w' := by
  obtain ⟨W, hW⟩ : ∃ W, W = (w.alloc (.cells #[.slice none 0 0, .int .i64 0] 69)).alloc (.cells #[.int .i64 0, .int .i64 1, .int .i64 300, .int .i64 0, .int .i64 0, .int .i64 0, .int .i64 0, .int .i64 0, .int .i64 0, .int .i64 0, .int .i64 0] 49) := ⟨_, rfl⟩
  have HB0 : Hid (Blk W w.heap.size 69 #[.slice none 0 0, .int .i64 0]) := Lib.hid (by rw [hW]; exact (Blk.new _ _ _).alloc _)
  have HM0 : Hid (MsAt W (w.heap.size + 1) exM12) := Lib.hid ⟨by rw [hW]; have h := Blk.new (w.alloc (.cells #[.slice none 0 0, .int .i64 0] 69)) 49 #[.int .i64 0, .int .i64 1, .int .i64 300, .int .i64 0, .int .i64 0, .int .i64 0, .int .i64 0, .int .i64 0, .int .i64 0, .int .i64 0, .int .i64 0]; rw [show (w.alloc (.cells #[.slice none 0 0, .int .i64 0] 69)).heap.size = w.heap.size + 1 by simp] at h; exact h⟩
  have HX0 : Hid (Ext w W) := Lib.hid (by rw [hW]; exact (Ext.alloc_ _ _).trans (Ext.alloc_ _ _))
  have HN0 := Lib.hid (NW.new HB0.out)
  have HS := Lib.hid (HN0.out.send (by decide) exM12)
  rw [ex12_send] at HS
  have e0 : msV exM12 = .agg #[.int .i64 0, .int .i64 1, .int .i64 300, .int .i64 0, .int .i64 0, .int .i64 0, .int .i64 0, .int .i64 0, .int .i64 0, .int .i64 0, .int .i64 0] := rfl
  rw [e0] at HS
  clear e0
  go_enter Try.func28, Try.ntmps28
  go_wp2_with fail
  rw [← hW]
  clear hW
  refine HS.out.mono ?_
  rintro e1 w1 ⟨rfl, hn1⟩
  have HN1 := Lib.hid hn1
  clear hn1 HS
  have HT := Lib.hid (HN1.out.twice 0)
  rw [ex12_twice] at HT
  go_wp2_with fail
  refine HT.out.mono ?_
  rintro e2 w2 ⟨rfl, hn2⟩
  have HN2 := Lib.hid hn2
  clear hn2 HT HN1
  have HD := Lib.hid (HN2.out.deliver 1)
  rw [ex12_deliv, ex12_drop] at HD
  have e0 : getA (some exM12) = .tuple #[.agg #[.int .i64 0, .int .i64 1, .int .i64 300, .int .i64 0, .int .i64 0, .int .i64 0, .int .i64 0, .int .i64 0, .int .i64 0, .int .i64 0, .int .i64 0], .bool true] := rfl
  rw [e0] at HD
  go_wp2_with fail
  refine HD.out.mono ?_
  rintro e3 w3 ⟨rfl, hn3⟩
  have HN3 := Lib.hid hn3
  clear hn3 HD HN2
  obtain ⟨W3, hW3⟩ : ∃ W, W = w3.alloc (.cells #[.int .i64 0, .int .i64 1, .int .i64 300, .int .i64 0, .int .i64 0, .int .i64 0, .int .i64 0, .int .i64 0, .int .i64 0, .int .i64 0, .int .i64 0] 49) := ⟨_, rfl⟩
  have hx3 : Ext w3 W3 := by rw [hW3]; exact Ext.alloc_ _ _
  have HX3 : Hid (MsAt W3 w3.heap.size exM12) := Lib.hid ⟨by rw [hW3]; exact Blk.new _ _ _⟩
  have HM3 : Hid (MsAt W3 (w.heap.size + 1) exM12) := Lib.hid ⟨(HN3.out.blk HM0.out.blk (by omega)).ext hx3⟩
  have HN4 := Lib.hid (HN3.out.more hx3)
  clear hx3 HN3
  have HP := Lib.hid (Put12_any exM12 W3)
  have e1 : msV exM12 = .agg #[.int .i64 0, .int .i64 1, .int .i64 300, .int .i64 0, .int .i64 0, .int .i64 0, .int .i64 0, .int .i64 0, .int .i64 0, .int .i64 0, .int .i64 0] := rfl
  rw [e1] at HP
  clear e1
  go_upto_region 5 with (fail)
  rw [← hW3]
  clear hW3
  obtain ⟨gm, hgm⟩ : ∃ q, q = w.heap.size + 1 := ⟨_, rfl⟩
  rw [← hgm]
  rw [← hgm] at HM3 HM0
  have HGM := Lib.hid hgm
  clear hgm
  have m0 : W3.cell? ⟨gm, 0, none⟩ = some (.int .i64 0) := HM3.out.blk.cell 0
  have m1 : W3.cell? ⟨gm, 1, none⟩ = some (.int .i64 1) := HM3.out.blk.cell 1
  have m2 : W3.cell? ⟨gm, 2, none⟩ = some (.int .i64 300) := HM3.out.blk.cell 2
  have m3 : W3.cell? ⟨gm, 3, none⟩ = some (.int .i64 0) := HM3.out.blk.cell 3
  have m4 : W3.cell? ⟨gm, 4, none⟩ = some (.int .i64 0) := HM3.out.blk.cell 4
  have m5 : W3.cell? ⟨gm, 5, none⟩ = some (.int .i64 0) := HM3.out.blk.cell 5
  have m6 : W3.cell? ⟨gm, 6, none⟩ = some (.int .i64 0) := HM3.out.blk.cell 6
  have m7 : W3.cell? ⟨gm, 7, none⟩ = some (.int .i64 0) := HM3.out.blk.cell 7
  have m8 : W3.cell? ⟨gm, 8, none⟩ = some (.int .i64 0) := HM3.out.blk.cell 8
  have m9 : W3.cell? ⟨gm, 9, none⟩ = some (.int .i64 0) := HM3.out.blk.cell 9
  have m10 : W3.cell? ⟨gm, 10, none⟩ = some (.int .i64 0) := HM3.out.blk.cell 10
  go_wp2_with fail
  refine HP.out.mono ?_
  rintro e4 w4 ⟨v4, rfl, hr4, hx4⟩
  clear m0 m1 m2 m3 m4 m5 m6 m7 m8 m9 m10
  have HG := Lib.hid (Get12_any _ _ w4 hr4.rd)
  rw [ex12_get, e0] at HG
  obtain ⟨A4, c4, rfl, -, -⟩ := hr4.rd.sliceN (List.length_map _)
  have HXX := Lib.hid hx4
  clear hr4 hx4 HP
  go_wp2_with fail
  refine HG.out.mono ?_
  rintro e5 w5 ⟨rfl, hx5⟩
  replace HXX := Lib.hid (HXX.out.trans hx5)
  clear hx5 HG
  obtain ⟨W6, hW6⟩ : ∃ W, W = w5.alloc (.cells #[.int .i64 0, .int .i64 1, .int .i64 300, .int .i64 0, .int .i64 0, .int .i64 0, .int .i64 0, .int .i64 0, .int .i64 0, .int .i64 0, .int .i64 0] 49) := ⟨_, rfl⟩
  have hx6 : Ext w5 W6 := by rw [hW6]; exact Ext.alloc_ _ _
  have HY6 : Hid (MsAt W6 w5.heap.size exM12) := Lib.hid ⟨by rw [hW6]; exact Blk.new _ _ _⟩
  have HX6 := Lib.hid (HXX.out.trans hx6)
  have HM6 := Lib.hid (HM3.out.ext HX6.out)
  have HU6 := Lib.hid (HX3.out.ext HX6.out)
  have HN6 := Lib.hid (HN4.out.more HX6.out)
  clear hx6 e0
  go_upto_region 6 with (fail)
  rw [← hW6]
  clear hW6
  obtain ⟨gx, hgx⟩ : ∃ q, q = w3.heap.size := ⟨_, rfl⟩
  obtain ⟨gy, hgy⟩ : ∃ q, q = w5.heap.size := ⟨_, rfl⟩
  rw [← hgx, ← hgy]
  rw [← hgx] at HU6
  rw [← hgy] at HY6
  clear hgx hgy
  have m0 : W6.cell? ⟨gm, 0, none⟩ = some (.int .i64 0) := HM6.out.blk.cell 0
  have m1 : W6.cell? ⟨gm, 1, none⟩ = some (.int .i64 1) := HM6.out.blk.cell 1
  have m2 : W6.cell? ⟨gm, 2, none⟩ = some (.int .i64 300) := HM6.out.blk.cell 2
  have m3 : W6.cell? ⟨gm, 3, none⟩ = some (.int .i64 0) := HM6.out.blk.cell 3
  have m4 : W6.cell? ⟨gm, 4, none⟩ = some (.int .i64 0) := HM6.out.blk.cell 4
  have m5 : W6.cell? ⟨gm, 5, none⟩ = some (.int .i64 0) := HM6.out.blk.cell 5
  have m6 : W6.cell? ⟨gm, 6, none⟩ = some (.int .i64 0) := HM6.out.blk.cell 6
  have m7 : W6.cell? ⟨gm, 7, none⟩ = some (.int .i64 0) := HM6.out.blk.cell 7
  have m8 : W6.cell? ⟨gm, 8, none⟩ = some (.int .i64 0) := HM6.out.blk.cell 8
  have m9 : W6.cell? ⟨gm, 9, none⟩ = some (.int .i64 0) := HM6.out.blk.cell 9
  have m10 : W6.cell? ⟨gm, 10, none⟩ = some (.int .i64 0) := HM6.out.blk.cell 10
  have x0 : W6.cell? ⟨gx, 0, none⟩ = some (.int .i64 0) := HU6.out.blk.cell 0
  have x1 : W6.cell? ⟨gx, 1, none⟩ = some (.int .i64 1) := HU6.out.blk.cell 1
  have x2 : W6.cell? ⟨gx, 2, none⟩ = some (.int .i64 300) := HU6.out.blk.cell 2
  have x3 : W6.cell? ⟨gx, 3, none⟩ = some (.int .i64 0) := HU6.out.blk.cell 3
  have x4 : W6.cell? ⟨gx, 4, none⟩ = some (.int .i64 0) := HU6.out.blk.cell 4
  have x5 : W6.cell? ⟨gx, 5, none⟩ = some (.int .i64 0) := HU6.out.blk.cell 5
  have x6 : W6.cell? ⟨gx, 6, none⟩ = some (.int .i64 0) := HU6.out.blk.cell 6
  have x7 : W6.cell? ⟨gx, 7, none⟩ = some (.int .i64 0) := HU6.out.blk.cell 7
  have x8 : W6.cell? ⟨gx, 8, none⟩ = some (.int .i64 0) := HU6.out.blk.cell 8
  have x9 : W6.cell? ⟨gx, 9, none⟩ = some (.int .i64 0) := HU6.out.blk.cell 9
  have x10 : W6.cell? ⟨gx, 10, none⟩ = some (.int .i64 0) := HU6.out.blk.cell 10
  have y0 : W6.cell? ⟨gy, 0, none⟩ = some (.int .i64 0) := HY6.out.blk.cell 0
  have y1 : W6.cell? ⟨gy, 1, none⟩ = some (.int .i64 1) := HY6.out.blk.cell 1
  have y2 : W6.cell? ⟨gy, 2, none⟩ = some (.int .i64 300) := HY6.out.blk.cell 2
  have y3 : W6.cell? ⟨gy, 3, none⟩ = some (.int .i64 0) := HY6.out.blk.cell 3
  have y4 : W6.cell? ⟨gy, 4, none⟩ = some (.int .i64 0) := HY6.out.blk.cell 4
  have y5 : W6.cell? ⟨gy, 5, none⟩ = some (.int .i64 0) := HY6.out.blk.cell 5
  have y6 : W6.cell? ⟨gy, 6, none⟩ = some (.int .i64 0) := HY6.out.blk.cell 6
  have y7 : W6.cell? ⟨gy, 7, none⟩ = some (.int .i64 0) := HY6.out.blk.cell 7
  have y8 : W6.cell? ⟨gy, 8, none⟩ = some (.int .i64 0) := HY6.out.blk.cell 8
  have y9 : W6.cell? ⟨gy, 9, none⟩ = some (.int .i64 0) := HY6.out.blk.cell 9
  have y10 : W6.cell? ⟨gy, 10, none⟩ = some (.int .i64 0) := HY6.out.blk.cell 10
  have HL := Lib.hid HN6.out.len
  go_wp2_with fail
  refine HL.out.mono ?_
  rintro e7 w7 ⟨rfl, hx7⟩
  clear m0 m1 m2 m3 m4 m5 m6 m7 m8 m9 m10
  clear x0 x1 x2 x3 x4 x5 x6 x7 x8 x9 x10
  clear y0 y1 y2 y3 y4 y5 y6 y7 y8 y9 y10
  have HN7 := Lib.hid (HN6.out.more hx7)
  have HM7 := Lib.hid (HM6.out.ext hx7)
  clear hx7 HL
  have HL := Lib.hid HN7.out.sent_
  go_wp2_with fail
  refine HL.out.mono ?_
  rintro e8 w8 ⟨rfl, hx8⟩
  have HN8 := Lib.hid (HN7.out.more hx8)
  have HM8 := Lib.hid (HM7.out.ext hx8)
  clear hx8 HL
  have HL := Lib.hid HN8.out.list
  rw [ex12_list] at HL
  go_wp2_with fail
  refine HL.out.mono ?_
  rintro e9 w9 ⟨v9, rfl, hr9, hx9⟩
  obtain ⟨A9, c9, rfl, -, -⟩ := hr9.slice_
  have HN9 := Lib.hid (HN8.out.more hx9)
  have HM9 := Lib.hid (HM8.out.ext hx9)
  clear hx9 HL hr9
  have HR := Lib.hid (Right12_any exM12 w9)
  rw [exM12_right, show msV exM12 = .agg #[.int .i64 0, .int .i64 1, .int .i64 300, .int .i64 0, .int .i64 0, .int .i64 0, .int .i64 0, .int .i64 0, .int .i64 0, .int .i64 0, .int .i64 0] from rfl] at HR
  have m0 : w9.cell? ⟨gm, 0, none⟩ = some (.int .i64 0) := HM9.out.blk.cell 0
  have m1 : w9.cell? ⟨gm, 1, none⟩ = some (.int .i64 1) := HM9.out.blk.cell 1
  have m2 : w9.cell? ⟨gm, 2, none⟩ = some (.int .i64 300) := HM9.out.blk.cell 2
  have m3 : w9.cell? ⟨gm, 3, none⟩ = some (.int .i64 0) := HM9.out.blk.cell 3
  have m4 : w9.cell? ⟨gm, 4, none⟩ = some (.int .i64 0) := HM9.out.blk.cell 4
  have m5 : w9.cell? ⟨gm, 5, none⟩ = some (.int .i64 0) := HM9.out.blk.cell 5
  have m6 : w9.cell? ⟨gm, 6, none⟩ = some (.int .i64 0) := HM9.out.blk.cell 6
  have m7 : w9.cell? ⟨gm, 7, none⟩ = some (.int .i64 0) := HM9.out.blk.cell 7
  have m8 : w9.cell? ⟨gm, 8, none⟩ = some (.int .i64 0) := HM9.out.blk.cell 8
  have m9 : w9.cell? ⟨gm, 9, none⟩ = some (.int .i64 0) := HM9.out.blk.cell 9
  have m10 : w9.cell? ⟨gm, 10, none⟩ = some (.int .i64 0) := HM9.out.blk.cell 10
  go_wp2_with fail
  refine HR.out.mono ?_
  rintro e10 w10 ⟨rfl, hx10⟩
  clear m0 m1 m2 m3 m4 m5 m6 m7 m8 m9 m10
  have HN10 := Lib.hid (HN9.out.more hx10)
  clear hx10 HR
  have HR := Lib.hid (Right12_any zMs w10)
  rw [ex12_zero, show msV zMs = .agg #[.int .i64 0, .int .i64 0, .int .i64 0, .int .i64 0, .int .i64 0, .int .i64 0, .int .i64 0, .int .i64 0, .int .i64 0, .int .i64 0, .int .i64 0] from rfl] at HR
  go_wp2_with fail
  refine HR.out.mono ?_
  rintro e11 w11 ⟨rfl, hx11⟩
  have HN11 := Lib.hid (HN10.out.more hx11)
  clear hx11 HR
  have HL := Lib.hid (HN11.out.flip 0 3)
  rw [ex12_flip] at HL
  go_wp2_with fail
  refine HL.out.mono ?_
  rintro e12 w12 ⟨rfl, hn12⟩
  have HN12 := Lib.hid hn12
  clear hn12 HL
  have HL := Lib.hid (HN12.out.drop 0)
  rw [ex12_drop2] at HL
  go_wp2_with fail
  refine HL.out.mono ?_
  rintro e13 w13 ⟨rfl, hn13⟩
  have HXF := Lib.hid (hn13.ext_ HX0.out (Nat.le_refl _))
  clear hn13 HL
  go_wp2
  go_ret
  exact ⟨rfl, HXF.out⟩

end Go.Proofs.Ytdijinboopdheaa

/- Package net: a net beside other things, as a law uses it. -/
namespace Go.Proofs.Ytdijinboopdheaa
open Go.RowKit

/-- The net S in block g; G: the blocks of what else the law writes, none of them the net's; all are newer than w0, but g. -/
structure NX (G : Fp) (w0 w : World) (g : Nat) (S : NtP) (k : Nat) : Prop where
  ok : OkNt S
  sent : S.sent ≤ k
  chg : Chg (fun q => q = g) w0 w
  lt : g < w0.heap.size
  gin : ∀ q, G q → w0.heap.size ≤ q ∧ q < w.heap.size
  at_ : ∃ F : Fp, NtAt F w g S ∧ ∀ q, F q → (q = g ∨ w0.heap.size ≤ q) ∧ ¬ G q

section
variable {G : Fp} {w0 w w' : World} {g : Nat} {S S' : NtP} {k k' : Nat}
theorem NX.new {w0 : World} {g : Nat} (hb : Blk w0 g 69 #[.slice none 0 0, .int .i64 0]) : NX (fun _ => False) w0 w0 g newN12 0 := by
  have h := NW.new hb
  obtain ⟨F, h1, h2⟩ := h.at_
  exact ⟨h.ok, h.sent, h.chg, h.lt, fun q hq => hq.elim, F, h1, fun q hq => ⟨h2 q hq, fun h => h⟩⟩
theorem NX.other (h : NX G w0 w g S k) (hc : Chg G w w') : NX (G.since w w') w0 w' g S k := by
  obtain ⟨F, h1, h2⟩ := h.at_
  refine ⟨h.ok, h.sent, h.chg.trans hc (fun q hq hG => by have := (h.gin q hG).1; omega), h.lt, fun q hq => ?_, F, h1.chg hc (fun q hq => (h2 q hq).2), fun q hq => ⟨(h2 q hq).1, fun hG => ?_⟩⟩
  · rcases hq with hq | hq
    · have h1 := h.gin q hq; have h2 := hc.size; exact ⟨h1.1, by omega⟩
    · have := h.chg.size; omega
  · rcases hG with hG | hG
    · exact (h2 q hq).2 hG
    · have := h1.isIn q hq; omega
theorem NX.more (h : NX G w0 w g S k) (hx : Ext w w') : NX G w0 w' g S k := by
  obtain ⟨F, h1, h2⟩ := h.at_
  exact ⟨h.ok, h.sent, h.chg.trans (Chg.of_ext (F := fun _ => False) hx) (fun _ _ h => h.elim), h.lt, fun q hq => ⟨(h.gin q hq).1, Nat.lt_of_lt_of_le (h.gin q hq).2 hx.size⟩, F, h1.ext hx, h2⟩
/-- What was just made beside it. -/
theorem NX.since (h : NX G w0 w g S k) (hx : Ext w w') : NX (G.since w w') w0 w' g S k := h.other (Chg.of_ext hx)
theorem NX.le (h : NX G w0 w g S k) (hk : k ≤ k') : NX G w0 w g S k' := ⟨h.ok, Nat.le_trans h.sent hk, h.chg, h.lt, h.gin, h.at_⟩
theorem NX.fewer {G' : Fp} (h : NX G w0 w g S k) (hf : ∀ q, G' q → G q) : NX G' w0 w g S k := by
  obtain ⟨F, h1, h2⟩ := h.at_
  exact ⟨h.ok, h.sent, h.chg, h.lt, fun q hq => h.gin q (hf q hq), F, h1, fun q hq => ⟨(h2 q hq).1, fun hG => (h2 q hq).2 (hf q hG)⟩⟩
theorem NX.turn {F F2 : Fp} (h : NX G w0 w g S k) (hF : ∀ q, F q → (q = g ∨ w0.heap.size ≤ q) ∧ ¬ G q) (hG : ∀ q, F2 q → F q) (ho : OkNt S') (hs : S'.sent ≤ k') (hn : NtAt (F.since w w') w' g S') (hc : Chg F2 w w') :
    NX G w0 w' g S' k' ∧ Chg (fun q => ¬ G q) w w' := by
  refine ⟨⟨ho, hs, h.chg.trans hc (fun q hq hGq => ?_), h.lt, fun q hq => ⟨(h.gin q hq).1, Nat.lt_of_lt_of_le (h.gin q hq).2 hc.size⟩, _, hn, fun q hq => ?_⟩, hc.mono (fun q _ hq => (hF q (hG q hq)).2)⟩
  · rcases (hF q (hG q hGq)).1 with e | e
    · exact e
    · omega
  · rcases hq with hq | hq
    · exact hF q hq
    · exact ⟨.inr (Nat.le_trans h.chg.size hq.1), fun hGq => by have := (h.gin q hGq).2; omega⟩
/-- What the law made ahead of it. -/
theorem NX.blk {b : Nat} {T : TypeId} {cs : Array Value} (h : NX G w0 w g S k) (hb : Blk w0 b T cs) (hne : b ≠ g) : Blk w b T cs := (h.chg.block b hb.lt hne).trans hb
theorem NX.ext_ {w1 : World} (h : NX G w0 w g S k) (hx : Ext w1 w0) (hg : w1.heap.size ≤ g) : Ext w1 w := h.chg.ext hx (fun q hq => by have hq : q = g := hq; omega)
theorem NX.send (h : NX G w0 w g S k) (hk : k < 1000000) (m : Ms) : Calls Try.prog 36 #[.pointer (some ⟨g, 0, none⟩), msV m] w fun e w' => e = .returned (.bool (sendN S m).1) ∧ NX G w0 w' g (sendN S m).2 (k + 1) ∧ Chg (fun q => ¬ G q) w w' := by
  obtain ⟨F, h1, h2⟩ := h.at_
  have hs := h.sent
  refine (NSend_any F g S m w h1 (by omega)).mono ?_
  rintro e w' ⟨rfl, h3, h4⟩
  exact ⟨rfl, h.turn h2 (fun _ h => h) (h.ok.send m) (Nat.le_trans (sendN_sent S m) (by omega)) h3 h4⟩
theorem NX.drop (h : NX G w0 w g S k) (i : Int) : Calls Try.prog 37 #[.pointer (some ⟨g, 0, none⟩), .int .i64 i] w fun e w' => e = .returned (.bool (dropN S i).1) ∧ NX G w0 w' g (dropN S i).2 k ∧ Chg (fun q => ¬ G q) w w' := by
  obtain ⟨F, h1, h2⟩ := h.at_
  refine (NDrop_any F g S i w h1 (by have := h.ok.most; omega)).mono ?_
  rintro e w' ⟨rfl, h3, h4⟩
  exact ⟨rfl, h.turn (F2 := fun q => q = g) h2 (fun q hq => by have hq : q = g := hq; rw [hq]; exact h1.here) (h.ok.drop i) (by rw [dropN_sent]; exact h.sent) h3 h4⟩
theorem NX.deliver (h : NX G w0 w g S k) (i : Int) : Calls Try.prog 35 #[.pointer (some ⟨g, 0, none⟩), .int .i64 i] w fun e w' => e = .returned (getA (delivN S i)) ∧ NX G w0 w' g (dropN S i).2 k ∧ Chg (fun q => ¬ G q) w w' := by
  obtain ⟨F, h1, h2⟩ := h.at_
  refine (NDeliver_any F g S i w h1 h.ok).mono ?_
  rintro e w' ⟨rfl, h3, h4⟩
  exact ⟨rfl, h.turn (F2 := fun q => q = g) h2 (fun q hq => by have hq : q = g := hq; rw [hq]; exact h1.here) (h.ok.drop i) (by rw [dropN_sent]; exact h.sent) h3 h4⟩
theorem NX.twice (h : NX G w0 w g S k) (i : Int) : Calls Try.prog 38 #[.pointer (some ⟨g, 0, none⟩), .int .i64 i] w fun e w' => e = .returned (.bool (twiceN S i).1) ∧ NX G w0 w' g (twiceN S i).2 k ∧ Chg (fun q => ¬ G q) w w' := by
  obtain ⟨F, h1, h2⟩ := h.at_
  refine (NTwice_any F g S i w h1 h.ok).mono ?_
  rintro e w' ⟨rfl, h3, h4⟩
  exact ⟨rfl, h.turn h2 (fun _ h => h) (h.ok.twice i) (by rw [twiceN_sent]; exact h.sent) h3 h4⟩
theorem NX.flip (h : NX G w0 w g S k) (i b : Int) : Calls Try.prog 39 #[.pointer (some ⟨g, 0, none⟩), .int .i64 i, .int .i64 b] w fun e w' => e = .returned (.bool (flipN S i b).1) ∧ NX G w0 w' g (flipN S i b).2 k ∧ Chg (fun q => ¬ G q) w w' := by
  obtain ⟨F, h1, h2⟩ := h.at_
  refine (NFlip_any F g S i b w h1 h.ok).mono ?_
  rintro e w' ⟨rfl, h3, h4⟩
  exact ⟨rfl, h.turn h2 (fun _ h => h) (h.ok.flip i b) (by rw [flipN_sent]; exact h.sent) h3 h4⟩
theorem NX.len (h : NX G w0 w g S k) : Calls Try.prog 40 #[.pointer (some ⟨g, 0, none⟩)] w fun e w' => e = .returned (.int .i64 S.way.length) ∧ Ext w w' := by
  obtain ⟨F, h1, -⟩ := h.at_
  exact NLen_any F g S w h1
theorem NX.sent_ (h : NX G w0 w g S k) : Calls Try.prog 41 #[.pointer (some ⟨g, 0, none⟩)] w fun e w' => e = .returned (.int .i64 (S.sent : Int)) ∧ Ext w w' := by
  obtain ⟨F, h1, -⟩ := h.at_
  exact NSent_any F g S w h1
theorem NX.list (h : NX G w0 w g S k) : Calls Try.prog 42 #[.pointer (some ⟨g, 0, none⟩)] w fun e w' => ∃ v, e = .returned v ∧ RdI 11 w' v ((listN S).map msL) ∧ Ext w w' := by
  obtain ⟨F, h1, -⟩ := h.at_
  exact NList_any F g S w h1 h.ok
end

/-- A list of messages that the law appends to. -/
def LsF (G : Fp) (w : World) (v : Value) (L : List Ms) : Prop := WayF G w 49 11 v L.length (L.flatMap msC)
section
variable {G H : Fp} {w w' : World} {v v' : Value} {L : List Ms}
theorem LsF.nil (G : Fp) (w : World) : LsF G w (.slice none 0 0) [] := WayF.nil _ _ _ _
theorem LsF.chg (h : LsF G w v L) (hc : Chg H w w') (ha : ∀ q, G q → ¬ H q) : LsF G w' v L := WayF.chg h hc (fun q hq => ha q (h.inF q hq))
theorem LsF.keep (h : LsF G w v L) (hc : Chg (fun q => ¬ H q) w w') (hf : ∀ q, G q → H q) : LsF G w' v L := h.chg hc (fun q hq hn => hn (hf q hq))
theorem LsF.ext (h : LsF G w v L) (hx : Ext w w') : LsF G w' v L := h.chg (H := fun _ => False) (Chg.of_ext hx) (fun _ _ h => h)
theorem LsF.mono (h : LsF G w v L) (hf : ∀ q, G q → H q) : LsF H w v L := WayF.mono h hf
theorem LsF.slice_ (h : LsF G w v L) : ∃ A c, v = .slice A L.length c ∧ L.length ≤ c ∧ c ≤ maxLen ∧ (A = none → L.length = 0 ∧ c = 0) := WayF.slice_ h
theorem flatMs_push (L : List Ms) (m : Ms) : (L ++ [m]).flatMap msC = L.flatMap msC ++ msC m := by simp
theorem LsF.push {m : Ms} (h : LsF G w v L) (hg : WayG v w 49 11 (L.length + 1) (L.flatMap msC ++ msC m) v' w') : LsF (G.since w w') w' v' (L ++ [m]) ∧ Chg G w w' := by
  obtain ⟨h1, h2⟩ := hg.way h
  refine ⟨?_, h2.mono (fun q _ hq => h.inF q hq)⟩
  unfold LsF
  rw [flatMs_push, List.length_append]
  exact h1
/-- The cells of one of them. -/
theorem LsF.at_ {A : Option Addr} {n c j : Nat} {m : Ms} (h : LsF G w (.slice A n c) L) (hj : L[j]? = some m) : ∃ b, A = some ⟨b, 0, none⟩ ∧ b < w.heap.size ∧ G b ∧ ∀ i z, (msL m)[i]? = some z → w.cell? ⟨b, j * 11 + i, none⟩ = some (.int .i64 z) := by
  have hlt : j < L.length := (List.getElem?_eq_some_iff.1 hj).1
  obtain ⟨-, b, cur, rfl, hb, -⟩ := WayF.at_ h (fun e => by
    obtain ⟨A', c', e', -, -, hA⟩ := h.slice_
    cases e'
    have := (hA e).1
    omega)
  exact ⟨b, rfl, (Array.getElem?_eq_some_iff.1 hb).1, h.inF b rfl, fun i z hz => (WayF.cells h).2.1 _ _ (flat11 L j i m z hj hz)⟩
end

end Go.Proofs.Ytdijinboopdheaa
