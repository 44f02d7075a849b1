/- Texts that the proof of X rests on, one behind the other. -/
import Derived.Test.YtgjidkhfnnghiaaXQ2
import Derived.Test.YtgjidkhfnnghiaaXQ7
import Derived.Test.YtgjidkhfnnghiaaChecked
import Derived.Test.YtgjidkhfnnghiaaRows
import Derived.Lay
import Derived.PinnedBridge
import Derived.LaidMore
import Derived.Stop.Joined
import Derived.Stop.LaidErr
import Derived.Shelf.Vars
import Derived.Lib.SmallJoins

/- The reference of layer 16: who starts. -/
namespace Go.Proofs.Ytgjidkhfnnghiaa
open Go.RowKit

set_option maxRecDepth 100000 in
set_option maxHeartbeats 16000000 in
theorem RefNext_any (vn vj : Value) (s : St) (now : Int) (w : World) (hrn : RdNd w vn s.nodes) (hr : RdJb w vj s.jobs) (hS : OkS s) (hn0 : 0 ≤ now) (hn1 : now ≤ 1000000) :
    Calls Try.prog 10 #[stV vn vj s, .int .i64 now] w fun e w' => e = .returned (.tuple #[.int .i64 (nextS s now).t, .int .i64 (nextS s now).n, .bool (nextS s now).ok]) ∧ Ext w w' := by
  have HRN := Lib.hid hrn
  have HRJ := Lib.hid hr
  obtain ⟨hx, hb⟩ := boxSt vn vj s w 27
  have hJ := hS.nj
  have hN := hS.nn
  have HLN : Hid (∀ W, Ext w W → Calls Try.prog 25 #[stV vn vj s] W fun e w' => ∃ v', e = .returned v' ∧ Grew W.heap.size 3 (.slice none 0 0) W ((lineL s.jobs).map J) v' w') := Lib.hid fun W hW => RefLine_any vn vj s W (HRJ.out.ext hW) (by omega)
  have HFI : Hid (∀ z W, Ext w W → Calls Try.prog 8 #[stV vn vj s, .int .i64 z, .int .i64 now] W fun e w' => e = .returned (.tuple #[.int .i64 (fillS s z now).1, .bool (fillS s z now).2]) ∧ Ext W w') := Lib.hid fun z W hW => RefFill_any vn vj s z now W (HRN.out.ext hW) (HRJ.out.ext hW) hS hn0 hn1
  have HNW : Hid (∀ z W, Ext w W → Calls Try.prog 29 #[stV vn vj s, .int .i64 z] W fun e w' => e = .returned (.tuple #[.int .i64 (nowS s z).1, .bool (nowS s z).2]) ∧ Ext W w') := Lib.hid fun z W hW => RefNow_any vn vj s z W (HRN.out.ext hW) (HRJ.out.ext hW) hN (by omega)
  unfold stV at HLN HFI HNW
  unfold stV
  unfold stC at hx hb
  obtain ⟨PK, hPK⟩ : ∃ z, z = nextS s now := ⟨_, rfl⟩
  rw [← hPK]
  have HLL : Hid ((lineL s.jobs).length ≤ 1000000) := Lib.hid (Nat.le_trans (lineTo_len s.jobs s.jobs.length) (Nat.le_trans (Nat.mul_le_mul hJ hJ) (by decide)))
  obtain ⟨L, hL⟩ : ∃ L, L = lineL s.jobs := ⟨_, rfl⟩
  have HP : Hid (PK = nextF s now 0 L) := Lib.hid (by rw [hPK, hL]; rfl)
  rw [← hL] at HLN HLL
  have HX := Lib.hid hx
  have HB := Lib.hid hb
  clear hx hb hr hPK hrn HRN HRJ hL hJ hN hn0 hn1
  go_enter Try.func10, Try.ntmps10
  go_upto_region 1 with (fail)
  obtain ⟨W0, hW0⟩ : ∃ W0, W0 = w.alloc (.cells #[vn, vj, .int .i64 s.goal, .int .i64 s.prior, .int .i64 s.mode, .int .i64 s.term] 27) := ⟨_, rfl⟩
  rw [← hW0] at HX HB ⊢
  clear hW0
  obtain ⟨g0, g1, g2, g3, g4, g5⟩ := Blk.six HB.out
  have HLC := Lib.hid (HLN.out W0 HX.out)
  clear HLN
  go_wp2_with fail
  refine HLC.out.mono ?_
  rintro e1 w1 ⟨v1, rfl, hg1⟩
  have HX1 : Hid (Ext W0 w1) := Lib.hid hg1.ext
  obtain ⟨N1, hN1⟩ : ∃ N : Nat, N = L.length := ⟨_, rfl⟩
  obtain ⟨A1, c1, e1, -, -, h1⟩ := Rd.own hg1.own
  rw [List.length_map, ← hN1] at e1 h1
  subst e1
  have HC1 : Hid (∀ (q : Nat) (p : Nat), L[q]? = some p → ∃ b o, A1 = some ⟨b, o, none⟩ ∧ b < w1.heap.size ∧ w1.cell? ⟨b, o + q, none⟩ = some (.int .i64 ((p : Int) + 1))) := Lib.hid fun q p hq => by
    obtain ⟨b, o, hA, hb, hc⟩ := h1 (by rw [hN1]; have := (List.getElem?_eq_some_iff.1 hq).1; omega)
    exact ⟨b, o, hA, hb, hc q _ (by rw [List.getElem?_map, hq]; rfl)⟩
  have HNL : Hid (N1 = L.length ∧ N1 ≤ 1000000) := Lib.hid ⟨hN1, by rw [hN1]; exact HLL.out⟩
  clear hg1 hN1 h1 HLC HLL g0 g1 g2 g3 g4 g5
  simp only []
  go_wp2_with fail
  go_loopw [8] (fun i wr => ∃ q : Nat, i = .int .i64 q ∧ q ≤ N1 ∧ PK = nextF s now q (L.drop q) ∧ Ext w1 wr) (fun i _ => N1 - (intOf i).toNat)
  case atStart => exact ⟨0, rfl, Nat.zero_le _, HP.out, Ext.refl _⟩
  case round =>
    obtain ⟨q, rfl, hq, hpk, hxr⟩ := hrel
    have HXR : Hid (Ext w1 wr) := Lib.hid hxr
    have HXW : Hid (Ext w wr) := Lib.hid (Ext.trans HX.out (Ext.trans HX1.out hxr))
    have HBR := Lib.hid (HB.out.ext (Ext.trans HX1.out hxr))
    have HPK := Lib.hid hpk
    clear hpk hxr
    by_cases hlt : q < N1
    · have d1 : decide ((q : Int) < (N1 : Int)) = true := decide_eq_true (by omega)
      have d1' : decide (q < N1) = true := decide_eq_true hlt
      have HLT := Lib.hid hlt
      obtain ⟨p, hp⟩ : ∃ p, L[q]? = some p := ⟨_, List.getElem?_eq_getElem (by rw [← HNL.out.1]; exact hlt)⟩
      obtain ⟨b, o, rfl, hlt', hcp⟩ := HC1.out q p hp
      have HST : Hid (nextF s now q (L.drop q) = if (if q = 0 then nowS s ((p : Int) + 1) else fillS s ((p : Int) + 1) now).2 = true then ⟨(p : Int) + 1, (if q = 0 then nowS s ((p : Int) + 1) else fillS s ((p : Int) + 1) now).1, true⟩ else nextF s now (q + 1) (L.drop (q + 1))) := Lib.hid (by rw [List.drop_eq_getElem_cons (by rw [← HNL.out.1]; exact hlt)]; rw [show L[q]'(by rw [← HNL.out.1]; exact hlt) = p by have := List.getElem?_eq_getElem (l := L) (i := q) (by rw [← HNL.out.1]; exact hlt); rw [hp] at this; exact (Option.some.inj this).symm]; rfl)
      obtain ⟨z, hz⟩ : ∃ z, z = (p : Int) + 1 := ⟨_, rfl⟩
      rw [← hz] at hcp HST
      have HCP := Lib.hid (And.intro hcp hlt')
      have d6 : (q : Int) < (N1 : Int) := by omega
      have d7 : (0 : Int) ≤ (q : Int) := by omega
      have HWQ : Hid (wrap64 ((q : Int) + 1) = (q : Int) + 1) := Lib.hid (IntWalk.wrap64_in _ (by have := HNL.out.2; omega))
      clear hp hz hcp hlt' hlt hq
      obtain ⟨WR, rfl⟩ : ∃ W, W = wr := ⟨_, rfl⟩
      have g0 := HBR.out.cell 0
      go_upto_region 5 with (fail)
      clear d1 d1' g0
      refine held_begin (by kernel_rfl) ?_
      refine held_more (S' := fun W' : World => Ext WR W') (fun _ _ => True.intro) ?_
      have hSx : (fun W' : World => Ext WR W') WR.drew := Below.drewN' (Ext.refl WR) 1
      refine held_take (i := 0) (v := ?_) rfl (by kernel_rfl) (by kernel_rfl) (by kernel_rfl) (by rfl) (by first | assumption | exact True.intro) ?_ ?_
      rotate_left
      · (intro W hSw; obtain ⟨g0, g1, g2, g3, g4, g5⟩ := Blk.six (HBR.out.ext (hSw)); have zc : W.cell? ⟨b, o + q, none⟩ = some (.int .i64 z) := (Ext.trans HXR.out (hSw)).cellOf HCP.out.1 HCP.out.2; go_simp; (try with_reducible rfl))
      try simp only [Act.put, List.setIfInBounds_toArray, List.set_cons_zero, List.set_cons_succ]
      refine held_take (i := 1) (v := ?_) rfl (by kernel_rfl) (by kernel_rfl) (by kernel_rfl) (by rfl) (by first | assumption | exact True.intro) ?_ ?_
      rotate_left
      · (intro W hSw; obtain ⟨g0, g1, g2, g3, g4, g5⟩ := Blk.six (HBR.out.ext (hSw)); have zc : W.cell? ⟨b, o + q, none⟩ = some (.int .i64 z) := (Ext.trans HXR.out (hSw)).cellOf HCP.out.1 HCP.out.2; go_simp; (try with_reducible rfl))
      try simp only [Act.put, List.setIfInBounds_toArray, List.set_cons_zero, List.set_cons_succ]
      refine held_take (i := 2) (v := ?_) rfl (by kernel_rfl) (by kernel_rfl) (by kernel_rfl) (by rfl) (by first | assumption | exact True.intro) ?_ ?_
      rotate_left
      · (intro W hSw; obtain ⟨g0, g1, g2, g3, g4, g5⟩ := Blk.six (HBR.out.ext (hSw)); have zc : W.cell? ⟨b, o + q, none⟩ = some (.int .i64 z) := (Ext.trans HXR.out (hSw)).cellOf HCP.out.1 HCP.out.2; go_simp; (try with_reducible rfl))
      try simp only [Act.put, List.setIfInBounds_toArray, List.set_cons_zero, List.set_cons_succ]
      refine held_take (i := 3) (v := ?_) rfl (by kernel_rfl) (by kernel_rfl) (by kernel_rfl) (by rfl) (by first | assumption | exact True.intro) ?_ ?_
      rotate_left
      · (intro W hSw; obtain ⟨g0, g1, g2, g3, g4, g5⟩ := Blk.six (HBR.out.ext (hSw)); have zc : W.cell? ⟨b, o + q, none⟩ = some (.int .i64 z) := (Ext.trans HXR.out (hSw)).cellOf HCP.out.1 HCP.out.2; go_simp; (try with_reducible rfl))
      try simp only [Act.put, List.setIfInBounds_toArray, List.set_cons_zero, List.set_cons_succ]
      refine held_take (i := 4) (v := ?_) rfl (by kernel_rfl) (by kernel_rfl) (by kernel_rfl) (by rfl) (by first | assumption | exact True.intro) ?_ ?_
      rotate_left
      · (intro W hSw; obtain ⟨g0, g1, g2, g3, g4, g5⟩ := Blk.six (HBR.out.ext (hSw)); have zc : W.cell? ⟨b, o + q, none⟩ = some (.int .i64 z) := (Ext.trans HXR.out (hSw)).cellOf HCP.out.1 HCP.out.2; go_simp; (try with_reducible rfl))
      try simp only [Act.put, List.setIfInBounds_toArray, List.set_cons_zero, List.set_cons_succ]
      refine held_take (i := 5) (v := ?_) rfl (by kernel_rfl) (by kernel_rfl) (by kernel_rfl) (by rfl) (by first | assumption | exact True.intro) ?_ ?_
      rotate_left
      · (intro W hSw; obtain ⟨g0, g1, g2, g3, g4, g5⟩ := Blk.six (HBR.out.ext (hSw)); have zc : W.cell? ⟨b, o + q, none⟩ = some (.int .i64 z) := (Ext.trans HXR.out (hSw)).cellOf HCP.out.1 HCP.out.2; go_simp; (try with_reducible rfl))
      try simp only [Act.put, List.setIfInBounds_toArray, List.set_cons_zero, List.set_cons_succ]
      clear hSx
      refine held_op (i := 6) (by kernel_rfl) rfl (fun K hK => ?_)
      go_simp
      go_at_call 8
      refine (HFI.out z _ (Ext.trans HXW.out (Below.drewN' (Ext.refl WR) 1))).mono ?_
      rintro e4 w4 ⟨rfl, hx4⟩
      have HX4 : Hid (Ext WR w4) := Lib.hid (Ext.trans (Below.drewN' (Ext.refl WR) 1) hx4)
      clear hx4
      refine hK _ _ (HX4.out) (fun hSx => ?_)
      clear hK K
      try simp only [Act.put, List.setIfInBounds_toArray, List.set_cons_zero, List.set_cons_succ]
      refine held_take (i := 7) (v := ?_) rfl (by kernel_rfl) (by kernel_rfl) (by kernel_rfl) (by rfl) (by first | assumption | exact True.intro) ?_ ?_
      rotate_left
      · (intro W hSw; go_simp; (try with_reducible rfl))
      try simp only [Act.put, List.setIfInBounds_toArray, List.set_cons_zero, List.set_cons_succ]
      refine held_take (i := 8) (v := ?_) rfl (by kernel_rfl) (by kernel_rfl) (by kernel_rfl) (by rfl) (by first | assumption | exact True.intro) ?_ ?_
      rotate_left
      · (intro W hSw; go_simp; (try with_reducible rfl))
      try simp only [Act.put, List.setIfInBounds_toArray, List.set_cons_zero, List.set_cons_succ]
      refine held_take (i := 9) (v := ?_) rfl (by kernel_rfl) (by kernel_rfl) (by kernel_rfl) (by rfl) (by first | assumption | exact True.intro) ?_ ?_
      rotate_left
      · (intro W hSw; go_simp; (try with_reducible rfl))
      try simp only [Act.put, List.setIfInBounds_toArray, List.set_cons_zero, List.set_cons_succ]
      refine held_take (i := 10) (v := ?_) rfl (by kernel_rfl) (by kernel_rfl) (by kernel_rfl) (by rfl) (by first | assumption | exact True.intro) ?_ ?_
      rotate_left
      · (intro W hSw; go_simp; (try with_reducible rfl))
      try simp only [Act.put, List.setIfInBounds_toArray, List.set_cons_zero, List.set_cons_succ]
      refine held_take (i := 11) (v := ?_) rfl (by kernel_rfl) (by kernel_rfl) (by kernel_rfl) (by rfl) (by first | assumption | exact True.intro) ?_ ?_
      rotate_left
      · (intro W hSw; go_simp; (try with_reducible rfl))
      try simp only [Act.put, List.setIfInBounds_toArray, List.set_cons_zero, List.set_cons_succ]
      clear hSx
      refine wpAnyH_done (by kernel_rfl) ?_ _
      refine NoPanic.normal ?_
      obtain ⟨⟨fn, fok⟩, hfp⟩ : ∃ p, p = fillS s z now := ⟨_, rfl⟩
      rw [← hfp] at HST ⊢
      clear hfp
      by_cases hq0 : q = 0
      · have f0 : ((q : Int) == 0) = true := by rw [hq0]; rfl
        rw [if_pos hq0] at HST
        clear hq0
        go_upto_region 7 with (fail)
        clear f0
        refine held_begin (by kernel_rfl) ?_
        refine held_more (S' := fun W' : World => Ext w4 W') (fun _ _ => True.intro) ?_
        have hSx : (fun W' : World => Ext w4 W') w4.drew := Below.drewN' (Ext.refl w4) 1
        refine held_take (i := 0) (v := ?_) rfl (by kernel_rfl) (by kernel_rfl) (by kernel_rfl) (by rfl) (by first | assumption | exact True.intro) ?_ ?_
        rotate_left
        · (intro W hSw; obtain ⟨g0, g1, g2, g3, g4, g5⟩ := Blk.six (HBR.out.ext (Ext.trans HX4.out hSw)); have zc : W.cell? ⟨b, o + q, none⟩ = some (.int .i64 z) := (Ext.trans HXR.out (Ext.trans HX4.out <| hSw)).cellOf HCP.out.1 HCP.out.2; go_simp; (try with_reducible rfl))
        try simp only [Act.put, List.setIfInBounds_toArray, List.set_cons_zero, List.set_cons_succ]
        refine held_take (i := 1) (v := ?_) rfl (by kernel_rfl) (by kernel_rfl) (by kernel_rfl) (by rfl) (by first | assumption | exact True.intro) ?_ ?_
        rotate_left
        · (intro W hSw; obtain ⟨g0, g1, g2, g3, g4, g5⟩ := Blk.six (HBR.out.ext (Ext.trans HX4.out hSw)); have zc : W.cell? ⟨b, o + q, none⟩ = some (.int .i64 z) := (Ext.trans HXR.out (Ext.trans HX4.out <| hSw)).cellOf HCP.out.1 HCP.out.2; go_simp; (try with_reducible rfl))
        try simp only [Act.put, List.setIfInBounds_toArray, List.set_cons_zero, List.set_cons_succ]
        refine held_take (i := 2) (v := ?_) rfl (by kernel_rfl) (by kernel_rfl) (by kernel_rfl) (by rfl) (by first | assumption | exact True.intro) ?_ ?_
        rotate_left
        · (intro W hSw; obtain ⟨g0, g1, g2, g3, g4, g5⟩ := Blk.six (HBR.out.ext (Ext.trans HX4.out hSw)); have zc : W.cell? ⟨b, o + q, none⟩ = some (.int .i64 z) := (Ext.trans HXR.out (Ext.trans HX4.out <| hSw)).cellOf HCP.out.1 HCP.out.2; go_simp; (try with_reducible rfl))
        try simp only [Act.put, List.setIfInBounds_toArray, List.set_cons_zero, List.set_cons_succ]
        refine held_take (i := 3) (v := ?_) rfl (by kernel_rfl) (by kernel_rfl) (by kernel_rfl) (by rfl) (by first | assumption | exact True.intro) ?_ ?_
        rotate_left
        · (intro W hSw; obtain ⟨g0, g1, g2, g3, g4, g5⟩ := Blk.six (HBR.out.ext (Ext.trans HX4.out hSw)); have zc : W.cell? ⟨b, o + q, none⟩ = some (.int .i64 z) := (Ext.trans HXR.out (Ext.trans HX4.out <| hSw)).cellOf HCP.out.1 HCP.out.2; go_simp; (try with_reducible rfl))
        try simp only [Act.put, List.setIfInBounds_toArray, List.set_cons_zero, List.set_cons_succ]
        refine held_take (i := 4) (v := ?_) rfl (by kernel_rfl) (by kernel_rfl) (by kernel_rfl) (by rfl) (by first | assumption | exact True.intro) ?_ ?_
        rotate_left
        · (intro W hSw; obtain ⟨g0, g1, g2, g3, g4, g5⟩ := Blk.six (HBR.out.ext (Ext.trans HX4.out hSw)); have zc : W.cell? ⟨b, o + q, none⟩ = some (.int .i64 z) := (Ext.trans HXR.out (Ext.trans HX4.out <| hSw)).cellOf HCP.out.1 HCP.out.2; go_simp; (try with_reducible rfl))
        try simp only [Act.put, List.setIfInBounds_toArray, List.set_cons_zero, List.set_cons_succ]
        clear hSx
        refine held_op (i := 5) (by kernel_rfl) rfl (fun K hK => ?_)
        go_simp
        go_at_call 29
        refine (HNW.out z _ (Ext.trans HXW.out (Ext.trans HX4.out (Below.drewN' (Ext.refl w4) 1)))).mono ?_
        rintro e6 w6 ⟨rfl, hx6⟩
        have HX6 : Hid (Ext w4 w6) := Lib.hid (Ext.trans (Below.drewN' (Ext.refl w4) 1) hx6)
        clear hx6
        refine hK _ _ (HX6.out) (fun hSx => ?_)
        clear hK K
        try simp only [Act.put, List.setIfInBounds_toArray, List.set_cons_zero, List.set_cons_succ]
        refine held_take (i := 6) (v := ?_) rfl (by kernel_rfl) (by kernel_rfl) (by kernel_rfl) (by rfl) (by first | assumption | exact True.intro) ?_ ?_
        rotate_left
        · (intro W hSw; go_simp; (try with_reducible rfl))
        try simp only [Act.put, List.setIfInBounds_toArray, List.set_cons_zero, List.set_cons_succ]
        refine held_take (i := 7) (v := ?_) rfl (by kernel_rfl) (by kernel_rfl) (by kernel_rfl) (by rfl) (by first | assumption | exact True.intro) ?_ ?_
        rotate_left
        · (intro W hSw; go_simp; (try with_reducible rfl))
        try simp only [Act.put, List.setIfInBounds_toArray, List.set_cons_zero, List.set_cons_succ]
        refine held_take (i := 8) (v := ?_) rfl (by kernel_rfl) (by kernel_rfl) (by kernel_rfl) (by rfl) (by first | assumption | exact True.intro) ?_ ?_
        rotate_left
        · (intro W hSw; go_simp; (try with_reducible rfl))
        try simp only [Act.put, List.setIfInBounds_toArray, List.set_cons_zero, List.set_cons_succ]
        refine held_take (i := 9) (v := ?_) rfl (by kernel_rfl) (by kernel_rfl) (by kernel_rfl) (by rfl) (by first | assumption | exact True.intro) ?_ ?_
        rotate_left
        · (intro W hSw; go_simp; (try with_reducible rfl))
        try simp only [Act.put, List.setIfInBounds_toArray, List.set_cons_zero, List.set_cons_succ]
        refine held_take (i := 10) (v := ?_) rfl (by kernel_rfl) (by kernel_rfl) (by kernel_rfl) (by rfl) (by first | assumption | exact True.intro) ?_ ?_
        rotate_left
        · (intro W hSw; go_simp; (try with_reducible rfl))
        try simp only [Act.put, List.setIfInBounds_toArray, List.set_cons_zero, List.set_cons_succ]
        clear hSx
        refine wpAnyH_done (by kernel_rfl) ?_ _
        refine NoPanic.normal ?_
        have HX7 : Hid (Ext WR w6) := Lib.hid (Ext.trans HX4.out HX6.out)
        obtain ⟨⟨nn, nok⟩, hnp⟩ : ∃ p, p = nowS s z := ⟨_, rfl⟩
        rw [← hnp] at HST ⊢
        clear hnp
        cases nok
        · have HZ : Hid (PK = nextF s now (q + 1) (L.drop (q + 1))) := Lib.hid (by rw [HPK.out, HST.out]; simp [])
          have wq := HWQ.out
          clear HST d6 d7
          repeat (first | go_values | go_skip | go_guarded | go_step | go_upon | (simp only []))
          go_roundw
          case rel => exact ⟨q + 1, by first | (rw [wq]; rfl) | rfl, HLT.out, HZ.out, Ext.trans HXR.out HX7.out⟩
          case measure => first | (rw [wq]; exact measQ HLT.out) | exact measQ HLT.out
        · have HZ : Hid (PK = ⟨z, nn, true⟩) := Lib.hid (by rw [HPK.out, HST.out]; simp [])
          have HBZ := Lib.hid (HBR.out.ext HX7.out)
          have zc := (Ext.trans HXR.out HX7.out).cellOf HCP.out.1 HCP.out.2
          clear HST
          go_wp2
          go_ret3
          exact ⟨by rw [HZ.out]; rfl, Ext.trans HXW.out HX7.out⟩
      · have f0 : ((q : Int) == 0) = false := by rw [beq_eq_false_iff_ne]; omega
        rw [if_neg hq0] at HST
        clear hq0
        cases fok
        · have HZ : Hid (PK = nextF s now (q + 1) (L.drop (q + 1))) := Lib.hid (by rw [HPK.out, HST.out]; simp [])
          have wq := HWQ.out
          clear HST d6 d7
          repeat (first | go_values | go_skip | go_guarded | go_step | go_upon | (simp only []))
          go_roundw
          case rel => exact ⟨q + 1, by first | (rw [wq]; rfl) | rfl, HLT.out, HZ.out, Ext.trans HXR.out HX4.out⟩
          case measure => first | (rw [wq]; exact measQ HLT.out) | exact measQ HLT.out
        · have HZ : Hid (PK = ⟨z, fn, true⟩) := Lib.hid (by rw [HPK.out, HST.out]; simp [])
          have HBZ := Lib.hid (HBR.out.ext HX4.out)
          have zc := (Ext.trans HXR.out HX4.out).cellOf HCP.out.1 HCP.out.2
          clear HST
          go_wp2
          go_ret3
          exact ⟨by rw [HZ.out]; rfl, Ext.trans HXW.out HX4.out⟩
    · have d1 : decide ((q : Int) < (N1 : Int)) = false := decide_eq_false (by omega)
      have d1' : decide (q < N1) = false := decide_eq_false hlt
      have HZ : Hid (PK = ⟨0, 0, false⟩) := Lib.hid (by rw [HPK.out, List.drop_eq_nil_of_le (by rw [← HNL.out.1]; omega)]; rfl)
      go_wp2
      go_ret3
      exact ⟨by rw [HZ.out]; rfl, HXW.out⟩

end Go.Proofs.Ytgjidkhfnnghiaa

/- From a contract to the row of a law that lists package-level variables; structs of numbers, slices of structs, and states as arguments. No function of the program is named here. -/
namespace Go.Proofs.Ytgjidkhfnnghiaa
open Go.Joins Go.ChangeShapes Go.WideShapes Go.ChangeAt Go.RowKit Go.Deep

section
variable {H : Type} {enc : TypeId × Value → H} {P : Program}
theorem law_liftL {C : Checked} {os : Os} {f : FuncId} {fn : Func} {s : ChangeSpec} {tb : TypeId} (L : List (String × DataW Unit)) (own : ownKnob C.prog.godebug = none) (started : os.Started) (noInit : C.prog.inits.idxOf? f = none) (hfn : C.prog.funcs[f]? = some fn)
    (hl : laidOutB C.prog = true) (hp : (fn.params.toList.all fun t => C.prog.readableRec t && decide (t < C.prog.types.size)) = true) (hres : fn.resultTypes = #[tb]) (htb : C.prog.underlying tb = some .bool) (hv : s.vars = []) (hpv : s.plain.varTypes C.prog = [])
    (hs : ∀ ds : List (DataW H), ds.length = fn.params.toList.length → s.fn H ds = { results := [.lit (.bool true)], args := ds })
    (witness : ∃ (w : World) (tape : Tape) (i : Input), w.os = os ∧ (w.forCall tape i).Shaped C.prog ∧ i.vars = [] ∧ Input.okWide C.prog (w.forCall tape i) .any w.heap.size f i ∧
      ((s.pre enc C.prog fn [] false (w.forCall tape i).memory i.args ∧ laidMetH C.prog L (w.forCall tape i).memory) ∧ sizedMet enc C.prog fn (OpenSpec.ofChange s) false (w.forCall tape i).memory i.args) ∧ ({} : Assume).holds C.prog (lone (Frame.enter C.prog f i.args .normal) [] (w.forCall tape i)))
    (contract : ∀ (W : World) (base : Nat) (args : Array Value) (ds : List (DataW H)) (p : List MemPlace), (∀ (j : Nat) t v, fn.params[j]? = some t → args[j]? = some v → Value.okWide C.prog W .any base t v) →
      DataW.TrodAll enc C.prog W 0 (fun _ => true) true fn.params.toList args.toList ds p → (DataW.weightsEach C.prog fn.params.toList ds).all (· ≤ reachBytes) = true → laidMetH C.prog L W → W.ShapedOpen C.prog →
      Calls C.prog f args W fun e W' => e = .returned (.bool true) ∧ Ext W W') :
    ReturnsInHanded {} C os f .any (fun w args => (s.pre enc C.prog fn [] false w args ∧ laidMetH C.prog L w) ∧ sizedMet enc C.prog fn (OpenSpec.ofChange s) false w args) (s.post enc C.prog fn false true false false) := by
  refine returnsInHanded_of_calls own started noInit witness ?_
  intro w tape i _ hsh _ hok hpre _
  obtain ⟨_, _, _, fn', hfn', _, _, _, _, hval⟩ := hok
  have e : fn' = fn := Option.some.inj (hfn'.symm.trans hfn)
  subst e
  obtain ⟨⟨⟨ds, gs, before, hw, _⟩, hx⟩, hz⟩ := hpre
  have hW := DataW.Whole.of_heap (w' := w.forCall tape i) (by rfl) hw
  have hL : laidMetH C.prog L (w.forCall tape i) := laidMetH.of_heap (by rfl) hx
  have hsz := hz.weights hw
  have hg : gs = [] := by
    obtain ⟨_, _, _, hV, _⟩ := hW
    rw [hv] at hV
    cases gs with
    | nil => rfl
    | cons _ _ => exact hV.elim
  subst hg
  have hsz' : (DataW.weightsEach C.prog fn'.params.toList ds).all (· ≤ reachBytes) = true := by
    have h1 : (DataW.weightsEach C.prog (fn'.params.toList ++ s.plain.varTypes C.prog) (ds ++ [])).all (· ≤ reachBytes) = true := hsz
    rwa [hpv, List.append_nil, List.append_nil] at h1
  have hW' := hW
  obtain ⟨p, q, hA, _, _, _, _⟩ := hW
  have hlen := trodAll_len _ _ _ _ hA
  refine (contract (w.forCall tape i) w.heap.size i.args ds p hval hA hsz' hL hsh).mono fun e W' ⟨he, hx⟩ => ?_
  subst he
  exact ChangeSpec.post_blind (post_true hl hp hres htb hv hW' (hs ds hlen) hx)

/-- A listed variable, wherever it stands on the list. -/
theorem laid_at {n : String} {d : DataW Unit} {W : World} : ∀ (L : List (String × DataW Unit)), (n, d) ∈ L → laidMet P L W → ∃ r, laidMet P ((n, d) :: r) W
  | x :: L, hm, h => by
    rcases List.mem_cons.1 hm with e | hm
    · rw [e]
      exact ⟨L, h⟩
    · exact laid_at L hm h.tail


/-! ### Structs of numbers -/

theorem dec_nums {w : World} {base : Nat} {held : Bool} {r : Reach} {b0 : Nat} {t : TypeId} {fs : Array Field} {v : Value} {d : DataW H} {p : List MemPlace} (hs : P.underlying t = some (.struct fs)) (hone : oneCellFields P fs = true) (hC : P.cellsOf t = fs.size)
    {ti : TypeId} (hta : (fs.all fun f => f.type == ti) = true) (hi : P.underlying ti = some (.int .i64)) (hv : Value.okWide P w r b0 t v) (h : DataW.Trod enc P w base (fun _ => true) held t v d p) : ∃ l : List Int, l.length = fs.size ∧ v = .agg (l.map (Value.int .i64)).toArray := by
  obtain ⟨cs, rfl, hsz⟩ := okWide_struct hs hv
  obtain ⟨fuel, hf⟩ := h
  have hti : ∀ f ∈ fs, P.underlying f.type = some (.int .i64) := fun f hf => by
    obtain ⟨i, hlt, rfl⟩ := Array.getElem_of_mem hf
    have := Array.all_eq_true.1 hta i hlt
    rw [beq_iff_eq] at this
    rw [this]
    exact hi
  obtain ⟨hl, hp⟩ := struct_parts hs hone hC hf
  have hl' : cs.size = fs.size := hsz.trans hC
  refine ⟨cs.toList.map intOf, by simpa using hl', ?_⟩
  congr 1
  apply Array.ext'
  apply List.ext_getElem?
  intro i
  by_cases hi : i < fs.size
  · obtain ⟨u, n, y, hu, hy⟩ := hp i fs[i] (Array.getElem?_eq_getElem hi)
    obtain ⟨z, hz, _, _⟩ := DataW.trod_int (hti _ (Array.getElem_mem hi)) hy
    simp only [List.cons.injEq, and_true] at hz
    subst hz
    have hu' : cs.toList[i]? = some (.int .i64 z) := hu
    simp only [List.getElem?_map, hu', Option.map_some, intOf]
  · rw [List.getElem?_eq_none (by simp; omega), List.getElem?_eq_none (by simp; omega)]

/-! ### Slices of structs -/
/-- As structs_at, of a cell that holds the slice. -/
theorem structs_tr {w : World} {base : Nat} {held : Bool} {m0 : Nat} {t e : TypeId} {fs : Array Field} {V : Value} {x : DataW H × List MemPlace} (ht : P.underlying t = some (.slice e)) (he : P.underlying e = some (.struct fs)) (hone : oneCellFields P fs = true)
    (hC : P.cellsOf e = fs.size) (h0 : 0 < fs.size) (hf : DataW.trod enc P w base (fun _ => true) held m0 t [V] = some x) :
    ∃ A n c, V = .slice A n c ∧ n ≤ c ∧ c ≤ maxLen ∧ (0 < n → ∃ b o, A = some ⟨b, o, none⟩ ∧ b < w.heap.size ∧
      ∀ i, i < n → ∀ (j : Nat) (f : Field), fs[j]? = some f → ∃ u k y, w.cell? ⟨b, o + (i * fs.size + j), none⟩ = some u ∧ DataW.trod enc P w base (fun _ => true) held k f.type [u] = some y) := by
  rcases open_slice ht hf with ⟨hcs, _⟩ | ⟨a, len, cap, m, n, D, Pl, hcs, _, hl, hm, hmm, _, hx⟩
  · simp only [List.cons.injEq, and_true] at hcs
    subst hcs
    exact ⟨none, 0, 0, rfl, Nat.le_refl _, Nat.zero_le _, fun h => absurd h (by omega)⟩
  · simp only [List.cons.injEq, and_true] at hcs
    subst hcs
    simp only [if_true] at hmm
    subst hmm
    have hcell : ∀ i, i < m → ∀ (j : Nat) (f : Field), fs[j]? = some f → ∃ u k y, w.cell? (a.add (i * fs.size + j)) = some u ∧ DataW.trod enc P w base (fun _ => true) held k f.type [u] = some y := by
      intro i hi j f hj
      obtain ⟨cs', hc, htr⟩ := hx i hi
      obtain ⟨hlen, hparts⟩ := struct_parts he hone hC htr
      obtain ⟨u, k, y, hu, hy⟩ := hparts j f hj
      obtain ⟨_, hcl, hat⟩ := World.cells?_some hc
      have hjf : j < fs.size := (Array.getElem?_eq_some_iff.1 hj).1
      have h1 := hat j (by rw [hC]; exact hjf)
      rw [hC, add_of_add, hu] at h1
      exact ⟨u, k, y, h1, hy⟩
    refine ⟨some a, len, m, rfl, hl, hm, fun hn0 => ?_⟩
    obtain ⟨u, _, _, hu, _⟩ := hcell 0 (by omega) 0 fs[0] (Array.getElem?_eq_getElem h0)
    obtain ⟨b, o, spot⟩ := a
    have hspot : spot = none := by simpa [Addr.add] using World.cell?_spot hu
    subst hspot
    refine ⟨b, o, rfl, ?_, fun i hi j f hj => ?_⟩
    · have := World.block_lt_of_cell? w _ hu
      simpa [block_of_add] using this
    · obtain ⟨u, k, y, h1, h2⟩ := hcell i (by omega) j f hj
      rw [Addr.add_lit] at h1
      exact ⟨u, k, y, h1, h2⟩

theorem list_of {α : Type} {n : Nat} {R : Nat → α → Prop} (h : ∀ i, i < n → ∃ x, R i x) : ∃ l : List α, l.length = n ∧ ∀ i x, l[i]? = some x → R i x := by
  induction n with
  | zero => exact ⟨[], rfl, fun i x hx => by simp at hx⟩
  | succ n ih =>
    obtain ⟨l, hl, hr⟩ := ih fun i hi => h i (by omega)
    obtain ⟨y, hy⟩ := h n (by omega)
    refine ⟨l ++ [y], by simp [hl], fun i x hx => ?_⟩
    by_cases hi : i < l.length
    · rw [List.getElem?_append_left hi] at hx
      exact hr i x hx
    · rw [List.getElem?_append_right (by omega)] at hx
      have : i - l.length = 0 := by
        rcases Nat.eq_zero_or_pos (i - l.length) with h0 | h0
        · exact h0
        · rw [List.getElem?_eq_none (by simp; omega)] at hx
          cases hx
      rw [this] at hx
      simp at hx
      subst hx
      have : i = n := by omega
      subst this
      exact hy

theorem flat_inv {α : Type} {f : α → List Value} {K : Nat} (hf : ∀ x, (f x).length = K) {l : List α} {j : Nat} {u : Value} (h : (l.flatMap f)[j]? = some u) : ∃ (i r : Nat) (x : α), l[i]? = some x ∧ r < K ∧ j = i * K + r ∧ (f x)[r]? = some u := by
  induction l generalizing j with
  | nil => simp at h
  | cons y l ih =>
    rw [List.flatMap_cons] at h
    by_cases hj : j < (f y).length
    · rw [List.getElem?_append_left hj] at h
      exact ⟨0, j, y, rfl, by rw [← hf y]; exact hj, by omega, h⟩
    · rw [List.getElem?_append_right (by omega)] at h
      obtain ⟨i, r, x, h1, h2, h3, h4⟩ := ih h
      rw [hf] at h3 hj
      exact ⟨i + 1, r, x, by simpa using h1, h2, by rw [Nat.succ_mul]; omega, h4⟩

/-- A slice of structs whose cells are those of plain things reads as a list of these. -/
theorem rdS_of {α : Type} {w : World} {K : Nat} {f : α → List Value} (hf : ∀ x, (f x).length = K) {V A : _} {n c : Nat} (hV : V = Value.slice A n c) (hnc : n ≤ c) (hcm : c ≤ maxLen)
    (h : 0 < n → ∃ b o, A = some ⟨b, o, none⟩ ∧ b < w.heap.size ∧ ∀ i, i < n → ∃ x : α, ∀ (r : Nat) u, (f x)[r]? = some u → w.cell? ⟨b, o + (i * K + r), none⟩ = some u) :
    ∃ l : List α, l.length = n ∧ RdS K w V l.length (l.flatMap f) := by
  by_cases hn : 0 < n
  · obtain ⟨b, o, hA, hb, hc⟩ := h hn
    obtain ⟨l, hl, hr⟩ := list_of hc
    refine ⟨l, hl, flat_len hf l, A, c, by rw [hV, hl], by omega, hcm, fun _ => ⟨b, o, hA, hb, fun j u hu => ?_⟩⟩
    obtain ⟨i, r, x, h1, _, h3, h4⟩ := flat_inv hf hu
    rw [h3]
    exact hr i x h1 r u h4
  · have : n = 0 := by omega
    subst this
    exact ⟨[], rfl, by simp, A, c, hV, by simp, hcm, fun h => absurd h (by simp)⟩
end

end Go.Proofs.Ytgjidkhfnnghiaa

/- Two closed facts on the program that every row asks. -/
namespace Go.Proofs.Ytgjidkhfnnghiaa
open Go.RowKit

theorem Try.ownKnob : ownKnob Try.prog.godebug = none := by kernel_rfl

theorem Try.laidOut : laidOutB Try.prog = true := by kernel_rfl

end Go.Proofs.Ytgjidkhfnnghiaa

/- Layers 14 to 20, the statements: fleets and states as arguments. -/
namespace Go.Proofs.Ytgjidkhfnnghiaa
open Go.Joins Go.ChangeShapes Go.WideShapes Go.ChangeAt Go.RowKit Go.Deep

section
variable {H : Type} {enc : TypeId × Value → H} {w : World} {base : Nat} {held : Bool} {r : Reach} {b0 : Nat}
set_option maxRecDepth 100000 in
theorem dec_conf {v : Value} {d : DataW H} {p : List MemPlace} (hv : Value.okWide Try.prog w r b0 23 v) (h : DataW.Trod enc Try.prog w base (fun _ => true) held 23 v d p) : ∃ c : Cf, v = cfV c := by
  obtain ⟨l, hl, rfl⟩ := dec_nums Try.underlying23 (by kernel_rfl) (by kernel_rfl) (ti := 3) (by kernel_rfl) Try.underlying3 hv h
  match l, hl with
  | [a, b, c, d, e, f, g, h, i], _ => exact ⟨⟨a, b, c, d, e, f, g, h, i⟩, rfl⟩
theorem tr_int {m : Nat} {u : Value} {y : DataW H × List MemPlace} (h : DataW.trod enc Try.prog w base (fun _ => true) held m 3 [u] = some y) : ∃ z : Int, u = .int .i64 z := by
  obtain ⟨z, hz, _, _⟩ := DataW.trod_int Try.underlying3 h
  simp only [List.cons.injEq, and_true] at hz
  exact ⟨z, hz⟩
theorem tr_bool {m : Nat} {u : Value} {y : DataW H × List MemPlace} (h : DataW.trod enc Try.prog w base (fun _ => true) held m 4 [u] = some y) : ∃ z : Bool, u = .bool z := by
  obtain ⟨z, hz, _⟩ := DataW.trod_bool Try.underlying4 h
  simp only [List.cons.injEq, and_true] at hz
  exact ⟨z, hz⟩
theorem tr_nodes {m : Nat} {V : Value} {x : DataW H × List MemPlace} (h : DataW.trod enc Try.prog w base (fun _ => true) held m 24 [V] = some x) : ∃ l : List Nd, RdNd w V l := by
  obtain ⟨A, n, c, hV, hnc, hcm, hx⟩ := structs_tr Try.underlying24 Try.underlying37 (by kernel_rfl) (by kernel_rfl) (by decide) h
  obtain ⟨l, _, hr⟩ := rdS_of (f := Nd.cells) (K := 5) Nd.len hV hnc hcm fun hn => by
    obtain ⟨b, o, hA, hb, hc⟩ := hx hn
    refine ⟨b, o, hA, hb, fun i hi => ?_⟩
    obtain ⟨u0, k0, y0, c0, t0⟩ := hc i hi 0 _ rfl
    obtain ⟨u1, k1, y1, c1, t1⟩ := hc i hi 1 _ rfl
    obtain ⟨u2, k2, y2, c2, t2⟩ := hc i hi 2 _ rfl
    obtain ⟨u3, k3, y3, c3, t3⟩ := hc i hi 3 _ rfl
    obtain ⟨u4, k4, y4, c4, t4⟩ := hc i hi 4 _ rfl
    obtain ⟨z0, rfl⟩ := tr_bool t0
    obtain ⟨z1, rfl⟩ := tr_bool t1
    obtain ⟨z2, rfl⟩ := tr_bool t2
    obtain ⟨z3, rfl⟩ := tr_int t3
    obtain ⟨z4, rfl⟩ := tr_int t4
    refine ⟨⟨z0, z1, z2, z3, z4⟩, fun r u hu => ?_⟩
    have hr := (List.getElem?_eq_some_iff.1 hu).1
    rw [Nd.len] at hr
    match r, hr, hu with
    | 0, _, hu => cases hu; exact c0
    | 1, _, hu => cases hu; exact c1
    | 2, _, hu => cases hu; exact c2
    | 3, _, hu => cases hu; exact c3
    | 4, _, hu => cases hu; exact c4
  exact ⟨l, hr⟩
theorem tr_jobs {m : Nat} {V : Value} {x : DataW H × List MemPlace} (h : DataW.trod enc Try.prog w base (fun _ => true) held m 25 [V] = some x) : ∃ l : List Jb, RdJb w V l := by
  obtain ⟨A, n, c, hV, hnc, hcm, hx⟩ := structs_tr Try.underlying25 Try.underlying39 (by kernel_rfl) (by kernel_rfl) (by decide) h
  obtain ⟨l, _, hr⟩ := rdS_of (f := Jb.cells) (K := 12) Jb.len hV hnc hcm fun hn => by
    obtain ⟨b, o, hA, hb, hc⟩ := hx hn
    refine ⟨b, o, hA, hb, fun i hi => ?_⟩
    obtain ⟨u0, k0, y0, c0, t0⟩ := hc i hi 0 _ rfl
    obtain ⟨u1, k1, y1, c1, t1⟩ := hc i hi 1 _ rfl
    obtain ⟨u2, k2, y2, c2, t2⟩ := hc i hi 2 _ rfl
    obtain ⟨u3, k3, y3, c3, t3⟩ := hc i hi 3 _ rfl
    obtain ⟨u4, k4, y4, c4, t4⟩ := hc i hi 4 _ rfl
    obtain ⟨u5, k5, y5, c5, t5⟩ := hc i hi 5 _ rfl
    obtain ⟨u6, k6, y6, c6, t6⟩ := hc i hi 6 _ rfl
    obtain ⟨u7, k7, y7, c7, t7⟩ := hc i hi 7 _ rfl
    obtain ⟨u8, k8, y8, c8, t8⟩ := hc i hi 8 _ rfl
    obtain ⟨u9, k9, y9, c9, t9⟩ := hc i hi 9 _ rfl
    obtain ⟨ua, ka, ya, ca, ta⟩ := hc i hi 10 _ rfl
    obtain ⟨ub, kb, yb, cb, tb⟩ := hc i hi 11 _ rfl
    obtain ⟨z0, rfl⟩ := tr_int t0
    obtain ⟨z1, rfl⟩ := tr_int t1
    obtain ⟨z2, rfl⟩ := tr_int t2
    obtain ⟨z3, rfl⟩ := tr_int t3
    obtain ⟨z4, rfl⟩ := tr_int t4
    obtain ⟨z5, rfl⟩ := tr_int t5
    obtain ⟨z6, rfl⟩ := tr_int t6
    obtain ⟨z7, rfl⟩ := tr_int t7
    obtain ⟨z8, rfl⟩ := tr_int t8
    obtain ⟨z9, rfl⟩ := tr_int t9
    obtain ⟨za, rfl⟩ := tr_int ta
    obtain ⟨zb, rfl⟩ := tr_int tb
    refine ⟨⟨z0, z1, z2, z3, z4, z5, z6, z7, z8, z9, za, zb⟩, fun r u hu => ?_⟩
    have hr := (List.getElem?_eq_some_iff.1 hu).1
    rw [Jb.len] at hr
    match r, hr, hu with
    | 0, _, hu => cases hu; exact c0
    | 1, _, hu => cases hu; exact c1
    | 2, _, hu => cases hu; exact c2
    | 3, _, hu => cases hu; exact c3
    | 4, _, hu => cases hu; exact c4
    | 5, _, hu => cases hu; exact c5
    | 6, _, hu => cases hu; exact c6
    | 7, _, hu => cases hu; exact c7
    | 8, _, hu => cases hu; exact c8
    | 9, _, hu => cases hu; exact c9
    | 10, _, hu => cases hu; exact ca
    | 11, _, hu => cases hu; exact cb
  exact ⟨l, hr⟩
set_option maxRecDepth 100000 in
theorem dec_state {v : Value} {d : DataW H} {p : List MemPlace} (hv : Value.okWide Try.prog w r b0 27 v) (h : DataW.Trod enc Try.prog w base (fun _ => true) held 27 v d p) : ∃ vn vj s, v = stV vn vj s ∧ RdSt w vn vj s := by
  obtain ⟨cs, rfl, hsz⟩ := okWide_struct Try.underlying27 hv
  obtain ⟨fuel, hf⟩ := h
  obtain ⟨hl, hp⟩ := struct_parts Try.underlying27 (by kernel_rfl) (by kernel_rfl) hf
  obtain ⟨u0, k0, y0, c0, t0⟩ := hp 0 _ rfl
  obtain ⟨u1, k1, y1, c1, t1⟩ := hp 1 _ rfl
  obtain ⟨u2, k2, y2, c2, t2⟩ := hp 2 _ rfl
  obtain ⟨u3, k3, y3, c3, t3⟩ := hp 3 _ rfl
  obtain ⟨u4, k4, y4, c4, t4⟩ := hp 4 _ rfl
  obtain ⟨u5, k5, y5, c5, t5⟩ := hp 5 _ rfl
  obtain ⟨ln, hn⟩ := tr_nodes t0
  obtain ⟨lj, hj⟩ := tr_jobs t1
  obtain ⟨z2, rfl⟩ := tr_int t2
  obtain ⟨z3, rfl⟩ := tr_int t3
  obtain ⟨z4, rfl⟩ := tr_int t4
  obtain ⟨z5, rfl⟩ := tr_int t5
  refine ⟨u0, u1, ⟨ln, lj, z2, z3, z4, z5⟩, ?_, hn, hj⟩
  have hsz' : cs.toList.length = 6 := hl
  obtain ⟨l⟩ := cs
  match l, hsz' with
  | [a, b, c, d, e, f], _ =>
    simp only [Value.cells, List.getElem?_cons_zero, List.getElem?_cons_succ, Option.some.injEq] at c0 c1 c2 c3 c4 c5
    subst c0 c1 c2 c3 c4 c5
    rfl
end

end Go.Proofs.Ytgjidkhfnnghiaa
