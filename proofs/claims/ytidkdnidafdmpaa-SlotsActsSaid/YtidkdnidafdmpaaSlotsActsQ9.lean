/- Texts that the proof of SlotsActs rests on, one behind the other. -/
import Derived.Test.YtidkdnidafdmpaaSlotsActsQ8
import Derived.Deep.DeepCutAuto
import Derived.Deep.CutBlock
import Derived.Deep.LoopGhost

/- SlotsActs, where there are slots: act by act. -/
namespace Go.Proofs.Ytidkdnidafdmpaa
open Go.RowKit

/-- What each act leaves, ahead of what is looked at. -/
def SlotsCut (w1 : World) (ix h g m r f z N k : Nat) (cs : Array Value) (wx : World) : Prop :=
  ∃ s : DkS, FreeS wx ix w1 h g m r f z s s ∧ Blk wx ix 41 cs ∧ OkS N (k + 1) s

set_option maxRecDepth 100000 in
set_option maxHeartbeats 8000000 in
theorem SlotsActs_main (N f z : Nat) (l : List Act3) (v : Value) (w : World) (hr : RdActs3 w v l) (hf : fewS l = true) (hN1 : 1 ≤ N) (hN4 : N ≤ 400) (hz : f + 2 * z ≤ N) (h1 : 1 ≤ z) :
    Calls Try.prog 3 #[.int .i64 (N : Int), .int .i64 (f : Int), .int .i64 (z : Int), v] w fun e w' => e = .returned (.bool true) ∧ Ext w w' := by
  obtain ⟨A, c, rfl, hlc, hcm⟩ := hr.slice_
  obtain ⟨hl40, hl200⟩ := fewS_yes hf
  have hNd : decide (400 < N) = false := by simp; omega
  go_enter Try.func3, Try.ntmps3
  go_wp2_with fail
  refine (alive6_any w).mono ?_
  rintro e w1 ⟨rfl, hx1⟩
  have hr1 := hr.ext hx1
  go_wp2_with fail
  refine (fewS_any l _ _ hr1).mono ?_
  rintro e w1' ⟨rfl, rfl⟩
  rw [hf]
  go_wp2_with fail
  refine (DsW.new (Ext.refl w1) N hN1 (by omega)).mono ?_
  rintro e w2 ⟨g, rfl, hd2, hx2⟩
  obtain ⟨s0, hs0⟩ : ∃ s0 : DkS, s0 = (List.replicate N 0, [], 0) := ⟨_, rfl⟩
  have hok0 : OkS N 0 s0 := by
    rw [hs0]
    exact ⟨List.length_replicate, Nat.zero_le _, Int.le_refl _, Int.le_refl _⟩
  rw [← hs0] at hd2
  go_wp2_with fail
  refine (RkNew N w2 (by omega)).mono ?_
  rintro e w3 ⟨r, rfl, hk3, hx3⟩
  rw [← hs0] at hk3
  have HD3 := Lib.hid (hd2.ext hx3)
  have HK3 := Lib.hid hk3
  have HOK0 := Lib.hid hok0
  have HX := Lib.hid (And.intro hx2.size hx3.size)
  clear hs0 hd2 hk3 hx2 hx3 hok0
  go_wp2_with fail
  refine (HD3.out.open_ (f := f) (z := z) (by rw [HOK0.out.1]; exact hz) h1).mono ?_
  rintro e w4 ⟨h, rfl, hl4, hx4⟩
  have HL4 := Lib.hid hl4
  have HX4 := Lib.hid hx4
  have HK4 := Lib.hid (HK3.out.ext0 hx4)
  clear hl4 hx4 HD3
  go_wp2_with fail
  refine (RefSlOpen_yes _ r s0 f z w4 HK4.out (by rw [HOK0.out.1]; omega) (by rw [HOK0.out.1]; exact hz) h1).mono ?_
  rintro e w5 ⟨m, rfl, hs5, hx5⟩
  have hpr : PrS w1 w5 h g m r f z s0 s0 := by
    have hz1 := HX.out
    have hz4 := HX4.out.size
    have hz5 := hx5.size
    refine ⟨_, fun k => (w2.heap.size ≤ k ∧ k < w3.heap.size) ∨ (w4.heap.size ≤ k ∧ k < w5.heap.size), HL4.out.ext hx5, ⟨_, _, HK4.out.ext0 hx5, hs5, fun k hk hk2 => by omega, fun k hk => .inl hk, fun k hk => .inr hk, fun k hk => by omega⟩, fun k hk => by omega, fun k hk hk2 => ?_⟩
    rcases hk with hk | hk
    · omega
    · omega
  have HPR := Lib.hid hpr
  clear hs5 hx5 hpr HL4 HK4 HX HX4 HK3
  go_wp2
  go_loopg [18] l.length (fun gg i wr => ∃ k : Nat, i = .int .i64 k ∧ k ≤ l.length ∧ gg = l.length - k ∧ ∃ s : DkS, PrS w1 wr h g m r f z s s ∧ OkS N k s)
  case atStart => exact ⟨0, rfl, Nat.zero_le _, rfl, s0, HPR.out, HOK0.out⟩
  case round =>
    obtain ⟨k, rfl, hk, rfl, s, hpr, hok⟩ := hrel
    by_cases hlt : k < l.length
    · clear HPR HOK0
      obtain ⟨b, o, rfl, hb, hcl⟩ := hr1.get (by omega)
      obtain ⟨e0, e1, e2, b0, b1, b2, u, e3, hu⟩ := hcl k _ (List.getElem?_eq_getElem hlt)
      have hp200 := hl200 l[k] (List.getElem_mem hlt)
      generalize l[k] = x at *
      obtain ⟨kind, keep, age, p⟩ := x
      dsimp only at hu e0 e1 e2 b0 b1 b2 hp200
      have hxw := hpr.ext0
      have d0 : wr.cell? ⟨b, o + k * 4, none⟩ = some (.int .i64 kind) := hxw.cellOf e0 hb
      have d1 : wr.cell? ⟨b, o + k * 4 + 1, none⟩ = some (.int .i64 keep) := hxw.cellOf e1 hb
      have d2 : wr.cell? ⟨b, o + k * 4 + 2, none⟩ = some (.int .i64 age) := hxw.cellOf e2 hb
      have d3 : wr.cell? ⟨b, o + k * 4 + 3, none⟩ = some u := hxw.cellOf e3 hb
      obtain ⟨Au, cu, rfl, hcu, hcmu⟩ := hu.sliceN (List.length_map _)
      unfold maxLen at hcmu
      have hE : Ext wr (wr.alloc (.cells #[.int .i64 kind, .int .i64 keep, .int .i64 age, .slice Au p.length cu] 41)) := (Below.refl _ _).alloc (Nat.le_refl _) _
      have hB : Blk (wr.alloc (.cells #[.int .i64 kind, .int .i64 keep, .int .i64 age, .slice Au p.length cu] 41)) wr.heap.size 41 #[.int .i64 kind, .int .i64 keep, .int .i64 age, .slice Au p.length cu] := Blk.new _ _ _
      have HFR := Lib.hid (hpr.free (Nat.le_refl wr.heap.size) hE)
      have HBB : Hid ((-9223372036854775808 ≤ keep ∧ keep ≤ 9223372036854775807) ∧ -9223372036854775808 ≤ age ∧ age ≤ 9223372036854775807) := Lib.hid ⟨b1, b2⟩
      have HU := Lib.hid hu
      have HBB0 := Lib.hid hB
      have HOK1 := Lib.hid hok
      clear hcl e0 e1 e2 e3 b0 b1 b2 hu hpr hok hB hE hxw
      go_upto_block 2 with (fail)
      generalize wr.alloc _ = wa at *
      generalize wr.heap.size = ix at *
      clear d0 d1 d2 d3
      go_cut [] (fun wx => SlotsCut w1 ix h g m r f z N k #[.int .i64 kind, .int .i64 keep, .int .i64 age, .slice Au p.length cu] wx)
      case first =>
        have hN1' := HOK1.out.1
        have hw4 : s.2.1.length ≤ 400 := HOK1.out.2.1
        have hn0 : 0 ≤ s.2.2 := HOK1.out.2.2.1
        have hn1 : s.2.2 ≤ 2 * (k : Int) := HOK1.out.2.2.2
        have hzs : f + 2 * z ≤ s.1.length := by omega
        have hN65 : s.1.length ≤ 65536 := by omega
        have hN' := Lib.hid hN1'
        clear hN1'
        by_cases k0 : kind = 0
        · subst k0
          have f2 : wa.cell? ⟨ix, 2, none⟩ = some (.int .i64 age) := HBB0.out.cell 2
          have f3 : wa.cell? ⟨ix, 3, none⟩ = some (.slice Au p.length cu) := HBB0.out.cell 3
          go_wp2_with fail
          refine (HFR.out.ref HBB0.out.lt fun G hl => RefStart_any G m r f z s p _ age wa hl (HU.out.ext HFR.out.pr.ext0) hN65 hzs h1 (by omega) hn0 (by omega) (by omega)).mono ?_
          rintro e wB ⟨rfl, FB, kB⟩
          have bB := kB _ _ HBB0.out
          have HFB := Lib.hid FB
          have HbB := Lib.hid bB
          clear FB kB bB f2 f3
          by_cases he : stE s f z p age = 0
          · have hss := stS_len s f z p age
            have hsn := stS_n s f z p age
            have hsw : (stS s f z p age).2.1.length ≤ 400 := (OkS.start (f := f) (p := p) (age := age) HOK1.out (by omega)).2.1
            have hsv := st_save he
            have hsy := HFB.out.ref HbB.out.lt fun G hl => hl.turnC fun F1 hk => RkSync F1 r (stS s f z p age) wB hk (by omega) (by omega) (by omega)
            rw [hsv] at hsy
            have HSY := Lib.hid hsy
            have hok' := OkS.save (f := f) (z := z) (p := p) (age := age) HOK1.out
            have HOK' := Lib.hid hok'
            clear hss hsn hsw hsv hsy hok'
            have hsave := fun (wX : World) (hX : FreeS wX ix w1 h g m r f z s (svS s f z p age)) (hlt : ix < wX.heap.size) => hX.code hlt fun F hl => hl.save (p := p) (age := age) HU.out hzs h1 (by omega) hn0 (by omega) (by omega) HBB.out.2.1 HBB.out.2.2
            rw [he] at hsave
            rw [he]
            have HSV := Lib.hid hsave
            clear hsave he HFR
            generalize svS s f z p age = s' at *
            go_wp2_with fail
            refine HSY.out.mono ?_
            rintro e wC ⟨rfl, FC, kC⟩
            have bC := kC _ _ HbB.out
            have f2 : wC.cell? ⟨ix, 2, none⟩ = some (.int .i64 age) := bC.cell 2
            have f3 : wC.cell? ⟨ix, 3, none⟩ = some (.slice Au p.length cu) := bC.cell 3
            have HFC := Lib.hid FC
            have HbC := Lib.hid bC
            clear FC kC bC HSY HFB HbB
            go_wp2_with fail
            refine (HSV.out wC HFC.out HbC.out.lt).mono ?_
            rintro e wD ⟨rfl, FD, kD⟩
            have bD := kD _ _ HbC.out
            have HFD := Lib.hid FD
            have HbD := Lib.hid bD
            clear FD kD bD f2 f3 HFC HbC HSV
            go_wp2_with fail
            go_meet
            exact ⟨s', HFD.out, HbD.out, HOK'.out⟩
          · obtain ⟨q1, q2⟩ := st_none he
            rw [q1] at HFB
            have hsave := HFB.out.code HbB.out.lt fun F hl => hl.save (p := p) (age := age) HU.out hzs h1 (by omega) hn0 (by omega) (by omega) HBB.out.2.1 HBB.out.2.2
            rw [q2] at hsave
            have hE0 : (stE s f z p age == 0) = false := by rw [beq_eq_false_iff_ne]; exact he
            have hE1 : (stE s f z p age != stE s f z p age) = false := by simp
            have HSV := Lib.hid hsave
            clear hsave he q1 q2 HFR
            have f2 : wB.cell? ⟨ix, 2, none⟩ = some (.int .i64 age) := HbB.out.cell 2
            have f3 : wB.cell? ⟨ix, 3, none⟩ = some (.slice Au p.length cu) := HbB.out.cell 3
            generalize stE s f z p age = E at *
            go_wp2_with fail
            refine HSV.out.mono ?_
            rintro e wD ⟨rfl, FD, kD⟩
            have bD := kD _ _ HbB.out
            have HFD := Lib.hid FD
            have HbD := Lib.hid bD
            clear FD kD bD f2 f3 HFB HbB HSV
            go_wp2_with fail
            go_meet
            exact ⟨s, HFD.out, HbD.out, HOK1.out.same⟩
        · have kb0 : (kind == 0) = false := by rw [beq_eq_false_iff_ne]; exact k0
          by_cases k1 : kind = 1
          · subst k1
            go_wp2_with fail
            have FA := HFR.out.ext (Ext.dr (Ext.refl wa))
            have bb0 := HBB0.out.ext (Ext.dr (Ext.refl wa))
            have ixlt := bb0.lt
            have hE1 : (stE s f z p age != stE s f z p age) = false := by simp
            refine held_begin (by kernel_rfl) ?_
            have hHeld0 : True := True.intro
            refine held_more (S' := fun w' : World => w'.cell? ⟨ix, 2, none⟩ = some (.int .i64 age) ∧ w'.cell? ⟨ix, 3, none⟩ = some (.slice Au p.length cu)) (fun _ _ => trivial) ?_
            have hHeld1 : (fun w' : World => w'.cell? ⟨ix, 2, none⟩ = some (.int .i64 age) ∧ w'.cell? ⟨ix, 3, none⟩ = some (.slice Au p.length cu)) _ := ⟨bb0.cell 2, bb0.cell 3⟩
            clear hHeld0
            refine held_take (i := 0) (v := ?_) rfl (by kernel_rfl) (by kernel_rfl) (by kernel_rfl) (by rfl) (by first | assumption | exact True.intro) ?_ ?_
            rotate_left
            · (intro w hSw; (try dsimp only at hSw); go_simp; (try with_reducible rfl))
            try simp only [Act.put, List.setIfInBounds_toArray, List.set_cons_zero, List.set_cons_succ]
            refine held_take (i := 1) (v := ?_) rfl (by kernel_rfl) (by kernel_rfl) (by kernel_rfl) (by rfl) (by first | assumption | exact True.intro) ?_ ?_
            rotate_left
            · (intro w hSw; (try dsimp only at hSw); go_simp; (try with_reducible rfl))
            try simp only [Act.put, List.setIfInBounds_toArray, List.set_cons_zero, List.set_cons_succ]
            refine held_take (i := 2) (v := ?_) rfl (by kernel_rfl) (by kernel_rfl) (by kernel_rfl) (by rfl) (by first | assumption | exact True.intro) ?_ ?_
            rotate_left
            · (intro w hSw; (try dsimp only at hSw); go_simp; (try with_reducible rfl))
            try simp only [Act.put, List.setIfInBounds_toArray, List.set_cons_zero, List.set_cons_succ]
            refine held_take (i := 3) (v := ?_) rfl (by kernel_rfl) (by kernel_rfl) (by kernel_rfl) (by rfl) (by first | assumption | exact True.intro) ?_ ?_
            rotate_left
            · (intro w hSw; (try dsimp only at hSw); go_simp; (try with_reducible rfl))
            try simp only [Act.put, List.setIfInBounds_toArray, List.set_cons_zero, List.set_cons_succ]
            refine held_take (i := 4) (v := ?_) rfl (by kernel_rfl) (by kernel_rfl) (by kernel_rfl) (by rfl) (by first | assumption | exact True.intro) ?_ ?_
            rotate_left
            · (intro w hSw; (try dsimp only at hSw); go_simp; (try with_reducible rfl))
            try simp only [Act.put, List.setIfInBounds_toArray, List.set_cons_zero, List.set_cons_succ]
            refine held_take (i := 6) (v := ?_) rfl (by kernel_rfl) (by kernel_rfl) (by kernel_rfl) (by rfl) (by first | assumption | exact True.intro) ?_ ?_
            rotate_left
            · (intro w hSw; (try dsimp only at hSw); go_simp; (try with_reducible rfl))
            try simp only [Act.put, List.setIfInBounds_toArray, List.set_cons_zero, List.set_cons_succ]
            refine held_take (i := 7) (v := ?_) rfl (by kernel_rfl) (by kernel_rfl) (by kernel_rfl) (by rfl) (by first | assumption | exact True.intro) ?_ ?_
            rotate_left
            · (intro w hSw; (try dsimp only at hSw); go_simp; (try with_reducible rfl))
            try simp only [Act.put, List.setIfInBounds_toArray, List.set_cons_zero, List.set_cons_succ]
            refine held_take (i := 8) (v := ?_) rfl (by kernel_rfl) (by kernel_rfl) (by kernel_rfl) (by rfl) (by first | assumption | exact True.intro) ?_ ?_
            rotate_left
            · (intro w hSw; (try dsimp only at hSw); go_simp; (try with_reducible rfl))
            try simp only [Act.put, List.setIfInBounds_toArray, List.set_cons_zero, List.set_cons_succ]
            refine held_take (i := 9) (v := ?_) rfl (by kernel_rfl) (by kernel_rfl) (by kernel_rfl) (by rfl) (by first | assumption | exact True.intro) ?_ ?_
            rotate_left
            · (intro w hSw; (try dsimp only at hSw); go_simp; (try with_reducible rfl))
            try simp only [Act.put, List.setIfInBounds_toArray, List.set_cons_zero, List.set_cons_succ]
            refine held_take (i := 10) (v := ?_) rfl (by kernel_rfl) (by kernel_rfl) (by kernel_rfl) (by rfl) (by first | assumption | exact True.intro) ?_ ?_
            rotate_left
            · (intro w hSw; (try dsimp only at hSw); go_simp; (try with_reducible rfl))
            try simp only [Act.put, List.setIfInBounds_toArray, List.set_cons_zero, List.set_cons_succ]
            refine held_op (i := 5) (by kernel_rfl) rfl (fun K hK => ?_)
            go_simp
            go_at_call 15
            (with_reducible refine (FA.code ixlt fun F hl => hl.start (p := p) (age := age) HU.out hzs h1 (by omega) hn0 (by omega) (by omega) HBB.out.2.1 HBB.out.2.2).mono ?_)
            rintro e wB ⟨rfl, FB, kB⟩
            have bB := kB _ _ bb0
            have ixB := bB.lt
            refine hK _ _ ?_ (fun hHeld2 => ?_)
            · exact ⟨bB.cell 2, bB.cell 3⟩
            clear hK K hHeld1
            try simp only [Act.put, List.setIfInBounds_toArray, List.set_cons_zero, List.set_cons_succ]
            refine held_op (i := 11) (by kernel_rfl) rfl (fun K hK => ?_)
            go_simp
            go_at_call 16
            (with_reducible refine (FB.ref ixB fun G hl => RefStart_any G m r f z s p _ age wB hl (HU.out.ext FB.pr.ext0) hN65 hzs h1 (by omega) hn0 (by omega) (by omega)).mono ?_)
            rintro e wC ⟨rfl, FC, kC⟩
            have bC := kC _ _ bB
            refine hK _ _ ?_ (fun hHeld3 => ?_)
            · exact ⟨bC.cell 2, bC.cell 3⟩
            clear hK K hHeld2
            try simp only [Act.put, List.setIfInBounds_toArray, List.set_cons_zero, List.set_cons_succ]
            refine held_take (i := 12) (v := ?_) rfl (by kernel_rfl) (by kernel_rfl) (by kernel_rfl) (by rfl) (by first | assumption | exact True.intro) ?_ ?_
            rotate_left
            · (intro w hSw; (try dsimp only at hSw); go_simp; (try with_reducible rfl))
            try simp only [Act.put, List.setIfInBounds_toArray, List.set_cons_zero, List.set_cons_succ]
            refine wpAnyH_done (by kernel_rfl) ?_ _
            refine NoPanic.normal ?_
            clear hHeld3
            have hok' := OkS.start (f := f) (z := z) (p := p) (age := age) HOK1.out (by omega)
            have HOK' := Lib.hid hok'
            have hw' := hok'.2.1
            have HFC := Lib.hid FC
            have HbC := Lib.hid bC
            have f0 : wC.cell? ⟨ix, 0, none⟩ = some (.int .i64 1) := bC.cell 0
            have f1 : wC.cell? ⟨ix, 1, none⟩ = some (.int .i64 keep) := bC.cell 1
            clear FA FB FC kB kC bB bC bb0 ixlt ixB hok' HFR
            generalize stE s f z p age = E at *
            generalize stS s f z p age = s' at *
            go_wp2_with fail
            refine (HFC.out.code HbC.out.lt fun F hl => hl.crash keep HBB.out.1.1 HBB.out.1.2 (by omega)).mono ?_
            rintro e wD ⟨rfl, FD, kD⟩
            have bD := kD _ _ HbC.out
            have f1 : wD.cell? ⟨ix, 1, none⟩ = some (.int .i64 keep) := bD.cell 1
            have HFD := Lib.hid FD
            have HbD := Lib.hid bD
            clear FD kD bD HFC HbC f0
            go_wp2_with fail
            refine (HFD.out.ref HbD.out.lt fun G hl => hl.turnC fun F1 hk => RkCrash F1 r s' keep wD hk (by omega)).mono ?_
            rintro e wE ⟨rfl, FE, kE⟩
            have bE := kE _ _ HbD.out
            have HFE := Lib.hid FE
            have HbE := Lib.hid bE
            clear FE kE bE HFD HbD f1
            go_wp2_with fail
            go_meet
            exact ⟨crD s' keep, HFE.out, HbE.out, HOK'.out.crash⟩
          · have kb1 : (kind == 1) = false := by rw [beq_eq_false_iff_ne]; exact k1
            by_cases k2 : kind = 2
            · subst k2
              go_wp2_with fail
              have FA := HFR.out.ext (Ext.dr (Ext.refl wa))
              have bb0 := HBB0.out.ext (Ext.dr (Ext.refl wa))
              have ixlt := bb0.lt
              have hE1 : (stE s f z p age != stE s f z p age) = false := by simp
              refine held_begin (by kernel_rfl) ?_
              have hHeld0 : True := True.intro
              refine held_more (S' := fun w' : World => w'.cell? ⟨ix, 2, none⟩ = some (.int .i64 age) ∧ w'.cell? ⟨ix, 3, none⟩ = some (.slice Au p.length cu)) (fun _ _ => trivial) ?_
              have hHeld1 : (fun w' : World => w'.cell? ⟨ix, 2, none⟩ = some (.int .i64 age) ∧ w'.cell? ⟨ix, 3, none⟩ = some (.slice Au p.length cu)) _ := ⟨bb0.cell 2, bb0.cell 3⟩
              clear hHeld0
              refine held_take (i := 0) (v := ?_) rfl (by kernel_rfl) (by kernel_rfl) (by kernel_rfl) (by rfl) (by first | assumption | exact True.intro) ?_ ?_
              rotate_left
              · (intro w hSw; (try dsimp only at hSw); go_simp; (try with_reducible rfl))
              try simp only [Act.put, List.setIfInBounds_toArray, List.set_cons_zero, List.set_cons_succ]
              refine held_take (i := 1) (v := ?_) rfl (by kernel_rfl) (by kernel_rfl) (by kernel_rfl) (by rfl) (by first | assumption | exact True.intro) ?_ ?_
              rotate_left
              · (intro w hSw; (try dsimp only at hSw); go_simp; (try with_reducible rfl))
              try simp only [Act.put, List.setIfInBounds_toArray, List.set_cons_zero, List.set_cons_succ]
              refine held_take (i := 2) (v := ?_) rfl (by kernel_rfl) (by kernel_rfl) (by kernel_rfl) (by rfl) (by first | assumption | exact True.intro) ?_ ?_
              rotate_left
              · (intro w hSw; (try dsimp only at hSw); go_simp; (try with_reducible rfl))
              try simp only [Act.put, List.setIfInBounds_toArray, List.set_cons_zero, List.set_cons_succ]
              refine held_take (i := 3) (v := ?_) rfl (by kernel_rfl) (by kernel_rfl) (by kernel_rfl) (by rfl) (by first | assumption | exact True.intro) ?_ ?_
              rotate_left
              · (intro w hSw; (try dsimp only at hSw); go_simp; (try with_reducible rfl))
              try simp only [Act.put, List.setIfInBounds_toArray, List.set_cons_zero, List.set_cons_succ]
              refine held_take (i := 4) (v := ?_) rfl (by kernel_rfl) (by kernel_rfl) (by kernel_rfl) (by rfl) (by first | assumption | exact True.intro) ?_ ?_
              rotate_left
              · (intro w hSw; (try dsimp only at hSw); go_simp; (try with_reducible rfl))
              try simp only [Act.put, List.setIfInBounds_toArray, List.set_cons_zero, List.set_cons_succ]
              refine held_take (i := 6) (v := ?_) rfl (by kernel_rfl) (by kernel_rfl) (by kernel_rfl) (by rfl) (by first | assumption | exact True.intro) ?_ ?_
              rotate_left
              · (intro w hSw; (try dsimp only at hSw); go_simp; (try with_reducible rfl))
              try simp only [Act.put, List.setIfInBounds_toArray, List.set_cons_zero, List.set_cons_succ]
              refine held_take (i := 7) (v := ?_) rfl (by kernel_rfl) (by kernel_rfl) (by kernel_rfl) (by rfl) (by first | assumption | exact True.intro) ?_ ?_
              rotate_left
              · (intro w hSw; (try dsimp only at hSw); go_simp; (try with_reducible rfl))
              try simp only [Act.put, List.setIfInBounds_toArray, List.set_cons_zero, List.set_cons_succ]
              refine held_take (i := 8) (v := ?_) rfl (by kernel_rfl) (by kernel_rfl) (by kernel_rfl) (by rfl) (by first | assumption | exact True.intro) ?_ ?_
              rotate_left
              · (intro w hSw; (try dsimp only at hSw); go_simp; (try with_reducible rfl))
              try simp only [Act.put, List.setIfInBounds_toArray, List.set_cons_zero, List.set_cons_succ]
              refine held_take (i := 9) (v := ?_) rfl (by kernel_rfl) (by kernel_rfl) (by kernel_rfl) (by rfl) (by first | assumption | exact True.intro) ?_ ?_
              rotate_left
              · (intro w hSw; (try dsimp only at hSw); go_simp; (try with_reducible rfl))
              try simp only [Act.put, List.setIfInBounds_toArray, List.set_cons_zero, List.set_cons_succ]
              refine held_take (i := 10) (v := ?_) rfl (by kernel_rfl) (by kernel_rfl) (by kernel_rfl) (by rfl) (by first | assumption | exact True.intro) ?_ ?_
              rotate_left
              · (intro w hSw; (try dsimp only at hSw); go_simp; (try with_reducible rfl))
              try simp only [Act.put, List.setIfInBounds_toArray, List.set_cons_zero, List.set_cons_succ]
              refine held_op (i := 5) (by kernel_rfl) rfl (fun K hK => ?_)
              go_simp
              go_at_call 15
              (with_reducible refine (FA.code ixlt fun F hl => hl.start (p := p) (age := age) HU.out hzs h1 (by omega) hn0 (by omega) (by omega) HBB.out.2.1 HBB.out.2.2).mono ?_)
              rintro e wB ⟨rfl, FB, kB⟩
              have bB := kB _ _ bb0
              have ixB := bB.lt
              refine hK _ _ ?_ (fun hHeld2 => ?_)
              · exact ⟨bB.cell 2, bB.cell 3⟩
              clear hK K hHeld1
              try simp only [Act.put, List.setIfInBounds_toArray, List.set_cons_zero, List.set_cons_succ]
              refine held_op (i := 11) (by kernel_rfl) rfl (fun K hK => ?_)
              go_simp
              go_at_call 16
              (with_reducible refine (FB.ref ixB fun G hl => RefStart_any G m r f z s p _ age wB hl (HU.out.ext FB.pr.ext0) hN65 hzs h1 (by omega) hn0 (by omega) (by omega)).mono ?_)
              rintro e wC ⟨rfl, FC, kC⟩
              have bC := kC _ _ bB
              refine hK _ _ ?_ (fun hHeld3 => ?_)
              · exact ⟨bC.cell 2, bC.cell 3⟩
              clear hK K hHeld2
              try simp only [Act.put, List.setIfInBounds_toArray, List.set_cons_zero, List.set_cons_succ]
              refine held_take (i := 12) (v := ?_) rfl (by kernel_rfl) (by kernel_rfl) (by kernel_rfl) (by rfl) (by first | assumption | exact True.intro) ?_ ?_
              rotate_left
              · (intro w hSw; (try dsimp only at hSw); go_simp; (try with_reducible rfl))
              try simp only [Act.put, List.setIfInBounds_toArray, List.set_cons_zero, List.set_cons_succ]
              refine wpAnyH_done (by kernel_rfl) ?_ _
              refine NoPanic.normal ?_
              clear hHeld3
              have hok' := OkS.start (f := f) (z := z) (p := p) (age := age) HOK1.out (by omega)
              have HOK' := Lib.hid hok'
              have hw' := hok'.2.1
              have HFC := Lib.hid FC
              have HbC := Lib.hid bC
              have f0 : wC.cell? ⟨ix, 0, none⟩ = some (.int .i64 2) := bC.cell 0
              have f1 : wC.cell? ⟨ix, 1, none⟩ = some (.int .i64 keep) := bC.cell 1
              clear FA FB FC kB kC bB bC bb0 ixlt ixB hok' HFR
              generalize stE s f z p age = E at *
              generalize stS s f z p age = s' at *
              go_wp2_with fail
              go_meet
              exact ⟨s', HFC.out, HbC.out, HOK'.out⟩
            · have kb2 : (kind == 2) = false := by rw [beq_eq_false_iff_ne]; exact k2
              go_wp2_with fail
              go_meet
              exact ⟨s, HFR.out, HBB0.out, HOK1.out.same⟩
      case rest =>
        clear HFR HBB0 HOK1
        obtain ⟨s, hfree, hblk, hokk⟩ := hcut
        have hN1' := hokk.1
        have hw4 : s.2.1.length ≤ 1000000000 := Nat.le_trans hokk.2.1 (by decide)
        have hzs : f + 2 * z ≤ s.1.length := by omega
        have hN65 : s.1.length ≤ 65536 := by omega
        have HF := Lib.hid hfree
        have HOK := Lib.hid hokk
        clear hfree hblk hokk hN1'
        go_wp2_with fail
        refine (HF.out.codeLoad hzs h1 hw4).mono ?_
        rintro e wA ⟨⟨vA, heA, hrA, -⟩, FA⟩
        have HFA := Lib.hid FA
        clear FA HF
        generalize hP : loadD s f z = P at *
        have HP := Lib.hid hP
        clear hP
        cases P with
        | none =>
          obtain rfl := heA
          have hrA : Rd wA vA (([] : List UInt8).map B) := hrA
          obtain ⟨AA, cA, rfl, _, _⟩ := hrA.sliceN (List.length_map _)
          have HRA := Lib.hid hrA
          clear hrA
          go_wp2_with fail
          refine (HFA.out.refLoad hN65 hzs h1 hw4).mono ?_
          rintro e wB ⟨⟨vB, heB, hrB, hxB⟩, FB⟩
          rw [HP.out] at heB hrB
          obtain rfl := heB
          have hrB : Rd wB vB (([] : List UInt8).map B) := hrB
          obtain ⟨AB, cB, rfl, _, _⟩ := hrB.sliceN (List.length_map _)
          have HRA2 := Lib.hid (HRA.out.ext hxB)
          have HRB := Lib.hid hrB
          have HFB := Lib.hid FB
          clear hrB FB hxB HRA HFA
          have hage : ageI (none : Pic) = -1 := rfl
          rw [hage]
          go_wp2_with fail
          refine (Bytes_same ([] : List UInt8) _ _ wB HRA2.out HRB.out).mono ?_
          rintro e wC ⟨rfl, nC, rfl⟩
          have HFC := Lib.hid (HFB.out.ext (Below.drewN' (Ext.refl wB) nC))
          clear HFB HRA2 HRB
          generalize wB.drewN nC = wC at *
          go_wp2_with fail
          refine (HFC.out.codeBytes hw4).mono ?_
          rintro e wD ⟨A7, c7, rfl, R7, FD, -⟩
          have HFD := Lib.hid FD
          have HR7 := Lib.hid R7
          clear FD R7 HFC
          go_wp2_with fail
          refine (HFD.out.refBytes hN65 hw4).mono ?_
          rintro e wE ⟨A9, c9, rfl, R9, FE, xE⟩
          have HFE := Lib.hid FE
          have HR9 := Lib.hid R9
          have HR7' := Lib.hid (HR7.out.ext xE)
          clear FE R9 xE HFD HR7
          go_wp2_with fail
          refine (Bytes_same (rdD s) _ _ wE HR7'.out HR9.out).mono ?_
          rintro e wF ⟨rfl, nF, rfl⟩
          have HPF := Lib.hid (HFE.out.pr.ext (Below.drewN' (Ext.refl wE) nF))
          clear HFE HR7' HR9
          go_wp2
          go_roundg (l.length - (k + 1))
          case measure => omega
          case rel => exact ⟨k + 1, by go_num, by omega, rfl, s, HPF.out, HOK.out⟩
        | some y =>
          obtain rfl := heA
          have hrA : Rd wA vA (y.1.map B) := hrA
          obtain ⟨AA, cA, rfl, _, _⟩ := hrA.sliceN (List.length_map _)
          have HRA := Lib.hid hrA
          clear hrA
          go_wp2_with fail
          refine (HFA.out.refLoad hN65 hzs h1 hw4).mono ?_
          rintro e wB ⟨⟨vB, heB, hrB, hxB⟩, FB⟩
          rw [HP.out] at heB hrB
          obtain rfl := heB
          have hrB : Rd wB vB (y.1.map B) := hrB
          obtain ⟨AB, cB, rfl, _, _⟩ := hrB.sliceN (List.length_map _)
          have HRA2 := Lib.hid (HRA.out.ext hxB)
          have HRB := Lib.hid hrB
          have HFB := Lib.hid FB
          clear hrB FB hxB HRA HFA
          have hy0 : (0 : Int) ≤ (y.2 : Int) := Int.natCast_nonneg _
          have hyd : decide ((0 : Int) ≤ (y.2 : Int)) = true := decide_eq_true hy0
          have hyb : ((y.2 : Int) != (y.2 : Int)) = false := by simp
          have hage : ageI (some y) = (y.2 : Int) := rfl
          rw [hage]
          go_wp2_with fail
          refine (Bytes_same y.1 _ _ wB HRA2.out HRB.out).mono ?_
          rintro e wC ⟨rfl, nC, rfl⟩
          have HFC := Lib.hid (HFB.out.ext (Below.drewN' (Ext.refl wB) nC))
          clear HFB HRA2 HRB
          generalize wB.drewN nC = wC at *
          go_wp2_with fail
          refine (HFC.out.codeBytes hw4).mono ?_
          rintro e wD ⟨A7, c7, rfl, R7, FD, -⟩
          have HFD := Lib.hid FD
          have HR7 := Lib.hid R7
          clear FD R7 HFC
          go_wp2_with fail
          refine (HFD.out.refBytes hN65 hw4).mono ?_
          rintro e wE ⟨A9, c9, rfl, R9, FE, xE⟩
          have HFE := Lib.hid FE
          have HR9 := Lib.hid R9
          have HR7' := Lib.hid (HR7.out.ext xE)
          clear FE R9 xE HFD HR7
          go_wp2_with fail
          refine (Bytes_same (rdD s) _ _ wE HR7'.out HR9.out).mono ?_
          rintro e wF ⟨rfl, nF, rfl⟩
          have HPF := Lib.hid (HFE.out.pr.ext (Below.drewN' (Ext.refl wE) nF))
          clear HFE HR7' HR9
          go_wp2
          go_roundg (l.length - (k + 1))
          case measure => omega
          case rel => exact ⟨k + 1, by go_num, by omega, rfl, s, HPF.out, HOK.out⟩
    · obtain rfl : k = l.length := by omega
      have hx := hx1.trans hpr.ext0
      clear hpr hok
      go_wp2
      go_ret
      exact ⟨rfl, hx⟩

end Go.Proofs.Ytidkdnidafdmpaa
