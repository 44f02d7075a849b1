/- Texts that the proof of I rests on, one behind the other. -/
import Derived.Test.YtddhbokknbmdfaaDoorIQ7
import Derived.Deep.Cut

/- Package book: Apply. -/
namespace Go.Proofs.YtddhbokknbmdfaaDoor
open Go.RowKit

set_option maxRecDepth 100000 in
set_option maxHeartbeats 4000000 in
theorem Apply_raw (c : Cf) (vn vj : Value) (s : St) (z a1 a2 a3 a4 a5 a6 : Int) (res : Res9) (w : World) (h : RdSt w vn vj s)
    (HDO : ∀ F W g vn vj, RightP c s → Ext w W → Pg F W g c vn vj s → Calls Tryd.prog 24 #[.pointer (some ⟨g, 0, none⟩), .agg #[.int .i64 z, .int .i64 a1, .int .i64 a2, .int .i64 a3, .int .i64 a4, .int .i64 a5, .int .i64 a6]] W fun e w' => e = .returned (.int .i64 res.2) ∧ (∃ vn vj, Pg (F.since W w') w' g c vn vj res.1) ∧ Chg F W w') :
    Calls Tryd.prog 9 #[cfV c, stV vn vj s, .agg #[.int .i64 z, .int .i64 a1, .int .i64 a2, .int .i64 a3, .int .i64 a4, .int .i64 a5, .int .i64 a6]] w fun e w' => ∃ vn' vj' s' er, e = .returned (.tuple #[stV vn' vj' s', .int .i64 er]) ∧ RdSt w' vn' vj' s' ∧ Ext w w' ∧ (RightP c s → (s', er) = res) ∧ (¬ RightP c s → (s', er) = (zeroS, 1)) ∧ ∀ k, vn'.ownBlock = some k ∨ vj'.ownBlock = some k → w.heap.size ≤ k := by
  have HRT := Lib.hid fun W hx => RightS_any c vn vj s W (RdSt.ext h hx).nodes (RdSt.ext h hx).jobs
  have HCP := Lib.hid fun W (hx : Ext w W) => Copy_any vn vj s W (h.ext hx)
  obtain ⟨W4, hW4, hx4, hb0, hb1, hb2, hb3, hs4⟩ := four_blocks w 23 30 36 30 #[.int .i64 c.nodes, .int .i64 c.queues, .int .i64 c.quota, .int .i64 c.wave, .int .i64 c.lease, .int .i64 c.retry, .int .i64 c.deadline, .int .i64 c.room, .int .i64 c.disk] #[vn, vj, .int .i64 s.goal, .int .i64 s.prior, .int .i64 s.mode, .int .i64 s.term] #[.int .i64 z, .int .i64 a1, .int .i64 a2, .int .i64 a3, .int .i64 a4, .int .i64 a5, .int .i64 a6] #[.slice none 0 0, .slice none 0 0, .int .i64 0, .int .i64 0, .int .i64 0, .int .i64 0]
  have HX4 := Lib.hid hx4
  have HB0 := Lib.hid hb0
  have HB1 := Lib.hid hb1
  have HB2 := Lib.hid hb2
  have HB3 := Lib.hid hb3
  have HS4 := Lib.hid hs4
  have HDD := Lib.hid HDO
  have HH := Lib.hid h
  unfold stV cfV at HRT
  unfold stV at HCP
  unfold cfV stV
  clear hx4 hb0 hb1 hb2 hb3 h HDO hs4
  go_enter Tryd.func9, Tryd.ntmps9
  go_wp2_with fail
  rw [← hW4]
  clear hW4
  refine (HRT.out _ HX4.out).mono ?_
  rintro e1 w1 ⟨rt, rfl, hrt, hx1⟩
  have HX1 := Lib.hid hx1
  have HXW := Lib.hid (HX4.out.trans hx1)
  have HC0 := Lib.hid (HB0.out.ext hx1)
  have HC1 := Lib.hid (HB1.out.ext hx1)
  have HC2 := Lib.hid (HB2.out.ext hx1)
  have HC3 := Lib.hid (HB3.out.ext hx1)
  have HRR := Lib.hid hrt
  clear hx1 hrt
  have k0 : w1.cell? ⟨w.heap.size, 0, none⟩ = some (.int .i64 c.nodes) := HC0.out.cell 0
  have k1 : w1.cell? ⟨w.heap.size, 1, none⟩ = some (.int .i64 c.queues) := HC0.out.cell 1
  have k2 : w1.cell? ⟨w.heap.size, 2, none⟩ = some (.int .i64 c.quota) := HC0.out.cell 2
  have k3 : w1.cell? ⟨w.heap.size, 3, none⟩ = some (.int .i64 c.wave) := HC0.out.cell 3
  have k4 : w1.cell? ⟨w.heap.size, 4, none⟩ = some (.int .i64 c.lease) := HC0.out.cell 4
  have k5 : w1.cell? ⟨w.heap.size, 5, none⟩ = some (.int .i64 c.retry) := HC0.out.cell 5
  have k6 : w1.cell? ⟨w.heap.size, 6, none⟩ = some (.int .i64 c.deadline) := HC0.out.cell 6
  have k7 : w1.cell? ⟨w.heap.size, 7, none⟩ = some (.int .i64 c.room) := HC0.out.cell 7
  have k8 : w1.cell? ⟨w.heap.size, 8, none⟩ = some (.int .i64 c.disk) := HC0.out.cell 8
  have m0 : w1.cell? ⟨w.heap.size + 1, 0, none⟩ = some (vn) := HC1.out.cell 0
  have m1 : w1.cell? ⟨w.heap.size + 1, 1, none⟩ = some (vj) := HC1.out.cell 1
  have m2 : w1.cell? ⟨w.heap.size + 1, 2, none⟩ = some (.int .i64 s.goal) := HC1.out.cell 2
  have m3 : w1.cell? ⟨w.heap.size + 1, 3, none⟩ = some (.int .i64 s.prior) := HC1.out.cell 3
  have m4 : w1.cell? ⟨w.heap.size + 1, 4, none⟩ = some (.int .i64 s.mode) := HC1.out.cell 4
  have m5 : w1.cell? ⟨w.heap.size + 1, 5, none⟩ = some (.int .i64 s.term) := HC1.out.cell 5
  have r0 : w1.cell? ⟨w.heap.size + 3, 0, none⟩ = some (.slice none 0 0) := HC3.out.cell 0
  have g0 : w1.frozen? ⟨w.heap.size + 3, 0, none⟩ = false := HC3.out.frozen 0
  have r1 : w1.cell? ⟨w.heap.size + 3, 1, none⟩ = some (.slice none 0 0) := HC3.out.cell 1
  have g1 : w1.frozen? ⟨w.heap.size + 3, 1, none⟩ = false := HC3.out.frozen 1
  have r2 : w1.cell? ⟨w.heap.size + 3, 2, none⟩ = some (.int .i64 0) := HC3.out.cell 2
  have g2 : w1.frozen? ⟨w.heap.size + 3, 2, none⟩ = false := HC3.out.frozen 2
  have r3 : w1.cell? ⟨w.heap.size + 3, 3, none⟩ = some (.int .i64 0) := HC3.out.cell 3
  have g3 : w1.frozen? ⟨w.heap.size + 3, 3, none⟩ = false := HC3.out.frozen 3
  have r4 : w1.cell? ⟨w.heap.size + 3, 4, none⟩ = some (.int .i64 0) := HC3.out.cell 4
  have g4 : w1.frozen? ⟨w.heap.size + 3, 4, none⟩ = false := HC3.out.frozen 4
  have r5 : w1.cell? ⟨w.heap.size + 3, 5, none⟩ = some (.int .i64 0) := HC3.out.cell 5
  have g5 : w1.frozen? ⟨w.heap.size + 3, 5, none⟩ = false := HC3.out.frozen 5
  cases rt
  · have HNO : Hid (¬ RightP c s) := Lib.hid fun h => by
      have := HRR.out.2 h
      cases this
    go_wp2
    have e3 : w.heap.size + 1 + 1 + 1 = w.heap.size + 3 := rfl
    have hb := (((((HC3.out.set_ 0 (.slice none 0 0)).set_ 1 (.slice none 0 0)).set_ 2 (.int .i64 0)).set_ 3 (.int .i64 0)).set_ 4 (.int .i64 0)).set_ 5 (.int .i64 0)
    have hx := Below.setCell (p := ⟨w.heap.size + 3, 5, none⟩) (Below.setCell (p := ⟨w.heap.size + 3, 4, none⟩) (Below.setCell (p := ⟨w.heap.size + 3, 3, none⟩) (Below.setCell (p := ⟨w.heap.size + 3, 2, none⟩) (Below.setCell (p := ⟨w.heap.size + 3, 1, none⟩) (Below.setCell (p := ⟨w.heap.size + 3, 0, none⟩) HXW.out (Nat.le_add_right _ _) (.slice none 0 0)) (Nat.le_add_right _ _) (.slice none 0 0)) (Nat.le_add_right _ _) (.int .i64 0)) (Nat.le_add_right _ _) (.int .i64 0)) (Nat.le_add_right _ _) (.int .i64 0)) (Nat.le_add_right _ _) (.int .i64 0)
    refine bodyPost_ret (results_cell_tmp_row rfl _ _ (w.heap.size + 3) 30 _ (0, 0) _ rfl hb rfl rfl (by kernel_rfl)) rfl ⟨.slice none 0 0, .slice none 0 0, zeroS, 1, rfl, ⟨?_, ?_⟩, hx, fun h => absurd h HNO.out, fun _ => rfl, fun k hk => by rcases hk with hk | hk <;> cases hk⟩
    · exact RdS.own (World.ownsRow_nil _ 0 45 5)
    · exact RdS.own (World.ownsRow_nil _ 0 52 12)
  · have HYES := Lib.hid (HRR.out.1 rfl)
    have l0 : w.heap.size < w1.heap.size := HC0.out.lt
    have l1 : w.heap.size + 1 < w1.heap.size := HC1.out.lt
    have l2 : w.heap.size + 2 < w1.heap.size := HC2.out.lt
    have l3 : w.heap.size + 3 < w1.heap.size := HC3.out.lt
    go_wp2_with fail
    go_cut [8] from 9 (fun p wx => ∃ (G : Nat) (vn2 vj2 : Value), p = .pointer (some ⟨G, 0, none⟩) ∧ Hid (Ext w1 wx ∧ Pg (fun k => w1.heap.size ≤ k ∧ k < wx.heap.size) wx G c vn2 vj2 s))
    case first =>
      go_region_with ((go_at_call 16); (refine (HCP.out _ (by first | exact HXW.out | exact ext_drew9 HXW.out | exact Below.alloc HXW.out (by have := HXW.out.size; omega) _ | exact Below.alloc (ext_drew9 HXW.out) (by have := HXW.out.size; simp; omega) _ | exact ext_drew9 (Below.alloc HXW.out (by have := HXW.out.size; omega) _)) (by have := HYES.out.len; omega) (by have := HYES.out.nj; omega)).mono ?_); (rintro e2 w2 ⟨vn2, vj2, rfl, ho2, hx2⟩); (obtain ⟨A5, c5, rfl⟩ := own_slice ho2.nodes); (obtain ⟨A6, c6, rfl⟩ := own_slice ho2.jobs); (have hl9 := hx2.size); (have hx12 : Ext w1 w2 := by first | exact hx2 | exact Ext.of_drew hx2 | exact Ext.trans (Below.alloc (Ext.refl _) (Nat.le_refl _) _) hx2 | exact Ext.trans (Below.alloc (ext_drew9 (Ext.refl _)) (Nat.le_refl _) _) hx2 | exact Ext.trans (ext_drew9 (Below.alloc (Ext.refl _) (Nat.le_refl _) _)) hx2); (have kk0 : w2.cell? ⟨w.heap.size, 0, none⟩ = some (.int .i64 c.nodes) := (HC0.out.ext hx12).cell 0); (have kk1 : w2.cell? ⟨w.heap.size, 1, none⟩ = some (.int .i64 c.queues) := (HC0.out.ext hx12).cell 1); (have kk2 : w2.cell? ⟨w.heap.size, 2, none⟩ = some (.int .i64 c.quota) := (HC0.out.ext hx12).cell 2); (have kk3 : w2.cell? ⟨w.heap.size, 3, none⟩ = some (.int .i64 c.wave) := (HC0.out.ext hx12).cell 3); (have kk4 : w2.cell? ⟨w.heap.size, 4, none⟩ = some (.int .i64 c.lease) := (HC0.out.ext hx12).cell 4); (have kk5 : w2.cell? ⟨w.heap.size, 5, none⟩ = some (.int .i64 c.retry) := (HC0.out.ext hx12).cell 5); (have kk6 : w2.cell? ⟨w.heap.size, 6, none⟩ = some (.int .i64 c.deadline) := (HC0.out.ext hx12).cell 6); (have kk7 : w2.cell? ⟨w.heap.size, 7, none⟩ = some (.int .i64 c.room) := (HC0.out.ext hx12).cell 7); (have kk8 : w2.cell? ⟨w.heap.size, 8, none⟩ = some (.int .i64 c.disk) := (HC0.out.ext hx12).cell 8); (have hl10 : w.heap.size < w2.heap.size := Nat.lt_of_lt_of_le l0 hx12.size); (try (have pb : Blk w2 w1.heap.size 55 #[.int .i64 0, .int .i64 0, .int .i64 0, .int .i64 0, .int .i64 0, .int .i64 0, .int .i64 0, .int .i64 0, .int .i64 0, .slice none 0 0, .slice none 0 0, .int .i64 0, .int .i64 0, .int .i64 0, .int .i64 0] := Blk.ext (by first | exact Blk.new w1 _ _ | exact Blk.new w1.drew _ _) hx2; have pz0 : w2.cell? ⟨w1.heap.size, 0, none⟩ = some (.int .i64 0) := pb.cell 0; have pf0 : w2.frozen? ⟨w1.heap.size, 0, none⟩ = false := pb.frozen 0; have pz1 : w2.cell? ⟨w1.heap.size, 1, none⟩ = some (.int .i64 0) := pb.cell 1; have pf1 : w2.frozen? ⟨w1.heap.size, 1, none⟩ = false := pb.frozen 1; have pz2 : w2.cell? ⟨w1.heap.size, 2, none⟩ = some (.int .i64 0) := pb.cell 2; have pf2 : w2.frozen? ⟨w1.heap.size, 2, none⟩ = false := pb.frozen 2; have pz3 : w2.cell? ⟨w1.heap.size, 3, none⟩ = some (.int .i64 0) := pb.cell 3; have pf3 : w2.frozen? ⟨w1.heap.size, 3, none⟩ = false := pb.frozen 3; have pz4 : w2.cell? ⟨w1.heap.size, 4, none⟩ = some (.int .i64 0) := pb.cell 4; have pf4 : w2.frozen? ⟨w1.heap.size, 4, none⟩ = false := pb.frozen 4; have pz5 : w2.cell? ⟨w1.heap.size, 5, none⟩ = some (.int .i64 0) := pb.cell 5; have pf5 : w2.frozen? ⟨w1.heap.size, 5, none⟩ = false := pb.frozen 5; have pz6 : w2.cell? ⟨w1.heap.size, 6, none⟩ = some (.int .i64 0) := pb.cell 6; have pf6 : w2.frozen? ⟨w1.heap.size, 6, none⟩ = false := pb.frozen 6; have pz7 : w2.cell? ⟨w1.heap.size, 7, none⟩ = some (.int .i64 0) := pb.cell 7; have pf7 : w2.frozen? ⟨w1.heap.size, 7, none⟩ = false := pb.frozen 7; have pz8 : w2.cell? ⟨w1.heap.size, 8, none⟩ = some (.int .i64 0) := pb.cell 8; have pf8 : w2.frozen? ⟨w1.heap.size, 8, none⟩ = false := pb.frozen 8; have pz9 : w2.cell? ⟨w1.heap.size, 9, none⟩ = some (.slice none 0 0) := pb.cell 9; have pf9 : w2.frozen? ⟨w1.heap.size, 9, none⟩ = false := pb.frozen 9; have pz10 : w2.cell? ⟨w1.heap.size, 10, none⟩ = some (.slice none 0 0) := pb.cell 10; have pf10 : w2.frozen? ⟨w1.heap.size, 10, none⟩ = false := pb.frozen 10; have pz11 : w2.cell? ⟨w1.heap.size, 11, none⟩ = some (.int .i64 0) := pb.cell 11; have pf11 : w2.frozen? ⟨w1.heap.size, 11, none⟩ = false := pb.frozen 11; have pz12 : w2.cell? ⟨w1.heap.size, 12, none⟩ = some (.int .i64 0) := pb.cell 12; have pf12 : w2.frozen? ⟨w1.heap.size, 12, none⟩ = false := pb.frozen 12; have pz13 : w2.cell? ⟨w1.heap.size, 13, none⟩ = some (.int .i64 0) := pb.cell 13; have pf13 : w2.frozen? ⟨w1.heap.size, 13, none⟩ = false := pb.frozen 13; have pz14 : w2.cell? ⟨w1.heap.size, 14, none⟩ = some (.int .i64 0) := pb.cell 14; have pf14 : w2.frozen? ⟨w1.heap.size, 14, none⟩ = false := pb.frozen 14)))
      all_goals
        have HOO := Lib.hid ho2
        have HXX := Lib.hid hx12
        first
          | (have HPB := Lib.hid pb
             go_wp2_with fail
             go_meet
             have hq := page_set c (.slice A5 s.nodes.length c5) (.slice A6 s.jobs.length c6) s HPB.out
             have hbs : ∀ k, w1.heap.size + 1 ≤ k → k ≠ w1.heap.size := fun k h e => by omega
             refine ⟨w1.heap.size, .slice A5 s.nodes.length c5, .slice A6 s.jobs.length c6, rfl, Lib.hid ⟨hq.below _ _ HXX.out (Nat.le_refl _), Pg.make (w0 := w1) hq.blk (Nat.le_refl _) ⟨own_at HOO.out.nodes fun k hk => hq.same k (hbs k ?_), own_at HOO.out.jobs fun k hk => hq.same k (hbs k ?_), HOO.out.off⟩ ?_ (fun k hk => hbs k ?_)⟩⟩
             · have := (HOO.out.nodes.lt k hk).1
               simpa using this
             · have := (HOO.out.jobs.lt k hk).1
               simpa using this
             · simp
             · rcases hk with hk | hk
               · have := (HOO.out.nodes.lt k hk).1
                 simpa using this
               · have := (HOO.out.jobs.lt k hk).1
                 simpa using this)
          | (have hs9 : w1.heap.size ≤ w2.heap.size := hx12.size
             go_wp2_with fail
             go_meet
             refine ⟨w2.heap.size, _, _, rfl, Lib.hid ⟨Below.alloc HXX.out hs9 _, Pg.make (w0 := w1) (base := w1.heap.size) (Blk.new _ _ _) hs9 ⟨HOO.out.nodes.alloc _, HOO.out.jobs.alloc _, HOO.out.off⟩ (Nat.le_refl _) (fun k hk => ?_)⟩⟩
             rcases hk with hk | hk
             · have := (HOO.out.nodes.lt k hk).2
               omega
             · have := (HOO.out.jobs.lt k hk).2
               omega)
    case rest =>
      obtain ⟨G, vn2, vj2, rfl, HPP⟩ := hcut
      have HP9 := Lib.hid HPP.out.2
      have HX9 := Lib.hid HPP.out.1
      have HXC := Lib.hid (HXW.out.trans HPP.out.1)
      have oo0 : wc.cell? ⟨w.heap.size + 2, 0, none⟩ = some (.int .i64 z) := (HC2.out.ext HX9.out).cell 0
      have oo1 : wc.cell? ⟨w.heap.size + 2, 1, none⟩ = some (.int .i64 a1) := (HC2.out.ext HX9.out).cell 1
      have oo2 : wc.cell? ⟨w.heap.size + 2, 2, none⟩ = some (.int .i64 a2) := (HC2.out.ext HX9.out).cell 2
      have oo3 : wc.cell? ⟨w.heap.size + 2, 3, none⟩ = some (.int .i64 a3) := (HC2.out.ext HX9.out).cell 3
      have oo4 : wc.cell? ⟨w.heap.size + 2, 4, none⟩ = some (.int .i64 a4) := (HC2.out.ext HX9.out).cell 4
      have oo5 : wc.cell? ⟨w.heap.size + 2, 5, none⟩ = some (.int .i64 a5) := (HC2.out.ext HX9.out).cell 5
      have oo6 : wc.cell? ⟨w.heap.size + 2, 6, none⟩ = some (.int .i64 a6) := (HC2.out.ext HX9.out).cell 6
      clear HPP
      go_wp2_with fail
      refine (HDD.out _ wc G vn2 vj2 HYES.out HXC.out HP9.out).mono ?_
      rintro e6 w6 ⟨rfl, ⟨vn6, vj6, hp6⟩, hc6⟩
      have HC9 := Lib.hid hc6
      have hl3 : w.heap.size + 3 < wc.heap.size := Nat.lt_of_lt_of_le l3 HX9.out.size
      have hnf : ¬ (w1.heap.size ≤ w.heap.size + 3 ∧ w.heap.size + 3 < wc.heap.size) := fun h => by omega
      have hb6 : Blk w6 (w.heap.size + 3) 30 #[.slice none 0 0, .slice none 0 0, .int .i64 0, .int .i64 0, .int .i64 0, .int .i64 0] := (hc6.block _ hl3 hnf).trans (HC3.out.ext HX9.out)
      have HB6 := Lib.hid hb6
      obtain ⟨A7, c7, rfl, hn7, hm7⟩ := hp6.slN
      obtain ⟨A8, c8, rfl, hn8, hm8⟩ := hp6.slJ
      have HP6 := Lib.hid hp6
      have s9 := hp6.c9
      have s10 := hp6.c10
      have s11 := hp6.c11
      have s12 := hp6.c12
      have s13 := hp6.c13
      have s14 := hp6.c14
      have rr0 : w6.cell? ⟨w.heap.size + 3, 0, none⟩ = some (.slice none 0 0) := HB6.out.cell 0
      have gg0 : w6.frozen? ⟨w.heap.size + 3, 0, none⟩ = false := HB6.out.frozen 0
      have rr1 : w6.cell? ⟨w.heap.size + 3, 1, none⟩ = some (.slice none 0 0) := HB6.out.cell 1
      have gg1 : w6.frozen? ⟨w.heap.size + 3, 1, none⟩ = false := HB6.out.frozen 1
      have rr2 : w6.cell? ⟨w.heap.size + 3, 2, none⟩ = some (.int .i64 0) := HB6.out.cell 2
      have gg2 : w6.frozen? ⟨w.heap.size + 3, 2, none⟩ = false := HB6.out.frozen 2
      have rr3 : w6.cell? ⟨w.heap.size + 3, 3, none⟩ = some (.int .i64 0) := HB6.out.cell 3
      have gg3 : w6.frozen? ⟨w.heap.size + 3, 3, none⟩ = false := HB6.out.frozen 3
      have rr4 : w6.cell? ⟨w.heap.size + 3, 4, none⟩ = some (.int .i64 0) := HB6.out.cell 4
      have gg4 : w6.frozen? ⟨w.heap.size + 3, 4, none⟩ = false := HB6.out.frozen 4
      have rr5 : w6.cell? ⟨w.heap.size + 3, 5, none⟩ = some (.int .i64 0) := HB6.out.cell 5
      have gg5 : w6.frozen? ⟨w.heap.size + 3, 5, none⟩ = false := HB6.out.frozen 5
      clear hp6 hc6 hb6
      go_wp2
      have hq := (((((PB.start HB6.out).set 0 (.slice A7 res.1.nodes.length c7)).set 1 (.slice A8 res.1.jobs.length c8)).set 2 (.int .i64 res.1.goal)).set 3 (.int .i64 res.1.prior)).set 4 (.int .i64 res.1.mode)
      replace hq := hq.set 5 (.int .i64 res.1.term)
      simp only [List.setIfInBounds_toArray, List.set_cons_zero, List.set_cons_succ] at hq
      have hx6 : Ext w w6 := HC9.out.ext HXC.out (fun k hk => by have := HXW.out.size; omega)
      have hin : ∀ k, (Fp.since (fun k => w1.heap.size ≤ k ∧ k < wc.heap.size) wc w6) k → k ≠ w.heap.size + 3 := fun k hk e => by
        rcases hk with hk | hk
        · omega
        · omega
      have hokn := (ObjF.ok HP6.out ⟨45, 5, .slice A7 res.1.nodes.length c7, res.1.nodes.length, nodesC res.1.nodes⟩ (by simp)).2
      have hokj := (ObjF.ok HP6.out ⟨52, 12, .slice A8 res.1.jobs.length c8, res.1.jobs.length, jobsC res.1.jobs⟩ (by simp)).2
      refine bodyPost_ret (results_cell_tmp_row rfl _ _ (w.heap.size + 3) 30 _ (0, 0) _ rfl hq.blk rfl rfl (by kernel_rfl)) rfl ⟨_, _, res.1, res.2, rfl, ⟨RdS.own (own_at HP6.out.rowN fun k hk => hq.same k (hin k (hokn k hk))), RdS.own (own_at HP6.out.rowJ fun k hk => hq.same k (hin k (hokj k hk)))⟩, hq.below _ _ hx6 (Nat.le_add_right _ _), fun _ => rfl, fun h => absurd HYES.out h, fun k hk => ?_⟩
      have hw1 := HXW.out.size
      have hwc := HXC.out.size
      rcases hk with hk | hk
      · rcases hokn k hk with h' | h'
        · omega
        · omega
      · rcases hokj k hk with h' | h'
        · omega
        · omega

end Go.Proofs.YtddhbokknbmdfaaDoor

/- Package book: the ops of a job. -/
namespace Go.Proofs.YtddhbokknbmdfaaDoor
open Go.RowKit

theorem set_get_j {l : List Jb} {i : Nat} {n m : Jb} (h : l[i]? = some n) : (l.set i m)[i]? = some m := by rw [List.getElem?_set_self (List.getElem?_eq_some_iff.1 h).1]

set_option maxRecDepth 100000 in
set_option maxHeartbeats 4000000 in
theorem cancel_any (F : Fp) (w : World) (g : Nat) (c : Cf) (vn vj : Value) (s : St) (z v a3 a4 a5 a6 : Int) (k : Nat) (j : Jb) (h : Pg F w g c vn vj s) (hj : s.jobs[k]? = some j) (hn : s.nodes.length ≤ 6) :
    Calls Tryd.prog 65 #[.pointer (some ⟨g, 0, none⟩), .agg #[.int .i64 z, .int .i64 ((k : Int) + 1), .int .i64 v, .int .i64 a3, .int .i64 a4, .int .i64 a5, .int .i64 a6]] w fun e w' => e = .returned (.int .i64 (cancelS s k j).2) ∧ (∃ vn vj, Pg (F.since w w') w' g c vn vj (cancelS s k j).1) ∧ Chg F w w' := by
  obtain ⟨hx0, hbk0⟩ := boxOp w #[.int .i64 z, .int .i64 ((k : Int) + 1), .int .i64 v, .int .i64 a3, .int .i64 a4, .int .i64 a5, .int .i64 a6]
  obtain ⟨W1, hW1⟩ : ∃ W1, W1 = (w.alloc (.cells #[.int .i64 z, .int .i64 ((k : Int) + 1), .int .i64 v, .int .i64 a3, .int .i64 a4, .int .i64 a5, .int .i64 a6] 36)).alloc (.cells #[.int .i64 4] 3) := ⟨_, rfl⟩
  have hx1 : Ext (w.alloc (.cells #[.int .i64 z, .int .i64 ((k : Int) + 1), .int .i64 v, .int .i64 a3, .int .i64 a4, .int .i64 a5, .int .i64 a6] 36)) W1 := by rw [hW1]; exact (Below.refl _ _).alloc (Nat.le_refl _) _
  have hx := hx0.trans hx1
  have hbk := hbk0.ext hx1
  have hrs : Rd W1 (.slice (some ⟨w.heap.size + 1, 0, none⟩) 1 1) (([4] : List Int).map I) := by
    rw [hW1]
    exact Rd.litI _ [4] _ _ 1 _ (by decide) rfl rfl (by simp)
  have hp := h.ext hx
  obtain ⟨b, cap, rfl, hnc, hcm, hb, hbg, hat, hfr⟩ := hp.jobAt hj
  have HIS := Lib.hid (is_any F W1 g c vn (.slice (some ⟨b, 0, none⟩) s.jobs.length cap) s k j [4] _ hp hj hrs (by decide))
  have HJ := Lib.hid (job_any F W1 g c vn s k b cap j hp hj hcm hnc)
  have HX := Lib.hid hx
  have HP := Lib.hid hp
  have HI := Lib.hid hj
  have HB := Lib.hid hbk
  have HF0 := Lib.hid hfr
  have hlw : w.heap.size ≠ b := fun e => by
    obtain ⟨b0, cap0, e0, _, _, hb0, _⟩ := h.jobAt hj
    injection e0 with e1
    injection e1 with e1
    injection e1 with e1
    omega
  have hlg : w.heap.size ≠ g := fun e => by have := h.lt; omega
  have q1 : W1.cell? ⟨w.heap.size, 1, none⟩ = some (.int .i64 ((k : Int) + 1)) := hbk.cell 1
  have q2 : W1.cell? ⟨w.heap.size, 2, none⟩ = some (.int .i64 v) := hbk.cell 2
  have hk0 := (List.getElem?_eq_some_iff.1 hj).1
  clear hx0 hbk0 hx1 hx hbk hp hj hfr hrs h
  by_cases ht : j.phase = 4
  · have hr : cancelS s k j = (s, 5) := by rw [cancelS, if_pos ht]
    have HR := Lib.hid hr
    have hd : decide (j.phase ∈ ([4] : List Int)) = true := by simp; omega
    rw [hd] at HIS
    clear hr ht hd
    go_enter Tryd.func65, Tryd.ntmps65
    go_wp2_with fail
    rw [← hW1]
    clear hW1
    refine HIS.out.mono ?_
    rintro e1 w1 ⟨rfl, rfl⟩
    go_wp2
    go_ret
    exact MDone.of HR.out rfl HP.out (Chg.of_ext HX.out)
  · have hr : cancelS s k j = (letGoS s k j 4, 0) := by rw [cancelS, if_neg ht]
    have HR := Lib.hid hr
    have hd : decide (j.phase ∈ ([4] : List Int)) = false := by simp; omega
    have HL := Lib.hid (letGo_any F W1 g c vn (.slice (some ⟨b, 0, none⟩) s.jobs.length cap) s k j 4 HP.out HI.out hn)
    rw [hd] at HIS
    clear hr ht hd
    go_enter Tryd.func65, Tryd.ntmps65
    go_wp2_with fail
    rw [← hW1]
    clear hW1
    refine HIS.out.mono ?_
    rintro e1 w1 ⟨rfl, rfl⟩
    go_wp2_with fail
    refine HL.out.mono ?_
    rintro e2 w2 ⟨rfl, hp2, hc2⟩
    have HS := Lib.hid (And.intro hp2 hc2)
    clear hp2 hc2
    go_wp2
    go_ret
    exact MDone.of HR.out rfl HS.out.1 (chg2 HX.out HS.out.2)

set_option maxRecDepth 100000 in
set_option maxHeartbeats 4000000 in
theorem unhold_any (F : Fp) (w : World) (g : Nat) (c : Cf) (vn vj : Value) (s : St) (z v a3 a4 a5 a6 : Int) (k : Nat) (j : Jb) (h : Pg F w g c vn vj s) (hj : s.jobs[k]? = some j) (hn : s.nodes.length ≤ 6) :
    Calls Tryd.prog 74 #[.pointer (some ⟨g, 0, none⟩), .agg #[.int .i64 z, .int .i64 ((k : Int) + 1), .int .i64 v, .int .i64 a3, .int .i64 a4, .int .i64 a5, .int .i64 a6]] w fun e w' => e = .returned (.int .i64 (unholdS s k j).2) ∧ (∃ vn vj, Pg (F.since w w') w' g c vn vj (unholdS s k j).1) ∧ Chg F w w' := by
  obtain ⟨hx0, hbk0⟩ := boxOp w #[.int .i64 z, .int .i64 ((k : Int) + 1), .int .i64 v, .int .i64 a3, .int .i64 a4, .int .i64 a5, .int .i64 a6]
  obtain ⟨W1, hW1⟩ : ∃ W1, W1 = (w.alloc (.cells #[.int .i64 z, .int .i64 ((k : Int) + 1), .int .i64 v, .int .i64 a3, .int .i64 a4, .int .i64 a5, .int .i64 a6] 36)).alloc (.cells #[.int .i64 1] 3) := ⟨_, rfl⟩
  have hx1 : Ext (w.alloc (.cells #[.int .i64 z, .int .i64 ((k : Int) + 1), .int .i64 v, .int .i64 a3, .int .i64 a4, .int .i64 a5, .int .i64 a6] 36)) W1 := by rw [hW1]; exact (Below.refl _ _).alloc (Nat.le_refl _) _
  have hx := hx0.trans hx1
  have hbk := hbk0.ext hx1
  have hrs : Rd W1 (.slice (some ⟨w.heap.size + 1, 0, none⟩) 1 1) (([1] : List Int).map I) := by
    rw [hW1]
    exact Rd.litI _ [1] _ _ 1 _ (by decide) rfl rfl (by simp)
  have hp := h.ext hx
  obtain ⟨b, cap, rfl, hnc, hcm, hb, hbg, hat, hfr⟩ := hp.jobAt hj
  have HIS := Lib.hid (is_any F W1 g c vn (.slice (some ⟨b, 0, none⟩) s.jobs.length cap) s k j [1] _ hp hj hrs (by decide))
  have HJ := Lib.hid (job_any F W1 g c vn s k b cap j hp hj hcm hnc)
  have HX := Lib.hid hx
  have HP := Lib.hid hp
  have HI := Lib.hid hj
  have HB := Lib.hid hbk
  have HF0 := Lib.hid hfr
  have hlw : w.heap.size ≠ b := fun e => by
    obtain ⟨b0, cap0, e0, _, _, hb0, _⟩ := h.jobAt hj
    injection e0 with e1
    injection e1 with e1
    injection e1 with e1
    omega
  have hlg : w.heap.size ≠ g := fun e => by have := h.lt; omega
  have q1 : W1.cell? ⟨w.heap.size, 1, none⟩ = some (.int .i64 ((k : Int) + 1)) := hbk.cell 1
  have q2 : W1.cell? ⟨w.heap.size, 2, none⟩ = some (.int .i64 v) := hbk.cell 2
  have hk0 := (List.getElem?_eq_some_iff.1 hj).1
  clear hx0 hbk0 hx1 hx hbk hp hj hfr hrs h
  by_cases ht : j.phase = 1
  · have hr : unholdS s k j = (letGoS s k j 0, 0) := by rw [unholdS, if_pos ht]
    have HR := Lib.hid hr
    have hd : decide (j.phase ∈ ([1] : List Int)) = true := by simp; omega
    have HL := Lib.hid (letGo_any F W1 g c vn (.slice (some ⟨b, 0, none⟩) s.jobs.length cap) s k j 0 HP.out HI.out hn)
    rw [hd] at HIS
    clear hr ht hd
    go_enter Tryd.func74, Tryd.ntmps74
    go_wp2_with fail
    rw [← hW1]
    clear hW1
    refine HIS.out.mono ?_
    rintro e1 w1 ⟨rfl, rfl⟩
    go_wp2_with fail
    refine HL.out.mono ?_
    rintro e2 w2 ⟨rfl, hp2, hc2⟩
    have HS := Lib.hid (And.intro hp2 hc2)
    clear hp2 hc2
    go_wp2
    go_ret
    exact MDone.of HR.out rfl HS.out.1 (chg2 HX.out HS.out.2)
  · have hr : unholdS s k j = (s, 5) := by rw [unholdS, if_neg ht]
    have HR := Lib.hid hr
    have hd : decide (j.phase ∈ ([1] : List Int)) = false := by simp; omega
    rw [hd] at HIS
    clear hr ht hd
    go_enter Tryd.func74, Tryd.ntmps74
    go_wp2_with fail
    rw [← hW1]
    clear hW1
    refine HIS.out.mono ?_
    rintro e1 w1 ⟨rfl, rfl⟩
    go_wp2
    go_ret
    exact MDone.of HR.out rfl HP.out (Chg.of_ext HX.out)

set_option maxRecDepth 100000 in
set_option maxHeartbeats 4000000 in
theorem evict_any (F : Fp) (w : World) (g : Nat) (c : Cf) (vn vj : Value) (s : St) (z v a3 a4 a5 a6 : Int) (k : Nat) (j : Jb) (h : Pg F w g c vn vj s) (hj : s.jobs[k]? = some j) (hn : s.nodes.length ≤ 6) :
    Calls Tryd.prog 77 #[.pointer (some ⟨g, 0, none⟩), .agg #[.int .i64 z, .int .i64 ((k : Int) + 1), .int .i64 v, .int .i64 a3, .int .i64 a4, .int .i64 a5, .int .i64 a6]] w fun e w' => e = .returned (.int .i64 (evictS s k j).2) ∧ (∃ vn vj, Pg (F.since w w') w' g c vn vj (evictS s k j).1) ∧ Chg F w w' := by
  obtain ⟨hx0, hbk0⟩ := boxOp w #[.int .i64 z, .int .i64 ((k : Int) + 1), .int .i64 v, .int .i64 a3, .int .i64 a4, .int .i64 a5, .int .i64 a6]
  obtain ⟨W1, hW1⟩ : ∃ W1, W1 = (w.alloc (.cells #[.int .i64 z, .int .i64 ((k : Int) + 1), .int .i64 v, .int .i64 a3, .int .i64 a4, .int .i64 a5, .int .i64 a6] 36)).alloc (.cells #[.int .i64 3] 3) := ⟨_, rfl⟩
  have hx1 : Ext (w.alloc (.cells #[.int .i64 z, .int .i64 ((k : Int) + 1), .int .i64 v, .int .i64 a3, .int .i64 a4, .int .i64 a5, .int .i64 a6] 36)) W1 := by rw [hW1]; exact (Below.refl _ _).alloc (Nat.le_refl _) _
  have hx := hx0.trans hx1
  have hbk := hbk0.ext hx1
  have hrs : Rd W1 (.slice (some ⟨w.heap.size + 1, 0, none⟩) 1 1) (([3] : List Int).map I) := by
    rw [hW1]
    exact Rd.litI _ [3] _ _ 1 _ (by decide) rfl rfl (by simp)
  have hp := h.ext hx
  obtain ⟨b, cap, rfl, hnc, hcm, hb, hbg, hat, hfr⟩ := hp.jobAt hj
  have HIS := Lib.hid (is_any F W1 g c vn (.slice (some ⟨b, 0, none⟩) s.jobs.length cap) s k j [3] _ hp hj hrs (by decide))
  have HJ := Lib.hid (job_any F W1 g c vn s k b cap j hp hj hcm hnc)
  have HX := Lib.hid hx
  have HP := Lib.hid hp
  have HI := Lib.hid hj
  have HB := Lib.hid hbk
  have HF0 := Lib.hid hfr
  have hlw : w.heap.size ≠ b := fun e => by
    obtain ⟨b0, cap0, e0, _, _, hb0, _⟩ := h.jobAt hj
    injection e0 with e1
    injection e1 with e1
    injection e1 with e1
    omega
  have hlg : w.heap.size ≠ g := fun e => by have := h.lt; omega
  have q1 : W1.cell? ⟨w.heap.size, 1, none⟩ = some (.int .i64 ((k : Int) + 1)) := hbk.cell 1
  have q2 : W1.cell? ⟨w.heap.size, 2, none⟩ = some (.int .i64 v) := hbk.cell 2
  have hk0 := (List.getElem?_eq_some_iff.1 hj).1
  clear hx0 hbk0 hx1 hx hbk hp hj hfr hrs h
  by_cases ht : j.phase = 3
  · have hr : evictS s k j = (letGoS s k j 0, 0) := by rw [evictS, if_pos ht]
    have HR := Lib.hid hr
    have hd : decide (j.phase ∈ ([3] : List Int)) = true := by simp; omega
    have HL := Lib.hid (letGo_any F W1 g c vn (.slice (some ⟨b, 0, none⟩) s.jobs.length cap) s k j 0 HP.out HI.out hn)
    rw [hd] at HIS
    clear hr ht hd
    go_enter Tryd.func77, Tryd.ntmps77
    go_wp2_with fail
    rw [← hW1]
    clear hW1
    refine HIS.out.mono ?_
    rintro e1 w1 ⟨rfl, rfl⟩
    go_wp2_with fail
    refine HL.out.mono ?_
    rintro e2 w2 ⟨rfl, hp2, hc2⟩
    have HS := Lib.hid (And.intro hp2 hc2)
    clear hp2 hc2
    go_wp2
    go_ret
    exact MDone.of HR.out rfl HS.out.1 (chg2 HX.out HS.out.2)
  · have hr : evictS s k j = (s, 5) := by rw [evictS, if_neg ht]
    have HR := Lib.hid hr
    have hd : decide (j.phase ∈ ([3] : List Int)) = false := by simp; omega
    rw [hd] at HIS
    clear hr ht hd
    go_enter Tryd.func77, Tryd.ntmps77
    go_wp2_with fail
    rw [← hW1]
    clear hW1
    refine HIS.out.mono ?_
    rintro e1 w1 ⟨rfl, rfl⟩
    go_wp2
    go_ret
    exact MDone.of HR.out rfl HP.out (Chg.of_ext HX.out)

set_option maxRecDepth 100000 in
set_option maxHeartbeats 4000000 in
theorem done_any (F : Fp) (w : World) (g : Nat) (c : Cf) (vn vj : Value) (s : St) (z v a3 a4 a5 a6 : Int) (k : Nat) (j : Jb) (h : Pg F w g c vn vj s) (hj : s.jobs[k]? = some j) (hn : s.nodes.length ≤ 6) :
    Calls Tryd.prog 78 #[.pointer (some ⟨g, 0, none⟩), .agg #[.int .i64 z, .int .i64 ((k : Int) + 1), .int .i64 v, .int .i64 a3, .int .i64 a4, .int .i64 a5, .int .i64 a6]] w fun e w' => e = .returned (.int .i64 (doneS s k j).2) ∧ (∃ vn vj, Pg (F.since w w') w' g c vn vj (doneS s k j).1) ∧ Chg F w w' := by
  obtain ⟨hx0, hbk0⟩ := boxOp w #[.int .i64 z, .int .i64 ((k : Int) + 1), .int .i64 v, .int .i64 a3, .int .i64 a4, .int .i64 a5, .int .i64 a6]
  obtain ⟨W1, hW1⟩ : ∃ W1, W1 = (w.alloc (.cells #[.int .i64 z, .int .i64 ((k : Int) + 1), .int .i64 v, .int .i64 a3, .int .i64 a4, .int .i64 a5, .int .i64 a6] 36)).alloc (.cells #[.int .i64 2, .int .i64 3] 3) := ⟨_, rfl⟩
  have hx1 : Ext (w.alloc (.cells #[.int .i64 z, .int .i64 ((k : Int) + 1), .int .i64 v, .int .i64 a3, .int .i64 a4, .int .i64 a5, .int .i64 a6] 36)) W1 := by rw [hW1]; exact (Below.refl _ _).alloc (Nat.le_refl _) _
  have hx := hx0.trans hx1
  have hbk := hbk0.ext hx1
  have hrs : Rd W1 (.slice (some ⟨w.heap.size + 1, 0, none⟩) 2 2) (([2, 3] : List Int).map I) := by
    rw [hW1]
    exact Rd.litI _ [2, 3] _ _ 2 _ (by decide) rfl rfl (by simp)
  have hp := h.ext hx
  obtain ⟨b, cap, rfl, hnc, hcm, hb, hbg, hat, hfr⟩ := hp.jobAt hj
  have HIS := Lib.hid (is_any F W1 g c vn (.slice (some ⟨b, 0, none⟩) s.jobs.length cap) s k j [2, 3] _ hp hj hrs (by decide))
  have HJ := Lib.hid (job_any F W1 g c vn s k b cap j hp hj hcm hnc)
  have HX := Lib.hid hx
  have HP := Lib.hid hp
  have HI := Lib.hid hj
  have HB := Lib.hid hbk
  have HF0 := Lib.hid hfr
  have hlw : w.heap.size ≠ b := fun e => by
    obtain ⟨b0, cap0, e0, _, _, hb0, _⟩ := h.jobAt hj
    injection e0 with e1
    injection e1 with e1
    injection e1 with e1
    omega
  have hlg : w.heap.size ≠ g := fun e => by have := h.lt; omega
  have q1 : W1.cell? ⟨w.heap.size, 1, none⟩ = some (.int .i64 ((k : Int) + 1)) := hbk.cell 1
  have q2 : W1.cell? ⟨w.heap.size, 2, none⟩ = some (.int .i64 v) := hbk.cell 2
  have hk0 := (List.getElem?_eq_some_iff.1 hj).1
  clear hx0 hbk0 hx1 hx hbk hp hj hfr hrs h
  by_cases ht : j.phase = 2 ∨ j.phase = 3
  · have hr : doneS s k j = (letGoS s k j 4, 0) := by rw [doneS, if_pos ht]
    have HR := Lib.hid hr
    have hd : decide (j.phase ∈ ([2, 3] : List Int)) = true := by simp; omega
    have HL := Lib.hid (letGo_any F W1 g c vn (.slice (some ⟨b, 0, none⟩) s.jobs.length cap) s k j 4 HP.out HI.out hn)
    rw [hd] at HIS
    clear hr ht hd
    go_enter Tryd.func78, Tryd.ntmps78
    go_wp2_with fail
    rw [← hW1]
    clear hW1
    refine HIS.out.mono ?_
    rintro e1 w1 ⟨rfl, rfl⟩
    go_wp2_with fail
    refine HL.out.mono ?_
    rintro e2 w2 ⟨rfl, hp2, hc2⟩
    have HS := Lib.hid (And.intro hp2 hc2)
    clear hp2 hc2
    go_wp2
    go_ret
    exact MDone.of HR.out rfl HS.out.1 (chg2 HX.out HS.out.2)
  · have hr : doneS s k j = (s, 5) := by rw [doneS, if_neg ht]
    have HR := Lib.hid hr
    have hd : decide (j.phase ∈ ([2, 3] : List Int)) = false := by simp; omega
    rw [hd] at HIS
    clear hr ht hd
    go_enter Tryd.func78, Tryd.ntmps78
    go_wp2_with fail
    rw [← hW1]
    clear hW1
    refine HIS.out.mono ?_
    rintro e1 w1 ⟨rfl, rfl⟩
    go_wp2
    go_ret
    exact MDone.of HR.out rfl HP.out (Chg.of_ext HX.out)

set_option maxRecDepth 100000 in
set_option maxHeartbeats 4000000 in
theorem start_any (F : Fp) (w : World) (g : Nat) (c : Cf) (vn vj : Value) (s : St) (z v a3 a4 a5 a6 : Int) (k : Nat) (j : Jb) (h : Pg F w g c vn vj s) (hj : s.jobs[k]? = some j) :
    Calls Tryd.prog 73 #[.pointer (some ⟨g, 0, none⟩), .agg #[.int .i64 z, .int .i64 ((k : Int) + 1), .int .i64 v, .int .i64 a3, .int .i64 a4, .int .i64 a5, .int .i64 a6]] w fun e w' => e = .returned (.int .i64 (startS s k j v).2) ∧ (∃ vn vj, Pg (F.since w w') w' g c vn vj (startS s k j v).1) ∧ Chg F w w' := by
  obtain ⟨hx0, hbk0⟩ := boxOp w #[.int .i64 z, .int .i64 ((k : Int) + 1), .int .i64 v, .int .i64 a3, .int .i64 a4, .int .i64 a5, .int .i64 a6]
  obtain ⟨W1, hW1⟩ : ∃ W1, W1 = (w.alloc (.cells #[.int .i64 z, .int .i64 ((k : Int) + 1), .int .i64 v, .int .i64 a3, .int .i64 a4, .int .i64 a5, .int .i64 a6] 36)).alloc (.cells #[.int .i64 1] 3) := ⟨_, rfl⟩
  have hx1 : Ext (w.alloc (.cells #[.int .i64 z, .int .i64 ((k : Int) + 1), .int .i64 v, .int .i64 a3, .int .i64 a4, .int .i64 a5, .int .i64 a6] 36)) W1 := by rw [hW1]; exact (Below.refl _ _).alloc (Nat.le_refl _) _
  have hx := hx0.trans hx1
  have hbk := hbk0.ext hx1
  have hrs : Rd W1 (.slice (some ⟨w.heap.size + 1, 0, none⟩) 1 1) (([1] : List Int).map I) := by
    rw [hW1]
    exact Rd.litI _ [1] _ _ 1 _ (by decide) rfl rfl (by simp)
  have hp := h.ext hx
  obtain ⟨b, cap, rfl, hnc, hcm, hb, hbg, hat, hfr⟩ := hp.jobAt hj
  have HIS := Lib.hid (is_any F W1 g c vn (.slice (some ⟨b, 0, none⟩) s.jobs.length cap) s k j [1] _ hp hj hrs (by decide))
  have HJ := Lib.hid (job_any F W1 g c vn s k b cap j hp hj hcm hnc)
  have HX := Lib.hid hx
  have HP := Lib.hid hp
  have HI := Lib.hid hj
  have HB := Lib.hid hbk
  have HF0 := Lib.hid hfr
  have hlw : w.heap.size ≠ b := fun e => by
    obtain ⟨b0, cap0, e0, _, _, hb0, _⟩ := h.jobAt hj
    injection e0 with e1
    injection e1 with e1
    injection e1 with e1
    omega
  have hlg : w.heap.size ≠ g := fun e => by have := h.lt; omega
  have q1 : W1.cell? ⟨w.heap.size, 1, none⟩ = some (.int .i64 ((k : Int) + 1)) := hbk.cell 1
  have q2 : W1.cell? ⟨w.heap.size, 2, none⟩ = some (.int .i64 v) := hbk.cell 2
  have hk0 := (List.getElem?_eq_some_iff.1 hj).1
  clear hx0 hbk0 hx1 hx hbk hp hj hfr hrs h
  obtain ⟨c0, c1, c2, c3, c4, c5, c6, c7, c8, c9, c10, c11⟩ := hat
  by_cases ht : ¬ (j.phase = 1)
  · have hr : startS s k j v = (s, 5) := by rw [startS, if_neg ht]
    have HR := Lib.hid hr
    have hd : decide (j.phase ∈ ([1] : List Int)) = false := by simp; omega
    rw [hd] at HIS
    clear hr ht hd
    go_enter Tryd.func73, Tryd.ntmps73
    go_wp2_with fail
    rw [← hW1]
    clear hW1
    refine HIS.out.mono ?_
    rintro e1 w1 ⟨rfl, rfl⟩
    go_wp2
    go_ret
    exact MDone.of HR.out rfl HP.out (Chg.of_ext HX.out)
  replace ht := Classical.not_not.1 ht
  have hd : decide (j.phase ∈ ([1] : List Int)) = true := by simp; omega
  rw [hd] at HIS
  have HT := Lib.hid ht
  clear hd
  have f6 := HF0.out (k * 12 + 6)
  have f9 := HF0.out (k * 12 + 9)
  obtain ⟨h1, e1⟩ := HP.out.setJ HI.out (b := b) (cap := cap) rfl 6 (by omega) (.int .i64 2) (n' := { j with phase := 2 }) rfl
  obtain ⟨h2, e2⟩ := h1.setJ (b := b) (cap := cap) (n := { j with phase := 2 }) (set_get_j HI.out) (by simp [setJ]) 9 (by omega) (.int .i64 v) (n' := { j with phase := 2, since := v }) rfl
  simp only [setJ, List.set_set] at h2
  have HS := Lib.hid (And.intro h2 (chg3 e1 e2))
  have hr : startS s k j v = (setJ s k { j with phase := 2, since := v }, 0) := by rw [startS, if_pos ht]
  have HR := Lib.hid hr
  clear h1 h2 e1 e2 hr ht
  go_enter Tryd.func73, Tryd.ntmps73
  go_wp2_with fail
  rw [← hW1]
  clear hW1
  refine HIS.out.mono ?_
  rintro e1 w1 ⟨rfl, rfl⟩
  go_wp2_with fail
  refine HJ.out.mono ?_
  rintro e1 w1 ⟨rfl, rfl⟩
  go_wp2_with fail
  go_region
  go_wp2
  go_ret
  exact MDone.of HR.out rfl (ObjF.drew HS.out.1) (chg2 HX.out HS.out.2).drew

set_option maxRecDepth 100000 in
set_option maxHeartbeats 4000000 in
theorem saved_any (F : Fp) (w : World) (g : Nat) (c : Cf) (vn vj : Value) (s : St) (z v a3 a4 a5 a6 : Int) (k : Nat) (j : Jb) (h : Pg F w g c vn vj s) (hj : s.jobs[k]? = some j) :
    Calls Tryd.prog 76 #[.pointer (some ⟨g, 0, none⟩), .agg #[.int .i64 z, .int .i64 ((k : Int) + 1), .int .i64 v, .int .i64 a3, .int .i64 a4, .int .i64 a5, .int .i64 a6]] w fun e w' => e = .returned (.int .i64 (savedS s k j v).2) ∧ (∃ vn vj, Pg (F.since w w') w' g c vn vj (savedS s k j v).1) ∧ Chg F w w' := by
  obtain ⟨hx0, hbk0⟩ := boxOp w #[.int .i64 z, .int .i64 ((k : Int) + 1), .int .i64 v, .int .i64 a3, .int .i64 a4, .int .i64 a5, .int .i64 a6]
  obtain ⟨W1, hW1⟩ : ∃ W1, W1 = (w.alloc (.cells #[.int .i64 z, .int .i64 ((k : Int) + 1), .int .i64 v, .int .i64 a3, .int .i64 a4, .int .i64 a5, .int .i64 a6] 36)).alloc (.cells #[.int .i64 2, .int .i64 3] 3) := ⟨_, rfl⟩
  have hx1 : Ext (w.alloc (.cells #[.int .i64 z, .int .i64 ((k : Int) + 1), .int .i64 v, .int .i64 a3, .int .i64 a4, .int .i64 a5, .int .i64 a6] 36)) W1 := by rw [hW1]; exact (Below.refl _ _).alloc (Nat.le_refl _) _
  have hx := hx0.trans hx1
  have hbk := hbk0.ext hx1
  have hrs : Rd W1 (.slice (some ⟨w.heap.size + 1, 0, none⟩) 2 2) (([2, 3] : List Int).map I) := by
    rw [hW1]
    exact Rd.litI _ [2, 3] _ _ 2 _ (by decide) rfl rfl (by simp)
  have hp := h.ext hx
  obtain ⟨b, cap, rfl, hnc, hcm, hb, hbg, hat, hfr⟩ := hp.jobAt hj
  have HIS := Lib.hid (is_any F W1 g c vn (.slice (some ⟨b, 0, none⟩) s.jobs.length cap) s k j [2, 3] _ hp hj hrs (by decide))
  have HJ := Lib.hid (job_any F W1 g c vn s k b cap j hp hj hcm hnc)
  have HX := Lib.hid hx
  have HP := Lib.hid hp
  have HI := Lib.hid hj
  have HB := Lib.hid hbk
  have HF0 := Lib.hid hfr
  have hlw : w.heap.size ≠ b := fun e => by
    obtain ⟨b0, cap0, e0, _, _, hb0, _⟩ := h.jobAt hj
    injection e0 with e1
    injection e1 with e1
    injection e1 with e1
    omega
  have hlg : w.heap.size ≠ g := fun e => by have := h.lt; omega
  have q1 : W1.cell? ⟨w.heap.size, 1, none⟩ = some (.int .i64 ((k : Int) + 1)) := hbk.cell 1
  have q2 : W1.cell? ⟨w.heap.size, 2, none⟩ = some (.int .i64 v) := hbk.cell 2
  have hk0 := (List.getElem?_eq_some_iff.1 hj).1
  clear hx0 hbk0 hx1 hx hbk hp hj hfr hrs h
  obtain ⟨c0, c1, c2, c3, c4, c5, c6, c7, c8, c9, c10, c11⟩ := hat
  by_cases ht : ¬ (j.phase = 2 ∨ j.phase = 3)
  · have hr : savedS s k j v = (s, 5) := by rw [savedS, if_neg ht]
    have HR := Lib.hid hr
    have hd : decide (j.phase ∈ ([2, 3] : List Int)) = false := by simp; omega
    rw [hd] at HIS
    clear hr ht hd
    go_enter Tryd.func76, Tryd.ntmps76
    go_wp2_with fail
    rw [← hW1]
    clear hW1
    refine HIS.out.mono ?_
    rintro e1 w1 ⟨rfl, rfl⟩
    go_wp2
    go_ret
    exact MDone.of HR.out rfl HP.out (Chg.of_ext HX.out)
  replace ht := Classical.not_not.1 ht
  have hd : decide (j.phase ∈ ([2, 3] : List Int)) = true := by simp; omega
  rw [hd] at HIS
  have HT := Lib.hid ht
  clear hd
  have f11 := HF0.out (k * 12 + 11)
  have HS := Lib.hid (HP.out.setJ HI.out (b := b) (cap := cap) rfl 11 (by omega) (.int .i64 v) (n' := { j with epoch := v }) rfl)
  by_cases h1 : v = j.inc
  · have d1 : (v != j.inc) = false := by rw [h1]; exact bne_self_eq_false _
    by_cases h2 : j.epoch < v
    · have d2 : decide (v ≤ j.epoch) = false := decide_eq_false (by omega)
      have hr : savedS s k j v = (setJ s k { j with epoch := v }, 0) := by rw [savedS, if_pos ht, if_pos ⟨h1, h2⟩]
      have HR := Lib.hid hr
      clear hr ht h1 h2
      go_enter Tryd.func76, Tryd.ntmps76
      go_wp2_with fail
      rw [← hW1]
      clear hW1
      refine HIS.out.mono ?_
      rintro e1 w1 ⟨rfl, rfl⟩
      go_wp2_with fail
      refine HJ.out.mono ?_
      rintro e1 w1 ⟨rfl, rfl⟩
      go_wp2_with fail
      go_quiet (fail)
      have HS2 : Hid (Pg F ((W1.drewN nq).setCell ⟨b, k * 12 + 11, none⟩ (.int .i64 v)) g c vn (.slice (some ⟨b, 0, none⟩) s.jobs.length cap) (setJ s k { j with epoch := v }) ∧ Chg F W1 ((W1.drewN nq).setCell ⟨b, k * 12 + 11, none⟩ (.int .i64 v))) := Lib.hid (by
        obtain ⟨h1, h2⟩ := ((HP.out.ext (Below.drewN' (Ext.refl W1) nq)).setJ HI.out (b := b) (cap := cap) rfl 11 (by omega) (.int .i64 v) (n' := { j with epoch := v }) rfl)
        exact ⟨h1, chg2 (Below.drewN' (Ext.refl W1) nq) h2⟩)
      go_wp2
      go_ret
      exact MDone.of HR.out rfl HS2.out.1 (chg2 HX.out HS2.out.2)
    · have d2 : decide (v ≤ j.epoch) = true := decide_eq_true (by omega)
      have hr : savedS s k j v = (s, 6) := by rw [savedS, if_pos ht, if_neg (fun h => h2 h.2)]
      have HR := Lib.hid hr
      clear hr ht h1 h2
      go_enter Tryd.func76, Tryd.ntmps76
      go_wp2_with fail
      rw [← hW1]
      clear hW1
      refine HIS.out.mono ?_
      rintro e1 w1 ⟨rfl, rfl⟩
      go_wp2_with fail
      refine HJ.out.mono ?_
      rintro e1 w1 ⟨rfl, rfl⟩
      go_wp2_with fail
      go_quiet (fail)
      go_wp2
      go_ret
      exact MDone.of HR.out rfl (HP.out.ext (Below.drewN' (Ext.refl W1) nq)) (Chg.of_ext (Below.drewN' HX.out nq))
  · have d1 : (v != j.inc) = true := by rw [bne_iff_ne]; exact h1
    have hr : savedS s k j v = (s, 6) := by rw [savedS, if_pos ht, if_neg (fun h => h1 h.1)]
    have HR := Lib.hid hr
    clear hr ht h1
    go_enter Tryd.func76, Tryd.ntmps76
    go_wp2_with fail
    rw [← hW1]
    clear hW1
    refine HIS.out.mono ?_
    rintro e1 w1 ⟨rfl, rfl⟩
    go_wp2_with fail
    refine HJ.out.mono ?_
    rintro e1 w1 ⟨rfl, rfl⟩
    go_wp2_with fail
    go_quiet (fail)
    go_wp2
    go_ret
    exact MDone.of HR.out rfl (HP.out.ext (Below.drewN' (Ext.refl W1) nq)) (Chg.of_ext (Below.drewN' HX.out nq))

set_option maxRecDepth 100000 in
set_option maxHeartbeats 4000000 in
theorem drain_any (F : Fp) (w : World) (g : Nat) (c : Cf) (vn vj : Value) (s : St) (z v a3 a4 a5 a6 : Int) (k : Nat) (j : Jb) (h : Pg F w g c vn vj s) (hj : s.jobs[k]? = some j) :
    Calls Tryd.prog 75 #[.pointer (some ⟨g, 0, none⟩), .agg #[.int .i64 z, .int .i64 ((k : Int) + 1), .int .i64 v, .int .i64 a3, .int .i64 a4, .int .i64 a5, .int .i64 a6]] w fun e w' => e = .returned (.int .i64 (drainS c s k j v).2) ∧ (∃ vn vj, Pg (F.since w w') w' g c vn vj (drainS c s k j v).1) ∧ Chg F w w' := by
  obtain ⟨hx0, hbk0⟩ := boxOp w #[.int .i64 z, .int .i64 ((k : Int) + 1), .int .i64 v, .int .i64 a3, .int .i64 a4, .int .i64 a5, .int .i64 a6]
  obtain ⟨W1, hW1⟩ : ∃ W1, W1 = (w.alloc (.cells #[.int .i64 z, .int .i64 ((k : Int) + 1), .int .i64 v, .int .i64 a3, .int .i64 a4, .int .i64 a5, .int .i64 a6] 36)).alloc (.cells #[.int .i64 2] 3) := ⟨_, rfl⟩
  have hx1 : Ext (w.alloc (.cells #[.int .i64 z, .int .i64 ((k : Int) + 1), .int .i64 v, .int .i64 a3, .int .i64 a4, .int .i64 a5, .int .i64 a6] 36)) W1 := by rw [hW1]; exact (Below.refl _ _).alloc (Nat.le_refl _) _
  have hx := hx0.trans hx1
  have hbk := hbk0.ext hx1
  have hrs : Rd W1 (.slice (some ⟨w.heap.size + 1, 0, none⟩) 1 1) (([2] : List Int).map I) := by
    rw [hW1]
    exact Rd.litI _ [2] _ _ 1 _ (by decide) rfl rfl (by simp)
  have hp := h.ext hx
  obtain ⟨b, cap, rfl, hnc, hcm, hb, hbg, hat, hfr⟩ := hp.jobAt hj
  have HIS := Lib.hid (is_any F W1 g c vn (.slice (some ⟨b, 0, none⟩) s.jobs.length cap) s k j [2] _ hp hj hrs (by decide))
  have HJ := Lib.hid (job_any F W1 g c vn s k b cap j hp hj hcm hnc)
  have HX := Lib.hid hx
  have HP := Lib.hid hp
  have HI := Lib.hid hj
  have HB := Lib.hid hbk
  have HF0 := Lib.hid hfr
  have hlw : w.heap.size ≠ b := fun e => by
    obtain ⟨b0, cap0, e0, _, _, hb0, _⟩ := h.jobAt hj
    injection e0 with e1
    injection e1 with e1
    injection e1 with e1
    omega
  have hlg : w.heap.size ≠ g := fun e => by have := h.lt; omega
  have q1 : W1.cell? ⟨w.heap.size, 1, none⟩ = some (.int .i64 ((k : Int) + 1)) := hbk.cell 1
  have q2 : W1.cell? ⟨w.heap.size, 2, none⟩ = some (.int .i64 v) := hbk.cell 2
  have hk0 := (List.getElem?_eq_some_iff.1 hj).1
  clear hx0 hbk0 hx1 hx hbk hp hj hfr hrs h
  obtain ⟨c0, c1, c2, c3, c4, c5, c6, c7, c8, c9, c10, c11⟩ := hat
  by_cases ht : ¬ (j.phase = 2)
  · have hr : drainS c s k j v = (s, 5) := by rw [drainS, if_neg ht]
    have HR := Lib.hid hr
    have hd : decide (j.phase ∈ ([2] : List Int)) = false := by simp; omega
    rw [hd] at HIS
    clear hr ht hd
    go_enter Tryd.func75, Tryd.ntmps75
    go_wp2_with fail
    rw [← hW1]
    clear hW1
    refine HIS.out.mono ?_
    rintro e1 w1 ⟨rfl, rfl⟩
    go_wp2
    go_ret
    exact MDone.of HR.out rfl HP.out (Chg.of_ext HX.out)
  replace ht := Classical.not_not.1 ht
  have hd : decide (j.phase ∈ ([2] : List Int)) = true := by simp; omega
  rw [hd] at HIS
  have HT := Lib.hid ht
  clear hd
  have HD : Hid (∀ w', Ext W1 w' → Calls Tryd.prog 14 #[stV vn (.slice (some ⟨b, 0, none⟩) s.jobs.length cap) s, .int .i64 j.queue] w' fun e w'' => e = .returned (.int .i64 (drainsS s j.queue : Int)) ∧ Ext w' w'') := Lib.hid fun w' hx => Drains_any vn _ s j.queue w' (HP.out.rd.jobs.ext hx)
  unfold stV at HD
  generalize hD : (drainsS s j.queue : Int) = D at *
  have p9 := HP.out.c9
  have p10 := HP.out.c10
  have p11 := HP.out.c11
  have p12 := HP.out.c12
  have p13 := HP.out.c13
  have p14 := HP.out.c14
  have p2 : W1.cell? ⟨g, 2, none⟩ = some (.int .i64 c.quota) := HP.out.blk.cell 2
  have HSF : Hid (∀ w2, Ext W1 w2 → Pg F ((w2.setCell ⟨b, k * 12 + 6, none⟩ (.int .i64 3)).setCell ⟨b, k * 12 + 10, none⟩ (.int .i64 v)) g c vn (.slice (some ⟨b, 0, none⟩) s.jobs.length cap) (setJ s k { j with phase := 3, til := v }) ∧
      Chg F w2 ((w2.setCell ⟨b, k * 12 + 6, none⟩ (.int .i64 3)).setCell ⟨b, k * 12 + 10, none⟩ (.int .i64 v))) := Lib.hid fun w2 h2 => by
    obtain ⟨h1, e1⟩ := (HP.out.ext h2).setJ HI.out (b := b) (cap := cap) rfl 6 (by omega) (.int .i64 3) (n' := { j with phase := 3 }) rfl
    obtain ⟨h2, e2⟩ := h1.setJ (b := b) (cap := cap) (n := { j with phase := 3 }) (set_get_j HI.out) (by simp [setJ]) 10 (by omega) (.int .i64 v) (n' := { j with phase := 3, til := v }) rfl
    simp only [setJ, List.set_set] at h2
    exact ⟨h2, chg3 e1 e2⟩
  by_cases h1 : D = c.quota
  · have d1 : (D == c.quota) = true := by rw [h1]; exact beq_self_eq_true _
    have hr : drainS c s k j v = (s, 7) := by rw [drainS, if_pos ht, if_pos (hD.trans h1)]
    have HR := Lib.hid hr
    clear hr ht h1 hD
    go_enter Tryd.func75, Tryd.ntmps75
    go_wp2_with fail
    rw [← hW1]
    clear hW1
    refine HIS.out.mono ?_
    rintro e1 w1 ⟨rfl, rfl⟩
    go_wp2_with fail
    refine HJ.out.mono ?_
    rintro e1 w1 ⟨rfl, rfl⟩
    go_wp2_with fail
    go_region_with ((go_at_call 14); (first | (refine (HD.out _ (Ext.refl _)).mono ?_) | (refine (HD.out _ (ext_drew9 (Ext.refl _))).mono ?_)); (rintro e2 w2 ⟨rfl, hx2⟩); (first | (have hx3 : Ext W1 w2 := hx2) | (have hx3 : Ext W1 w2 := Ext.of_drew hx2)); (have k2 : w2.cell? ⟨g, 2, none⟩ = some (.int .i64 c.quota) := (HP.out.ext hx3).blk.cell 2))
    all_goals
      have HP2 := Lib.hid (HP.out.ext hx3)
      have HX2 := Lib.hid (HX.out.trans hx3)
      clear hx2 hx3 k2
      go_wp2
      go_ret
      exact MDone.of HR.out rfl HP2.out (Chg.of_ext HX2.out)
  · have d1 : (D == c.quota) = false := by rw [beq_eq_false_iff_ne]; exact h1
    have hr : drainS c s k j v = (setJ s k { j with phase := 3, til := v }, 0) := by rw [drainS, if_pos ht, if_neg (by rw [hD]; exact h1)]
    have HR := Lib.hid hr
    clear hr ht h1 hD
    go_enter Tryd.func75, Tryd.ntmps75
    go_wp2_with fail
    rw [← hW1]
    clear hW1
    refine HIS.out.mono ?_
    rintro e1 w1 ⟨rfl, rfl⟩
    go_wp2_with fail
    refine HJ.out.mono ?_
    rintro e1 w1 ⟨rfl, rfl⟩
    go_wp2_with fail
    go_region_with ((go_at_call 14); (first | (refine (HD.out _ (Ext.refl _)).mono ?_) | (refine (HD.out _ (ext_drew9 (Ext.refl _))).mono ?_)); (rintro e2 w2 ⟨rfl, hx2⟩); (first | (have hx3 : Ext W1 w2 := hx2) | (have hx3 : Ext W1 w2 := Ext.of_drew hx2)); (have k2 : w2.cell? ⟨g, 2, none⟩ = some (.int .i64 c.quota) := (HP.out.ext hx3).blk.cell 2))
    all_goals
      have HX2 := Lib.hid (HX.out.trans hx3)
      have HS := Lib.hid (HSF.out w2 hx3)
      have hq2 : w2.cell? ⟨w.heap.size, 2, none⟩ = some (.int .i64 v) := (HB.out.ext hx3).cell 2
      obtain ⟨bz, capz, hvz, _, _, _, _, hatz, hfrz⟩ := (HP.out.ext hx3).jobAt HI.out
      injection hvz with hA _ hcap
      injection hA with hA
      injection hA with hA
      subst hA hcap
      have z6 := hatz.c6
      have z10 := hatz.c10
      have f6 := hfrz (k * 12 + 6)
      have f10 := hfrz (k * 12 + 10)
      clear hx2 hx3 k2 hatz hfrz
      go_wp2_with fail
      go_region
      go_wp2
      go_ret
      exact MDone.of HR.out rfl (ObjF.drew HS.out.1) (chg2 HX2.out HS.out.2).drew

end Go.Proofs.YtddhbokknbmdfaaDoor
