/- Texts that the proof of B rests on, one behind the other. -/
import Derived.Test.YtkpcjdhnbjkaaaaDoorBQ1
import Derived.Test.YtkpcjdhnbjkaaaaDoorBQ3
import Derived.Test.YtkpcjdhnbjkaaaaDoorBQ4
import Derived.Test.YtkpcjdhnbjkaaaaDoorBQ5
import Derived.Test.YtkpcjdhnbjkaaaaDoorBQ8
import Derived.Test.YtkpcjdhnbjkaaaaDoorBQ9
import Derived.Test.YtkpcjdhnbjkaaaaDoorChecked
import Derived.Test.YtkpcjdhnbjkaaaaDoorRows
import Derived.Lib.LaidTab
import Derived.Deep.Cut

/- Package book: submit. -/
namespace Go.Proofs.YtkpcjdhnbjkaaaaDoor
open Go.RowKit

theorem MDone.of2 {F : Fp} {w W w' : World} {g : Nat} {c : Cf} {vn vj : Value} {res : Res9} {s' : St} {er : Int} {e : Ending} (hres : res = (s', er)) (he : e = .returned (.int .i64 er)) (hx : Ext w W) (hp : Pg (F.since W w') w' g c vn vj s') (hc : Chg F W w') (hi : F.isIn w) : MDone F w g c res e w' := by
  subst hres
  refine ⟨he, ⟨vn, vj, hp.mono (fun k hk => ?_) (hi.since (Nat.le_trans hx.size hc.size))⟩, chg2 hx hc⟩
  rcases hk with hk | hk
  · exact .inl hk
  · exact .inr ⟨Nat.le_trans hx.size hk.1, hk.2⟩
theorem MDone.drew {F : Fp} {w w' : World} {g : Nat} {c : Cf} {res : Res9} {e : Ending} (h : MDone F w g c res e w') : MDone F w g c res e w'.drew := by
  obtain ⟨he, ⟨vn, vj, hp⟩, hc⟩ := h
  exact ⟨he, ⟨vn, vj, ObjF.drew hp⟩, hc.drew⟩

/-- One job more. -/
theorem Pg.snoc {F : Fp} {w w' : World} {g : Nat} {c : Cf} {vn vj v' : Value} {s : St} (h : Pg F w g c vn vj s) (j : Jb)
    (hg : GrewK 0 58 12 vj w (s.jobs.length + 1) (jobsC s.jobs ++ j.cells) v' w') :
    Pg (F.since w (w'.setCell ⟨g, 10, none⟩ v')) (w'.setCell ⟨g, 10, none⟩ v') g c vn v' { s with jobs := s.jobs ++ [j] } ∧ Chg F w (w'.setCell ⟨g, 10, none⟩ v') := by
  have hj : jobsC (s.jobs ++ [j]) = jobsC s.jobs ++ j.cells := by unfold jobsC; rw [List.flatMap_append]; simp
  have hl : (s.jobs ++ [j]).length = s.jobs.length + 1 := by simp
  have ht := ObjF.turn (w' := w') h 1 (by simp) ⟨58, 12, v', (s.jobs ++ [j]).length, jobsC (s.jobs ++ [j])⟩ (by rw [hj, hl]; exact hg.1) (Chg.of_grown hg.2.1 fun k hk => hk) (fun k hk => by
    rcases hg.2.2 with h2 | h2
    · exact .inl (by show vj.ownBlock = some k; rw [← h2]; exact hk)
    · exact .inr (h2 k hk))
  obtain ⟨h1, h2⟩ := ht
  obtain ⟨h3, h4⟩ := h1.setCell 10 v'
  have hs : (w'.setCell ⟨g, 10, none⟩ v').heap.size = w'.heap.size := by simp
  have h5 := ObjF.mono (G := Fp.since F w (w'.setCell ⟨g, 10, none⟩ v')) h3 (fun k hk => by
    rcases hk with hk | hk
    · exact .inl hk
    · exact .inr ⟨hk.1, by rw [hs]; exact hk.2⟩) (h.isIn.since (by rw [hs]; exact h2.size))
  exact ⟨h5, h2.trans h4 (fun x hx hF => by
    rcases hF with hF | hF
    · exact hF
    · omega)⟩

set_option maxRecDepth 100000 in
set_option maxHeartbeats 4000000 in
theorem submit_any (F : Fp) (w : World) (g : Nat) (c : Cf) (vn vj : Value) (s : St) (z a1 a2 a3 a4 a5 a6 : Int) (h : Pg F w g c vn vj s) (hm : mayC c = true) (hl : s.jobs.length ≤ 24) :
    Calls Tryd.prog 43 #[.pointer (some ⟨g, 0, none⟩), .agg #[.int .i64 z, .int .i64 a1, .int .i64 a2, .int .i64 a3, .int .i64 a4, .int .i64 a5, .int .i64 a6]] w fun e w' => e = .returned (.int .i64 (submitS c s (z, a1, a2, a3, a4, a5, a6)).2) ∧ (∃ vn vj, Pg (F.since w w') w' g c vn vj (submitS c s (z, a1, a2, a3, a4, a5, a6)).1) ∧ Chg F w w' := by
  have HA := Lib.hid fun w' => asked_any c (newJ (z, a1, a2, a3, a4, a5, a6)) w' hm
  obtain ⟨W2, hW2⟩ : ∃ W2, W2 = (w.alloc (.cells #[.int .i64 z, .int .i64 a1, .int .i64 a2, .int .i64 a3, .int .i64 a4, .int .i64 a5, .int .i64 a6] 32)).alloc (.cells #[.int .i64 a1, .int .i64 a2, .int .i64 a3, .int .i64 a4, .int .i64 a5, .int .i64 a6, .int .i64 0, .int .i64 0, .int .i64 0, .int .i64 0, .int .i64 0, .int .i64 0] 58) := ⟨_, rfl⟩
  have hx : Ext w W2 := by rw [hW2]; exact ext2 w _ _ _ _
  have hbj : Blk W2 (w.heap.size + 1) 58 #[.int .i64 a1, .int .i64 a2, .int .i64 a3, .int .i64 a4, .int .i64 a5, .int .i64 a6, .int .i64 0, .int .i64 0, .int .i64 0, .int .i64 0, .int .i64 0, .int .i64 0] := by
    have := Blk.new (w.alloc (.cells #[.int .i64 z, .int .i64 a1, .int .i64 a2, .int .i64 a3, .int .i64 a4, .int .i64 a5, .int .i64 a6] 32)) 58 #[.int .i64 a1, .int .i64 a2, .int .i64 a3, .int .i64 a4, .int .i64 a5, .int .i64 a6, .int .i64 0, .int .i64 0, .int .i64 0, .int .i64 0, .int .i64 0, .int .i64 0]
    rw [hW2]
    simpa using this
  have hp := h.ext hx
  have p0 : W2.cell? ⟨g, 0, none⟩ = some (.int .i64 c.nodes) := hp.blk.cell 0
  have p1 : W2.cell? ⟨g, 1, none⟩ = some (.int .i64 c.queues) := hp.blk.cell 1
  have p2 : W2.cell? ⟨g, 2, none⟩ = some (.int .i64 c.quota) := hp.blk.cell 2
  have p3 : W2.cell? ⟨g, 3, none⟩ = some (.int .i64 c.wave) := hp.blk.cell 3
  have p4 : W2.cell? ⟨g, 4, none⟩ = some (.int .i64 c.lease) := hp.blk.cell 4
  have p5 : W2.cell? ⟨g, 5, none⟩ = some (.int .i64 c.retry) := hp.blk.cell 5
  have p6 : W2.cell? ⟨g, 6, none⟩ = some (.int .i64 c.deadline) := hp.blk.cell 6
  have p7 : W2.cell? ⟨g, 7, none⟩ = some (.int .i64 c.room) := hp.blk.cell 7
  have p8 : W2.cell? ⟨g, 8, none⟩ = some (.int .i64 c.disk) := hp.blk.cell 8
  have HX := Lib.hid hx
  have HP := Lib.hid hp
  have HBJ := Lib.hid hbj
  have hlg : g < w.heap.size := h.lt
  have HI := Lib.hid h.isIn
  obtain ⟨ab, hab⟩ : ∃ ab, askedJ c (newJ (z, a1, a2, a3, a4, a5, a6)) = ab := ⟨_, rfl⟩
  rw [hab] at HA
  unfold newJ cfV jbV at HA
  dsimp only at HA
  have hj0 : W2.cell? ⟨w.heap.size + 1, 0, none⟩ = some (.int .i64 a1) := hbj.cell 0
  have hj1 : W2.cell? ⟨w.heap.size + 1, 1, none⟩ = some (.int .i64 a2) := hbj.cell 1
  have hj2 : W2.cell? ⟨w.heap.size + 1, 2, none⟩ = some (.int .i64 a3) := hbj.cell 2
  have hj3 : W2.cell? ⟨w.heap.size + 1, 3, none⟩ = some (.int .i64 a4) := hbj.cell 3
  have hj4 : W2.cell? ⟨w.heap.size + 1, 4, none⟩ = some (.int .i64 a5) := hbj.cell 4
  have hj5 : W2.cell? ⟨w.heap.size + 1, 5, none⟩ = some (.int .i64 a6) := hbj.cell 5
  have hj6 : W2.cell? ⟨w.heap.size + 1, 6, none⟩ = some (.int .i64 0) := hbj.cell 6
  have hj7 : W2.cell? ⟨w.heap.size + 1, 7, none⟩ = some (.int .i64 0) := hbj.cell 7
  have hj8 : W2.cell? ⟨w.heap.size + 1, 8, none⟩ = some (.int .i64 0) := hbj.cell 8
  have hj9 : W2.cell? ⟨w.heap.size + 1, 9, none⟩ = some (.int .i64 0) := hbj.cell 9
  have hj10 : W2.cell? ⟨w.heap.size + 1, 10, none⟩ = some (.int .i64 0) := hbj.cell 10
  have hj11 : W2.cell? ⟨w.heap.size + 1, 11, none⟩ = some (.int .i64 0) := hbj.cell 11
  clear hx hp hbj h
  go_enter Tryd.func43, Tryd.ntmps43
  go_wp2_with fail
  rw [← hW2]
  clear hW2
  go_region_with ((go_at_call 28); (refine (HA.out _).mono ?_); (rintro e2 w2 ⟨rfl, hx2⟩))
  all_goals
    have hx3 : Ext W2 w2 := Ext.of_drew hx2
    have HX3 := Lib.hid hx3
    have HX4 := Lib.hid (HX.out.trans hx3)
    have HP2 := Lib.hid (HP.out.ext hx3)
    have c10 := HP2.out.c10
    obtain ⟨A, cap, rfl, hnc, hcm⟩ := HP2.out.slJ
    clear hx2 hx3 p0 p1 p2 p3 p4 p5 p6 p7 p8 hj0 hj1 hj2 hj3 hj4 hj5 hj6 hj7 hj8 hj9 hj10 hj11
    cases ab
    · have hr : submitS c s (z, a1, a2, a3, a4, a5, a6) = (s, 1) := by rw [submitS, if_pos hab]
      have HR := Lib.hid hr
      clear hr
      go_wp2
      go_ret
      exact MDone.of HR.out rfl HP2.out (Chg.of_ext HX4.out)
    by_cases hf : s.jobs.length = 24
    · have hr : submitS c s (z, a1, a2, a3, a4, a5, a6) = (s, 3) := by rw [submitS, if_neg (by rw [hab]; simp), if_pos hf]
      have d1 : ((s.jobs.length : Int) == 24) = true := by rw [hf]; rfl
      have HR := Lib.hid hr
      clear hr
      go_wp2
      go_ret
      exact MDone.of HR.out rfl HP2.out (Chg.of_ext HX4.out)
    have hr : submitS c s (z, a1, a2, a3, a4, a5, a6) = ({ s with jobs := s.jobs ++ [newJ (z, a1, a2, a3, a4, a5, a6)] }, 0) := by rw [submitS, if_neg (by rw [hab]; simp), if_neg hf]
    have d1 : ((s.jobs.length : Int) == 24) = false := by rw [beq_eq_false_iff_ne]; omega
    have HR := Lib.hid hr
    clear hr
    have HROW : Hid (∀ W, Ext w2 W → W.ownsRow 0 58 12 (.slice A s.jobs.length cap) s.jobs.length (jobsC s.jobs)) := Lib.hid fun W hx => (HP2.out.ext hx).rowJ
    have HONE : Hid (∀ u ∈ (newJ (z, a1, a2, a3, a4, a5, a6)).cells, u.oneCell' = true) := Lib.hid (by simp [newJ, Jb.cells, Value.oneCell'])
    have HLIT := Lib.hid (RdS.lit 12 w2 #[.int .i64 a1, .int .i64 a2, .int .i64 a3, .int .i64 a4, .int .i64 a5, .int .i64 a6, .int .i64 0, .int .i64 0, .int .i64 0, .int .i64 0, .int .i64 0, .int .i64 0] 58 w2.heap.size rfl rfl)
    have HKEEP : Hid (∀ W W', Ext w2 W → W.grownBy W' (Value.ownBlock (.slice A s.jobs.length cap)) → Blk W' g 55 (pgC c vn (.slice A s.jobs.length cap) s)) := Lib.hid fun W W' hx hg => by
      have hp := HP2.out.ext hx
      refine (hg.block g hp.lt fun e => ?_).trans hp.blk
      exact ObjF.off hp ⟨58, 12, .slice A s.jobs.length cap, s.jobs.length, jobsC s.jobs⟩ (by simp) e.symm
    have f10 := HP2.out.fr 10
    have hlg2 := HP2.out.lt
    have hlj2 : w.heap.size + 1 < w2.heap.size := (HBJ.out.ext HX3.out).lt
    have hj0 : w2.cell? ⟨w.heap.size + 1, 0, none⟩ = some (.int .i64 a1) := (HBJ.out.ext HX3.out).cell 0
    have hj1 : w2.cell? ⟨w.heap.size + 1, 1, none⟩ = some (.int .i64 a2) := (HBJ.out.ext HX3.out).cell 1
    have hj2 : w2.cell? ⟨w.heap.size + 1, 2, none⟩ = some (.int .i64 a3) := (HBJ.out.ext HX3.out).cell 2
    have hj3 : w2.cell? ⟨w.heap.size + 1, 3, none⟩ = some (.int .i64 a4) := (HBJ.out.ext HX3.out).cell 3
    have hj4 : w2.cell? ⟨w.heap.size + 1, 4, none⟩ = some (.int .i64 a5) := (HBJ.out.ext HX3.out).cell 4
    have hj5 : w2.cell? ⟨w.heap.size + 1, 5, none⟩ = some (.int .i64 a6) := (HBJ.out.ext HX3.out).cell 5
    have hj6 : w2.cell? ⟨w.heap.size + 1, 6, none⟩ = some (.int .i64 0) := (HBJ.out.ext HX3.out).cell 6
    have hj7 : w2.cell? ⟨w.heap.size + 1, 7, none⟩ = some (.int .i64 0) := (HBJ.out.ext HX3.out).cell 7
    have hj8 : w2.cell? ⟨w.heap.size + 1, 8, none⟩ = some (.int .i64 0) := (HBJ.out.ext HX3.out).cell 8
    have hj9 : w2.cell? ⟨w.heap.size + 1, 9, none⟩ = some (.int .i64 0) := (HBJ.out.ext HX3.out).cell 9
    have hj10 : w2.cell? ⟨w.heap.size + 1, 10, none⟩ = some (.int .i64 0) := (HBJ.out.ext HX3.out).cell 10
    have hj11 : w2.cell? ⟨w.heap.size + 1, 11, none⟩ = some (.int .i64 0) := (HBJ.out.ext HX3.out).cell 11
    have hl25 : s.jobs.length + 1 ≤ maxLen := by unfold maxLen; omega
    have hl26 : (s.jobs.length + 1) * 96 ≤ 140737488355328 := by omega
    go_wp2_with fail
    go_region_law (refine stepAppendK (.tmp 38) (.tmp 40) 25 rfl ?_ 0 58 _ 12 96 Tryd.underlying25 Tryd.infoJob rfl (by decide) (.slice A s.jobs.length cap) s.jobs.length (jobsC s.jobs) ?_ (HROW.out _ ?_) (.slice (some ⟨w2.heap.size, 0, none⟩) 1 1) 1 (newJ (z, a1, a2, a3, a4, a5, a6)).cells ?_ ?_ HONE.out hl25 hl26 (Nat.zero_le _) ?_; rfl; rfl; (first | exact Below.alloc (Ext.refl _) (Nat.le_refl _) _ | exact ext_drew9 (Below.alloc (Ext.refl _) (Nat.le_refl _) _) | exact Below.alloc (ext_drew9 (Ext.refl _)) (Nat.le_refl _) _); rfl; (first | exact HLIT.out | exact HLIT.out.ext (ext_drew9 (Ext.refl _))); intro v' w' hg; have hb' := HKEEP.out _ w' (by (first | exact Below.alloc (Ext.refl _) (Nat.le_refl _) _ | exact ext_drew9 (Below.alloc (Ext.refl _) (Nat.le_refl _) _) | exact Below.alloc (ext_drew9 (Ext.refl _)) (Nat.le_refl _) _)) hg.2.1; have c10' : w'.cell? ⟨g, 10, none⟩ = some (.slice A s.jobs.length cap) := hb'.cell 10; have f10' := hb'.frozen 10; obtain ⟨A2, k2, rfl⟩ := own_slice hg.1)
    all_goals
      have HGG := Lib.hid hg
      have HII := Lib.hid HI.out
      clear hg hb' c10' f10'
      go_wp2
      go_ret
      first
        | exact MDone.of2 HR.out rfl (HX4.out.trans (by first | exact Below.alloc (Ext.refl _) (Nat.le_refl _) _ | exact ext_drew9 (Below.alloc (Ext.refl _) (Nat.le_refl _) _) | exact Below.alloc (ext_drew9 (Ext.refl _)) (Nat.le_refl _) _)) ((HP2.out.ext (by first | exact Below.alloc (Ext.refl _) (Nat.le_refl _) _ | exact ext_drew9 (Below.alloc (Ext.refl _) (Nat.le_refl _) _) | exact Below.alloc (ext_drew9 (Ext.refl _)) (Nat.le_refl _) _)).snoc _ HGG.out).1 ((HP2.out.ext (by first | exact Below.alloc (Ext.refl _) (Nat.le_refl _) _ | exact ext_drew9 (Below.alloc (Ext.refl _) (Nat.le_refl _) _) | exact Below.alloc (ext_drew9 (Ext.refl _)) (Nat.le_refl _) _)).snoc _ HGG.out).2 HII.out
        | exact (MDone.of2 HR.out rfl (HX4.out.trans (by first | exact Below.alloc (Ext.refl _) (Nat.le_refl _) _ | exact ext_drew9 (Below.alloc (Ext.refl _) (Nat.le_refl _) _) | exact Below.alloc (ext_drew9 (Ext.refl _)) (Nat.le_refl _) _)) ((HP2.out.ext (by first | exact Below.alloc (Ext.refl _) (Nat.le_refl _) _ | exact ext_drew9 (Below.alloc (Ext.refl _) (Nat.le_refl _) _) | exact Below.alloc (ext_drew9 (Ext.refl _)) (Nat.le_refl _) _)).snoc _ HGG.out).1 ((HP2.out.ext (by first | exact Below.alloc (Ext.refl _) (Nat.le_refl _) _ | exact ext_drew9 (Below.alloc (Ext.refl _) (Nat.le_refl _) _) | exact Below.alloc (ext_drew9 (Ext.refl _)) (Nat.le_refl _) _)).snoc _ HGG.out).2 HII.out).drew

end Go.Proofs.YtkpcjdhnbjkaaaaDoor

/- Package book: an op that names a job or a node that is none. -/
namespace Go.Proofs.YtkpcjdhnbjkaaaaDoor
open Go.RowKit

/-- Whether an op names a job, or a node, that is none. -/
def lacksS (s : St) (o : OpN) : Bool :=
  if o.1 = 2 ∨ o.1 = 9 ∨ o.1 = 10 ∨ o.1 = 11 ∨ o.1 = 12 ∨ o.1 = 13 ∨ o.1 = 14 ∨ o.1 = 15 then !inR o.2.1 1 s.jobs.length
  else if o.1 = 7 ∨ o.1 = 8 ∨ o.1 = 16 ∨ o.1 = 17 ∨ o.1 = 18 ∨ o.1 = 19 then !inR o.2.1 0 ((s.nodes.length : Int) - 1)
  else if o.1 = 20 then !inR o.2.1 1 s.jobs.length || !inR o.2.2.1 0 ((s.nodes.length : Int) - 1) else false

set_option maxRecDepth 100000 in
set_option maxHeartbeats 4000000 in
theorem lacks_any (F : Fp) (w : World) (g : Nat) (c : Cf) (vn vj : Value) (s : St) (z : Nat) (a1 a2 a3 a4 a5 a6 : Int) (h : Pg F w g c vn vj s) (hz : z < 22) :
    Calls Tryd.prog 35 #[.pointer (some ⟨g, 0, none⟩), .agg #[.int .i64 (z : Int), .int .i64 a1, .int .i64 a2, .int .i64 a3, .int .i64 a4, .int .i64 a5, .int .i64 a6]] w fun e w' => e = .returned (.bool (lacksS s ((z : Int), a1, a2, a3, a4, a5, a6))) ∧ Ext w w' := by
  have hx : Ext w (w.alloc (.cells #[.int .i64 (z : Int), .int .i64 a1, .int .i64 a2, .int .i64 a3, .int .i64 a4, .int .i64 a5, .int .i64 a6] 32)) := (Below.refl _ _).alloc (Nat.le_refl _) _
  have HX := Lib.hid hx
  have HJ := Lib.hid (isJob_any F _ g c vn vj s a1 (h.ext hx))
  have HN := Lib.hid fun a => isNode_any F _ g c vn vj s a (h.ext hx)
  have hl : g ≠ w.heap.size := by have := h.lt; omega
  unfold lacksS
  dsimp only
  generalize (s.jobs.length : Int) = nj at *
  generalize (s.nodes.length : Int) - 1 = nn at *
  clear h hx
  match z, hz with
  | 0, _ | 1, _ | 3, _ | 4, _ | 5, _ | 6, _ | 21, _ =>
    go_enter Tryd.func35, Tryd.ntmps35
    go_wp2
    go_ret
    exact ⟨rfl, HX.out⟩
  | 2, _ | 9, _ | 10, _ | 11, _ | 12, _ | 13, _ | 14, _ | 15, _ =>
    go_enter Tryd.func35, Tryd.ntmps35
    go_wp2_with fail
    refine HJ.out.mono ?_
    rintro e1 w1 ⟨rfl, rfl⟩
    go_wp2
    go_ret
    exact ⟨rfl, HX.out⟩
  | 7, _ | 8, _ | 16, _ | 17, _ | 18, _ | 19, _ =>
    go_enter Tryd.func35, Tryd.ntmps35
    go_wp2_with fail
    refine (HN.out _).mono ?_
    rintro e1 w1 ⟨rfl, rfl⟩
    go_wp2
    go_ret
    exact ⟨rfl, HX.out⟩
  | 20, _ =>
    cases hj : inR a1 1 nj
    · go_enter Tryd.func35, Tryd.ntmps35
      go_wp2_with fail
      refine HJ.out.mono ?_
      rintro e1 w1 ⟨rfl, rfl⟩
      go_wp2
      go_ret
      exact ⟨rfl, HX.out⟩
    · go_enter Tryd.func35, Tryd.ntmps35
      go_wp2_with fail
      refine HJ.out.mono ?_
      rintro e1 w1 ⟨rfl, rfl⟩
      go_wp2_with fail
      refine (HN.out _).mono ?_
      rintro e1 w1 ⟨rfl, rfl⟩
      go_wp2
      go_ret
      exact ⟨rfl, HX.out⟩
  | n + 22, h => exact absurd h (by omega)

end Go.Proofs.YtkpcjdhnbjkaaaaDoor

/- Package book: the table of the ops' functions. -/
namespace Go.Proofs.YtkpcjdhnbjkaaaaDoor
open Go.RowKit

/-- The functions of the ops, by their kinds. -/
def doA : Array Value := #[.nilFunc, .func (.func 43) #[] #[], .func (.func 44) #[] #[], .func (.func 45) #[] #[], .func (.func 46) #[] #[], .func (.func 47) #[] #[], .func (.func 48) #[] #[], .func (.func 49) #[] #[], .func (.func 50) #[] #[], .func (.func 51) #[] #[], .func (.func 52) #[] #[], .func (.func 53) #[] #[], .func (.func 54) #[] #[], .func (.func 55) #[] #[], .func (.func 56) #[] #[], .func (.func 57) #[] #[], .func (.func 58) #[] #[], .func (.func 59) #[] #[], .func (.func 60) #[] #[], .func (.func 61) #[] #[], .func (.func 62) #[] #[], .func (.func 63) #[] #[]]
def doF (z : Nat) : FuncId := (#[43, 44, 45, 46, 47, 48, 49, 50, 51, 52, 53, 54, 55, 56, 57, 58, 59, 60, 61, 62, 63] : Array FuncId).getD (z - 1) 0
theorem doA_get {z : Nat} (h1 : 1 ≤ z) (h2 : z < 22) : doA[z]? = some (.func (.func (doF z)) #[] #[]) := by
  match z, h1, h2 with
  | 1, _, _ | 2, _, _ | 3, _, _ | 4, _, _ | 5, _, _ | 6, _, _ | 7, _, _ | 8, _, _ | 9, _, _ | 10, _, _ | 11, _, _ | 12, _, _ | 13, _, _ | 14, _, _ | 15, _, _ | 16, _, _ | 17, _, _ | 18, _, _ | 19, _, _ | 20, _, _ | 21, _, _ => rfl
  | n + 22, _, h => exact absurd h (by omega)
theorem doF_cases {z : Nat} (h1 : 1 ≤ z) (h2 : z < 22) : doF z = 43 ∨ doF z = 44 ∨ doF z = 45 ∨ doF z = 46 ∨ doF z = 47 ∨ doF z = 48 ∨ doF z = 49 ∨ doF z = 50 ∨ doF z = 51 ∨ doF z = 52 ∨ doF z = 53 ∨ doF z = 54 ∨ doF z = 55 ∨ doF z = 56 ∨ doF z = 57 ∨ doF z = 58 ∨ doF z = 59 ∨ doF z = 60 ∨ doF z = 61 ∨ doF z = 62 ∨ doF z = 63 := by
  match z, h1, h2 with
  | 1, _, _ | 2, _, _ | 3, _, _ | 4, _, _ | 5, _, _ | 6, _, _ | 7, _, _ | 8, _, _ | 9, _, _ | 10, _, _ | 11, _, _ | 12, _, _ | 13, _, _ | 14, _, _ | 15, _, _ | 16, _, _ | 17, _, _ | 18, _, _ | 19, _, _ | 20, _, _ | 21, _, _ => decide +revert
  | n + 22, _, h => exact absurd h (by omega)
theorem doA_one : doA.all (·.oneCell') = true := by decide +kernel
theorem doA_size : doA.size = 22 := rfl
theorem nilA_size : (#[.nilFunc, .nilFunc, .nilFunc, .nilFunc, .nilFunc, .nilFunc, .nilFunc, .nilFunc, .nilFunc, .nilFunc, .nilFunc, .nilFunc, .nilFunc, .nilFunc, .nilFunc, .nilFunc, .nilFunc, .nilFunc, .nilFunc, .nilFunc, .nilFunc, .nilFunc] : Array Value).size = 22 := rfl

set_option maxRecDepth 100000 in
theorem doers_any (w : World) :
    Calls Tryd.prog 36 #[] w fun e w' => e = .returned (.agg doA) ∧ Ext w w' := by
  have hb := Blk.new w 68 #[.nilFunc, .nilFunc, .nilFunc, .nilFunc, .nilFunc, .nilFunc, .nilFunc, .nilFunc, .nilFunc, .nilFunc, .nilFunc, .nilFunc, .nilFunc, .nilFunc, .nilFunc, .nilFunc, .nilFunc, .nilFunc, .nilFunc, .nilFunc, .nilFunc, .nilFunc]
  have hx : Ext w (w.alloc (.cells #[.nilFunc, .nilFunc, .nilFunc, .nilFunc, .nilFunc, .nilFunc, .nilFunc, .nilFunc, .nilFunc, .nilFunc, .nilFunc, .nilFunc, .nilFunc, .nilFunc, .nilFunc, .nilFunc, .nilFunc, .nilFunc, .nilFunc, .nilFunc, .nilFunc, .nilFunc] 68)) := (Below.refl _ _).alloc (Nat.le_refl _) _
  have hi : (Tryd.prog.info? 68).map (·.size) = some doA.size := by kernel_rfl
  have HB := Lib.hid hb
  have HX := Lib.hid hx
  have HI := Lib.hid hi
  clear hb hx hi
  go_enter Tryd.func36, Tryd.ntmps36
  go_wp2_with (refine wpList_storeB rfl 68 _ _ rfl w.heap.size doA rfl rfl 68 _ HB.out HI.out rfl doA_one w.heap.size w HX.out (Nat.le_refl _) ?_; intro w2 hb2 hx2)
  exact bodyPost_ret (results_cell_row rfl _ _ w.heap.size 68 _ (0, 0) _ rfl hb2 rfl rfl (by kernel_rfl)) rfl ⟨rfl, hx2⟩

end Go.Proofs.YtkpcjdhnbjkaaaaDoor

/- Ops as values. -/
namespace Go.Proofs.YtkpcjdhnbjkaaaaDoor
open Go.RowKit

/-- A name as a string. -/
def strB (l : List UInt8) : ByteArray := ⟨l.toArray⟩
theorem strB_list (l : List UInt8) : (strB l).data.toList = l := by simp [strB]
theorem strB_back (s : ByteArray) : strB s.data.toList = s := by simp [strB]
/-- An op as a value. -/
def opV (o : OpN) : Value := .agg #[.int .i64 o.1, .int .i64 o.2.1, .int .i64 o.2.2.1, .int .i64 o.2.2.2.1, .int .i64 o.2.2.2.2.1, .int .i64 o.2.2.2.2.2.1, .int .i64 o.2.2.2.2.2.2]

theorem kind_cases {k : Int} (h : 1 ≤ k ∧ k ≤ 21) : k = 1 ∨ k = 2 ∨ k = 3 ∨ k = 4 ∨ k = 5 ∨ k = 6 ∨ k = 7 ∨ k = 8 ∨ k = 9 ∨ k = 10 ∨ k = 11 ∨ k = 12 ∨ k = 13 ∨ k = 14 ∨ k = 15 ∨ k = 16 ∨ k = 17 ∨ k = 18 ∨ k = 19 ∨ k = 20 ∨ k = 21 := by omega

theorem many_ne {k : Int} (h : ¬ (1 ≤ k ∧ k ≤ 21)) : manyK k = 1 := by
  rw [manyK, if_neg (by omega), if_neg (by omega), if_neg (by omega)]

end Go.Proofs.YtkpcjdhnbjkaaaaDoor

/- Layer 8: when an op is right, number for number. -/
namespace Go.Proofs.YtkpcjdhnbjkaaaaDoor
open Go.RowKit

def numAtO (o : OpN) (i : Nat) : Int := (numsO o).getD i 0
def okAtO (o : OpN) (i : Nat) : Bool := decide (0 ≤ numAtO o i ∧ numAtO o i ≤ 1000000) && (decide (i < manyK o.1) || numAtO o i == 0)
theorem nums_get (o : OpN) {i : Nat} (h : i < 6) : (numsO o)[i]? = some (numAtO o i) := by
  rw [numAtO, List.getD_eq_getElem?_getD, List.getElem?_eq_getElem (by rw [numsO_len]; exact h), Option.getD_some]
theorem right_of_ok (o : OpN) : rightO o = true ↔ (1 ≤ o.1 ∧ o.1 ≤ 21) ∧ ∀ i, i < 6 → okAtO o i = true := by
  rw [rightO_iff]
  constructor
  · rintro ⟨h1, h2, h3⟩
    refine ⟨h1, fun i hi => ?_⟩
    have hg := nums_get o hi
    have hin := h2 _ (List.mem_of_getElem? hg)
    rw [okAtO, decide_eq_true hin, Bool.true_and]
    by_cases hm : i < manyK o.1
    · rw [decide_eq_true hm]
      rfl
    · have h0 : numAtO o i = 0 := h3 _ (by
        rw [List.mem_drop_iff_getElem]
        obtain ⟨hlt, he⟩ := List.getElem?_eq_some_iff.1 hg
        exact ⟨i - manyK o.1, by omega, by rw [← he]; congr 1; omega⟩)
      rw [h0]
      simp
  · rintro ⟨h1, h2⟩
    refine ⟨h1, fun n hn => ?_, fun n hn => ?_⟩
    · obtain ⟨i, hi, he⟩ := List.getElem_of_mem hn
      have hg := nums_get o (i := i) hi
      rw [List.getElem?_eq_getElem hi, he] at hg
      injection hg with hg
      have := h2 i hi
      rw [okAtO, Bool.and_eq_true, decide_eq_true_eq, ← hg] at this
      exact this.1
    · rw [List.mem_drop_iff_getElem] at hn
      obtain ⟨i, hi, he⟩ := hn
      have hi6 : i + manyK o.1 < 6 := hi
      have hg := nums_get o hi6
      have he' : (numsO o)[i + manyK o.1]'hi6 = n := by rw [← he]; congr 1; omega
      rw [List.getElem?_eq_getElem hi6, he'] at hg
      injection hg with hg
      have := h2 _ hi6
      rw [okAtO, Bool.and_eq_true, Bool.or_eq_true, decide_eq_true_eq, beq_iff_eq, ← hg] at this
      rcases this.2 with h | h
      · have := of_decide_eq_true h
        omega
      · exact h
theorem right_no {o : OpN} {i : Nat} (h : i < 6) (hn : okAtO o i = false) : rightO o = false := by
  rw [Bool.eq_false_iff]
  intro hr
  have := ((right_of_ok o).1 hr).2 i h
  rw [hn] at this
  cases this
theorem right_all {o : OpN} (h : ∀ i, i < 6 → okAtO o i = true) : rightO o = decide (1 ≤ o.1 ∧ o.1 ≤ 21) := by
  by_cases hk : 1 ≤ o.1 ∧ o.1 ≤ 21
  · rw [decide_eq_true hk]
    exact (right_of_ok o).2 ⟨hk, h⟩
  · rw [decide_eq_false hk, Bool.eq_false_iff]
    exact fun hr => hk ((right_of_ok o).1 hr).1

end Go.Proofs.YtkpcjdhnbjkaaaaDoor

/- Layer 9: what the package-level variable holds that package ops reads. -/
namespace Go.Proofs.YtkpcjdhnbjkaaaaDoor
open Go.RowKit

theorem var_ext {P : Program} {w w' : World} {n : String} {g : Nat} {cs : Array Value} (hg : P.globalNamed n = some g) (h : w.var? P n = some cs) (hx : Ext w w') : w'.var? P n = some cs := by
  have hlt : g < w.heap.size := by
    simp only [World.var?, hg, Option.bind_some] at h
    rcases Nat.lt_or_ge g w.heap.size with h' | h'
    · exact h'
    · rw [Array.getElem?_eq_none h'] at h
      simp at h
  rw [← h]
  unfold World.var?
  rw [hg]
  simp only [Option.bind_some]
  rw [hx.block g hlt]

/-- How many numbers, as the program's own table has it: there is no kind 0. -/
def cntK (k : Nat) : Int := if k = 0 then 0 else (manyK (k : Int) : Int)
def cntL : List Int := (List.range 22).map fun (k : Nat) => cntK k

theorem Tryd.gCounts : Tryd.prog.globalNamed "dunnage/ops.counts" = some 0 := by kernel_rfl

/-- What the variable holds. -/
structure Laid (w : World) : Prop where
  counts : w.var? Tryd.prog "dunnage/ops.counts" = some (cntL.map fun z => Value.int .i64 z).toArray
theorem Laid.ext {w w' : World} (h : Laid w) (hx : Ext w w') : Laid w' := ⟨var_ext Tryd.gCounts h.counts hx⟩
theorem Laid.count {w : World} (h : Laid w) (k : Nat) (hk : k < 22) : w.cell? ⟨0, k, none⟩ = some (.int .i64 (cntK k)) := by
  rw [World.var?_cell Tryd.gCounts h.counts k]
  simp [cntL, hk]
theorem Laid.ltc {w : World} (h : Laid w) : 0 < w.heap.size := World.block_lt_of_cell? w _ (h.count 0 (by decide))
theorem cntK_pos {k : Nat} (h : 1 ≤ k) : cntK k = (manyK (k : Int) : Int) := by rw [cntK, if_neg (by omega)]


end Go.Proofs.YtkpcjdhnbjkaaaaDoor

/- Package ops: kinds, an op's numbers, whether it is right. -/
namespace Go.Proofs.YtkpcjdhnbjkaaaaDoor
open Go.RowKit

set_option maxRecDepth 100000 in
theorem isKind_any (k : Int) (w : World) :
    Calls Tryd.prog 39 #[.int .i64 k] w fun e w' => e = .returned (.bool (decide (1 ≤ k ∧ k ≤ 21))) ∧ w = w' := by
  by_cases h1 : 0 < k
  · by_cases h2 : k < 22
    · have d1 : decide (0 < k) = true := decide_eq_true h1
      have d2 : decide (k < 22) = true := decide_eq_true h2
      rw [decide_eq_true (show 1 ≤ k ∧ k ≤ 21 by omega)]
      clear h1 h2
      go_enter Tryd.func39, Tryd.ntmps39
      go_wp2
      go_ret
      exact ⟨rfl, rfl⟩
    · have d1 : decide (0 < k) = true := decide_eq_true h1
      have d2 : decide (k < 22) = false := decide_eq_false h2
      rw [decide_eq_false (show ¬ (1 ≤ k ∧ k ≤ 21) by omega)]
      clear h1 h2
      go_enter Tryd.func39, Tryd.ntmps39
      go_wp2
      go_ret
      exact ⟨rfl, rfl⟩
  · have d1 : decide (0 < k) = false := decide_eq_false h1
    rw [decide_eq_false (show ¬ (1 ≤ k ∧ k ≤ 21) by omega)]
    clear h1
    go_enter Tryd.func39, Tryd.ntmps39
    go_wp2
    go_ret
    exact ⟨rfl, rfl⟩

/-- An op's six numbers as an array. -/
def arrO (o : OpN) : Array Value := #[.int .i64 o.2.1, .int .i64 o.2.2.1, .int .i64 o.2.2.2.1, .int .i64 o.2.2.2.2.1, .int .i64 o.2.2.2.2.2.1,  .int .i64 o.2.2.2.2.2.2]
def arrV (o : OpN) : Value := .agg (arrO o)
theorem arrO_get (o : OpN) {i : Nat} (h : i < 6) : (arrO o)[i]? = some (.int .i64 (numAtO o i)) := by
  rcases (show i = 0 ∨ i = 1 ∨ i = 2 ∨ i = 3 ∨ i = 4 ∨ i = 5 by omega) with rfl | rfl | rfl | rfl | rfl | rfl <;> rfl

set_option maxRecDepth 100000 in
theorem numbers_any (o : OpN) (w : World) :
    Calls Tryd.prog 40 #[opV o] w fun e w' => e = .returned (arrV o) ∧ Ext w w' := by
  obtain ⟨k, a, b, c, d, e, f⟩ := o
  unfold opV arrV arrO
  dsimp only
  go_enter Tryd.func40, Tryd.ntmps40
  go_wp2
  have hg : (w.alloc (.cells #[.int .i64 k, .int .i64 a, .int .i64 b, .int .i64 c, .int .i64 d, .int .i64 e, .int .i64 f] 32)).heap.size = w.heap.size + 1 := by simp
  have h9 := Blk.new (w.alloc (.cells #[.int .i64 k, .int .i64 a, .int .i64 b, .int .i64 c, .int .i64 d, .int .i64 e, .int .i64 f] 32)) 71 #[.int .i64 a, .int .i64 b, .int .i64 c, .int .i64 d, .int .i64 e, .int .i64 f]
  rw [hg] at h9
  exact bodyPost_ret (results_cell_row rfl _ _ (w.heap.size + 1) 71 _ (0, 0) _ rfl h9 rfl rfl (by kernel_rfl)) rfl ⟨rfl, ((Below.refl _ w).alloc (Nat.le_refl _) _).alloc (by simp) _⟩

theorem ok_step {o : OpN} {n : Nat} (h : ∀ j, j < n → okAtO o j = true) (hn : okAtO o n = true) : ∀ j, j < n + 1 → okAtO o j = true := fun j hj => by
  rcases Nat.lt_or_ge j n with h' | h'
  · exact h j h'
  · have : j = n := by omega
    rw [this]
    exact hn
theorem right_kind {o : OpN} (h : ¬ (1 ≤ o.1 ∧ o.1 ≤ 21)) : rightO o = false := by
  rw [Bool.eq_false_iff]
  exact fun hr => h (rightO_iff.1 hr).1

set_option maxRecDepth 100000 in
set_option maxHeartbeats 4000000 in
theorem Right_any (o : OpN) (w : World) (hL : Laid w) :
    Calls Tryd.prog 34 #[opV o] w fun e w' => e = .returned (.bool (rightO o)) ∧ Ext w w' := by
  have HKN := Lib.hid fun w' => numbers_any o w'
  have HKK := Lib.hid fun w' => isKind_any o.1 w'
  have HNO := Lib.hid (fun (i : Nat) (h : i < 6) (hn : okAtO o i = false) => right_no h hn)
  have HYES := Lib.hid (right_all (o := o))
  have HKD := Lib.hid (right_kind (o := o))
  have hok : ∀ i : Nat, okAtO o i = (decide (0 ≤ numAtO o i ∧ numAtO o i ≤ 1000000) && (decide (i < manyK o.1) || numAtO o i == 0)) := fun i => rfl
  have HOK := Lib.hid hok
  have HM6 := Lib.hid (manyK_le o.1)
  have HLD := Lib.hid hL
  clear hok hL
  obtain ⟨k, a, b, c, d, e, f⟩ := o
  generalize ho : ((k, a, b, c, d, e, f) : OpN) = o at *
  have hk : o.1 = k := by rw [← ho]
  have hv : opV o = .agg #[.int .i64 k, .int .i64 a, .int .i64 b, .int .i64 c, .int .i64 d, .int .i64 e, .int .i64 f] := by rw [← ho]; rfl
  have hav : arrV o = .agg (arrO o) := rfl
  have HAO := Lib.hid (fun (i : Nat) (h : i < 6) => arrO_get o h)
  rw [hk] at HKK HKD HYES HOK HM6
  rw [hv, hav] at HKN
  rw [hv]
  generalize arrO o = ao at *
  have hE : Ext w (w.alloc (.cells #[.int .i64 k, .int .i64 a, .int .i64 b, .int .i64 c, .int .i64 d, .int .i64 e, .int .i64 f] 32)) := (Below.refl _ _).alloc (Nat.le_refl _) _
  have hbk := Blk.new w 32 #[.int .i64 k, .int .i64 a, .int .i64 b, .int .i64 c, .int .i64 d, .int .i64 e, .int .i64 f]
  clear ho hv hav hk
  have HE := Lib.hid hE
  have HBK := Lib.hid hbk
  clear hE hbk
  by_cases h : 1 ≤ k ∧ k ≤ 21
  · obtain ⟨kn, rfl⟩ : ∃ n : Nat, k = (n : Int) := ⟨k.toNat, by omega⟩
    have hk1 : 1 ≤ kn := by omega
    have hk2 : kn < 22 := by omega
    rw [decide_eq_true h] at HKK HYES
    have HKR := Lib.hid h
    clear HKD h
    go_enter Tryd.func34, Tryd.ntmps34
    go_wp2_with fail
    refine (HKK.out _).mono ?_
    rintro e1 w1 ⟨rfl, rfl⟩
    go_wp2_with fail
    refine (HKN.out _).mono ?_
    rintro e2 w2 ⟨rfl, hx2⟩
    have HB2 := Lib.hid (HBK.out.ext hx2)
    have HX2 := Lib.hid (HE.out.trans hx2)
    have c0 : w2.cell? ⟨w.heap.size, 0, none⟩ = some (.int .i64 (kn : Int)) := HB2.out.cell 0
    have cc : w2.cell? ⟨0, kn, none⟩ = some (.int .i64 (manyK (kn : Int) : Int)) := by
      rw [← cntK_pos hk1]
      exact (HLD.out.ext HX2.out).count kn hk2
    generalize manyK (kn : Int) = mk at *
    obtain ⟨mi, hmi⟩ : ∃ mi : Int, mi = (mk : Int) := ⟨_, rfl⟩
    rw [← hmi] at cc
    have HMI := Lib.hid hmi
    have hix : ∀ n : Nat, n < 6 → (Instr.index 71 (.agg ao) (.int .i64 n)).run Tryd.prog w2 = .ok (.int .i64 (numAtO o n)) w2 := fun n hn => run_index_arr _ 3 6 _ _ n _ Tryd.underlying71 (Tryd.sizeOf3 w2) (Tryd.isAgg3 w2) hn (HAO.out n hn)
    have HIX := Lib.hid hix
    clear hx2 HE HBK hmi hix
    go_wp2
    go_loop [11] (fun i => ∃ n : Nat, i = .int .i64 n ∧ n ≤ 6 ∧ Hid (∀ j, j < n → okAtO o j = true)) (fun i => 6 - (intOf i).toNat)
    case atStart => exact ⟨0, rfl, by decide, Lib.hid (fun j hj => absurd hj (Nat.not_lt_zero j))⟩
    case round =>
      obtain ⟨n, rfl, hn, HA⟩ := hrel
      by_cases hlt : n < 6
      · have hokn := HOK.out n
        have hnon := HNO.out n hlt
        have hin6 := HIX.out n hlt
        generalize hx : numAtO o n = x at *
        have l6 : decide ((n : Int) < 6) = true := decide_eq_true (by omega)
        have HLT := Lib.hid hlt
        by_cases h1 : x < 0
        · have HZ := Lib.hid (hnon (by rw [hokn, decide_eq_false (by omega)]; rfl))
          have d1 : decide (x < 0) = true := decide_eq_true h1
          clear hokn hnon hx h1 hn
          go_wp2
          go_ret
          exact ⟨by rw [HZ.out]; rfl, HX2.out⟩
        · have d1 : decide (x < 0) = false := decide_eq_false h1
          by_cases h2 : 1000000 < x
          · have HZ := Lib.hid (hnon (by rw [hokn, decide_eq_false (by omega)]; rfl))
            have d2 : decide (1000000 < x) = true := decide_eq_true h2
            clear hokn hnon hx h1 h2 hn
            go_wp2
            go_ret
            exact ⟨by rw [HZ.out]; rfl, HX2.out⟩
          · have d2 : decide (1000000 < x) = false := decide_eq_false h2
            have hin : decide (0 ≤ x ∧ x ≤ 1000000) = true := decide_eq_true (by omega)
            by_cases h3 : n < mk
            · have HY := Lib.hid (ok_step HA.out (by rw [hokn, hin, decide_eq_true h3]; rfl))
              have d3 : decide (mi ≤ (n : Int)) = false := decide_eq_false (by have := HMI.out; omega)
              clear hokn hnon hx h1 h2 h3 hin hn
              go_wp2
              go_round
              case rel => exact ⟨n + 1, by go_num, HLT.out, HY⟩
              case measure => have := HLT.out; simp [intOf]; omega
            · have d3 : decide (mi ≤ (n : Int)) = true := decide_eq_true (by have := HMI.out; omega)
              by_cases h4 : x = 0
              · have HY := Lib.hid (ok_step HA.out (by rw [hokn, hin, h4]; simp))
                have d4 : (x != 0) = false := by simp [h4]
                clear hokn hnon hx h1 h2 h3 hin h4 hn
                go_wp2
                go_round
                case rel => exact ⟨n + 1, by go_num, HLT.out, HY⟩
                case measure => have := HLT.out; simp [intOf]; omega
              · have HZ := Lib.hid (hnon (by
                  rw [hokn, hin, decide_eq_false h3]
                  simpa using h4))
                have d4 : (x != 0) = true := by simp [h4]
                clear hokn hnon hx h1 h2 h3 hin h4 hn
                go_wp2
                go_ret
                exact ⟨by rw [HZ.out]; rfl, HX2.out⟩
      · obtain rfl : n = 6 := by omega
        have HZ := Lib.hid (HYES.out HA.out)
        go_wp2
        go_ret
        exact ⟨by rw [HZ.out]; rfl, HX2.out⟩
  · rw [decide_eq_false h] at HKK
    have HZ := Lib.hid (HKD.out h)
    clear HKD h HYES
    go_enter Tryd.func34, Tryd.ntmps34
    go_wp2_with fail
    refine (HKK.out _).mono ?_
    rintro e1 w1 ⟨rfl, rfl⟩
    go_wp2
    go_ret
    exact ⟨by rw [HZ.out]; rfl, HE.out⟩

end Go.Proofs.YtkpcjdhnbjkaaaaDoor

/- Package book: an op is done. -/
namespace Go.Proofs.YtkpcjdhnbjkaaaaDoor
open Go.RowKit

set_option maxRecDepth 100000 in
set_option maxHeartbeats 4000000 in
theorem do_wrong (F : Fp) (w : World) (g : Nat) (c : Cf) (vn vj : Value) (s : St) (z : Nat) (a1 a2 a3 a4 a5 a6 : Int) (h : Pg F w g c vn vj s) (hL : Laid w) (hz2 : z < 22) (hr : rightO ((z : Int), a1, a2, a3, a4, a5, a6) = false) :
    Calls Tryd.prog 22 #[.pointer (some ⟨g, 0, none⟩), .agg #[.int .i64 (z : Int), .int .i64 a1, .int .i64 a2, .int .i64 a3, .int .i64 a4, .int .i64 a5, .int .i64 a6]] w fun e w' => e = .returned (.int .i64 ((s, 1) : Res9).2) ∧ (∃ vn vj, Pg (F.since w w') w' g c vn vj ((s, 1) : Res9).1) ∧ Chg F w w' := by
  obtain ⟨hx, hbk⟩ := boxOp w #[.int .i64 (z : Int), .int .i64 a1, .int .i64 a2, .int .i64 a3, .int .i64 a4, .int .i64 a5, .int .i64 a6]
  obtain ⟨W1, hW1⟩ : ∃ W1, W1 = w.alloc (.cells #[.int .i64 (z : Int), .int .i64 a1, .int .i64 a2, .int .i64 a3, .int .i64 a4, .int .i64 a5, .int .i64 a6] 32) := ⟨_, rfl⟩
  rw [← hW1] at hx hbk
  have HR0 := Lib.hid (Right_any ((z : Int), a1, a2, a3, a4, a5, a6) W1 (hL.ext hx))
  have HX := Lib.hid hx
  have HP := Lib.hid (h.ext hx)
  have HB := Lib.hid hbk
  have HLK := Lib.hid fun W hx => lacks_any F W g c vn vj s z a1 a2 a3 a4 a5 a6 (HP.out.ext hx) hz2
  rw [show opV ((z : Int), a1, a2, a3, a4, a5, a6) = .agg #[.int .i64 (z : Int), .int .i64 a1, .int .i64 a2, .int .i64 a3, .int .i64 a4, .int .i64 a5, .int .i64 a6] from rfl] at HR0
  rw [hr] at HR0
  clear hx hbk h hL hr
  go_enter Tryd.func22, Tryd.ntmps22
  go_wp2_with fail
  rw [← hW1]
  clear hW1
  refine HR0.out.mono ?_
  rintro e1 w1 ⟨rfl, hx1⟩
  have HX1 := Lib.hid hx1
  have HB1 := Lib.hid (HB.out.ext hx1)
  clear hx1
  have HP1 := Lib.hid (HP.out.ext HX1.out)
  go_wp2
  go_ret
  exact MDone.of (res := (s, 1)) rfl rfl HP1.out (Chg.of_ext (HX.out.trans HX1.out))

set_option maxRecDepth 100000 in
set_option maxHeartbeats 4000000 in
theorem do_lacks (F : Fp) (w : World) (g : Nat) (c : Cf) (vn vj : Value) (s : St) (z : Nat) (a1 a2 a3 a4 a5 a6 : Int) (h : Pg F w g c vn vj s) (hL : Laid w) (hz2 : z < 22) (hr : rightO ((z : Int), a1, a2, a3, a4, a5, a6) = true) (hl : lacksS s ((z : Int), a1, a2, a3, a4, a5, a6) = true) :
    Calls Tryd.prog 22 #[.pointer (some ⟨g, 0, none⟩), .agg #[.int .i64 (z : Int), .int .i64 a1, .int .i64 a2, .int .i64 a3, .int .i64 a4, .int .i64 a5, .int .i64 a6]] w fun e w' => e = .returned (.int .i64 ((s, 4) : Res9).2) ∧ (∃ vn vj, Pg (F.since w w') w' g c vn vj ((s, 4) : Res9).1) ∧ Chg F w w' := by
  obtain ⟨hx, hbk⟩ := boxOp w #[.int .i64 (z : Int), .int .i64 a1, .int .i64 a2, .int .i64 a3, .int .i64 a4, .int .i64 a5, .int .i64 a6]
  obtain ⟨W1, hW1⟩ : ∃ W1, W1 = w.alloc (.cells #[.int .i64 (z : Int), .int .i64 a1, .int .i64 a2, .int .i64 a3, .int .i64 a4, .int .i64 a5, .int .i64 a6] 32) := ⟨_, rfl⟩
  rw [← hW1] at hx hbk
  have HR0 := Lib.hid (Right_any ((z : Int), a1, a2, a3, a4, a5, a6) W1 (hL.ext hx))
  have HX := Lib.hid hx
  have HP := Lib.hid (h.ext hx)
  have HB := Lib.hid hbk
  have HLK := Lib.hid fun W hx => lacks_any F W g c vn vj s z a1 a2 a3 a4 a5 a6 (HP.out.ext hx) hz2
  rw [show opV ((z : Int), a1, a2, a3, a4, a5, a6) = .agg #[.int .i64 (z : Int), .int .i64 a1, .int .i64 a2, .int .i64 a3, .int .i64 a4, .int .i64 a5, .int .i64 a6] from rfl] at HR0
  rw [hr] at HR0
  rw [hl] at HLK
  clear hx hbk h hL hr hl
  go_enter Tryd.func22, Tryd.ntmps22
  go_wp2_with fail
  rw [← hW1]
  clear hW1
  refine HR0.out.mono ?_
  rintro e1 w1 ⟨rfl, hx1⟩
  have HX1 := Lib.hid hx1
  have HB1 := Lib.hid (HB.out.ext hx1)
  clear hx1
  have q0 : w1.cell? ⟨w.heap.size, 0, none⟩ = some (.int .i64 (z : Int)) := HB1.out.cell 0
  have q1 : w1.cell? ⟨w.heap.size, 1, none⟩ = some (.int .i64 a1) := HB1.out.cell 1
  have q2 : w1.cell? ⟨w.heap.size, 2, none⟩ = some (.int .i64 a2) := HB1.out.cell 2
  have q3 : w1.cell? ⟨w.heap.size, 3, none⟩ = some (.int .i64 a3) := HB1.out.cell 3
  have q4 : w1.cell? ⟨w.heap.size, 4, none⟩ = some (.int .i64 a4) := HB1.out.cell 4
  have q5 : w1.cell? ⟨w.heap.size, 5, none⟩ = some (.int .i64 a5) := HB1.out.cell 5
  have q6 : w1.cell? ⟨w.heap.size, 6, none⟩ = some (.int .i64 a6) := HB1.out.cell 6
  go_wp2_with fail
  refine (HLK.out _ HX1.out).mono ?_
  rintro e2 w2 ⟨rfl, hx2⟩
  have HX2 := Lib.hid (HX1.out.trans hx2)
  have HP1 := Lib.hid (HP.out.ext HX2.out)
  clear hx2
  go_wp2
  go_ret
  exact MDone.of (res := (s, 4)) rfl rfl HP1.out (Chg.of_ext (HX.out.trans HX2.out))

set_option maxRecDepth 100000 in
set_option maxHeartbeats 4000000 in
theorem do_right (F : Fp) (w : World) (g : Nat) (c : Cf) (vn vj : Value) (s : St) (z : Nat) (a1 a2 a3 a4 a5 a6 : Int) (res : Res9) (h : Pg F w g c vn vj s) (hL : Laid w) (hz2 : z < 22) (hz1 : 1 ≤ z) (hr : rightO ((z : Int), a1, a2, a3, a4, a5, a6) = true) (hl : lacksS s ((z : Int), a1, a2, a3, a4, a5, a6) = false) (HC : ∀ W, Ext w W → Calls Tryd.prog (doF z) #[.pointer (some ⟨g, 0, none⟩), .agg #[.int .i64 (z : Int), .int .i64 a1, .int .i64 a2, .int .i64 a3, .int .i64 a4, .int .i64 a5, .int .i64 a6]] W fun e w' => e = .returned (.int .i64 res.2) ∧ (∃ vn vj, Pg (F.since W w') w' g c vn vj res.1) ∧ Chg F W w') :
    Calls Tryd.prog 22 #[.pointer (some ⟨g, 0, none⟩), .agg #[.int .i64 (z : Int), .int .i64 a1, .int .i64 a2, .int .i64 a3, .int .i64 a4, .int .i64 a5, .int .i64 a6]] w fun e w' => e = .returned (.int .i64 res.2) ∧ (∃ vn vj, Pg (F.since w w') w' g c vn vj res.1) ∧ Chg F w w' := by
  obtain ⟨hx, hbk⟩ := boxOp w #[.int .i64 (z : Int), .int .i64 a1, .int .i64 a2, .int .i64 a3, .int .i64 a4, .int .i64 a5, .int .i64 a6]
  obtain ⟨W1, hW1⟩ : ∃ W1, W1 = w.alloc (.cells #[.int .i64 (z : Int), .int .i64 a1, .int .i64 a2, .int .i64 a3, .int .i64 a4, .int .i64 a5, .int .i64 a6] 32) := ⟨_, rfl⟩
  rw [← hW1] at hx hbk
  have HR0 := Lib.hid (Right_any ((z : Int), a1, a2, a3, a4, a5, a6) W1 (hL.ext hx))
  have HX := Lib.hid hx
  have HP := Lib.hid (h.ext hx)
  have HB := Lib.hid hbk
  have HLK := Lib.hid fun W hx => lacks_any F W g c vn vj s z a1 a2 a3 a4 a5 a6 (HP.out.ext hx) hz2
  rw [show opV ((z : Int), a1, a2, a3, a4, a5, a6) = .agg #[.int .i64 (z : Int), .int .i64 a1, .int .i64 a2, .int .i64 a3, .int .i64 a4, .int .i64 a5, .int .i64 a6] from rfl] at HR0
  rw [hr] at HR0
  rw [hl] at HLK
  have HCC := Lib.hid HC
  have HD := Lib.hid fun W => doers_any W
  have HFI := Lib.hid h.isIn
  have HDF := Lib.hid (doF_cases hz1 hz2)
  have HIX : Hid (∀ W : World, (Instr.index 68 (.agg doA) (.int .i64 (z : Int))).run Tryd.prog W = .ok (.func (.func (doF z)) #[] #[]) W) := Lib.hid fun W =>
    run_index_arr _ 67 22 _ _ z _ Tryd.underlying68 (Tryd.sizeOf67 W) (Tryd.isAgg67 W) hz2 (doA_get hz1 hz2)
  clear hx hbk h hL hr hl HC
  go_enter Tryd.func22, Tryd.ntmps22
  go_wp2_with fail
  rw [← hW1]
  clear hW1
  refine HR0.out.mono ?_
  rintro e1 w1 ⟨rfl, hx1⟩
  have HX1 := Lib.hid hx1
  have HB1 := Lib.hid (HB.out.ext hx1)
  clear hx1
  have q0 : w1.cell? ⟨w.heap.size, 0, none⟩ = some (.int .i64 (z : Int)) := HB1.out.cell 0
  have q1 : w1.cell? ⟨w.heap.size, 1, none⟩ = some (.int .i64 a1) := HB1.out.cell 1
  have q2 : w1.cell? ⟨w.heap.size, 2, none⟩ = some (.int .i64 a2) := HB1.out.cell 2
  have q3 : w1.cell? ⟨w.heap.size, 3, none⟩ = some (.int .i64 a3) := HB1.out.cell 3
  have q4 : w1.cell? ⟨w.heap.size, 4, none⟩ = some (.int .i64 a4) := HB1.out.cell 4
  have q5 : w1.cell? ⟨w.heap.size, 5, none⟩ = some (.int .i64 a5) := HB1.out.cell 5
  have q6 : w1.cell? ⟨w.heap.size, 6, none⟩ = some (.int .i64 a6) := HB1.out.cell 6
  go_wp2_with fail
  refine (HLK.out _ HX1.out).mono ?_
  rintro e2 w2 ⟨rfl, hx2⟩
  have HX2 := Lib.hid (HX1.out.trans hx2)
  have HX3 := Lib.hid (HX.out.trans HX2.out)
  have HS4 : Hid (∀ W, Ext w2 W → (fun (W : World) => W.cell? ⟨w.heap.size, 0, none⟩ = some (.int .i64 (z : Int)) ∧ W.cell? ⟨w.heap.size, 1, none⟩ = some (.int .i64 a1) ∧ W.cell? ⟨w.heap.size, 2, none⟩ = some (.int .i64 a2) ∧ W.cell? ⟨w.heap.size, 3, none⟩ = some (.int .i64 a3) ∧ W.cell? ⟨w.heap.size, 4, none⟩ = some (.int .i64 a4) ∧ W.cell? ⟨w.heap.size, 5, none⟩ = some (.int .i64 a5) ∧ W.cell? ⟨w.heap.size, 6, none⟩ = some (.int .i64 a6)) W) := Lib.hid fun W hx => by
    have hb := HB.out.ext (HX2.out.trans hx)
    exact ⟨hb.cell 0, hb.cell 1, hb.cell 2, hb.cell 3, hb.cell 4, hb.cell 5, hb.cell 6⟩
  clear hx2 q0 q1 q2 q3 q4 q5 q6
  generalize doA = da at *
  generalize doF z = df at *
  go_wp2_with fail
  refine held_begin (by kernel_rfl) ?_
  have hHeld0 : True := True.intro
  refine held_more (S' := fun (W : World) => W.cell? ⟨w.heap.size, 0, none⟩ = some (.int .i64 (z : Int)) ∧ W.cell? ⟨w.heap.size, 1, none⟩ = some (.int .i64 a1) ∧ W.cell? ⟨w.heap.size, 2, none⟩ = some (.int .i64 a2) ∧ W.cell? ⟨w.heap.size, 3, none⟩ = some (.int .i64 a3) ∧ W.cell? ⟨w.heap.size, 4, none⟩ = some (.int .i64 a4) ∧ W.cell? ⟨w.heap.size, 5, none⟩ = some (.int .i64 a5) ∧ W.cell? ⟨w.heap.size, 6, none⟩ = some (.int .i64 a6)) (fun _ _ => True.intro) ?_
  have hHeld1 : (fun (W : World) => W.cell? ⟨w.heap.size, 0, none⟩ = some (.int .i64 (z : Int)) ∧ W.cell? ⟨w.heap.size, 1, none⟩ = some (.int .i64 a1) ∧ W.cell? ⟨w.heap.size, 2, none⟩ = some (.int .i64 a2) ∧ W.cell? ⟨w.heap.size, 3, none⟩ = some (.int .i64 a3) ∧ W.cell? ⟨w.heap.size, 4, none⟩ = some (.int .i64 a4) ∧ W.cell? ⟨w.heap.size, 5, none⟩ = some (.int .i64 a5) ∧ W.cell? ⟨w.heap.size, 6, none⟩ = some (.int .i64 a6)) _ := HS4.out _ (ext_drew9 (Ext.refl _))
  clear hHeld0
  refine held_take (i := 1) (v := ?_) rfl (by kernel_rfl) (by kernel_rfl) (by kernel_rfl) (by rfl) (by first | assumption | exact True.intro) ?_ ?_
  rotate_left
  · (intro w hSw; (try dsimp only at hSw); go_simp; (try with_reducible rfl))
  try simp only [Act.put, List.setIfInBounds_toArray, List.set_cons_zero, List.set_cons_succ]
  refine held_take (i := 2) (v := ?_) rfl (by kernel_rfl) (by kernel_rfl) (by kernel_rfl) (by rfl) (by first | assumption | exact True.intro) ?_ ?_
  rotate_left
  · (intro w hSw; (try dsimp only at hSw); go_simp; (try with_reducible rfl))
  try simp only [Act.put, List.setIfInBounds_toArray, List.set_cons_zero, List.set_cons_succ]
  refine held_take (i := 4) (v := ?_) rfl (by kernel_rfl) (by kernel_rfl) (by kernel_rfl) (by rfl) (by first | assumption | exact True.intro) ?_ ?_
  rotate_left
  · (intro w hSw; (try dsimp only at hSw); go_simp; (try with_reducible rfl))
  try simp only [Act.put, List.setIfInBounds_toArray, List.set_cons_zero, List.set_cons_succ]
  refine held_take (i := 5) (v := ?_) rfl (by kernel_rfl) (by kernel_rfl) (by kernel_rfl) (by rfl) (by first | assumption | exact True.intro) ?_ ?_
  rotate_left
  · (intro w hSw; (try dsimp only at hSw); go_simp; (try with_reducible rfl))
  try simp only [Act.put, List.setIfInBounds_toArray, List.set_cons_zero, List.set_cons_succ]
  refine held_op (i := 0) (by kernel_rfl) rfl (fun K hK => ?_)
  go_simp
  go_at_call 36
  (with_reducible refine (HD.out _).mono ?_)
  rintro e4 w4 ⟨rfl, hx4⟩
  refine hK _ _ ?_ (fun hHeld2 => ?_)
  · exact HS4.out _ (Ext.of_drew hx4)
  clear hK K hHeld1
  try simp only [Act.put, List.setIfInBounds_toArray, List.set_cons_zero, List.set_cons_succ]
  have hdf := HDF.out
  clear HDF
  rcases hdf with rfl | rfl | rfl | rfl | rfl | rfl | rfl | rfl | rfl | rfl | rfl | rfl | rfl | rfl | rfl | rfl | rfl | rfl | rfl | rfl | rfl
  all_goals
    have hix := HIX.out
    have hx5 : Ext w w4 := HX3.out.trans (Ext.of_drew hx4)
    have HX5 := Lib.hid hx5
    have HB4 := Lib.hid (HB.out.ext (HX2.out.trans (Ext.of_drew hx4)))
    have HKS : Hid (∀ W, Chg F w4 W → (fun (W : World) => W.cell? ⟨w.heap.size, 0, none⟩ = some (.int .i64 (z : Int)) ∧ W.cell? ⟨w.heap.size, 1, none⟩ = some (.int .i64 a1) ∧ W.cell? ⟨w.heap.size, 2, none⟩ = some (.int .i64 a2) ∧ W.cell? ⟨w.heap.size, 3, none⟩ = some (.int .i64 a3) ∧ W.cell? ⟨w.heap.size, 4, none⟩ = some (.int .i64 a4) ∧ W.cell? ⟨w.heap.size, 5, none⟩ = some (.int .i64 a5) ∧ W.cell? ⟨w.heap.size, 6, none⟩ = some (.int .i64 a6)) W) := Lib.hid fun W hc => by
      have hb := (hc.block w.heap.size HB4.out.lt (fun hF => by have := HFI.out _ hF; omega)).trans HB4.out
      have hb : Blk W w.heap.size 32 #[.int .i64 (z : Int), .int .i64 a1, .int .i64 a2, .int .i64 a3, .int .i64 a4, .int .i64 a5, .int .i64 a6] := hb
      exact ⟨hb.cell 0, hb.cell 1, hb.cell 2, hb.cell 3, hb.cell 4, hb.cell 5, hb.cell 6⟩
    refine held_take (i := 3) (v := ?_) rfl (by kernel_rfl) (by kernel_rfl) (by kernel_rfl) (by rfl) (by first | assumption | exact True.intro) ?_ ?_
    rotate_left
    · (intro w hSw; (try dsimp only at hSw); go_simp; (try with_reducible rfl))
    try simp only [Act.put, List.setIfInBounds_toArray, List.set_cons_zero, List.set_cons_succ]
    refine held_op (i := 6) (by kernel_rfl) rfl (fun K hK => ?_)
    go_simp
    (with_reducible refine (HCC.out _ (HX3.out.trans (Ext.of_drew hx4))).mono ?_)
    rintro e6 w6 ⟨rfl, hp6, hc6⟩
    refine hK _ _ ?_ (fun hHeld3 => ?_)
    · exact HKS.out _ hc6
    clear hK K hHeld2
    try simp only [Act.put, List.setIfInBounds_toArray, List.set_cons_zero, List.set_cons_succ]
    refine held_take (i := 7) (v := ?_) rfl (by kernel_rfl) (by kernel_rfl) (by kernel_rfl) (by rfl) (by first | assumption | exact True.intro) ?_ ?_
    rotate_left
    · (intro w hSw; (try dsimp only at hSw); go_simp; (try with_reducible rfl))
    try simp only [Act.put, List.setIfInBounds_toArray, List.set_cons_zero, List.set_cons_succ]
    refine wpAnyH_done (by kernel_rfl) ?_ _
    refine NoPanic.normal ?_
    clear hHeld3
    obtain ⟨vn6, vj6, hp6⟩ := hp6
    have HP6 := Lib.hid hp6
    have HC6 := Lib.hid hc6
    clear hp6 hc6 hx4 hx5 hix
    go_wp2
    go_ret
    exact MDone.of2 (res := res) rfl rfl HX5.out HP6.out HC6.out HFI.out

end Go.Proofs.YtkpcjdhnbjkaaaaDoor

/- Package book: Apply. -/
namespace Go.Proofs.YtkpcjdhnbjkaaaaDoor
open Go.RowKit

theorem Pg.make {w0 W : World} {g base : Nat} {c : Cf} {vn vj : Value} {s : St} (hb : Blk W g 55 (pgC c vn vj s)) (hg : w0.heap.size ≤ g) (ho : OwnSt base 41 58 W vn vj s) (hbase : w0.heap.size ≤ base)
    (hne : ∀ k, vn.ownBlock = some k ∨ vj.ownBlock = some k → k ≠ g) : Pg (fun k => w0.heap.size ≤ k ∧ k < W.heap.size) W g c vn vj s := by
  have own0 : ∀ {e : TypeId} {K n : Nat} {v : Value} {xs : List Value}, W.ownsRow base e K v n xs → W.ownsRow 0 e K v n xs := fun h => by
    refine ⟨h.1, ?_⟩
    rcases h.2 with hv | ⟨b, cap, cur, hv, _, r⟩
    · exact .inl hv
    · exact .inr ⟨b, cap, cur, hv, Nat.zero_le _, r⟩
  refine ⟨hb, ⟨hg, hb.lt⟩, fun k hk => hk.2, fun r hr => ?_, fun r hr e => ?_, ?_⟩
  · simp only [List.mem_cons, List.not_mem_nil, or_false] at hr
    rcases hr with rfl | rfl
    · exact ⟨own0 ho.nodes, fun k hk => ⟨Nat.le_trans hbase (ho.nodes.lt k hk).1, (ho.nodes.lt k hk).2⟩⟩
    · exact ⟨own0 ho.jobs, fun k hk => ⟨Nat.le_trans hbase (ho.jobs.lt k hk).1, (ho.jobs.lt k hk).2⟩⟩
  · simp only [List.mem_cons, List.not_mem_nil, or_false] at hr
    rcases hr with rfl | rfl
    · exact hne g (.inl e) rfl
    · exact hne g (.inr e) rfl
  · refine List.Pairwise.cons (fun r hr => ?_) (List.Pairwise.cons (fun r hr => by cases hr) List.Pairwise.nil)
    simp only [List.mem_cons, List.not_mem_nil, or_false] at hr
    subst hr
    exact ho.off

theorem page_set {w : World} {g : Nat} (c : Cf) (vn vj : Value) (s : St) (hb : Blk w g 55 #[.int .i64 0, .int .i64 0, .int .i64 0, .int .i64 0, .int .i64 0, .int .i64 0, .int .i64 0, .int .i64 0, .int .i64 0, .slice none 0 0, .slice none 0 0, .int .i64 0, .int .i64 0, .int .i64 0, .int .i64 0]) :
    PB w g 55 (((((((((((((((w.setCell ⟨g, 0, none⟩ (.int .i64 c.nodes)).setCell ⟨g, 1, none⟩ (.int .i64 c.queues)).setCell ⟨g, 2, none⟩ (.int .i64 c.quota)).setCell ⟨g, 3, none⟩ (.int .i64 c.wave)).setCell ⟨g, 4, none⟩ (.int .i64 c.lease)).setCell ⟨g, 5, none⟩ (.int .i64 c.retry)).setCell ⟨g, 6, none⟩ (.int .i64 c.deadline)).setCell ⟨g, 7, none⟩ (.int .i64 c.room)).setCell ⟨g, 8, none⟩ (.int .i64 c.disk)).setCell ⟨g, 9, none⟩ (vn)).setCell ⟨g, 10, none⟩ (vj)).setCell ⟨g, 11, none⟩ (.int .i64 s.goal)).setCell ⟨g, 12, none⟩ (.int .i64 s.prior)).setCell ⟨g, 13, none⟩ (.int .i64 s.mode)).setCell ⟨g, 14, none⟩ (.int .i64 s.term)) (pgC c vn vj s) := by
  have h := PB.start hb
  replace h := h.set 0 (.int .i64 c.nodes)
  replace h := h.set 1 (.int .i64 c.queues)
  replace h := h.set 2 (.int .i64 c.quota)
  replace h := h.set 3 (.int .i64 c.wave)
  replace h := h.set 4 (.int .i64 c.lease)
  replace h := h.set 5 (.int .i64 c.retry)
  replace h := h.set 6 (.int .i64 c.deadline)
  replace h := h.set 7 (.int .i64 c.room)
  replace h := h.set 8 (.int .i64 c.disk)
  replace h := h.set 9 (vn)
  replace h := h.set 10 (vj)
  replace h := h.set 11 (.int .i64 s.goal)
  replace h := h.set 12 (.int .i64 s.prior)
  replace h := h.set 13 (.int .i64 s.mode)
  replace h := h.set 14 (.int .i64 s.term)
  simp only [List.setIfInBounds_toArray, List.set_cons_zero, List.set_cons_succ] at h
  exact h

end Go.Proofs.YtkpcjdhnbjkaaaaDoor

/- Package book: Apply. -/
namespace Go.Proofs.YtkpcjdhnbjkaaaaDoor
open Go.RowKit

set_option maxRecDepth 100000 in
set_option maxHeartbeats 4000000 in
theorem Apply_raw (c : Cf) (vn vj : Value) (s : St) (z a1 a2 a3 a4 a5 a6 : Int) (res : Res9) (w : World) (h : RdSt w vn vj s)
    (HDO : ∀ F W g vn vj, RightP c s → Ext w W → Pg F W g c vn vj s → Calls Tryd.prog 22 #[.pointer (some ⟨g, 0, none⟩), .agg #[.int .i64 z, .int .i64 a1, .int .i64 a2, .int .i64 a3, .int .i64 a4, .int .i64 a5, .int .i64 a6]] W fun e w' => e = .returned (.int .i64 res.2) ∧ (∃ vn vj, Pg (F.since W w') w' g c vn vj res.1) ∧ Chg F W w') :
    Calls Tryd.prog 9 #[cfV c, stV vn vj s, .agg #[.int .i64 z, .int .i64 a1, .int .i64 a2, .int .i64 a3, .int .i64 a4, .int .i64 a5, .int .i64 a6]] w fun e w' => ∃ vn' vj' s' er, e = .returned (.tuple #[stV vn' vj' s', .int .i64 er]) ∧ RdSt w' vn' vj' s' ∧ Ext w w' ∧ (RightP c s → (s', er) = res) ∧ (¬ RightP c s → (s', er) = (zeroS, 1)) ∧ ∀ k, vn'.ownBlock = some k ∨ vj'.ownBlock = some k → w.heap.size ≤ k := by
  have HRT := Lib.hid fun W hx => RightS_any c vn vj s W (RdSt.ext h hx).nodes (RdSt.ext h hx).jobs
  have HCP := Lib.hid fun W (hx : Ext w W) => Copy_any vn vj s W (h.ext hx)
  obtain ⟨W4, hW4, hx4, hb0, hb1, hb2, hb3, hs4⟩ := four_blocks w 23 27 32 27 #[.int .i64 c.nodes, .int .i64 c.queues, .int .i64 c.quota, .int .i64 c.wave, .int .i64 c.lease, .int .i64 c.retry, .int .i64 c.deadline, .int .i64 c.room, .int .i64 c.disk] #[vn, vj, .int .i64 s.goal, .int .i64 s.prior, .int .i64 s.mode, .int .i64 s.term] #[.int .i64 z, .int .i64 a1, .int .i64 a2, .int .i64 a3, .int .i64 a4, .int .i64 a5, .int .i64 a6] #[.slice none 0 0, .slice none 0 0, .int .i64 0, .int .i64 0, .int .i64 0, .int .i64 0]
  have HX4 := Lib.hid hx4
  have HB0 := Lib.hid hb0
  have HB1 := Lib.hid hb1
  have HB2 := Lib.hid hb2
  have HB3 := Lib.hid hb3
  have HS4 := Lib.hid hs4
  have HDD := Lib.hid HDO
  have HH := Lib.hid h
  unfold stV cfV at HRT
  unfold stV at HCP
  unfold cfV stV
  clear hx4 hb0 hb1 hb2 hb3 h HDO hs4
  go_enter Tryd.func9, Tryd.ntmps9
  go_wp2_with fail
  rw [← hW4]
  clear hW4
  refine (HRT.out _ HX4.out).mono ?_
  rintro e1 w1 ⟨rt, rfl, hrt, hx1⟩
  have HX1 := Lib.hid hx1
  have HXW := Lib.hid (HX4.out.trans hx1)
  have HC0 := Lib.hid (HB0.out.ext hx1)
  have HC1 := Lib.hid (HB1.out.ext hx1)
  have HC2 := Lib.hid (HB2.out.ext hx1)
  have HC3 := Lib.hid (HB3.out.ext hx1)
  have HRR := Lib.hid hrt
  clear hx1 hrt
  have k0 : w1.cell? ⟨w.heap.size, 0, none⟩ = some (.int .i64 c.nodes) := HC0.out.cell 0
  have k1 : w1.cell? ⟨w.heap.size, 1, none⟩ = some (.int .i64 c.queues) := HC0.out.cell 1
  have k2 : w1.cell? ⟨w.heap.size, 2, none⟩ = some (.int .i64 c.quota) := HC0.out.cell 2
  have k3 : w1.cell? ⟨w.heap.size, 3, none⟩ = some (.int .i64 c.wave) := HC0.out.cell 3
  have k4 : w1.cell? ⟨w.heap.size, 4, none⟩ = some (.int .i64 c.lease) := HC0.out.cell 4
  have k5 : w1.cell? ⟨w.heap.size, 5, none⟩ = some (.int .i64 c.retry) := HC0.out.cell 5
  have k6 : w1.cell? ⟨w.heap.size, 6, none⟩ = some (.int .i64 c.deadline) := HC0.out.cell 6
  have k7 : w1.cell? ⟨w.heap.size, 7, none⟩ = some (.int .i64 c.room) := HC0.out.cell 7
  have k8 : w1.cell? ⟨w.heap.size, 8, none⟩ = some (.int .i64 c.disk) := HC0.out.cell 8
  have m0 : w1.cell? ⟨w.heap.size + 1, 0, none⟩ = some (vn) := HC1.out.cell 0
  have m1 : w1.cell? ⟨w.heap.size + 1, 1, none⟩ = some (vj) := HC1.out.cell 1
  have m2 : w1.cell? ⟨w.heap.size + 1, 2, none⟩ = some (.int .i64 s.goal) := HC1.out.cell 2
  have m3 : w1.cell? ⟨w.heap.size + 1, 3, none⟩ = some (.int .i64 s.prior) := HC1.out.cell 3
  have m4 : w1.cell? ⟨w.heap.size + 1, 4, none⟩ = some (.int .i64 s.mode) := HC1.out.cell 4
  have m5 : w1.cell? ⟨w.heap.size + 1, 5, none⟩ = some (.int .i64 s.term) := HC1.out.cell 5
  have r0 : w1.cell? ⟨w.heap.size + 3, 0, none⟩ = some (.slice none 0 0) := HC3.out.cell 0
  have g0 : w1.frozen? ⟨w.heap.size + 3, 0, none⟩ = false := HC3.out.frozen 0
  have r1 : w1.cell? ⟨w.heap.size + 3, 1, none⟩ = some (.slice none 0 0) := HC3.out.cell 1
  have g1 : w1.frozen? ⟨w.heap.size + 3, 1, none⟩ = false := HC3.out.frozen 1
  have r2 : w1.cell? ⟨w.heap.size + 3, 2, none⟩ = some (.int .i64 0) := HC3.out.cell 2
  have g2 : w1.frozen? ⟨w.heap.size + 3, 2, none⟩ = false := HC3.out.frozen 2
  have r3 : w1.cell? ⟨w.heap.size + 3, 3, none⟩ = some (.int .i64 0) := HC3.out.cell 3
  have g3 : w1.frozen? ⟨w.heap.size + 3, 3, none⟩ = false := HC3.out.frozen 3
  have r4 : w1.cell? ⟨w.heap.size + 3, 4, none⟩ = some (.int .i64 0) := HC3.out.cell 4
  have g4 : w1.frozen? ⟨w.heap.size + 3, 4, none⟩ = false := HC3.out.frozen 4
  have r5 : w1.cell? ⟨w.heap.size + 3, 5, none⟩ = some (.int .i64 0) := HC3.out.cell 5
  have g5 : w1.frozen? ⟨w.heap.size + 3, 5, none⟩ = false := HC3.out.frozen 5
  cases rt
  · have HNO : Hid (¬ RightP c s) := Lib.hid fun h => by
      have := HRR.out.2 h
      cases this
    go_wp2
    have e3 : w.heap.size + 1 + 1 + 1 = w.heap.size + 3 := rfl
    have hb := (((((HC3.out.set_ 0 (.slice none 0 0)).set_ 1 (.slice none 0 0)).set_ 2 (.int .i64 0)).set_ 3 (.int .i64 0)).set_ 4 (.int .i64 0)).set_ 5 (.int .i64 0)
    have hx := Below.setCell (p := ⟨w.heap.size + 3, 5, none⟩) (Below.setCell (p := ⟨w.heap.size + 3, 4, none⟩) (Below.setCell (p := ⟨w.heap.size + 3, 3, none⟩) (Below.setCell (p := ⟨w.heap.size + 3, 2, none⟩) (Below.setCell (p := ⟨w.heap.size + 3, 1, none⟩) (Below.setCell (p := ⟨w.heap.size + 3, 0, none⟩) HXW.out (Nat.le_add_right _ _) (.slice none 0 0)) (Nat.le_add_right _ _) (.slice none 0 0)) (Nat.le_add_right _ _) (.int .i64 0)) (Nat.le_add_right _ _) (.int .i64 0)) (Nat.le_add_right _ _) (.int .i64 0)) (Nat.le_add_right _ _) (.int .i64 0)
    refine bodyPost_ret (results_cell_tmp_row rfl _ _ (w.heap.size + 3) 27 _ (0, 0) _ rfl hb rfl rfl (by kernel_rfl)) rfl ⟨.slice none 0 0, .slice none 0 0, zeroS, 1, rfl, ⟨?_, ?_⟩, hx, fun h => absurd h HNO.out, fun _ => rfl, fun k hk => by rcases hk with hk | hk <;> cases hk⟩
    · exact RdS.own (World.ownsRow_nil _ 0 41 5)
    · exact RdS.own (World.ownsRow_nil _ 0 58 12)
  · have HYES := Lib.hid (HRR.out.1 rfl)
    have l0 : w.heap.size < w1.heap.size := HC0.out.lt
    have l1 : w.heap.size + 1 < w1.heap.size := HC1.out.lt
    have l2 : w.heap.size + 2 < w1.heap.size := HC2.out.lt
    have l3 : w.heap.size + 3 < w1.heap.size := HC3.out.lt
    go_wp2_with fail
    go_cut [8] from 9 (fun p wx => ∃ (G : Nat) (vn2 vj2 : Value), p = .pointer (some ⟨G, 0, none⟩) ∧ Hid (Ext w1 wx ∧ Pg (fun k => w1.heap.size ≤ k ∧ k < wx.heap.size) wx G c vn2 vj2 s))
    case first =>
      go_region_with ((go_at_call 21); (refine (HCP.out _ (by first | exact HXW.out | exact ext_drew9 HXW.out | exact Below.alloc HXW.out (by have := HXW.out.size; omega) _ | exact Below.alloc (ext_drew9 HXW.out) (by have := HXW.out.size; simp; omega) _ | exact ext_drew9 (Below.alloc HXW.out (by have := HXW.out.size; omega) _)) (by have := HYES.out.len; omega) (by have := HYES.out.nj; omega)).mono ?_); (rintro e2 w2 ⟨vn2, vj2, rfl, ho2, hx2⟩); (obtain ⟨A5, c5, rfl⟩ := own_slice ho2.nodes); (obtain ⟨A6, c6, rfl⟩ := own_slice ho2.jobs); (have hl9 := hx2.size); (have hx12 : Ext w1 w2 := by first | exact hx2 | exact Ext.of_drew hx2 | exact Ext.trans (Below.alloc (Ext.refl _) (Nat.le_refl _) _) hx2 | exact Ext.trans (Below.alloc (ext_drew9 (Ext.refl _)) (Nat.le_refl _) _) hx2 | exact Ext.trans (ext_drew9 (Below.alloc (Ext.refl _) (Nat.le_refl _) _)) hx2); (have kk0 : w2.cell? ⟨w.heap.size, 0, none⟩ = some (.int .i64 c.nodes) := (HC0.out.ext hx12).cell 0); (have kk1 : w2.cell? ⟨w.heap.size, 1, none⟩ = some (.int .i64 c.queues) := (HC0.out.ext hx12).cell 1); (have kk2 : w2.cell? ⟨w.heap.size, 2, none⟩ = some (.int .i64 c.quota) := (HC0.out.ext hx12).cell 2); (have kk3 : w2.cell? ⟨w.heap.size, 3, none⟩ = some (.int .i64 c.wave) := (HC0.out.ext hx12).cell 3); (have kk4 : w2.cell? ⟨w.heap.size, 4, none⟩ = some (.int .i64 c.lease) := (HC0.out.ext hx12).cell 4); (have kk5 : w2.cell? ⟨w.heap.size, 5, none⟩ = some (.int .i64 c.retry) := (HC0.out.ext hx12).cell 5); (have kk6 : w2.cell? ⟨w.heap.size, 6, none⟩ = some (.int .i64 c.deadline) := (HC0.out.ext hx12).cell 6); (have kk7 : w2.cell? ⟨w.heap.size, 7, none⟩ = some (.int .i64 c.room) := (HC0.out.ext hx12).cell 7); (have kk8 : w2.cell? ⟨w.heap.size, 8, none⟩ = some (.int .i64 c.disk) := (HC0.out.ext hx12).cell 8); (have hl10 : w.heap.size < w2.heap.size := Nat.lt_of_lt_of_le l0 hx12.size); (try (have pb : Blk w2 w1.heap.size 55 #[.int .i64 0, .int .i64 0, .int .i64 0, .int .i64 0, .int .i64 0, .int .i64 0, .int .i64 0, .int .i64 0, .int .i64 0, .slice none 0 0, .slice none 0 0, .int .i64 0, .int .i64 0, .int .i64 0, .int .i64 0] := Blk.ext (by first | exact Blk.new w1 _ _ | exact Blk.new w1.drew _ _) hx2; have pz0 : w2.cell? ⟨w1.heap.size, 0, none⟩ = some (.int .i64 0) := pb.cell 0; have pf0 : w2.frozen? ⟨w1.heap.size, 0, none⟩ = false := pb.frozen 0; have pz1 : w2.cell? ⟨w1.heap.size, 1, none⟩ = some (.int .i64 0) := pb.cell 1; have pf1 : w2.frozen? ⟨w1.heap.size, 1, none⟩ = false := pb.frozen 1; have pz2 : w2.cell? ⟨w1.heap.size, 2, none⟩ = some (.int .i64 0) := pb.cell 2; have pf2 : w2.frozen? ⟨w1.heap.size, 2, none⟩ = false := pb.frozen 2; have pz3 : w2.cell? ⟨w1.heap.size, 3, none⟩ = some (.int .i64 0) := pb.cell 3; have pf3 : w2.frozen? ⟨w1.heap.size, 3, none⟩ = false := pb.frozen 3; have pz4 : w2.cell? ⟨w1.heap.size, 4, none⟩ = some (.int .i64 0) := pb.cell 4; have pf4 : w2.frozen? ⟨w1.heap.size, 4, none⟩ = false := pb.frozen 4; have pz5 : w2.cell? ⟨w1.heap.size, 5, none⟩ = some (.int .i64 0) := pb.cell 5; have pf5 : w2.frozen? ⟨w1.heap.size, 5, none⟩ = false := pb.frozen 5; have pz6 : w2.cell? ⟨w1.heap.size, 6, none⟩ = some (.int .i64 0) := pb.cell 6; have pf6 : w2.frozen? ⟨w1.heap.size, 6, none⟩ = false := pb.frozen 6; have pz7 : w2.cell? ⟨w1.heap.size, 7, none⟩ = some (.int .i64 0) := pb.cell 7; have pf7 : w2.frozen? ⟨w1.heap.size, 7, none⟩ = false := pb.frozen 7; have pz8 : w2.cell? ⟨w1.heap.size, 8, none⟩ = some (.int .i64 0) := pb.cell 8; have pf8 : w2.frozen? ⟨w1.heap.size, 8, none⟩ = false := pb.frozen 8; have pz9 : w2.cell? ⟨w1.heap.size, 9, none⟩ = some (.slice none 0 0) := pb.cell 9; have pf9 : w2.frozen? ⟨w1.heap.size, 9, none⟩ = false := pb.frozen 9; have pz10 : w2.cell? ⟨w1.heap.size, 10, none⟩ = some (.slice none 0 0) := pb.cell 10; have pf10 : w2.frozen? ⟨w1.heap.size, 10, none⟩ = false := pb.frozen 10; have pz11 : w2.cell? ⟨w1.heap.size, 11, none⟩ = some (.int .i64 0) := pb.cell 11; have pf11 : w2.frozen? ⟨w1.heap.size, 11, none⟩ = false := pb.frozen 11; have pz12 : w2.cell? ⟨w1.heap.size, 12, none⟩ = some (.int .i64 0) := pb.cell 12; have pf12 : w2.frozen? ⟨w1.heap.size, 12, none⟩ = false := pb.frozen 12; have pz13 : w2.cell? ⟨w1.heap.size, 13, none⟩ = some (.int .i64 0) := pb.cell 13; have pf13 : w2.frozen? ⟨w1.heap.size, 13, none⟩ = false := pb.frozen 13; have pz14 : w2.cell? ⟨w1.heap.size, 14, none⟩ = some (.int .i64 0) := pb.cell 14; have pf14 : w2.frozen? ⟨w1.heap.size, 14, none⟩ = false := pb.frozen 14)))
      all_goals
        have HOO := Lib.hid ho2
        have HXX := Lib.hid hx12
        first
          | (have HPB := Lib.hid pb
             go_wp2_with fail
             go_meet
             have hq := page_set c (.slice A5 s.nodes.length c5) (.slice A6 s.jobs.length c6) s HPB.out
             have hbs : ∀ k, w1.heap.size + 1 ≤ k → k ≠ w1.heap.size := fun k h e => by omega
             refine ⟨w1.heap.size, .slice A5 s.nodes.length c5, .slice A6 s.jobs.length c6, rfl, Lib.hid ⟨hq.below _ _ HXX.out (Nat.le_refl _), Pg.make (w0 := w1) hq.blk (Nat.le_refl _) ⟨own_at HOO.out.nodes fun k hk => hq.same k (hbs k ?_), own_at HOO.out.jobs fun k hk => hq.same k (hbs k ?_), HOO.out.off⟩ ?_ (fun k hk => hbs k ?_)⟩⟩
             · have := (HOO.out.nodes.lt k hk).1
               simpa using this
             · have := (HOO.out.jobs.lt k hk).1
               simpa using this
             · simp
             · rcases hk with hk | hk
               · have := (HOO.out.nodes.lt k hk).1
                 simpa using this
               · have := (HOO.out.jobs.lt k hk).1
                 simpa using this)
          | (have hs9 : w1.heap.size ≤ w2.heap.size := hx12.size
             go_wp2_with fail
             go_meet
             refine ⟨w2.heap.size, _, _, rfl, Lib.hid ⟨Below.alloc HXX.out hs9 _, Pg.make (w0 := w1) (base := w1.heap.size) (Blk.new _ _ _) hs9 ⟨HOO.out.nodes.alloc _, HOO.out.jobs.alloc _, HOO.out.off⟩ (Nat.le_refl _) (fun k hk => ?_)⟩⟩
             rcases hk with hk | hk
             · have := (HOO.out.nodes.lt k hk).2
               omega
             · have := (HOO.out.jobs.lt k hk).2
               omega)
    case rest =>
      obtain ⟨G, vn2, vj2, rfl, HPP⟩ := hcut
      have HP9 := Lib.hid HPP.out.2
      have HX9 := Lib.hid HPP.out.1
      have HXC := Lib.hid (HXW.out.trans HPP.out.1)
      have oo0 : wc.cell? ⟨w.heap.size + 2, 0, none⟩ = some (.int .i64 z) := (HC2.out.ext HX9.out).cell 0
      have oo1 : wc.cell? ⟨w.heap.size + 2, 1, none⟩ = some (.int .i64 a1) := (HC2.out.ext HX9.out).cell 1
      have oo2 : wc.cell? ⟨w.heap.size + 2, 2, none⟩ = some (.int .i64 a2) := (HC2.out.ext HX9.out).cell 2
      have oo3 : wc.cell? ⟨w.heap.size + 2, 3, none⟩ = some (.int .i64 a3) := (HC2.out.ext HX9.out).cell 3
      have oo4 : wc.cell? ⟨w.heap.size + 2, 4, none⟩ = some (.int .i64 a4) := (HC2.out.ext HX9.out).cell 4
      have oo5 : wc.cell? ⟨w.heap.size + 2, 5, none⟩ = some (.int .i64 a5) := (HC2.out.ext HX9.out).cell 5
      have oo6 : wc.cell? ⟨w.heap.size + 2, 6, none⟩ = some (.int .i64 a6) := (HC2.out.ext HX9.out).cell 6
      clear HPP
      go_wp2_with fail
      refine (HDD.out _ wc G vn2 vj2 HYES.out HXC.out HP9.out).mono ?_
      rintro e6 w6 ⟨rfl, ⟨vn6, vj6, hp6⟩, hc6⟩
      have HC9 := Lib.hid hc6
      have hl3 : w.heap.size + 3 < wc.heap.size := Nat.lt_of_lt_of_le l3 HX9.out.size
      have hnf : ¬ (w1.heap.size ≤ w.heap.size + 3 ∧ w.heap.size + 3 < wc.heap.size) := fun h => by omega
      have hb6 : Blk w6 (w.heap.size + 3) 27 #[.slice none 0 0, .slice none 0 0, .int .i64 0, .int .i64 0, .int .i64 0, .int .i64 0] := (hc6.block _ hl3 hnf).trans (HC3.out.ext HX9.out)
      have HB6 := Lib.hid hb6
      obtain ⟨A7, c7, rfl, hn7, hm7⟩ := hp6.slN
      obtain ⟨A8, c8, rfl, hn8, hm8⟩ := hp6.slJ
      have HP6 := Lib.hid hp6
      have s9 := hp6.c9
      have s10 := hp6.c10
      have s11 := hp6.c11
      have s12 := hp6.c12
      have s13 := hp6.c13
      have s14 := hp6.c14
      have rr0 : w6.cell? ⟨w.heap.size + 3, 0, none⟩ = some (.slice none 0 0) := HB6.out.cell 0
      have gg0 : w6.frozen? ⟨w.heap.size + 3, 0, none⟩ = false := HB6.out.frozen 0
      have rr1 : w6.cell? ⟨w.heap.size + 3, 1, none⟩ = some (.slice none 0 0) := HB6.out.cell 1
      have gg1 : w6.frozen? ⟨w.heap.size + 3, 1, none⟩ = false := HB6.out.frozen 1
      have rr2 : w6.cell? ⟨w.heap.size + 3, 2, none⟩ = some (.int .i64 0) := HB6.out.cell 2
      have gg2 : w6.frozen? ⟨w.heap.size + 3, 2, none⟩ = false := HB6.out.frozen 2
      have rr3 : w6.cell? ⟨w.heap.size + 3, 3, none⟩ = some (.int .i64 0) := HB6.out.cell 3
      have gg3 : w6.frozen? ⟨w.heap.size + 3, 3, none⟩ = false := HB6.out.frozen 3
      have rr4 : w6.cell? ⟨w.heap.size + 3, 4, none⟩ = some (.int .i64 0) := HB6.out.cell 4
      have gg4 : w6.frozen? ⟨w.heap.size + 3, 4, none⟩ = false := HB6.out.frozen 4
      have rr5 : w6.cell? ⟨w.heap.size + 3, 5, none⟩ = some (.int .i64 0) := HB6.out.cell 5
      have gg5 : w6.frozen? ⟨w.heap.size + 3, 5, none⟩ = false := HB6.out.frozen 5
      clear hp6 hc6 hb6
      go_wp2
      have hq := (((((PB.start HB6.out).set 0 (.slice A7 res.1.nodes.length c7)).set 1 (.slice A8 res.1.jobs.length c8)).set 2 (.int .i64 res.1.goal)).set 3 (.int .i64 res.1.prior)).set 4 (.int .i64 res.1.mode)
      replace hq := hq.set 5 (.int .i64 res.1.term)
      simp only [List.setIfInBounds_toArray, List.set_cons_zero, List.set_cons_succ] at hq
      have hx6 : Ext w w6 := HC9.out.ext HXC.out (fun k hk => by have := HXW.out.size; omega)
      have hin : ∀ k, (Fp.since (fun k => w1.heap.size ≤ k ∧ k < wc.heap.size) wc w6) k → k ≠ w.heap.size + 3 := fun k hk e => by
        rcases hk with hk | hk
        · omega
        · omega
      have hokn := (ObjF.ok HP6.out ⟨41, 5, .slice A7 res.1.nodes.length c7, res.1.nodes.length, nodesC res.1.nodes⟩ (by simp)).2
      have hokj := (ObjF.ok HP6.out ⟨58, 12, .slice A8 res.1.jobs.length c8, res.1.jobs.length, jobsC res.1.jobs⟩ (by simp)).2
      refine bodyPost_ret (results_cell_tmp_row rfl _ _ (w.heap.size + 3) 27 _ (0, 0) _ rfl hq.blk rfl rfl (by kernel_rfl)) rfl ⟨_, _, res.1, res.2, rfl, ⟨RdS.own (own_at HP6.out.rowN fun k hk => hq.same k (hin k (hokn k hk))), RdS.own (own_at HP6.out.rowJ fun k hk => hq.same k (hin k (hokj k hk)))⟩, hq.below _ _ hx6 (Nat.le_add_right _ _), fun _ => rfl, fun h => absurd HYES.out h, fun k hk => ?_⟩
      have hw1 := HXW.out.size
      have hwc := HXC.out.size
      rcases hk with hk | hk
      · rcases hokn k hk with h' | h'
        · omega
        · omega
      · rcases hokj k hk with h' | h'
        · omega
        · omega

end Go.Proofs.YtkpcjdhnbjkaaaaDoor

/- Package book: whether a node is free. -/
namespace Go.Proofs.YtkpcjdhnbjkaaaaDoor
open Go.RowKit

set_option maxRecDepth 100000 in
theorem Free_any (n : Nd) (w : World) :
    Calls Tryd.prog 74 #[ndV n] w fun e w' => e = .returned (.bool (freeN n)) ∧ Ext w w' := by
  have HX := Lib.hid (show Ext w (w.alloc (.cells #[.bool n.up, .bool n.cordon, .bool n.moving, .int .i64 n.version, .int .i64 n.job] 41)) from (Below.refl _ _).alloc (Nat.le_refl _) _)
  obtain ⟨up, cordon, moving, version, job⟩ := n
  unfold ndV freeN
  dsimp only at *
  cases up
  · go_enter Tryd.func74, Tryd.ntmps74
    go_wp2
    go_ret
    exact ⟨rfl, HX.out⟩
  cases cordon
  · cases moving
    · go_enter Tryd.func74, Tryd.ntmps74
      go_wp2
      go_ret
      exact ⟨rfl, HX.out⟩
    · go_enter Tryd.func74, Tryd.ntmps74
      go_wp2
      go_ret
      exact ⟨rfl, HX.out⟩
  · go_enter Tryd.func74, Tryd.ntmps74
    go_wp2
    go_ret
    exact ⟨rfl, HX.out⟩

end Go.Proofs.YtkpcjdhnbjkaaaaDoor
