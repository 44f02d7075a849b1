/- Texts that the proof of I rests on, one behind the other. -/
import Derived.Test.YtddhbokknbmdfaaDoorIQ6
import Derived.Deep.Cut
import Derived.Deep.DeepCutAuto
import Derived.Deep.CutBlock

/- Package book: submit. -/
namespace Go.Proofs.YtddhbokknbmdfaaDoor
open Go.RowKit

theorem Tryd.infoJob : (Tryd.prog.info? 52).map (fun i => (i.zero, i.size, i.bytes)) = some (some (.agg #[.int .i64 0, .int .i64 0, .int .i64 0, .int .i64 0, .int .i64 0, .int .i64 0, .int .i64 0, .int .i64 0, .int .i64 0, .int .i64 0, .int .i64 0, .int .i64 0]), 12, 96) := by kernel_rfl
theorem Tryd.infoNode : (Tryd.prog.info? 45).map (fun i => (i.zero, i.size, i.bytes)) = some (some (.agg #[.bool false, .bool false, .bool false, .int .i64 0, .int .i64 0]), 5, 24) := by kernel_rfl

theorem MDone.of2 {F : Fp} {w W w' : World} {g : Nat} {c : Cf} {vn vj : Value} {res : Res9} {s' : St} {er : Int} {e : Ending} (hres : res = (s', er)) (he : e = .returned (.int .i64 er)) (hx : Ext w W) (hp : Pg (F.since W w') w' g c vn vj s') (hc : Chg F W w') (hi : F.isIn w) : MDone F w g c res e w' := by
  subst hres
  refine ⟨he, ⟨vn, vj, hp.mono (fun k hk => ?_) (hi.since (Nat.le_trans hx.size hc.size))⟩, chg2 hx hc⟩
  rcases hk with hk | hk
  · exact .inl hk
  · exact .inr ⟨Nat.le_trans hx.size hk.1, hk.2⟩
theorem MDone.drew {F : Fp} {w w' : World} {g : Nat} {c : Cf} {res : Res9} {e : Ending} (h : MDone F w g c res e w') : MDone F w g c res e w'.drew := by
  obtain ⟨he, ⟨vn, vj, hp⟩, hc⟩ := h
  exact ⟨he, ⟨vn, vj, ObjF.drew hp⟩, hc.drew⟩

/-- One job more. -/
theorem Pg.snoc {F : Fp} {w w' : World} {g : Nat} {c : Cf} {vn vj v' : Value} {s : St} (h : Pg F w g c vn vj s) (j : Jb)
    (hg : GrewK 0 52 12 vj w (s.jobs.length + 1) (jobsC s.jobs ++ j.cells) v' w') :
    Pg (F.since w (w'.setCell ⟨g, 10, none⟩ v')) (w'.setCell ⟨g, 10, none⟩ v') g c vn v' { s with jobs := s.jobs ++ [j] } ∧ Chg F w (w'.setCell ⟨g, 10, none⟩ v') := by
  have hj : jobsC (s.jobs ++ [j]) = jobsC s.jobs ++ j.cells := by unfold jobsC; rw [List.flatMap_append]; simp
  have hl : (s.jobs ++ [j]).length = s.jobs.length + 1 := by simp
  have ht := ObjF.turn (w' := w') h 1 (by simp) ⟨52, 12, v', (s.jobs ++ [j]).length, jobsC (s.jobs ++ [j])⟩ (by rw [hj, hl]; exact hg.1) (Chg.of_grown hg.2.1 fun k hk => hk) (fun k hk => by
    rcases hg.2.2 with h2 | h2
    · exact .inl (by show vj.ownBlock = some k; rw [← h2]; exact hk)
    · exact .inr (h2 k hk))
  obtain ⟨h1, h2⟩ := ht
  obtain ⟨h3, h4⟩ := h1.setCell 10 v'
  have hs : (w'.setCell ⟨g, 10, none⟩ v').heap.size = w'.heap.size := by simp
  have h5 := ObjF.mono (G := Fp.since F w (w'.setCell ⟨g, 10, none⟩ v')) h3 (fun k hk => by
    rcases hk with hk | hk
    · exact .inl hk
    · exact .inr ⟨hk.1, by rw [hs]; exact hk.2⟩) (h.isIn.since (by rw [hs]; exact h2.size))
  exact ⟨h5, h2.trans h4 (fun x hx hF => by
    rcases hF with hF | hF
    · exact hF
    · omega)⟩

set_option maxRecDepth 100000 in
set_option maxHeartbeats 4000000 in
theorem submit_any (F : Fp) (w : World) (g : Nat) (c : Cf) (vn vj : Value) (s : St) (z a1 a2 a3 a4 a5 a6 : Int) (h : Pg F w g c vn vj s) (hm : mayC c = true) (hl : s.jobs.length ≤ 24) :
    Calls Tryd.prog 64 #[.pointer (some ⟨g, 0, none⟩), .agg #[.int .i64 z, .int .i64 a1, .int .i64 a2, .int .i64 a3, .int .i64 a4, .int .i64 a5, .int .i64 a6]] w fun e w' => e = .returned (.int .i64 (submitS c s (z, a1, a2, a3, a4, a5, a6)).2) ∧ (∃ vn vj, Pg (F.since w w') w' g c vn vj (submitS c s (z, a1, a2, a3, a4, a5, a6)).1) ∧ Chg F w w' := by
  have HA := Lib.hid fun w' => asked_any c (newJ (z, a1, a2, a3, a4, a5, a6)) w' hm
  obtain ⟨W2, hW2⟩ : ∃ W2, W2 = (w.alloc (.cells #[.int .i64 z, .int .i64 a1, .int .i64 a2, .int .i64 a3, .int .i64 a4, .int .i64 a5, .int .i64 a6] 36)).alloc (.cells #[.int .i64 a1, .int .i64 a2, .int .i64 a3, .int .i64 a4, .int .i64 a5, .int .i64 a6, .int .i64 0, .int .i64 0, .int .i64 0, .int .i64 0, .int .i64 0, .int .i64 0] 52) := ⟨_, rfl⟩
  have hx : Ext w W2 := by rw [hW2]; exact ext2 w _ _ _ _
  have hbj : Blk W2 (w.heap.size + 1) 52 #[.int .i64 a1, .int .i64 a2, .int .i64 a3, .int .i64 a4, .int .i64 a5, .int .i64 a6, .int .i64 0, .int .i64 0, .int .i64 0, .int .i64 0, .int .i64 0, .int .i64 0] := by
    have := Blk.new (w.alloc (.cells #[.int .i64 z, .int .i64 a1, .int .i64 a2, .int .i64 a3, .int .i64 a4, .int .i64 a5, .int .i64 a6] 36)) 52 #[.int .i64 a1, .int .i64 a2, .int .i64 a3, .int .i64 a4, .int .i64 a5, .int .i64 a6, .int .i64 0, .int .i64 0, .int .i64 0, .int .i64 0, .int .i64 0, .int .i64 0]
    rw [hW2]
    simpa using this
  have hp := h.ext hx
  have p0 : W2.cell? ⟨g, 0, none⟩ = some (.int .i64 c.nodes) := hp.blk.cell 0
  have p1 : W2.cell? ⟨g, 1, none⟩ = some (.int .i64 c.queues) := hp.blk.cell 1
  have p2 : W2.cell? ⟨g, 2, none⟩ = some (.int .i64 c.quota) := hp.blk.cell 2
  have p3 : W2.cell? ⟨g, 3, none⟩ = some (.int .i64 c.wave) := hp.blk.cell 3
  have p4 : W2.cell? ⟨g, 4, none⟩ = some (.int .i64 c.lease) := hp.blk.cell 4
  have p5 : W2.cell? ⟨g, 5, none⟩ = some (.int .i64 c.retry) := hp.blk.cell 5
  have p6 : W2.cell? ⟨g, 6, none⟩ = some (.int .i64 c.deadline) := hp.blk.cell 6
  have p7 : W2.cell? ⟨g, 7, none⟩ = some (.int .i64 c.room) := hp.blk.cell 7
  have p8 : W2.cell? ⟨g, 8, none⟩ = some (.int .i64 c.disk) := hp.blk.cell 8
  have HX := Lib.hid hx
  have HP := Lib.hid hp
  have HBJ := Lib.hid hbj
  have hlg : g < w.heap.size := h.lt
  have HI := Lib.hid h.isIn
  obtain ⟨ab, hab⟩ : ∃ ab, askedJ c (newJ (z, a1, a2, a3, a4, a5, a6)) = ab := ⟨_, rfl⟩
  rw [hab] at HA
  unfold newJ cfV jbV at HA
  dsimp only at HA
  have hj0 : W2.cell? ⟨w.heap.size + 1, 0, none⟩ = some (.int .i64 a1) := hbj.cell 0
  have hj1 : W2.cell? ⟨w.heap.size + 1, 1, none⟩ = some (.int .i64 a2) := hbj.cell 1
  have hj2 : W2.cell? ⟨w.heap.size + 1, 2, none⟩ = some (.int .i64 a3) := hbj.cell 2
  have hj3 : W2.cell? ⟨w.heap.size + 1, 3, none⟩ = some (.int .i64 a4) := hbj.cell 3
  have hj4 : W2.cell? ⟨w.heap.size + 1, 4, none⟩ = some (.int .i64 a5) := hbj.cell 4
  have hj5 : W2.cell? ⟨w.heap.size + 1, 5, none⟩ = some (.int .i64 a6) := hbj.cell 5
  have hj6 : W2.cell? ⟨w.heap.size + 1, 6, none⟩ = some (.int .i64 0) := hbj.cell 6
  have hj7 : W2.cell? ⟨w.heap.size + 1, 7, none⟩ = some (.int .i64 0) := hbj.cell 7
  have hj8 : W2.cell? ⟨w.heap.size + 1, 8, none⟩ = some (.int .i64 0) := hbj.cell 8
  have hj9 : W2.cell? ⟨w.heap.size + 1, 9, none⟩ = some (.int .i64 0) := hbj.cell 9
  have hj10 : W2.cell? ⟨w.heap.size + 1, 10, none⟩ = some (.int .i64 0) := hbj.cell 10
  have hj11 : W2.cell? ⟨w.heap.size + 1, 11, none⟩ = some (.int .i64 0) := hbj.cell 11
  clear hx hp hbj h
  go_enter Tryd.func64, Tryd.ntmps64
  go_wp2_with fail
  rw [← hW2]
  clear hW2
  go_region_with ((go_at_call 57); (refine (HA.out _).mono ?_); (rintro e2 w2 ⟨rfl, hx2⟩))
  all_goals
    have hx3 : Ext W2 w2 := Ext.of_drew hx2
    have HX3 := Lib.hid hx3
    have HX4 := Lib.hid (HX.out.trans hx3)
    have HP2 := Lib.hid (HP.out.ext hx3)
    have c10 := HP2.out.c10
    obtain ⟨A, cap, rfl, hnc, hcm⟩ := HP2.out.slJ
    clear hx2 hx3 p0 p1 p2 p3 p4 p5 p6 p7 p8 hj0 hj1 hj2 hj3 hj4 hj5 hj6 hj7 hj8 hj9 hj10 hj11
    cases ab
    · have hr : submitS c s (z, a1, a2, a3, a4, a5, a6) = (s, 1) := by rw [submitS, if_pos hab]
      have HR := Lib.hid hr
      clear hr
      go_wp2
      go_ret
      exact MDone.of HR.out rfl HP2.out (Chg.of_ext HX4.out)
    by_cases hf : s.jobs.length = 24
    · have hr : submitS c s (z, a1, a2, a3, a4, a5, a6) = (s, 3) := by rw [submitS, if_neg (by rw [hab]; simp), if_pos hf]
      have d1 : ((s.jobs.length : Int) == 24) = true := by rw [hf]; rfl
      have HR := Lib.hid hr
      clear hr
      go_wp2
      go_ret
      exact MDone.of HR.out rfl HP2.out (Chg.of_ext HX4.out)
    have hr : submitS c s (z, a1, a2, a3, a4, a5, a6) = ({ s with jobs := s.jobs ++ [newJ (z, a1, a2, a3, a4, a5, a6)] }, 0) := by rw [submitS, if_neg (by rw [hab]; simp), if_neg hf]
    have d1 : ((s.jobs.length : Int) == 24) = false := by rw [beq_eq_false_iff_ne]; omega
    have HR := Lib.hid hr
    clear hr
    have HROW : Hid (∀ W, Ext w2 W → W.ownsRow 0 52 12 (.slice A s.jobs.length cap) s.jobs.length (jobsC s.jobs)) := Lib.hid fun W hx => (HP2.out.ext hx).rowJ
    have HONE : Hid (∀ u ∈ (newJ (z, a1, a2, a3, a4, a5, a6)).cells, u.oneCell' = true) := Lib.hid (by simp [newJ, Jb.cells, Value.oneCell'])
    have HLIT := Lib.hid (RdS.lit 12 w2 #[.int .i64 a1, .int .i64 a2, .int .i64 a3, .int .i64 a4, .int .i64 a5, .int .i64 a6, .int .i64 0, .int .i64 0, .int .i64 0, .int .i64 0, .int .i64 0, .int .i64 0] 52 w2.heap.size rfl rfl)
    have HKEEP : Hid (∀ W W', Ext w2 W → W.grownBy W' (Value.ownBlock (.slice A s.jobs.length cap)) → Blk W' g 55 (pgC c vn (.slice A s.jobs.length cap) s)) := Lib.hid fun W W' hx hg => by
      have hp := HP2.out.ext hx
      refine (hg.block g hp.lt fun e => ?_).trans hp.blk
      exact ObjF.off hp ⟨52, 12, .slice A s.jobs.length cap, s.jobs.length, jobsC s.jobs⟩ (by simp) e.symm
    have f10 := HP2.out.fr 10
    have hlg2 := HP2.out.lt
    have hlj2 : w.heap.size + 1 < w2.heap.size := (HBJ.out.ext HX3.out).lt
    have hj0 : w2.cell? ⟨w.heap.size + 1, 0, none⟩ = some (.int .i64 a1) := (HBJ.out.ext HX3.out).cell 0
    have hj1 : w2.cell? ⟨w.heap.size + 1, 1, none⟩ = some (.int .i64 a2) := (HBJ.out.ext HX3.out).cell 1
    have hj2 : w2.cell? ⟨w.heap.size + 1, 2, none⟩ = some (.int .i64 a3) := (HBJ.out.ext HX3.out).cell 2
    have hj3 : w2.cell? ⟨w.heap.size + 1, 3, none⟩ = some (.int .i64 a4) := (HBJ.out.ext HX3.out).cell 3
    have hj4 : w2.cell? ⟨w.heap.size + 1, 4, none⟩ = some (.int .i64 a5) := (HBJ.out.ext HX3.out).cell 4
    have hj5 : w2.cell? ⟨w.heap.size + 1, 5, none⟩ = some (.int .i64 a6) := (HBJ.out.ext HX3.out).cell 5
    have hj6 : w2.cell? ⟨w.heap.size + 1, 6, none⟩ = some (.int .i64 0) := (HBJ.out.ext HX3.out).cell 6
    have hj7 : w2.cell? ⟨w.heap.size + 1, 7, none⟩ = some (.int .i64 0) := (HBJ.out.ext HX3.out).cell 7
    have hj8 : w2.cell? ⟨w.heap.size + 1, 8, none⟩ = some (.int .i64 0) := (HBJ.out.ext HX3.out).cell 8
    have hj9 : w2.cell? ⟨w.heap.size + 1, 9, none⟩ = some (.int .i64 0) := (HBJ.out.ext HX3.out).cell 9
    have hj10 : w2.cell? ⟨w.heap.size + 1, 10, none⟩ = some (.int .i64 0) := (HBJ.out.ext HX3.out).cell 10
    have hj11 : w2.cell? ⟨w.heap.size + 1, 11, none⟩ = some (.int .i64 0) := (HBJ.out.ext HX3.out).cell 11
    have hl25 : s.jobs.length + 1 ≤ maxLen := by unfold maxLen; omega
    have hl26 : (s.jobs.length + 1) * 96 ≤ 140737488355328 := by omega
    go_wp2_with fail
    go_region_law (refine stepAppendK (.tmp 38) (.tmp 40) 28 rfl ?_ 0 52 _ 12 96 Tryd.underlying28 Tryd.infoJob rfl (by decide) (.slice A s.jobs.length cap) s.jobs.length (jobsC s.jobs) ?_ (HROW.out _ ?_) (.slice (some ⟨w2.heap.size, 0, none⟩) 1 1) 1 (newJ (z, a1, a2, a3, a4, a5, a6)).cells ?_ ?_ HONE.out hl25 hl26 (Nat.zero_le _) ?_; rfl; rfl; (first | exact Below.alloc (Ext.refl _) (Nat.le_refl _) _ | exact ext_drew9 (Below.alloc (Ext.refl _) (Nat.le_refl _) _) | exact Below.alloc (ext_drew9 (Ext.refl _)) (Nat.le_refl _) _); rfl; (first | exact HLIT.out | exact HLIT.out.ext (ext_drew9 (Ext.refl _))); intro v' w' hg; have hb' := HKEEP.out _ w' (by (first | exact Below.alloc (Ext.refl _) (Nat.le_refl _) _ | exact ext_drew9 (Below.alloc (Ext.refl _) (Nat.le_refl _) _) | exact Below.alloc (ext_drew9 (Ext.refl _)) (Nat.le_refl _) _)) hg.2.1; have c10' : w'.cell? ⟨g, 10, none⟩ = some (.slice A s.jobs.length cap) := hb'.cell 10; have f10' := hb'.frozen 10; obtain ⟨A2, k2, rfl⟩ := own_slice hg.1)
    all_goals
      have HGG := Lib.hid hg
      have HII := Lib.hid HI.out
      clear hg hb' c10' f10'
      go_wp2
      go_ret
      first
        | exact MDone.of2 HR.out rfl (HX4.out.trans (by first | exact Below.alloc (Ext.refl _) (Nat.le_refl _) _ | exact ext_drew9 (Below.alloc (Ext.refl _) (Nat.le_refl _) _) | exact Below.alloc (ext_drew9 (Ext.refl _)) (Nat.le_refl _) _)) ((HP2.out.ext (by first | exact Below.alloc (Ext.refl _) (Nat.le_refl _) _ | exact ext_drew9 (Below.alloc (Ext.refl _) (Nat.le_refl _) _) | exact Below.alloc (ext_drew9 (Ext.refl _)) (Nat.le_refl _) _)).snoc _ HGG.out).1 ((HP2.out.ext (by first | exact Below.alloc (Ext.refl _) (Nat.le_refl _) _ | exact ext_drew9 (Below.alloc (Ext.refl _) (Nat.le_refl _) _) | exact Below.alloc (ext_drew9 (Ext.refl _)) (Nat.le_refl _) _)).snoc _ HGG.out).2 HII.out
        | exact (MDone.of2 HR.out rfl (HX4.out.trans (by first | exact Below.alloc (Ext.refl _) (Nat.le_refl _) _ | exact ext_drew9 (Below.alloc (Ext.refl _) (Nat.le_refl _) _) | exact Below.alloc (ext_drew9 (Ext.refl _)) (Nat.le_refl _) _)) ((HP2.out.ext (by first | exact Below.alloc (Ext.refl _) (Nat.le_refl _) _ | exact ext_drew9 (Below.alloc (Ext.refl _) (Nat.le_refl _) _) | exact Below.alloc (ext_drew9 (Ext.refl _)) (Nat.le_refl _) _)).snoc _ HGG.out).1 ((HP2.out.ext (by first | exact Below.alloc (Ext.refl _) (Nat.le_refl _) _ | exact ext_drew9 (Below.alloc (Ext.refl _) (Nat.le_refl _) _) | exact Below.alloc (ext_drew9 (Ext.refl _)) (Nat.le_refl _) _)).snoc _ HGG.out).2 HII.out).drew

end Go.Proofs.YtddhbokknbmdfaaDoor

/- Package book: Copy. -/
namespace Go.Proofs.YtddhbokknbmdfaaDoor
open Go.RowKit

theorem blk_second (w : World) (t1 t2 : TypeId) (c1 c2 : Array Value) : Blk ((w.alloc (.cells c1 t1)).alloc (.cells c2 t2)) (w.heap.size + 1) t2 c2 := by
  have := Blk.new (w.alloc (.cells c1 t1)) t2 c2
  have e : (w.alloc (.cells c1 t1)).heap.size = w.heap.size + 1 := by simp
  rw [e] at this
  exact this
theorem own_at {w w' : World} {base K n : Nat} {e : TypeId} {v : Value} {xs : List Value} (h : w.ownsRow base e K v n xs) (hk : ∀ k, v.ownBlock = some k → w'.heap[k]? = w.heap[k]?) : w'.ownsRow base e K v n xs := by
  refine ⟨h.1, ?_⟩
  rcases h.2 with hv | ⟨b, cap, cur, hv, hg, hh, x⟩
  · exact .inl hv
  · exact .inr ⟨b, cap, cur, hv, hg, by rw [hk b (by rw [hv]; rfl)]; exact hh, x⟩

set_option maxRecDepth 100000 in
set_option maxHeartbeats 4000000 in
theorem Copy_any (vn vj : Value) (s : St) (w : World) (h : RdSt w vn vj s) (hn : s.nodes.length ≤ 1000) (hj : s.jobs.length ≤ 1000) :
    Calls Tryd.prog 16 #[stV vn vj s] w fun e w' => ∃ vn' vj', e = .returned (stV vn' vj' s) ∧ OwnSt w.heap.size 45 52 w' vn' vj' s ∧ Ext w w' := by
  have HR := Lib.hid h
  have HR2 := Lib.hid h
  obtain ⟨An, cn, rfl, hnc, hcm⟩ := h.nodes.slice_
  obtain ⟨Aj, cj, rfl, hjc, hjm⟩ := h.jobs.slice_
  have HON := Lib.hid (nodes_oneCell s.nodes)
  have HOJ := Lib.hid (jobs_oneCell s.jobs)
  have hl1 : 0 + s.nodes.length ≤ maxLen := by unfold maxLen; omega
  have hl2 : (0 + s.nodes.length) * 24 ≤ 140737488355328 := by omega
  have hl3 : 0 + s.jobs.length ≤ maxLen := by unfold maxLen; omega
  have hl4 : (0 + s.jobs.length) * 96 ≤ 140737488355328 := by omega
  clear h
  unfold stV
  go_enter Tryd.func16, Tryd.ntmps16
  go_wp2_with (first
    | (refine wpList_appendK rfl (.const (.slice none 0 0)) (.tmp 4) 27 rfl w.heap.size 45 _ 5 24 Tryd.underlying27 Tryd.infoNode rfl (by decide) (.slice none 0 0) 0 [] rfl (World.ownsRow_nil _ _ _ _) (.slice An s.nodes.length cn) s.nodes.length (nodesC s.nodes) rfl (HR.out.nodes.ext (ext2 w _ _ _ _)) HON.out hl1 hl2 (by simp; omega) ?_
       intro v3 w3 hg3
       (try rw [Nat.zero_add, List.nil_append] at hg3)
       have hx3 := hg3.ext
       have bb3 := ((Blk.new w 30 #[.slice An s.nodes.length cn, .slice Aj s.jobs.length cj, .int .i64 s.goal, .int .i64 s.prior, .int .i64 s.mode, .int .i64 s.term]).ext ((Below.refl _ _).alloc (Nat.le_refl _) (.cells #[.slice none 0 0, .slice none 0 0, .int .i64 0, .int .i64 0, .int .i64 0, .int .i64 0] 30))).ext hx3
       have br3 := (blk_second w 30 30 #[.slice An s.nodes.length cn, .slice Aj s.jobs.length cj, .int .i64 s.goal, .int .i64 s.prior, .int .i64 s.mode, .int .i64 s.term] #[.slice none 0 0, .slice none 0 0, .int .i64 0, .int .i64 0, .int .i64 0, .int .i64 0]).ext hx3
       have k0 : w3.cell? ⟨w.heap.size, 0, none⟩ = some (.slice An s.nodes.length cn) := bb3.cell 0
       have k1 : w3.cell? ⟨w.heap.size, 1, none⟩ = some (.slice Aj s.jobs.length cj) := bb3.cell 1
       have f0 := bb3.frozen 0
       obtain ⟨A3, c3, rfl⟩ := own_slice hg3.1)
    | (refine wpList_appendK rfl (.const (.slice none 0 0)) (.tmp 8) 28 rfl w.heap.size 52 _ 12 96 Tryd.underlying28 Tryd.infoJob rfl (by decide) (.slice none 0 0) 0 [] rfl (World.ownsRow_nil _ _ _ _) (.slice Aj s.jobs.length cj) s.jobs.length (jobsC s.jobs) rfl (HR.out.jobs.ext (Below.setCell (Ext.trans (ext2 w _ _ _ _) hx3) (Nat.le_refl _) _)) HOJ.out hl3 hl4 (by have := hx3.size; simp at this ⊢; omega) ?_
       intro v4 w4 hg4
       (try rw [Nat.zero_add, List.nil_append] at hg4)
       have hx4 := hg4.ext
       have bb4 := (bb3.set_ 0 (.slice A3 s.nodes.length c3)).ext hx4
       have br4 : Blk w4 (w.heap.size + 1) 30 #[.slice none 0 0, .slice none 0 0, .int .i64 0, .int .i64 0, .int .i64 0, .int .i64 0] := (br3.far (p := ⟨w.heap.size, 0, none⟩) (by show w.heap.size + 1 ≠ w.heap.size; omega) _).ext hx4
       have m0 : w4.cell? ⟨w.heap.size, 0, none⟩ = some (.slice A3 s.nodes.length c3) := bb4.cell 0
       have m1 : w4.cell? ⟨w.heap.size, 1, none⟩ = some (.slice Aj s.jobs.length cj) := bb4.cell 1
       have m2 : w4.cell? ⟨w.heap.size, 2, none⟩ = some (.int .i64 s.goal) := bb4.cell 2
       have m3 : w4.cell? ⟨w.heap.size, 3, none⟩ = some (.int .i64 s.prior) := bb4.cell 3
       have m4 : w4.cell? ⟨w.heap.size, 4, none⟩ = some (.int .i64 s.mode) := bb4.cell 4
       have m5 : w4.cell? ⟨w.heap.size, 5, none⟩ = some (.int .i64 s.term) := bb4.cell 5
       have f1 : w4.frozen? ⟨w.heap.size, 1, none⟩ = false := bb4.frozen 1
       have r0 : w4.cell? ⟨w.heap.size + 1, 0, none⟩ = some (.slice none 0 0) := br4.cell 0
       have g0 : w4.frozen? ⟨w.heap.size + 1, 0, none⟩ = false := br4.frozen 0
       have r1 : w4.cell? ⟨w.heap.size + 1, 1, none⟩ = some (.slice none 0 0) := br4.cell 1
       have g1 : w4.frozen? ⟨w.heap.size + 1, 1, none⟩ = false := br4.frozen 1
       have r2 : w4.cell? ⟨w.heap.size + 1, 2, none⟩ = some (.int .i64 0) := br4.cell 2
       have g2 : w4.frozen? ⟨w.heap.size + 1, 2, none⟩ = false := br4.frozen 2
       have r3 : w4.cell? ⟨w.heap.size + 1, 3, none⟩ = some (.int .i64 0) := br4.cell 3
       have g3 : w4.frozen? ⟨w.heap.size + 1, 3, none⟩ = false := br4.frozen 3
       have r4 : w4.cell? ⟨w.heap.size + 1, 4, none⟩ = some (.int .i64 0) := br4.cell 4
       have g4 : w4.frozen? ⟨w.heap.size + 1, 4, none⟩ = false := br4.frozen 4
       have r5 : w4.cell? ⟨w.heap.size + 1, 5, none⟩ = some (.int .i64 0) := br4.cell 5
       have g5 : w4.frozen? ⟨w.heap.size + 1, 5, none⟩ = false := br4.frozen 5
       obtain ⟨A4, c4, rfl⟩ := own_slice hg4.1))
  have hs2 : ((w.alloc (.cells #[.slice An s.nodes.length cn, .slice Aj s.jobs.length cj, .int .i64 s.goal, .int .i64 s.prior, .int .i64 s.mode, .int .i64 s.term] 30)).alloc (.cells #[.slice none 0 0, .slice none 0 0, .int .i64 0, .int .i64 0, .int .i64 0, .int .i64 0] 30)).heap.size = w.heap.size + 2 := by simp
  have hs3 := hx3.size
  rw [hs2] at hs3
  have hs4 := hx4.size
  have hs5 : (w3.setCell ⟨w.heap.size, 0, none⟩ (.slice A3 s.nodes.length c3)).heap.size = w3.heap.size := by simp
  rw [hs5] at hs4
  have hnb : ∀ k, (Value.slice A3 s.nodes.length c3).ownBlock = some k → w.heap.size + 2 ≤ k ∧ k < w3.heap.size := fun k hk => by
    refine ⟨?_, (hg3.1.lt k hk).2⟩
    rcases hg3.2.2 with h | h
    · rw [h] at hk
      cases hk
    · have := h k hk
      rw [hs2] at this
      exact this
  have hjb : ∀ k, (Value.slice A4 s.jobs.length c4).ownBlock = some k → w3.heap.size ≤ k ∧ k < w4.heap.size := fun k hk => by
    refine ⟨?_, (hg4.1.lt k hk).2⟩
    rcases hg4.2.2 with h | h
    · rw [h] at hk
      cases hk
    · have := h k hk
      rw [hs5] at this
      exact this
  have hrow : ∀ k, w.heap.size + 2 ≤ k → ∀ (u1 u2 u3 u4 u5 u6 u7 : Value), (((((((w4.setCell ⟨w.heap.size, 1, none⟩ u1).setCell ⟨w.heap.size + 1, 0, none⟩ u2).setCell ⟨w.heap.size + 1, 1, none⟩ u3).setCell ⟨w.heap.size + 1, 2, none⟩ u4).setCell ⟨w.heap.size + 1, 3, none⟩ u5).setCell ⟨w.heap.size + 1, 4, none⟩ u6).setCell ⟨w.heap.size + 1, 5, none⟩ u7).heap[k]? = w4.heap[k]? := fun k hk u1 u2 u3 u4 u5 u6 u7 => by
    rw [Below.heap_setCell _ _ _ _ (by show k ≠ w.heap.size + 1; omega), Below.heap_setCell _ _ _ _ (by show k ≠ w.heap.size + 1; omega), Below.heap_setCell _ _ _ _ (by show k ≠ w.heap.size + 1; omega), Below.heap_setCell _ _ _ _ (by show k ≠ w.heap.size + 1; omega), Below.heap_setCell _ _ _ _ (by show k ≠ w.heap.size + 1; omega), Below.heap_setCell _ _ _ _ (by show k ≠ w.heap.size + 1; omega), Below.heap_setCell _ _ _ _ (by show k ≠ w.heap.size; omega)]
  have hb := ((((((br4.far (p := ⟨w.heap.size, 1, none⟩) (by show w.heap.size + 1 ≠ w.heap.size; omega) (.slice A4 s.jobs.length c4)).set_ 0 (.slice A3 s.nodes.length c3)).set_ 1 (.slice A4 s.jobs.length c4)).set_ 2 (.int .i64 s.goal)).set_ 3 (.int .i64 s.prior)).set_ 4 (.int .i64 s.mode)).set_ 5 (.int .i64 s.term)
  have hxa : Ext w (w3.setCell ⟨w.heap.size, 0, none⟩ (.slice A3 s.nodes.length c3)) := Below.setCell (Ext.trans (ext2 w _ _ _ _) hx3) (Nat.le_refl _) _
  have hxf := Below.setCell (p := ⟨w.heap.size + 1, 5, none⟩) (Below.setCell (p := ⟨w.heap.size + 1, 4, none⟩) (Below.setCell (p := ⟨w.heap.size + 1, 3, none⟩) (Below.setCell (p := ⟨w.heap.size + 1, 2, none⟩) (Below.setCell (p := ⟨w.heap.size + 1, 1, none⟩) (Below.setCell (p := ⟨w.heap.size + 1, 0, none⟩) (Below.setCell (p := ⟨w.heap.size, 1, none⟩) (Ext.trans hxa hx4) (Nat.le_refl _) (.slice A4 s.jobs.length c4)) (Nat.le_succ _) (.slice A3 s.nodes.length c3)) (Nat.le_succ _) (.slice A4 s.jobs.length c4)) (Nat.le_succ _) (.int .i64 s.goal)) (Nat.le_succ _) (.int .i64 s.prior)) (Nat.le_succ _) (.int .i64 s.mode)) (Nat.le_succ _) (.int .i64 s.term)
  refine bodyPost_ret (results_cell_row rfl _ _ (w.heap.size + 1) 30 _ (0, 0) _ rfl hb rfl rfl (by kernel_rfl)) rfl ⟨_, _, rfl, ⟨own_at hg3.1 fun k hk => ?_, own_at hg4.1 fun k hk => ?_, fun k hk hk2 => ?_⟩, hxf⟩
  · have := hnb k hk
    rw [hrow k this.1, hx4.block k (by rw [hs5]; exact this.2)]
    exact Below.heap_setCell _ _ _ _ (by show k ≠ w.heap.size; omega)
  · exact hrow k (by have := hjb k hk; omega) _ _ _ _ _ _ _
  · have := hnb k hk
    have := hjb k hk2
    omega

end Go.Proofs.YtddhbokknbmdfaaDoor

/- Package book: an op that names a job or a node that is none. -/
namespace Go.Proofs.YtddhbokknbmdfaaDoor
open Go.RowKit

/-- Whether an op names a job, or a node, that is none. -/
def lacksS (s : St) (o : OpN) : Bool :=
  if o.1 = 2 ∨ o.1 = 9 ∨ o.1 = 10 ∨ o.1 = 11 ∨ o.1 = 12 ∨ o.1 = 13 ∨ o.1 = 14 ∨ o.1 = 15 then !inR o.2.1 1 s.jobs.length
  else if o.1 = 7 ∨ o.1 = 8 ∨ o.1 = 16 ∨ o.1 = 17 ∨ o.1 = 18 ∨ o.1 = 19 then !inR o.2.1 0 ((s.nodes.length : Int) - 1)
  else if o.1 = 20 then !inR o.2.1 1 s.jobs.length || !inR o.2.2.1 0 ((s.nodes.length : Int) - 1) else false

set_option maxRecDepth 100000 in
set_option maxHeartbeats 4000000 in
theorem lacks_any (F : Fp) (w : World) (g : Nat) (c : Cf) (vn vj : Value) (s : St) (z : Nat) (a1 a2 a3 a4 a5 a6 : Int) (h : Pg F w g c vn vj s) (hz : z < 22) :
    Calls Tryd.prog 41 #[.pointer (some ⟨g, 0, none⟩), .agg #[.int .i64 (z : Int), .int .i64 a1, .int .i64 a2, .int .i64 a3, .int .i64 a4, .int .i64 a5, .int .i64 a6]] w fun e w' => e = .returned (.bool (lacksS s ((z : Int), a1, a2, a3, a4, a5, a6))) ∧ Ext w w' := by
  have hx : Ext w (w.alloc (.cells #[.int .i64 (z : Int), .int .i64 a1, .int .i64 a2, .int .i64 a3, .int .i64 a4, .int .i64 a5, .int .i64 a6] 36)) := (Below.refl _ _).alloc (Nat.le_refl _) _
  have HX := Lib.hid hx
  have HJ := Lib.hid (isJob_any F _ g c vn vj s a1 (h.ext hx))
  have HN := Lib.hid fun a => isNode_any F _ g c vn vj s a (h.ext hx)
  have hl : g ≠ w.heap.size := by have := h.lt; omega
  unfold lacksS
  dsimp only
  generalize (s.jobs.length : Int) = nj at *
  generalize (s.nodes.length : Int) - 1 = nn at *
  clear h hx
  match z, hz with
  | 0, _ | 1, _ | 3, _ | 4, _ | 5, _ | 6, _ | 21, _ =>
    go_enter Tryd.func41, Tryd.ntmps41
    go_wp2
    go_ret
    exact ⟨rfl, HX.out⟩
  | 2, _ | 9, _ | 10, _ | 11, _ | 12, _ | 13, _ | 14, _ | 15, _ =>
    go_enter Tryd.func41, Tryd.ntmps41
    go_wp2_with fail
    refine HJ.out.mono ?_
    rintro e1 w1 ⟨rfl, rfl⟩
    go_wp2
    go_ret
    exact ⟨rfl, HX.out⟩
  | 7, _ | 8, _ | 16, _ | 17, _ | 18, _ | 19, _ =>
    go_enter Tryd.func41, Tryd.ntmps41
    go_wp2_with fail
    refine (HN.out _).mono ?_
    rintro e1 w1 ⟨rfl, rfl⟩
    go_wp2
    go_ret
    exact ⟨rfl, HX.out⟩
  | 20, _ =>
    cases hj : inR a1 1 nj
    · go_enter Tryd.func41, Tryd.ntmps41
      go_wp2_with fail
      refine HJ.out.mono ?_
      rintro e1 w1 ⟨rfl, rfl⟩
      go_wp2
      go_ret
      exact ⟨rfl, HX.out⟩
    · go_enter Tryd.func41, Tryd.ntmps41
      go_wp2_with fail
      refine HJ.out.mono ?_
      rintro e1 w1 ⟨rfl, rfl⟩
      go_wp2_with fail
      refine (HN.out _).mono ?_
      rintro e1 w1 ⟨rfl, rfl⟩
      go_wp2
      go_ret
      exact ⟨rfl, HX.out⟩
  | n + 22, h => exact absurd h (by omega)

end Go.Proofs.YtddhbokknbmdfaaDoor

/- Package book: the table of the ops' functions. -/
namespace Go.Proofs.YtddhbokknbmdfaaDoor
open Go.RowKit

/-- The functions of the ops, by their kinds. -/
def doA : Array Value := #[.nilFunc, .func (.func 64) #[] #[], .func (.func 65) #[] #[], .func (.func 66) #[] #[], .func (.func 67) #[] #[], .func (.func 68) #[] #[], .func (.func 69) #[] #[], .func (.func 70) #[] #[], .func (.func 71) #[] #[], .func (.func 72) #[] #[], .func (.func 73) #[] #[], .func (.func 74) #[] #[], .func (.func 75) #[] #[], .func (.func 76) #[] #[], .func (.func 77) #[] #[], .func (.func 78) #[] #[], .func (.func 79) #[] #[], .func (.func 80) #[] #[], .func (.func 81) #[] #[], .func (.func 82) #[] #[], .func (.func 83) #[] #[], .func (.func 84) #[] #[]]
def doF (z : Nat) : FuncId := (#[64, 65, 66, 67, 68, 69, 70, 71, 72, 73, 74, 75, 76, 77, 78, 79, 80, 81, 82, 83, 84] : Array FuncId).getD (z - 1) 0
theorem doA_get {z : Nat} (h1 : 1 ≤ z) (h2 : z < 22) : doA[z]? = some (.func (.func (doF z)) #[] #[]) := by
  match z, h1, h2 with
  | 1, _, _ | 2, _, _ | 3, _, _ | 4, _, _ | 5, _, _ | 6, _, _ | 7, _, _ | 8, _, _ | 9, _, _ | 10, _, _ | 11, _, _ | 12, _, _ | 13, _, _ | 14, _, _ | 15, _, _ | 16, _, _ | 17, _, _ | 18, _, _ | 19, _, _ | 20, _, _ | 21, _, _ => rfl
  | n + 22, _, h => exact absurd h (by omega)
theorem doF_cases {z : Nat} (h1 : 1 ≤ z) (h2 : z < 22) : doF z = 64 ∨ doF z = 65 ∨ doF z = 66 ∨ doF z = 67 ∨ doF z = 68 ∨ doF z = 69 ∨ doF z = 70 ∨ doF z = 71 ∨ doF z = 72 ∨ doF z = 73 ∨ doF z = 74 ∨ doF z = 75 ∨ doF z = 76 ∨ doF z = 77 ∨ doF z = 78 ∨ doF z = 79 ∨ doF z = 80 ∨ doF z = 81 ∨ doF z = 82 ∨ doF z = 83 ∨ doF z = 84 := by
  match z, h1, h2 with
  | 1, _, _ | 2, _, _ | 3, _, _ | 4, _, _ | 5, _, _ | 6, _, _ | 7, _, _ | 8, _, _ | 9, _, _ | 10, _, _ | 11, _, _ | 12, _, _ | 13, _, _ | 14, _, _ | 15, _, _ | 16, _, _ | 17, _, _ | 18, _, _ | 19, _, _ | 20, _, _ | 21, _, _ => decide +revert
  | n + 22, _, h => exact absurd h (by omega)
theorem doA_one : doA.all (·.oneCell') = true := by decide +kernel
theorem doA_size : doA.size = 22 := rfl
theorem nilA_size : (#[.nilFunc, .nilFunc, .nilFunc, .nilFunc, .nilFunc, .nilFunc, .nilFunc, .nilFunc, .nilFunc, .nilFunc, .nilFunc, .nilFunc, .nilFunc, .nilFunc, .nilFunc, .nilFunc, .nilFunc, .nilFunc, .nilFunc, .nilFunc, .nilFunc, .nilFunc] : Array Value).size = 22 := rfl

set_option maxRecDepth 100000 in
theorem doers_any (w : World) :
    Calls Tryd.prog 42 #[] w fun e w' => e = .returned (.agg doA) ∧ Ext w w' := by
  have hb := Blk.new w 75 #[.nilFunc, .nilFunc, .nilFunc, .nilFunc, .nilFunc, .nilFunc, .nilFunc, .nilFunc, .nilFunc, .nilFunc, .nilFunc, .nilFunc, .nilFunc, .nilFunc, .nilFunc, .nilFunc, .nilFunc, .nilFunc, .nilFunc, .nilFunc, .nilFunc, .nilFunc]
  have hx : Ext w (w.alloc (.cells #[.nilFunc, .nilFunc, .nilFunc, .nilFunc, .nilFunc, .nilFunc, .nilFunc, .nilFunc, .nilFunc, .nilFunc, .nilFunc, .nilFunc, .nilFunc, .nilFunc, .nilFunc, .nilFunc, .nilFunc, .nilFunc, .nilFunc, .nilFunc, .nilFunc, .nilFunc] 75)) := (Below.refl _ _).alloc (Nat.le_refl _) _
  have hi : (Tryd.prog.info? 75).map (·.size) = some doA.size := by kernel_rfl
  have HB := Lib.hid hb
  have HX := Lib.hid hx
  have HI := Lib.hid hi
  clear hb hx hi
  go_enter Tryd.func42, Tryd.ntmps42
  go_wp2_with (refine wpList_storeB rfl 75 _ _ rfl w.heap.size doA rfl rfl 75 _ HB.out HI.out rfl doA_one w.heap.size w HX.out (Nat.le_refl _) ?_; intro w2 hb2 hx2)
  exact bodyPost_ret (results_cell_row rfl _ _ w.heap.size 75 _ (0, 0) _ rfl hb2 rfl rfl (by kernel_rfl)) rfl ⟨rfl, hx2⟩

end Go.Proofs.YtddhbokknbmdfaaDoor

/- Package ops: kinds, an op's numbers, whether it is right. -/
namespace Go.Proofs.YtddhbokknbmdfaaDoor
open Go.RowKit

set_option maxRecDepth 100000 in
theorem isKind_any (k : Int) (w : World) :
    Calls Tryd.prog 60 #[.int .i64 k] w fun e w' => e = .returned (.bool (decide (1 ≤ k ∧ k ≤ 21))) ∧ w = w' := by
  by_cases h1 : 0 < k
  · by_cases h2 : k < 22
    · have d1 : decide (0 < k) = true := decide_eq_true h1
      have d2 : decide (k < 22) = true := decide_eq_true h2
      rw [decide_eq_true (show 1 ≤ k ∧ k ≤ 21 by omega)]
      clear h1 h2
      go_enter Tryd.func60, Tryd.ntmps60
      go_wp2
      go_ret
      exact ⟨rfl, rfl⟩
    · have d1 : decide (0 < k) = true := decide_eq_true h1
      have d2 : decide (k < 22) = false := decide_eq_false h2
      rw [decide_eq_false (show ¬ (1 ≤ k ∧ k ≤ 21) by omega)]
      clear h1 h2
      go_enter Tryd.func60, Tryd.ntmps60
      go_wp2
      go_ret
      exact ⟨rfl, rfl⟩
  · have d1 : decide (0 < k) = false := decide_eq_false h1
    rw [decide_eq_false (show ¬ (1 ≤ k ∧ k ≤ 21) by omega)]
    clear h1
    go_enter Tryd.func60, Tryd.ntmps60
    go_wp2
    go_ret
    exact ⟨rfl, rfl⟩

/-- An op's six numbers as an array. -/
def arrO (o : OpN) : Array Value := #[.int .i64 o.2.1, .int .i64 o.2.2.1, .int .i64 o.2.2.2.1, .int .i64 o.2.2.2.2.1, .int .i64 o.2.2.2.2.2.1,  .int .i64 o.2.2.2.2.2.2]
def arrV (o : OpN) : Value := .agg (arrO o)
theorem arrO_get (o : OpN) {i : Nat} (h : i < 6) : (arrO o)[i]? = some (.int .i64 (numAtO o i)) := by
  rcases (show i = 0 ∨ i = 1 ∨ i = 2 ∨ i = 3 ∨ i = 4 ∨ i = 5 by omega) with rfl | rfl | rfl | rfl | rfl | rfl <;> rfl

set_option maxRecDepth 100000 in
theorem numbers_any (o : OpN) (w : World) :
    Calls Tryd.prog 61 #[opV o] w fun e w' => e = .returned (arrV o) ∧ Ext w w' := by
  obtain ⟨k, a, b, c, d, e, f⟩ := o
  unfold opV arrV arrO
  dsimp only
  go_enter Tryd.func61, Tryd.ntmps61
  go_wp2
  have hg : (w.alloc (.cells #[.int .i64 k, .int .i64 a, .int .i64 b, .int .i64 c, .int .i64 d, .int .i64 e, .int .i64 f] 36)).heap.size = w.heap.size + 1 := by simp
  have h9 := Blk.new (w.alloc (.cells #[.int .i64 k, .int .i64 a, .int .i64 b, .int .i64 c, .int .i64 d, .int .i64 e, .int .i64 f] 36)) 89 #[.int .i64 a, .int .i64 b, .int .i64 c, .int .i64 d, .int .i64 e, .int .i64 f]
  rw [hg] at h9
  exact bodyPost_ret (results_cell_row rfl _ _ (w.heap.size + 1) 89 _ (0, 0) _ rfl h9 rfl rfl (by kernel_rfl)) rfl ⟨rfl, ((Below.refl _ w).alloc (Nat.le_refl _) _).alloc (by simp) _⟩

theorem ok_step {o : OpN} {n : Nat} (h : ∀ j, j < n → okAtO o j = true) (hn : okAtO o n = true) : ∀ j, j < n + 1 → okAtO o j = true := fun j hj => by
  rcases Nat.lt_or_ge j n with h' | h'
  · exact h j h'
  · have : j = n := by omega
    rw [this]
    exact hn
theorem right_kind {o : OpN} (h : ¬ (1 ≤ o.1 ∧ o.1 ≤ 21)) : rightO o = false := by
  rw [Bool.eq_false_iff]
  exact fun hr => h (rightO_iff.1 hr).1

set_option maxRecDepth 100000 in
set_option maxHeartbeats 4000000 in
theorem Right_any (o : OpN) (w : World) (hL : Laid w) :
    Calls Tryd.prog 40 #[opV o] w fun e w' => e = .returned (.bool (rightO o)) ∧ Ext w w' := by
  have HKN := Lib.hid fun w' => numbers_any o w'
  have HKK := Lib.hid fun w' => isKind_any o.1 w'
  have HNO := Lib.hid (fun (i : Nat) (h : i < 6) (hn : okAtO o i = false) => right_no h hn)
  have HYES := Lib.hid (right_all (o := o))
  have HKD := Lib.hid (right_kind (o := o))
  have hok : ∀ i : Nat, okAtO o i = (decide (0 ≤ numAtO o i ∧ numAtO o i ≤ 1000000) && (decide (i < manyK o.1) || numAtO o i == 0)) := fun i => rfl
  have HOK := Lib.hid hok
  have HM6 := Lib.hid (manyK_le o.1)
  have HLD := Lib.hid hL
  clear hok hL
  obtain ⟨k, a, b, c, d, e, f⟩ := o
  generalize ho : ((k, a, b, c, d, e, f) : OpN) = o at *
  have hk : o.1 = k := by rw [← ho]
  have hv : opV o = .agg #[.int .i64 k, .int .i64 a, .int .i64 b, .int .i64 c, .int .i64 d, .int .i64 e, .int .i64 f] := by rw [← ho]; rfl
  have hav : arrV o = .agg (arrO o) := rfl
  have HAO := Lib.hid (fun (i : Nat) (h : i < 6) => arrO_get o h)
  rw [hk] at HKK HKD HYES HOK HM6
  rw [hv, hav] at HKN
  rw [hv]
  generalize arrO o = ao at *
  have hE : Ext w (w.alloc (.cells #[.int .i64 k, .int .i64 a, .int .i64 b, .int .i64 c, .int .i64 d, .int .i64 e, .int .i64 f] 36)) := (Below.refl _ _).alloc (Nat.le_refl _) _
  have hbk := Blk.new w 36 #[.int .i64 k, .int .i64 a, .int .i64 b, .int .i64 c, .int .i64 d, .int .i64 e, .int .i64 f]
  clear ho hv hav hk
  have HE := Lib.hid hE
  have HBK := Lib.hid hbk
  clear hE hbk
  by_cases h : 1 ≤ k ∧ k ≤ 21
  · obtain ⟨kn, rfl⟩ : ∃ n : Nat, k = (n : Int) := ⟨k.toNat, by omega⟩
    have hk1 : 1 ≤ kn := by omega
    have hk2 : kn < 22 := by omega
    rw [decide_eq_true h] at HKK HYES
    have HKR := Lib.hid h
    clear HKD h
    go_enter Tryd.func40, Tryd.ntmps40
    go_wp2_with fail
    refine (HKK.out _).mono ?_
    rintro e1 w1 ⟨rfl, rfl⟩
    go_wp2_with fail
    refine (HKN.out _).mono ?_
    rintro e2 w2 ⟨rfl, hx2⟩
    have HB2 := Lib.hid (HBK.out.ext hx2)
    have HX2 := Lib.hid (HE.out.trans hx2)
    have c0 : w2.cell? ⟨w.heap.size, 0, none⟩ = some (.int .i64 (kn : Int)) := HB2.out.cell 0
    have cc : w2.cell? ⟨0, kn, none⟩ = some (.int .i64 (manyK (kn : Int) : Int)) := by
      rw [← cntK_pos hk1]
      exact (HLD.out.ext HX2.out).count kn hk2
    generalize manyK (kn : Int) = mk at *
    obtain ⟨mi, hmi⟩ : ∃ mi : Int, mi = (mk : Int) := ⟨_, rfl⟩
    rw [← hmi] at cc
    have HMI := Lib.hid hmi
    have hix : ∀ n : Nat, n < 6 → (Instr.index 89 (.agg ao) (.int .i64 n)).run Tryd.prog w2 = .ok (.int .i64 (numAtO o n)) w2 := fun n hn => run_index_arr _ 3 6 _ _ n _ Tryd.underlying89 (Tryd.sizeOf3 w2) (Tryd.isAgg3 w2) hn (HAO.out n hn)
    have HIX := Lib.hid hix
    clear hx2 HE HBK hmi hix
    go_wp2
    go_loop [11] (fun i => ∃ n : Nat, i = .int .i64 n ∧ n ≤ 6 ∧ Hid (∀ j, j < n → okAtO o j = true)) (fun i => 6 - (intOf i).toNat)
    case atStart => exact ⟨0, rfl, by decide, Lib.hid (fun j hj => absurd hj (Nat.not_lt_zero j))⟩
    case round =>
      obtain ⟨n, rfl, hn, HA⟩ := hrel
      by_cases hlt : n < 6
      · have hokn := HOK.out n
        have hnon := HNO.out n hlt
        have hin6 := HIX.out n hlt
        generalize hx : numAtO o n = x at *
        have l6 : decide ((n : Int) < 6) = true := decide_eq_true (by omega)
        have HLT := Lib.hid hlt
        by_cases h1 : x < 0
        · have HZ := Lib.hid (hnon (by rw [hokn, decide_eq_false (by omega)]; rfl))
          have d1 : decide (x < 0) = true := decide_eq_true h1
          clear hokn hnon hx h1 hn
          go_wp2
          go_ret
          exact ⟨by rw [HZ.out]; rfl, HX2.out⟩
        · have d1 : decide (x < 0) = false := decide_eq_false h1
          by_cases h2 : 1000000 < x
          · have HZ := Lib.hid (hnon (by rw [hokn, decide_eq_false (by omega)]; rfl))
            have d2 : decide (1000000 < x) = true := decide_eq_true h2
            clear hokn hnon hx h1 h2 hn
            go_wp2
            go_ret
            exact ⟨by rw [HZ.out]; rfl, HX2.out⟩
          · have d2 : decide (1000000 < x) = false := decide_eq_false h2
            have hin : decide (0 ≤ x ∧ x ≤ 1000000) = true := decide_eq_true (by omega)
            by_cases h3 : n < mk
            · have HY := Lib.hid (ok_step HA.out (by rw [hokn, hin, decide_eq_true h3]; rfl))
              have d3 : decide (mi ≤ (n : Int)) = false := decide_eq_false (by have := HMI.out; omega)
              clear hokn hnon hx h1 h2 h3 hin hn
              go_wp2
              go_round
              case rel => exact ⟨n + 1, by go_num, HLT.out, HY⟩
              case measure => have := HLT.out; simp [intOf]; omega
            · have d3 : decide (mi ≤ (n : Int)) = true := decide_eq_true (by have := HMI.out; omega)
              by_cases h4 : x = 0
              · have HY := Lib.hid (ok_step HA.out (by rw [hokn, hin, h4]; simp))
                have d4 : (x != 0) = false := by simp [h4]
                clear hokn hnon hx h1 h2 h3 hin h4 hn
                go_wp2
                go_round
                case rel => exact ⟨n + 1, by go_num, HLT.out, HY⟩
                case measure => have := HLT.out; simp [intOf]; omega
              · have HZ := Lib.hid (hnon (by
                  rw [hokn, hin, decide_eq_false h3]
                  simpa using h4))
                have d4 : (x != 0) = true := by simp [h4]
                clear hokn hnon hx h1 h2 h3 hin h4 hn
                go_wp2
                go_ret
                exact ⟨by rw [HZ.out]; rfl, HX2.out⟩
      · obtain rfl : n = 6 := by omega
        have HZ := Lib.hid (HYES.out HA.out)
        go_wp2
        go_ret
        exact ⟨by rw [HZ.out]; rfl, HX2.out⟩
  · rw [decide_eq_false h] at HKK
    have HZ := Lib.hid (HKD.out h)
    clear HKD h HYES
    go_enter Tryd.func40, Tryd.ntmps40
    go_wp2_with fail
    refine (HKK.out _).mono ?_
    rintro e1 w1 ⟨rfl, rfl⟩
    go_wp2
    go_ret
    exact ⟨by rw [HZ.out]; rfl, HE.out⟩

end Go.Proofs.YtddhbokknbmdfaaDoor

/- Package book: an op is done. -/
namespace Go.Proofs.YtddhbokknbmdfaaDoor
open Go.RowKit

set_option maxRecDepth 100000 in
set_option maxHeartbeats 4000000 in
theorem do_wrong (F : Fp) (w : World) (g : Nat) (c : Cf) (vn vj : Value) (s : St) (z : Nat) (a1 a2 a3 a4 a5 a6 : Int) (h : Pg F w g c vn vj s) (hL : Laid w) (hz2 : z < 22) (hr : rightO ((z : Int), a1, a2, a3, a4, a5, a6) = false) :
    Calls Tryd.prog 24 #[.pointer (some ⟨g, 0, none⟩), .agg #[.int .i64 (z : Int), .int .i64 a1, .int .i64 a2, .int .i64 a3, .int .i64 a4, .int .i64 a5, .int .i64 a6]] w fun e w' => e = .returned (.int .i64 ((s, 1) : Res9).2) ∧ (∃ vn vj, Pg (F.since w w') w' g c vn vj ((s, 1) : Res9).1) ∧ Chg F w w' := by
  obtain ⟨hx, hbk⟩ := boxOp w #[.int .i64 (z : Int), .int .i64 a1, .int .i64 a2, .int .i64 a3, .int .i64 a4, .int .i64 a5, .int .i64 a6]
  obtain ⟨W1, hW1⟩ : ∃ W1, W1 = w.alloc (.cells #[.int .i64 (z : Int), .int .i64 a1, .int .i64 a2, .int .i64 a3, .int .i64 a4, .int .i64 a5, .int .i64 a6] 36) := ⟨_, rfl⟩
  rw [← hW1] at hx hbk
  have HR0 := Lib.hid (Right_any ((z : Int), a1, a2, a3, a4, a5, a6) W1 (hL.ext hx))
  have HX := Lib.hid hx
  have HP := Lib.hid (h.ext hx)
  have HB := Lib.hid hbk
  have HLK := Lib.hid fun W hx => lacks_any F W g c vn vj s z a1 a2 a3 a4 a5 a6 (HP.out.ext hx) hz2
  rw [show opV ((z : Int), a1, a2, a3, a4, a5, a6) = .agg #[.int .i64 (z : Int), .int .i64 a1, .int .i64 a2, .int .i64 a3, .int .i64 a4, .int .i64 a5, .int .i64 a6] from rfl] at HR0
  rw [hr] at HR0
  clear hx hbk h hL hr
  go_enter Tryd.func24, Tryd.ntmps24
  go_wp2_with fail
  rw [← hW1]
  clear hW1
  refine HR0.out.mono ?_
  rintro e1 w1 ⟨rfl, hx1⟩
  have HX1 := Lib.hid hx1
  have HB1 := Lib.hid (HB.out.ext hx1)
  clear hx1
  have HP1 := Lib.hid (HP.out.ext HX1.out)
  go_wp2
  go_ret
  exact MDone.of (res := (s, 1)) rfl rfl HP1.out (Chg.of_ext (HX.out.trans HX1.out))

set_option maxRecDepth 100000 in
set_option maxHeartbeats 4000000 in
theorem do_lacks (F : Fp) (w : World) (g : Nat) (c : Cf) (vn vj : Value) (s : St) (z : Nat) (a1 a2 a3 a4 a5 a6 : Int) (h : Pg F w g c vn vj s) (hL : Laid w) (hz2 : z < 22) (hr : rightO ((z : Int), a1, a2, a3, a4, a5, a6) = true) (hl : lacksS s ((z : Int), a1, a2, a3, a4, a5, a6) = true) :
    Calls Tryd.prog 24 #[.pointer (some ⟨g, 0, none⟩), .agg #[.int .i64 (z : Int), .int .i64 a1, .int .i64 a2, .int .i64 a3, .int .i64 a4, .int .i64 a5, .int .i64 a6]] w fun e w' => e = .returned (.int .i64 ((s, 4) : Res9).2) ∧ (∃ vn vj, Pg (F.since w w') w' g c vn vj ((s, 4) : Res9).1) ∧ Chg F w w' := by
  obtain ⟨hx, hbk⟩ := boxOp w #[.int .i64 (z : Int), .int .i64 a1, .int .i64 a2, .int .i64 a3, .int .i64 a4, .int .i64 a5, .int .i64 a6]
  obtain ⟨W1, hW1⟩ : ∃ W1, W1 = w.alloc (.cells #[.int .i64 (z : Int), .int .i64 a1, .int .i64 a2, .int .i64 a3, .int .i64 a4, .int .i64 a5, .int .i64 a6] 36) := ⟨_, rfl⟩
  rw [← hW1] at hx hbk
  have HR0 := Lib.hid (Right_any ((z : Int), a1, a2, a3, a4, a5, a6) W1 (hL.ext hx))
  have HX := Lib.hid hx
  have HP := Lib.hid (h.ext hx)
  have HB := Lib.hid hbk
  have HLK := Lib.hid fun W hx => lacks_any F W g c vn vj s z a1 a2 a3 a4 a5 a6 (HP.out.ext hx) hz2
  rw [show opV ((z : Int), a1, a2, a3, a4, a5, a6) = .agg #[.int .i64 (z : Int), .int .i64 a1, .int .i64 a2, .int .i64 a3, .int .i64 a4, .int .i64 a5, .int .i64 a6] from rfl] at HR0
  rw [hr] at HR0
  rw [hl] at HLK
  clear hx hbk h hL hr hl
  go_enter Tryd.func24, Tryd.ntmps24
  go_wp2_with fail
  rw [← hW1]
  clear hW1
  refine HR0.out.mono ?_
  rintro e1 w1 ⟨rfl, hx1⟩
  have HX1 := Lib.hid hx1
  have HB1 := Lib.hid (HB.out.ext hx1)
  clear hx1
  have q0 : w1.cell? ⟨w.heap.size, 0, none⟩ = some (.int .i64 (z : Int)) := HB1.out.cell 0
  have q1 : w1.cell? ⟨w.heap.size, 1, none⟩ = some (.int .i64 a1) := HB1.out.cell 1
  have q2 : w1.cell? ⟨w.heap.size, 2, none⟩ = some (.int .i64 a2) := HB1.out.cell 2
  have q3 : w1.cell? ⟨w.heap.size, 3, none⟩ = some (.int .i64 a3) := HB1.out.cell 3
  have q4 : w1.cell? ⟨w.heap.size, 4, none⟩ = some (.int .i64 a4) := HB1.out.cell 4
  have q5 : w1.cell? ⟨w.heap.size, 5, none⟩ = some (.int .i64 a5) := HB1.out.cell 5
  have q6 : w1.cell? ⟨w.heap.size, 6, none⟩ = some (.int .i64 a6) := HB1.out.cell 6
  go_wp2_with fail
  refine (HLK.out _ HX1.out).mono ?_
  rintro e2 w2 ⟨rfl, hx2⟩
  have HX2 := Lib.hid (HX1.out.trans hx2)
  have HP1 := Lib.hid (HP.out.ext HX2.out)
  clear hx2
  go_wp2
  go_ret
  exact MDone.of (res := (s, 4)) rfl rfl HP1.out (Chg.of_ext (HX.out.trans HX2.out))

set_option maxRecDepth 100000 in
set_option maxHeartbeats 4000000 in
theorem do_right (F : Fp) (w : World) (g : Nat) (c : Cf) (vn vj : Value) (s : St) (z : Nat) (a1 a2 a3 a4 a5 a6 : Int) (res : Res9) (h : Pg F w g c vn vj s) (hL : Laid w) (hz2 : z < 22) (hz1 : 1 ≤ z) (hr : rightO ((z : Int), a1, a2, a3, a4, a5, a6) = true) (hl : lacksS s ((z : Int), a1, a2, a3, a4, a5, a6) = false) (HC : ∀ W, Ext w W → Calls Tryd.prog (doF z) #[.pointer (some ⟨g, 0, none⟩), .agg #[.int .i64 (z : Int), .int .i64 a1, .int .i64 a2, .int .i64 a3, .int .i64 a4, .int .i64 a5, .int .i64 a6]] W fun e w' => e = .returned (.int .i64 res.2) ∧ (∃ vn vj, Pg (F.since W w') w' g c vn vj res.1) ∧ Chg F W w') :
    Calls Tryd.prog 24 #[.pointer (some ⟨g, 0, none⟩), .agg #[.int .i64 (z : Int), .int .i64 a1, .int .i64 a2, .int .i64 a3, .int .i64 a4, .int .i64 a5, .int .i64 a6]] w fun e w' => e = .returned (.int .i64 res.2) ∧ (∃ vn vj, Pg (F.since w w') w' g c vn vj res.1) ∧ Chg F w w' := by
  obtain ⟨hx, hbk⟩ := boxOp w #[.int .i64 (z : Int), .int .i64 a1, .int .i64 a2, .int .i64 a3, .int .i64 a4, .int .i64 a5, .int .i64 a6]
  obtain ⟨W1, hW1⟩ : ∃ W1, W1 = w.alloc (.cells #[.int .i64 (z : Int), .int .i64 a1, .int .i64 a2, .int .i64 a3, .int .i64 a4, .int .i64 a5, .int .i64 a6] 36) := ⟨_, rfl⟩
  rw [← hW1] at hx hbk
  have HR0 := Lib.hid (Right_any ((z : Int), a1, a2, a3, a4, a5, a6) W1 (hL.ext hx))
  have HX := Lib.hid hx
  have HP := Lib.hid (h.ext hx)
  have HB := Lib.hid hbk
  have HLK := Lib.hid fun W hx => lacks_any F W g c vn vj s z a1 a2 a3 a4 a5 a6 (HP.out.ext hx) hz2
  rw [show opV ((z : Int), a1, a2, a3, a4, a5, a6) = .agg #[.int .i64 (z : Int), .int .i64 a1, .int .i64 a2, .int .i64 a3, .int .i64 a4, .int .i64 a5, .int .i64 a6] from rfl] at HR0
  rw [hr] at HR0
  rw [hl] at HLK
  have HCC := Lib.hid HC
  have HD := Lib.hid fun W => doers_any W
  have HFI := Lib.hid h.isIn
  have HDF := Lib.hid (doF_cases hz1 hz2)
  have HIX : Hid (∀ W : World, (Instr.index 75 (.agg doA) (.int .i64 (z : Int))).run Tryd.prog W = .ok (.func (.func (doF z)) #[] #[]) W) := Lib.hid fun W =>
    run_index_arr _ 74 22 _ _ z _ Tryd.underlying75 (Tryd.sizeOf74 W) (Tryd.isAgg74 W) hz2 (doA_get hz1 hz2)
  clear hx hbk h hL hr hl HC
  go_enter Tryd.func24, Tryd.ntmps24
  go_wp2_with fail
  rw [← hW1]
  clear hW1
  refine HR0.out.mono ?_
  rintro e1 w1 ⟨rfl, hx1⟩
  have HX1 := Lib.hid hx1
  have HB1 := Lib.hid (HB.out.ext hx1)
  clear hx1
  have q0 : w1.cell? ⟨w.heap.size, 0, none⟩ = some (.int .i64 (z : Int)) := HB1.out.cell 0
  have q1 : w1.cell? ⟨w.heap.size, 1, none⟩ = some (.int .i64 a1) := HB1.out.cell 1
  have q2 : w1.cell? ⟨w.heap.size, 2, none⟩ = some (.int .i64 a2) := HB1.out.cell 2
  have q3 : w1.cell? ⟨w.heap.size, 3, none⟩ = some (.int .i64 a3) := HB1.out.cell 3
  have q4 : w1.cell? ⟨w.heap.size, 4, none⟩ = some (.int .i64 a4) := HB1.out.cell 4
  have q5 : w1.cell? ⟨w.heap.size, 5, none⟩ = some (.int .i64 a5) := HB1.out.cell 5
  have q6 : w1.cell? ⟨w.heap.size, 6, none⟩ = some (.int .i64 a6) := HB1.out.cell 6
  go_wp2_with fail
  refine (HLK.out _ HX1.out).mono ?_
  rintro e2 w2 ⟨rfl, hx2⟩
  have HX2 := Lib.hid (HX1.out.trans hx2)
  have HX3 := Lib.hid (HX.out.trans HX2.out)
  have HS4 : Hid (∀ W, Ext w2 W → (fun (W : World) => W.cell? ⟨w.heap.size, 0, none⟩ = some (.int .i64 (z : Int)) ∧ W.cell? ⟨w.heap.size, 1, none⟩ = some (.int .i64 a1) ∧ W.cell? ⟨w.heap.size, 2, none⟩ = some (.int .i64 a2) ∧ W.cell? ⟨w.heap.size, 3, none⟩ = some (.int .i64 a3) ∧ W.cell? ⟨w.heap.size, 4, none⟩ = some (.int .i64 a4) ∧ W.cell? ⟨w.heap.size, 5, none⟩ = some (.int .i64 a5) ∧ W.cell? ⟨w.heap.size, 6, none⟩ = some (.int .i64 a6)) W) := Lib.hid fun W hx => by
    have hb := HB.out.ext (HX2.out.trans hx)
    exact ⟨hb.cell 0, hb.cell 1, hb.cell 2, hb.cell 3, hb.cell 4, hb.cell 5, hb.cell 6⟩
  clear hx2 q0 q1 q2 q3 q4 q5 q6
  generalize doA = da at *
  generalize doF z = df at *
  go_wp2_with fail
  refine held_begin (by kernel_rfl) ?_
  have hHeld0 : True := True.intro
  refine held_more (S' := fun (W : World) => W.cell? ⟨w.heap.size, 0, none⟩ = some (.int .i64 (z : Int)) ∧ W.cell? ⟨w.heap.size, 1, none⟩ = some (.int .i64 a1) ∧ W.cell? ⟨w.heap.size, 2, none⟩ = some (.int .i64 a2) ∧ W.cell? ⟨w.heap.size, 3, none⟩ = some (.int .i64 a3) ∧ W.cell? ⟨w.heap.size, 4, none⟩ = some (.int .i64 a4) ∧ W.cell? ⟨w.heap.size, 5, none⟩ = some (.int .i64 a5) ∧ W.cell? ⟨w.heap.size, 6, none⟩ = some (.int .i64 a6)) (fun _ _ => True.intro) ?_
  have hHeld1 : (fun (W : World) => W.cell? ⟨w.heap.size, 0, none⟩ = some (.int .i64 (z : Int)) ∧ W.cell? ⟨w.heap.size, 1, none⟩ = some (.int .i64 a1) ∧ W.cell? ⟨w.heap.size, 2, none⟩ = some (.int .i64 a2) ∧ W.cell? ⟨w.heap.size, 3, none⟩ = some (.int .i64 a3) ∧ W.cell? ⟨w.heap.size, 4, none⟩ = some (.int .i64 a4) ∧ W.cell? ⟨w.heap.size, 5, none⟩ = some (.int .i64 a5) ∧ W.cell? ⟨w.heap.size, 6, none⟩ = some (.int .i64 a6)) _ := HS4.out _ (ext_drew9 (Ext.refl _))
  clear hHeld0
  refine held_take (i := 1) (v := ?_) rfl (by kernel_rfl) (by kernel_rfl) (by kernel_rfl) (by rfl) (by first | assumption | exact True.intro) ?_ ?_
  rotate_left
  · (intro w hSw; (try dsimp only at hSw); go_simp; (try with_reducible rfl))
  try simp only [Act.put, List.setIfInBounds_toArray, List.set_cons_zero, List.set_cons_succ]
  refine held_take (i := 2) (v := ?_) rfl (by kernel_rfl) (by kernel_rfl) (by kernel_rfl) (by rfl) (by first | assumption | exact True.intro) ?_ ?_
  rotate_left
  · (intro w hSw; (try dsimp only at hSw); go_simp; (try with_reducible rfl))
  try simp only [Act.put, List.setIfInBounds_toArray, List.set_cons_zero, List.set_cons_succ]
  refine held_take (i := 4) (v := ?_) rfl (by kernel_rfl) (by kernel_rfl) (by kernel_rfl) (by rfl) (by first | assumption | exact True.intro) ?_ ?_
  rotate_left
  · (intro w hSw; (try dsimp only at hSw); go_simp; (try with_reducible rfl))
  try simp only [Act.put, List.setIfInBounds_toArray, List.set_cons_zero, List.set_cons_succ]
  refine held_take (i := 5) (v := ?_) rfl (by kernel_rfl) (by kernel_rfl) (by kernel_rfl) (by rfl) (by first | assumption | exact True.intro) ?_ ?_
  rotate_left
  · (intro w hSw; (try dsimp only at hSw); go_simp; (try with_reducible rfl))
  try simp only [Act.put, List.setIfInBounds_toArray, List.set_cons_zero, List.set_cons_succ]
  refine held_op (i := 0) (by kernel_rfl) rfl (fun K hK => ?_)
  go_simp
  go_at_call 42
  (with_reducible refine (HD.out _).mono ?_)
  rintro e4 w4 ⟨rfl, hx4⟩
  refine hK _ _ ?_ (fun hHeld2 => ?_)
  · exact HS4.out _ (Ext.of_drew hx4)
  clear hK K hHeld1
  try simp only [Act.put, List.setIfInBounds_toArray, List.set_cons_zero, List.set_cons_succ]
  have hdf := HDF.out
  clear HDF
  rcases hdf with rfl | rfl | rfl | rfl | rfl | rfl | rfl | rfl | rfl | rfl | rfl | rfl | rfl | rfl | rfl | rfl | rfl | rfl | rfl | rfl | rfl
  all_goals
    have hix := HIX.out
    have hx5 : Ext w w4 := HX3.out.trans (Ext.of_drew hx4)
    have HX5 := Lib.hid hx5
    have HB4 := Lib.hid (HB.out.ext (HX2.out.trans (Ext.of_drew hx4)))
    have HKS : Hid (∀ W, Chg F w4 W → (fun (W : World) => W.cell? ⟨w.heap.size, 0, none⟩ = some (.int .i64 (z : Int)) ∧ W.cell? ⟨w.heap.size, 1, none⟩ = some (.int .i64 a1) ∧ W.cell? ⟨w.heap.size, 2, none⟩ = some (.int .i64 a2) ∧ W.cell? ⟨w.heap.size, 3, none⟩ = some (.int .i64 a3) ∧ W.cell? ⟨w.heap.size, 4, none⟩ = some (.int .i64 a4) ∧ W.cell? ⟨w.heap.size, 5, none⟩ = some (.int .i64 a5) ∧ W.cell? ⟨w.heap.size, 6, none⟩ = some (.int .i64 a6)) W) := Lib.hid fun W hc => by
      have hb := (hc.block w.heap.size HB4.out.lt (fun hF => by have := HFI.out _ hF; omega)).trans HB4.out
      have hb : Blk W w.heap.size 36 #[.int .i64 (z : Int), .int .i64 a1, .int .i64 a2, .int .i64 a3, .int .i64 a4, .int .i64 a5, .int .i64 a6] := hb
      exact ⟨hb.cell 0, hb.cell 1, hb.cell 2, hb.cell 3, hb.cell 4, hb.cell 5, hb.cell 6⟩
    refine held_take (i := 3) (v := ?_) rfl (by kernel_rfl) (by kernel_rfl) (by kernel_rfl) (by rfl) (by first | assumption | exact True.intro) ?_ ?_
    rotate_left
    · (intro w hSw; (try dsimp only at hSw); go_simp; (try with_reducible rfl))
    try simp only [Act.put, List.setIfInBounds_toArray, List.set_cons_zero, List.set_cons_succ]
    refine held_op (i := 6) (by kernel_rfl) rfl (fun K hK => ?_)
    go_simp
    (with_reducible refine (HCC.out _ (HX3.out.trans (Ext.of_drew hx4))).mono ?_)
    rintro e6 w6 ⟨rfl, hp6, hc6⟩
    refine hK _ _ ?_ (fun hHeld3 => ?_)
    · exact HKS.out _ hc6
    clear hK K hHeld2
    try simp only [Act.put, List.setIfInBounds_toArray, List.set_cons_zero, List.set_cons_succ]
    refine held_take (i := 7) (v := ?_) rfl (by kernel_rfl) (by kernel_rfl) (by kernel_rfl) (by rfl) (by first | assumption | exact True.intro) ?_ ?_
    rotate_left
    · (intro w hSw; (try dsimp only at hSw); go_simp; (try with_reducible rfl))
    try simp only [Act.put, List.setIfInBounds_toArray, List.set_cons_zero, List.set_cons_succ]
    refine wpAnyH_done (by kernel_rfl) ?_ _
    refine NoPanic.normal ?_
    clear hHeld3
    obtain ⟨vn6, vj6, hp6⟩ := hp6
    have HP6 := Lib.hid hp6
    have HC6 := Lib.hid hc6
    clear hp6 hc6 hx4 hx5 hix
    go_wp2
    go_ret
    exact MDone.of2 (res := res) rfl rfl HX5.out HP6.out HC6.out HFI.out

end Go.Proofs.YtddhbokknbmdfaaDoor

/- Package book: Apply. -/
namespace Go.Proofs.YtddhbokknbmdfaaDoor
open Go.RowKit

theorem Pg.make {w0 W : World} {g base : Nat} {c : Cf} {vn vj : Value} {s : St} (hb : Blk W g 55 (pgC c vn vj s)) (hg : w0.heap.size ≤ g) (ho : OwnSt base 45 52 W vn vj s) (hbase : w0.heap.size ≤ base)
    (hne : ∀ k, vn.ownBlock = some k ∨ vj.ownBlock = some k → k ≠ g) : Pg (fun k => w0.heap.size ≤ k ∧ k < W.heap.size) W g c vn vj s := by
  have own0 : ∀ {e : TypeId} {K n : Nat} {v : Value} {xs : List Value}, W.ownsRow base e K v n xs → W.ownsRow 0 e K v n xs := fun h => by
    refine ⟨h.1, ?_⟩
    rcases h.2 with hv | ⟨b, cap, cur, hv, _, r⟩
    · exact .inl hv
    · exact .inr ⟨b, cap, cur, hv, Nat.zero_le _, r⟩
  refine ⟨hb, ⟨hg, hb.lt⟩, fun k hk => hk.2, fun r hr => ?_, fun r hr e => ?_, ?_⟩
  · simp only [List.mem_cons, List.not_mem_nil, or_false] at hr
    rcases hr with rfl | rfl
    · exact ⟨own0 ho.nodes, fun k hk => ⟨Nat.le_trans hbase (ho.nodes.lt k hk).1, (ho.nodes.lt k hk).2⟩⟩
    · exact ⟨own0 ho.jobs, fun k hk => ⟨Nat.le_trans hbase (ho.jobs.lt k hk).1, (ho.jobs.lt k hk).2⟩⟩
  · simp only [List.mem_cons, List.not_mem_nil, or_false] at hr
    rcases hr with rfl | rfl
    · exact hne g (.inl e) rfl
    · exact hne g (.inr e) rfl
  · refine List.Pairwise.cons (fun r hr => ?_) (List.Pairwise.cons (fun r hr => by cases hr) List.Pairwise.nil)
    simp only [List.mem_cons, List.not_mem_nil, or_false] at hr
    subst hr
    exact ho.off

theorem results_cell_tmp_row {P : Program} {fn : Func} {p u : Tmp} {ty : TypeId} (h : fn.results = #[.cell p ty, .tmp u]) (tmps : Array Value) (w : World) (g : Nat) (t : TypeId) (cs : Array Value) (fr : Nat × Nat) (d : TypeDesc)
    (hp : tmps.getD p undef = .pointer (some ⟨g, 0, none⟩)) (hg : w.heap[g]? = some (.cells cs t fr))
    (hu : P.underlying ty = some d) (hd : (match d with | .struct _ | .array _ _ => true | _ => false) = true) (hi : (P.info? ty).map (·.size) = some cs.size) :
    (results fn tmps).run P w = .ok (.tuple #[.agg cs, tmps.getD u undef]) w := by
  have hp' : tmps[p]?.getD undef = .pointer (some ⟨g, 0, none⟩) := by simpa using hp
  rw [results_cell_tmp h]
  simp [hp', asAddr, run_loadVar_row w g t ty cs fr d hg hu hd hi]

theorem four_blocks (w : World) (t1 t2 t3 t4 : TypeId) (c1 c2 c3 c4 : Array Value) : ∃ W, W = (((w.alloc (.cells c1 t1)).alloc (.cells c2 t2)).alloc (.cells c3 t3)).alloc (.cells c4 t4) ∧ Ext w W ∧ Blk W w.heap.size t1 c1 ∧ Blk W (w.heap.size + 1) t2 c2 ∧ Blk W (w.heap.size + 2) t3 c3 ∧ Blk W (w.heap.size + 3) t4 c4 ∧ W.heap.size = w.heap.size + 4 := by
  refine ⟨_, rfl, ?_, ?_, ?_, ?_, ?_, by simp⟩
  · exact (ext3 w t1 t2 t3 c1 c2 c3).alloc (by simp; omega) _
  · exact (((Blk.new w t1 c1).alloc _).alloc _).alloc _
  · have := ((Blk.new (w.alloc (.cells c1 t1)) t2 c2).alloc (.cells c3 t3)).alloc (.cells c4 t4)
    have e : (w.alloc (.cells c1 t1)).heap.size = w.heap.size + 1 := by simp
    rw [e] at this
    exact this
  · have := (Blk.new ((w.alloc (.cells c1 t1)).alloc (.cells c2 t2)) t3 c3).alloc (.cells c4 t4)
    have e : ((w.alloc (.cells c1 t1)).alloc (.cells c2 t2)).heap.size = w.heap.size + 2 := by simp
    rw [e] at this
    exact this
  · have := Blk.new (((w.alloc (.cells c1 t1)).alloc (.cells c2 t2)).alloc (.cells c3 t3)) t4 c4
    have e : (((w.alloc (.cells c1 t1)).alloc (.cells c2 t2)).alloc (.cells c3 t3)).heap.size = w.heap.size + 3 := by simp
    rw [e] at this
    exact this

/-- A block is written, cell by cell. -/
structure PB (w0 : World) (g : Nat) (T : TypeId) (w : World) (cs : Array Value) : Prop where
  blk : Blk w g T cs
  same : ∀ k, k ≠ g → w.heap[k]? = w0.heap[k]?
  size : w.heap.size = w0.heap.size
  below : ∀ (B : Nat) (a : World), Below B a w0 → B ≤ g → Below B a w
theorem PB.start {w : World} {g : Nat} {T : TypeId} {cs : Array Value} (h : Blk w g T cs) : PB w g T w cs := ⟨h, fun _ _ => rfl, rfl, fun _ _ h _ => h⟩
theorem PB.set {w0 w : World} {g : Nat} {T : TypeId} {cs : Array Value} (h : PB w0 g T w cs) (i : Nat) (u : Value) : PB w0 g T (w.setCell ⟨g, i, none⟩ u) (cs.setIfInBounds i u) :=
  ⟨h.blk.set_ i u, fun k hk => (Below.heap_setCell _ _ _ _ hk).trans (h.same k hk), by simp [h.size], fun B a hb hg => Below.setCell (p := ⟨g, i, none⟩) (h.below B a hb hg) hg u⟩

theorem page_set {w : World} {g : Nat} (c : Cf) (vn vj : Value) (s : St) (hb : Blk w g 55 #[.int .i64 0, .int .i64 0, .int .i64 0, .int .i64 0, .int .i64 0, .int .i64 0, .int .i64 0, .int .i64 0, .int .i64 0, .slice none 0 0, .slice none 0 0, .int .i64 0, .int .i64 0, .int .i64 0, .int .i64 0]) :
    PB w g 55 (((((((((((((((w.setCell ⟨g, 0, none⟩ (.int .i64 c.nodes)).setCell ⟨g, 1, none⟩ (.int .i64 c.queues)).setCell ⟨g, 2, none⟩ (.int .i64 c.quota)).setCell ⟨g, 3, none⟩ (.int .i64 c.wave)).setCell ⟨g, 4, none⟩ (.int .i64 c.lease)).setCell ⟨g, 5, none⟩ (.int .i64 c.retry)).setCell ⟨g, 6, none⟩ (.int .i64 c.deadline)).setCell ⟨g, 7, none⟩ (.int .i64 c.room)).setCell ⟨g, 8, none⟩ (.int .i64 c.disk)).setCell ⟨g, 9, none⟩ (vn)).setCell ⟨g, 10, none⟩ (vj)).setCell ⟨g, 11, none⟩ (.int .i64 s.goal)).setCell ⟨g, 12, none⟩ (.int .i64 s.prior)).setCell ⟨g, 13, none⟩ (.int .i64 s.mode)).setCell ⟨g, 14, none⟩ (.int .i64 s.term)) (pgC c vn vj s) := by
  have h := PB.start hb
  replace h := h.set 0 (.int .i64 c.nodes)
  replace h := h.set 1 (.int .i64 c.queues)
  replace h := h.set 2 (.int .i64 c.quota)
  replace h := h.set 3 (.int .i64 c.wave)
  replace h := h.set 4 (.int .i64 c.lease)
  replace h := h.set 5 (.int .i64 c.retry)
  replace h := h.set 6 (.int .i64 c.deadline)
  replace h := h.set 7 (.int .i64 c.room)
  replace h := h.set 8 (.int .i64 c.disk)
  replace h := h.set 9 (vn)
  replace h := h.set 10 (vj)
  replace h := h.set 11 (.int .i64 s.goal)
  replace h := h.set 12 (.int .i64 s.prior)
  replace h := h.set 13 (.int .i64 s.mode)
  replace h := h.set 14 (.int .i64 s.term)
  simp only [List.setIfInBounds_toArray, List.set_cons_zero, List.set_cons_succ] at h
  exact h

end Go.Proofs.YtddhbokknbmdfaaDoor

/- Package image: the reader of numbers: a node. -/
namespace Go.Proofs.YtddhbokknbmdfaaDoor
open Go.RowKit

theorem PB.chg_ {w0 w : World} {g : Nat} {T : TypeId} {cs : Array Value} (h : PB w0 g T w cs) : Chg (fun x => x = g) w0 w := by
  have hb : Below g w0 w := h.below g w0 (Below.refl _ _) (Nat.le_refl _)
  exact ⟨hb.os, hb.tape, hb.output, by rw [h.size]; exact Nat.le_refl _, fun x _ hx => h.same x hx⟩
/-- What node leaves. -/
def NodePost (w : World) (gr B : Nat) (l : List Int) (e : Ending) (w' : World) : Prop :=
  (3 ≤ l.length ∧ at_ l 0 < 8 ∧ e = .returned (ndV (ndAt l 0)) ∧ Rr w' gr B (l.drop 3) ∧ Chg (fun k => k = gr) w w') ∨
  (¬ (3 ≤ l.length ∧ at_ l 0 < 8) ∧ GaveUp e ∧ Chg (fun k => k = gr) w w')

theorem bit_and {m : Int} (h0 : 0 ≤ m) (h8 : m < 8) : (bits .and .i64 m 1 != 0) = decide (m % 2 = 1) ∧ (bits .and .i64 m 2 != 0) = decide (m / 2 % 2 = 1) ∧ (bits .and .i64 m 4 != 0) = decide (m / 4 % 2 = 1) := by
  have h : m = 0 ∨ m = 1 ∨ m = 2 ∨ m = 3 ∨ m = 4 ∨ m = 5 ∨ m = 6 ∨ m = 7 := by omega
  rcases h with rfl | rfl | rfl | rfl | rfl | rfl | rfl | rfl <;> decide +kernel

set_option maxRecDepth 100000 in
set_option maxHeartbeats 4000000 in
theorem rnode_any (w0 w : World) (gr B : Nat) (l : List Int) (hL : LaidI w0) (hx : Ext w0 w) (hgr : w0.heap.size ≤ gr) (hR : Rr w gr B l) (h0 : ∀ x ∈ l, 0 ≤ x) :
    Calls Tryd.prog 96 #[.pointer (some ⟨gr, 0, none⟩)] w (NodePost w gr B l) := by
  obtain ⟨W2, hW2⟩ : ∃ W, W = w.alloc (.cells #[.bool false, .bool false, .bool false, .int .i64 0, .int .i64 0] 45) := ⟨_, rfl⟩
  have hx2 : Ext w W2 := by rw [hW2]; exact (Below.refl _ _).alloc (Nat.le_refl _) _
  have hb2 : Blk W2 w.heap.size 45 #[.bool false, .bool false, .bool false, .int .i64 0, .int .i64 0] := by rw [hW2]; exact Blk.new _ _ _
  have HR2 := Lib.hid (hR.ext hx2)
  have HLW : Hid (∀ W, Chg (fun k => k = gr) w W → LaidI W) := Lib.hid fun W hc => hL.ext (hc.ext hx (fun k hk => by have hk : k = gr := hk; omega))
  have HB2 := Lib.hid hb2
  have HX2 := Lib.hid hx2
  have HC2 : Hid (Chg (fun k => k = gr) w W2) := Lib.hid (Chg.of_ext hx2)
  have HGL := Lib.hid hR.gl
  have H0 := Lib.hid h0
  clear hL hx hgr hR hx2 hb2 h0
  go_enter Tryd.func96, Tryd.ntmps96
  go_upto_region 1 with (fail)
  rw [← hW2]
  clear hW2
  cases l with
  | nil =>
    go_wp2_with fail
    refine (take_none_ gr B W2 HR2.out (HLW.out _ HC2.out)).mono ?_
    rintro e3 w3 ⟨⟨T, pv, rfl⟩, rfl⟩
    go_wp2
    exact ⟨rfl, .inr ⟨by simp, ⟨_, _, rfl⟩, HC2.out⟩⟩
  | cons m l1 =>
    go_wp2_with fail
    refine (take_some_ gr B m l1 W2 HR2.out).mono ?_
    rintro e3 w3 ⟨rfl, hr3, hc3, -⟩
    have HR3 := Lib.hid hr3
    have HC3 := Lib.hid (HC2.out.trans hc3 (fun _ _ h => h))
    have HB3 : Hid (Blk w3 w.heap.size 45 #[.bool false, .bool false, .bool false, .int .i64 0, .int .i64 0]) := Lib.hid ((hc3.block _ HB2.out.lt (by have := HGL.out; omega)).trans HB2.out)
    have hm0 : 0 ≤ m := H0.out m (by simp)
    clear hr3 hc3 HR2
    by_cases h8 : m < 8
    · have d8 : decide (m < 8) = true := decide_eq_true h8
      have HBA := Lib.hid (bit_and hm0 h8)
      have H8 := Lib.hid h8
      clear h8
      go_wp2_with fail
      refine (need_yes _ w3).mono ?_
      rintro e4 w4 ⟨rfl, rfl⟩
      cases l1 with
      | nil =>
        go_wp2_with fail
        refine (take_none_ gr B w3 HR3.out (HLW.out _ HC3.out)).mono ?_
        rintro e5 w5 ⟨⟨T, pv, rfl⟩, rfl⟩
        go_wp2
        exact ⟨rfl, .inr ⟨by simp, ⟨_, _, rfl⟩, HC3.out⟩⟩
      | cons v l2 =>
        go_wp2_with fail
        refine (take_some_ gr B v l2 w3 HR3.out).mono ?_
        rintro e5 w5 ⟨rfl, hr5, hc5, -⟩
        have HR5 := Lib.hid hr5
        have HC5 := Lib.hid (HC3.out.trans hc5 (fun _ _ h => h))
        have HB5 : Hid (Blk w5 w.heap.size 45 #[.bool false, .bool false, .bool false, .int .i64 0, .int .i64 0]) := Lib.hid ((hc5.block _ HB3.out.lt (by have := HGL.out; omega)).trans HB3.out)
        clear hr5 hc5 HR3
        cases l2 with
        | nil =>
          go_wp2_with fail
          refine (take_none_ gr B w5 HR5.out (HLW.out _ HC5.out)).mono ?_
          rintro e6 w6 ⟨⟨T, pv, rfl⟩, rfl⟩
          go_wp2
          exact ⟨rfl, .inr ⟨by simp, ⟨_, _, rfl⟩, HC5.out⟩⟩
        | cons j l3 =>
          go_wp2_with fail
          refine (take_some_ gr B j l3 w5 HR5.out).mono ?_
          rintro e6 w6 ⟨rfl, hr6, hc6, -⟩
          have HR6 := Lib.hid hr6
          have HC6 := Lib.hid (HC5.out.trans hc6 (fun _ _ h => h))
          have hb6 : Blk w6 w.heap.size 45 #[.bool false, .bool false, .bool false, .int .i64 0, .int .i64 0] := (hc6.block _ HB5.out.lt (by have := HGL.out; omega)).trans HB5.out
          have HB6 := Lib.hid hb6
          have z0 : w6.cell? ⟨w.heap.size, 0, none⟩ = some (.bool false) := hb6.cell 0
          have z1 : w6.cell? ⟨w.heap.size, 1, none⟩ = some (.bool false) := hb6.cell 1
          have z2 : w6.cell? ⟨w.heap.size, 2, none⟩ = some (.bool false) := hb6.cell 2
          have z3 : w6.cell? ⟨w.heap.size, 3, none⟩ = some (.int .i64 0) := hb6.cell 3
          have z4 : w6.cell? ⟨w.heap.size, 4, none⟩ = some (.int .i64 0) := hb6.cell 4
          have f0 := hb6.frozen 0
          have f1 := hb6.frozen 1
          have f2 := hb6.frozen 2
          have f3 := hb6.frozen 3
          have f4 := hb6.frozen 4
          clear hr6 hc6 HR5 hb6
          go_wp2
          have hq := PB.start HB6.out
          replace hq := hq.set 0 (.bool (bits .and .i64 m 1 != 0))
          replace hq := hq.set 1 (.bool (bits .and .i64 m 2 != 0))
          replace hq := hq.set 2 (.bool (bits .and .i64 m 4 != 0))
          replace hq := hq.set 3 (.int .i64 v)
          replace hq := hq.set 4 (.int .i64 j)
          simp only [List.setIfInBounds_toArray, List.set_cons_zero, List.set_cons_succ] at hq
          have hc7 := PB.chg_ hq
          refine bodyPost_ret (results_cell_row rfl _ _ w.heap.size 45 _ (0, 0) _ rfl hq.blk rfl rfl (by kernel_rfl)) rfl (.inl ⟨by simp, H8.out, ?_, ?_, ?_⟩)
          · rw [HBA.out.1, HBA.out.2.1, HBA.out.2.2]
            rfl
          · exact HR6.out.keep hc7 (by have := HGL.out; omega) (by have := HGL.out; omega)
          · exact HC6.out.trans hc7 (fun x hx e => by have e : x = w.heap.size := e; omega)
    · have d8 : decide (m < 8) = false := decide_eq_false h8
      have H8 := Lib.hid h8
      clear h8
      go_wp2_with fail
      refine (need_no _ w3 (HLW.out _ HC3.out)).mono ?_
      rintro e4 w4 ⟨⟨T, pv, rfl⟩, rfl⟩
      go_wp2
      exact ⟨rfl, .inr ⟨fun h => by have h2 : m < 8 := h.2; have := H8.out; omega, ⟨_, _, rfl⟩, HC3.out⟩⟩

end Go.Proofs.YtddhbokknbmdfaaDoor

/- Package image: the reader of numbers: a job. -/
namespace Go.Proofs.YtddhbokknbmdfaaDoor
open Go.RowKit

/-- What job leaves. -/
def JobPost (w : World) (gr B : Nat) (l : List Int) (e : Ending) (w' : World) : Prop :=
  (12 ≤ l.length ∧ e = .returned (jbV (jbAt l 0)) ∧ Rr w' gr B (l.drop 12) ∧ Chg (fun k => k = gr) w w') ∨
  (l.length < 12 ∧ GaveUp e ∧ Chg (fun k => k = gr) w w')

set_option maxRecDepth 100000 in
set_option maxHeartbeats 4000000 in
theorem rjob_any (w0 w : World) (gr B : Nat) (l : List Int) (hL : LaidI w0) (hx : Ext w0 w) (hgr : w0.heap.size ≤ gr) (hR : Rr w gr B l) :
    Calls Tryd.prog 97 #[.pointer (some ⟨gr, 0, none⟩)] w (JobPost w gr B l) := by
  obtain ⟨W2, hW2⟩ : ∃ W, W = (w.alloc (.cells #[.int .i64 0, .int .i64 0, .int .i64 0, .int .i64 0, .int .i64 0, .int .i64 0, .int .i64 0, .int .i64 0, .int .i64 0, .int .i64 0, .int .i64 0, .int .i64 0] 52)).alloc (.cells #[.int .i64 0, .int .i64 0, .int .i64 0, .int .i64 0, .int .i64 0, .int .i64 0, .int .i64 0, .int .i64 0, .int .i64 0, .int .i64 0, .int .i64 0, .int .i64 0] 52) := ⟨_, rfl⟩
  have hg : (w.alloc (.cells #[.int .i64 0, .int .i64 0, .int .i64 0, .int .i64 0, .int .i64 0, .int .i64 0, .int .i64 0, .int .i64 0, .int .i64 0, .int .i64 0, .int .i64 0, .int .i64 0] 52)).heap.size = w.heap.size + 1 := by simp
  have hx2 : Ext w W2 := by rw [hW2]; exact ((Below.refl _ _).alloc (Nat.le_refl _) _).alloc (by rw [hg]; omega) _
  have hba : Blk W2 w.heap.size 52 #[.int .i64 0, .int .i64 0, .int .i64 0, .int .i64 0, .int .i64 0, .int .i64 0, .int .i64 0, .int .i64 0, .int .i64 0, .int .i64 0, .int .i64 0, .int .i64 0] := by rw [hW2]; exact (Blk.new _ _ _).alloc _
  have hbb : Blk W2 (w.heap.size + 1) 52 #[.int .i64 0, .int .i64 0, .int .i64 0, .int .i64 0, .int .i64 0, .int .i64 0, .int .i64 0, .int .i64 0, .int .i64 0, .int .i64 0, .int .i64 0, .int .i64 0] := by rw [hW2]; have := Blk.new (w.alloc (.cells #[.int .i64 0, .int .i64 0, .int .i64 0, .int .i64 0, .int .i64 0, .int .i64 0, .int .i64 0, .int .i64 0, .int .i64 0, .int .i64 0, .int .i64 0, .int .i64 0] 52)) 52 #[.int .i64 0, .int .i64 0, .int .i64 0, .int .i64 0, .int .i64 0, .int .i64 0, .int .i64 0, .int .i64 0, .int .i64 0, .int .i64 0, .int .i64 0, .int .i64 0]; rw [hg] at this; exact this
  clear hg
  have HR2 := Lib.hid (hR.ext hx2)
  have HL := Lib.hid hL
  have HX0 := Lib.hid hx
  have HG := Lib.hid hgr
  have HX2 := Lib.hid hx2
  have HBA := Lib.hid hba
  have HBB := Lib.hid hbb
  have HGL := Lib.hid hR.gl
  clear hL hx hgr hR hx2 hba hbb
  go_enter Tryd.func97, Tryd.ntmps97
  go_upto_region 2 with (fail)
  rw [← hW2]
  clear hW2
  go_wp2_with fail
  refine (jobNumbers_any (w.heap.size + 1) W2).mono ?_
  rintro e5 w5 ⟨f, rfl, hrf, hx5, hkf⟩
  have HX5 := Lib.hid hx5
  have HFI := Lib.hid (fill_any w0 w5 gr B (w.heap.size + 1) 52 #[.int .i64 0, .int .i64 0, .int .i64 0, .int .i64 0, .int .i64 0, .int .i64 0, .int .i64 0, .int .i64 0, .int .i64 0, .int .i64 0, .int .i64 0, .int .i64 0] 0 12 l f HL.out ((HX0.out.trans HX2.out).trans hx5) HG.out (by have := HX0.out.size; omega) (HR2.out.ext hx5) hrf (fun k hk => by have h1 := hkf k hk; have h2 := HBB.out.lt; have h3 := HGL.out; omega) (HBB.out.ext hx5) (by decide) (by have := HGL.out; omega) (by have := HGL.out; omega))
  clear hrf hx5 hkf
  go_wp2_with fail
  refine HFI.out.mono ?_
  intro e6 w6 hp
  rcases hp with ⟨hl, rfl, hr6, hb6, hc6, -⟩ | ⟨hl, ⟨T, pv, rfl⟩, hc6⟩
  · have hc06 : Chg (fun k => k = gr) w w6 := (Chg.of_ext (HX2.out.trans HX5.out)).trans hc6 (fun z hz h => by rcases h with h | h <;> omega)
    have htk : l.take 12 = [at_ l 0, at_ l 1, at_ l 2, at_ l 3, at_ l 4, at_ l 5, at_ l 6, at_ l 7, at_ l 8, at_ l 9, at_ l 10, at_ l 11] := by have := take_at l 12 0 (by omega); rw [List.drop_zero] at this; rw [this]; rfl
    have hjb : jbAt l 0 = ⟨at_ l 0, at_ l 1, at_ l 2, at_ l 3, at_ l 4, at_ l 5, at_ l 6, at_ l 7, at_ l 8, at_ l 9, at_ l 10, at_ l 11⟩ := by simp only [jbAt, Nat.zero_add]
    generalize at_ l 0 = y0 at htk hjb
    generalize at_ l 1 = y1 at htk hjb
    generalize at_ l 2 = y2 at htk hjb
    generalize at_ l 3 = y3 at htk hjb
    generalize at_ l 4 = y4 at htk hjb
    generalize at_ l 5 = y5 at htk hjb
    generalize at_ l 6 = y6 at htk hjb
    generalize at_ l 7 = y7 at htk hjb
    generalize at_ l 8 = y8 at htk hjb
    generalize at_ l 9 = y9 at htk hjb
    generalize at_ l 10 = y10 at htk hjb
    generalize at_ l 11 = y11 at htk hjb
    rw [htk] at hb6
    simp only [putC, List.setIfInBounds_toArray, List.set_cons_zero, List.set_cons_succ, Nat.zero_add, Nat.reduceAdd] at hb6
    have hb7 : Blk w6 (w.heap.size + 1) 52 #[.int .i64 y0, .int .i64 y1, .int .i64 y2, .int .i64 y3, .int .i64 y4, .int .i64 y5, .int .i64 y6, .int .i64 y7, .int .i64 y8, .int .i64 y9, .int .i64 y10, .int .i64 y11] := hb6
    have HJB := Lib.hid hjb
    clear hjb
    have hb8 : Blk w6 w.heap.size 52 #[.int .i64 0, .int .i64 0, .int .i64 0, .int .i64 0, .int .i64 0, .int .i64 0, .int .i64 0, .int .i64 0, .int .i64 0, .int .i64 0, .int .i64 0, .int .i64 0] := (hc6.block _ (HBA.out.ext HX5.out).lt (by have := HGL.out; omega)).trans (HBA.out.ext HX5.out)
    have HR6 := Lib.hid hr6
    have HC6 := Lib.hid hc06
    have HB8 := Lib.hid hb8
    have HLE := Lib.hid hl
    have c0 : w6.cell? ⟨w.heap.size + 1, 0, none⟩ = some (.int .i64 y0) := hb7.cell 0
    have z0 : w6.cell? ⟨w.heap.size, 0, none⟩ = some (.int .i64 0) := hb8.cell 0
    have f0 := hb8.frozen 0
    have c1 : w6.cell? ⟨w.heap.size + 1, 1, none⟩ = some (.int .i64 y1) := hb7.cell 1
    have z1 : w6.cell? ⟨w.heap.size, 1, none⟩ = some (.int .i64 0) := hb8.cell 1
    have f1 := hb8.frozen 1
    have c2 : w6.cell? ⟨w.heap.size + 1, 2, none⟩ = some (.int .i64 y2) := hb7.cell 2
    have z2 : w6.cell? ⟨w.heap.size, 2, none⟩ = some (.int .i64 0) := hb8.cell 2
    have f2 := hb8.frozen 2
    have c3 : w6.cell? ⟨w.heap.size + 1, 3, none⟩ = some (.int .i64 y3) := hb7.cell 3
    have z3 : w6.cell? ⟨w.heap.size, 3, none⟩ = some (.int .i64 0) := hb8.cell 3
    have f3 := hb8.frozen 3
    have c4 : w6.cell? ⟨w.heap.size + 1, 4, none⟩ = some (.int .i64 y4) := hb7.cell 4
    have z4 : w6.cell? ⟨w.heap.size, 4, none⟩ = some (.int .i64 0) := hb8.cell 4
    have f4 := hb8.frozen 4
    have c5 : w6.cell? ⟨w.heap.size + 1, 5, none⟩ = some (.int .i64 y5) := hb7.cell 5
    have z5 : w6.cell? ⟨w.heap.size, 5, none⟩ = some (.int .i64 0) := hb8.cell 5
    have f5 := hb8.frozen 5
    have c6 : w6.cell? ⟨w.heap.size + 1, 6, none⟩ = some (.int .i64 y6) := hb7.cell 6
    have z6 : w6.cell? ⟨w.heap.size, 6, none⟩ = some (.int .i64 0) := hb8.cell 6
    have f6 := hb8.frozen 6
    have c7 : w6.cell? ⟨w.heap.size + 1, 7, none⟩ = some (.int .i64 y7) := hb7.cell 7
    have z7 : w6.cell? ⟨w.heap.size, 7, none⟩ = some (.int .i64 0) := hb8.cell 7
    have f7 := hb8.frozen 7
    have c8 : w6.cell? ⟨w.heap.size + 1, 8, none⟩ = some (.int .i64 y8) := hb7.cell 8
    have z8 : w6.cell? ⟨w.heap.size, 8, none⟩ = some (.int .i64 0) := hb8.cell 8
    have f8 := hb8.frozen 8
    have c9 : w6.cell? ⟨w.heap.size + 1, 9, none⟩ = some (.int .i64 y9) := hb7.cell 9
    have z9 : w6.cell? ⟨w.heap.size, 9, none⟩ = some (.int .i64 0) := hb8.cell 9
    have f9 := hb8.frozen 9
    have c10 : w6.cell? ⟨w.heap.size + 1, 10, none⟩ = some (.int .i64 y10) := hb7.cell 10
    have z10 : w6.cell? ⟨w.heap.size, 10, none⟩ = some (.int .i64 0) := hb8.cell 10
    have f10 := hb8.frozen 10
    have c11 : w6.cell? ⟨w.heap.size + 1, 11, none⟩ = some (.int .i64 y11) := hb7.cell 11
    have z11 : w6.cell? ⟨w.heap.size, 11, none⟩ = some (.int .i64 0) := hb8.cell 11
    have f11 := hb8.frozen 11
    clear hr6 hb6 hc6 hc06 htk hb7 hb8 hl HFI
    go_wp2
    have hq := PB.start HB8.out
    replace hq := hq.set 0 (.int .i64 y0)
    replace hq := hq.set 1 (.int .i64 y1)
    replace hq := hq.set 2 (.int .i64 y2)
    replace hq := hq.set 3 (.int .i64 y3)
    replace hq := hq.set 4 (.int .i64 y4)
    replace hq := hq.set 5 (.int .i64 y5)
    replace hq := hq.set 6 (.int .i64 y6)
    replace hq := hq.set 7 (.int .i64 y7)
    replace hq := hq.set 8 (.int .i64 y8)
    replace hq := hq.set 9 (.int .i64 y9)
    replace hq := hq.set 10 (.int .i64 y10)
    replace hq := hq.set 11 (.int .i64 y11)
    simp only [List.setIfInBounds_toArray, List.set_cons_zero, List.set_cons_succ] at hq
    obtain ⟨wf, hwf⟩ : ∃ W, W = ((((((((((((w6.setCell ⟨w.heap.size, 0, none⟩ (.int .i64 y0)).setCell ⟨w.heap.size, 1, none⟩ (.int .i64 y1)).setCell ⟨w.heap.size, 2, none⟩ (.int .i64 y2)).setCell ⟨w.heap.size, 3, none⟩ (.int .i64 y3)).setCell ⟨w.heap.size, 4, none⟩ (.int .i64 y4)).setCell ⟨w.heap.size, 5, none⟩ (.int .i64 y5)).setCell ⟨w.heap.size, 6, none⟩ (.int .i64 y6)).setCell ⟨w.heap.size, 7, none⟩ (.int .i64 y7)).setCell ⟨w.heap.size, 8, none⟩ (.int .i64 y8)).setCell ⟨w.heap.size, 9, none⟩ (.int .i64 y9)).setCell ⟨w.heap.size, 10, none⟩ (.int .i64 y10)).setCell ⟨w.heap.size, 11, none⟩ (.int .i64 y11)) := ⟨_, rfl⟩
    rw [← hwf] at hq ⊢
    clear hwf
    have hc7 := PB.chg_ hq
    exact bodyPost_ret (results_cell_row rfl _ _ w.heap.size 52 _ (0, 0) _ rfl hq.blk rfl rfl (by kernel_rfl)) rfl (.inl ⟨HLE.out, by rw [HJB.out]; rfl, HR6.out.keep hc7 (by have := HGL.out; omega) (by have := HGL.out; omega), HC6.out.trans hc7 (fun x hx e => by have e : x = w.heap.size := e; omega)⟩)
  · have HC6 : Hid (Chg (fun k => k = gr) w w6) := Lib.hid ((Chg.of_ext (HX2.out.trans HX5.out)).trans hc6 (fun z hz h => by rcases h with h | h <;> omega))
    have HLE := Lib.hid hl
    clear hl hc6 HFI
    go_wp2
    exact ⟨rfl, .inr ⟨HLE.out, ⟨_, _, rfl⟩, HC6.out⟩⟩

end Go.Proofs.YtddhbokknbmdfaaDoor

/- A variable that holds a state, with rows of its own. -/
namespace Go.Proofs.YtddhbokknbmdfaaDoor
open Go.RowKit

def vsC (vn vj : Value) (s : St) : Array Value := #[vn, vj, .int .i64 s.goal, .int .i64 s.prior, .int .i64 s.mode, .int .i64 s.term]
/-- The variable at g holds a state, with rows of its own; all in the set. -/
def Sg (F : Fp) (w : World) (g : Nat) (vn vj : Value) (s : St) : Prop :=
  ObjF F w g 30 (vsC vn vj s) [⟨45, 5, vn, s.nodes.length, nodesC s.nodes⟩, ⟨52, 12, vj, s.jobs.length, jobsC s.jobs⟩]

section
variable {F G : Fp} {w w' : World} {g : Nat} {vn vj : Value} {s : St}
theorem Sg.ext (h : Sg F w g vn vj s) (hx : Ext w w') : Sg F w' g vn vj s := ObjF.ext h hx
theorem Sg.isIn (h : Sg F w g vn vj s) : F.isIn w := ObjF.isIn h
theorem Sg.mono (h : Sg F w g vn vj s) (hf : ∀ k, F k → G k) (hi : G.isIn w) : Sg G w g vn vj s := ObjF.mono h hf hi
theorem Sg.blk (h : Sg F w g vn vj s) : Blk w g 30 (vsC vn vj s) := ObjF.blk h
theorem Sg.lt (h : Sg F w g vn vj s) : g < w.heap.size := (ObjF.blk h).lt
theorem Sg.rowN (h : Sg F w g vn vj s) : w.ownsRow 0 45 5 vn s.nodes.length (nodesC s.nodes) := (ObjF.ok h ⟨45, 5, vn, s.nodes.length, nodesC s.nodes⟩ (by simp)).1
theorem Sg.rowJ (h : Sg F w g vn vj s) : w.ownsRow 0 52 12 vj s.jobs.length (jobsC s.jobs) := (ObjF.ok h ⟨52, 12, vj, s.jobs.length, jobsC s.jobs⟩ (by simp)).1
theorem Sg.rd (h : Sg F w g vn vj s) : RdSt w vn vj s := ⟨RdS.own h.rowN, RdS.own h.rowJ⟩
theorem Sg.fr (h : Sg F w g vn vj s) (i : Nat) : w.frozen? ⟨g, i, none⟩ = false := (ObjF.blk h).frozen i
/-- What a walk wants of a node. -/
theorem Sg.nodeAt (h : Sg F w g vn vj s) {i : Nat} {n : Nd} (hi : s.nodes[i]? = some n) : ∃ b cap, vn = .slice (some ⟨b, 0, none⟩) s.nodes.length cap ∧ s.nodes.length ≤ cap ∧ cap ≤ 9223372036854775807 ∧ b < w.heap.size ∧ b ≠ g ∧ NdAt w b (i * 5) n ∧ ∀ k, w.frozen? ⟨b, k, none⟩ = false := by
  have hr := h.rowN
  have hil := (List.getElem?_eq_some_iff.1 hi).1
  rcases hr.2 with ⟨_, h0⟩ | ⟨b, cap, cur, hv, hg, hh, hn, hcap, hs, ht⟩
  · omega
  · have hoff := ObjF.off h ⟨45, 5, vn, s.nodes.length, nodesC s.nodes⟩ (by simp)
    subst hv
    refine ⟨b, cap, rfl, hn, by unfold maxLen at hcap; omega, (Array.getElem?_eq_some_iff.1 hh).1, fun e => hoff (by rw [e]; rfl), ?_, fun k => hr.frozenAt k⟩
    refine NdAt.of fun j u hu => ?_
    have hj : j < 5 := (List.getElem?_eq_some_iff.1 hu).1
    rw [hr.cellAt _ (by omega)]
    exact (flat_get Nd.len hi j hj).trans hu
theorem Sg.jobAt (h : Sg F w g vn vj s) {i : Nat} {n : Jb} (hi : s.jobs[i]? = some n) : ∃ b cap, vj = .slice (some ⟨b, 0, none⟩) s.jobs.length cap ∧ s.jobs.length ≤ cap ∧ cap ≤ 9223372036854775807 ∧ b < w.heap.size ∧ b ≠ g ∧ JbAt w b (i * 12) n ∧ ∀ k, w.frozen? ⟨b, k, none⟩ = false := by
  have hr := h.rowJ
  have hil := (List.getElem?_eq_some_iff.1 hi).1
  rcases hr.2 with ⟨_, h0⟩ | ⟨b, cap, cur, hv, hg, hh, hn, hcap, hs, ht⟩
  · omega
  · have hoff := ObjF.off h ⟨52, 12, vj, s.jobs.length, jobsC s.jobs⟩ (by simp)
    subst hv
    refine ⟨b, cap, rfl, hn, by unfold maxLen at hcap; omega, (Array.getElem?_eq_some_iff.1 hh).1, fun e => hoff (by rw [e]; rfl), ?_, fun k => hr.frozenAt k⟩
    refine JbAt.of fun j u hu => ?_
    have hj : j < 12 := (List.getElem?_eq_some_iff.1 hu).1
    rw [hr.cellAt _ (by omega)]
    exact (flat_get Jb.len hi j hj).trans hu
theorem Sg.far (h : Sg F w g vn vj s) : ∀ k, vn.ownBlock = some k → vj.ownBlock ≠ some k := by
  have := ObjF.apart h
  rw [List.pairwise_cons] at this
  exact this.1 ⟨52, 12, vj, s.jobs.length, jobsC s.jobs⟩ (by simp)

theorem chg_cellS {b k : Nat} {u : Value} (hF : F b) : Chg F w (w.setCell ⟨b, k, none⟩ u) := (Chg.refl F w).setCell fun _ => hF
/-- A node's field is written. -/
theorem Sg.setN (h : Sg F w g vn vj s) {i : Nat} {n n' : Nd} (hi : s.nodes[i]? = some n) {b cap : Nat} (hv : vn = .slice (some ⟨b, 0, none⟩) s.nodes.length cap) (j : Nat) (hj : j < 5) (u : Value) (hn : n'.cells = n.cells.set j u) :
    Sg F (w.setCell ⟨b, i * 5 + j, none⟩ u) g vn vj (setN s i n') ∧ Chg F w (w.setCell ⟨b, i * 5 + j, none⟩ u) := by
  have hr := h.rowN
  have hF : F b := (ObjF.ok h ⟨45, 5, vn, s.nodes.length, nodesC s.nodes⟩ (by simp)).2 b (by rw [hv]; rfl)
  have hc := chg_cellS (w := w) (k := i * 5 + j) (u := u) hF
  subst hv
  obtain ⟨h1, h2⟩ := hr.stored (i * 5 + j) u
  have hset : nodesC (s.nodes.set i n') = (nodesC s.nodes).set (i * 5 + j) u := flat_set Nd.len hi j hj u hn
  have ht := ObjF.turn (w' := w.setCell ⟨b, i * 5 + j, none⟩ u) h 0 (by simp) ⟨45, 5, .slice (some ⟨b, 0, none⟩) s.nodes.length cap, (s.nodes.set i n').length, nodesC (s.nodes.set i n')⟩ (by rw [hset, List.length_set]; exact h1)
    ((Chg.refl _ w).setCell fun _ => rfl) (fun k hk => .inl hk)
  refine ⟨?_, hc⟩
  have hm : Sg (Fp.since F w (w.setCell ⟨b, i * 5 + j, none⟩ u)) (w.setCell ⟨b, i * 5 + j, none⟩ u) g (.slice (some ⟨b, 0, none⟩) s.nodes.length cap) vj (Go.Proofs.YtddhbokknbmdfaaDoor.setN s i n') := ht.1
  refine hm.mono (fun k hk => ?_) (h.isIn.chg hc)
  rcases hk with hk | hk
  · exact hk
  · simp at hk
    omega
/-- A job's field is written. -/
theorem Sg.setJ (h : Sg F w g vn vj s) {i : Nat} {n n' : Jb} (hi : s.jobs[i]? = some n) {b cap : Nat} (hv : vj = .slice (some ⟨b, 0, none⟩) s.jobs.length cap) (j : Nat) (hj : j < 12) (u : Value) (hn : n'.cells = n.cells.set j u) :
    Sg F (w.setCell ⟨b, i * 12 + j, none⟩ u) g vn vj (setJ s i n') ∧ Chg F w (w.setCell ⟨b, i * 12 + j, none⟩ u) := by
  have hr := h.rowJ
  have hF : F b := (ObjF.ok h ⟨52, 12, vj, s.jobs.length, jobsC s.jobs⟩ (by simp)).2 b (by rw [hv]; rfl)
  have hc := chg_cellS (w := w) (k := i * 12 + j) (u := u) hF
  subst hv
  obtain ⟨h1, h2⟩ := hr.stored (i * 12 + j) u
  have hset : jobsC (s.jobs.set i n') = (jobsC s.jobs).set (i * 12 + j) u := flat_set Jb.len hi j hj u hn
  have ht := ObjF.turn (w' := w.setCell ⟨b, i * 12 + j, none⟩ u) h 1 (by simp) ⟨52, 12, .slice (some ⟨b, 0, none⟩) s.jobs.length cap, (s.jobs.set i n').length, jobsC (s.jobs.set i n')⟩ (by rw [hset, List.length_set]; exact h1)
    ((Chg.refl _ w).setCell fun _ => rfl) (fun k hk => .inl hk)
  refine ⟨?_, hc⟩
  have hm : Sg (Fp.since F w (w.setCell ⟨b, i * 12 + j, none⟩ u)) (w.setCell ⟨b, i * 12 + j, none⟩ u) g vn (.slice (some ⟨b, 0, none⟩) s.jobs.length cap) (Go.Proofs.YtddhbokknbmdfaaDoor.setJ s i n') := ht.1
  refine hm.mono (fun k hk => ?_) (h.isIn.chg hc)
  rcases hk with hk | hk
  · exact hk
  · simp at hk
    omega
/-- One of the state's numbers is written. -/
theorem Sg.setG (h : Sg F w g vn vj s) (s' : St) (k : Nat) (u : Value) (hn : s'.nodes = s.nodes) (hj : s'.jobs = s.jobs) (hc : vsC vn vj s' = (vsC vn vj s).setIfInBounds k u) :
    Sg F (w.setCell ⟨g, k, none⟩ u) g vn vj s' ∧ Chg F w (w.setCell ⟨g, k, none⟩ u) := by
  have := ObjF.setCell h k u
  unfold Sg
  rw [hn, hj, hc]
  exact this
end

theorem Sg.make {w0 W : World} {g base : Nat} {vn vj : Value} {s : St} (hb : Blk W g 30 (vsC vn vj s)) (hg : w0.heap.size ≤ g) (ho : OwnSt base 45 52 W vn vj s) (hbase : w0.heap.size ≤ base)
    (hne : ∀ k, vn.ownBlock = some k ∨ vj.ownBlock = some k → k ≠ g) : Sg (fun k => w0.heap.size ≤ k ∧ k < W.heap.size) W g vn vj s := by
  have own0 : ∀ {e : TypeId} {K n : Nat} {v : Value} {xs : List Value}, W.ownsRow base e K v n xs → W.ownsRow 0 e K v n xs := fun h => by
    refine ⟨h.1, ?_⟩
    rcases h.2 with hv | ⟨b, cap, cur, hv, _, r⟩
    · exact .inl hv
    · exact .inr ⟨b, cap, cur, hv, Nat.zero_le _, r⟩
  refine ⟨hb, ⟨hg, hb.lt⟩, fun k hk => hk.2, fun r hr => ?_, fun r hr e => ?_, ?_⟩
  · simp only [List.mem_cons, List.not_mem_nil, or_false] at hr
    rcases hr with rfl | rfl
    · exact ⟨own0 ho.nodes, fun k hk => ⟨Nat.le_trans hbase (ho.nodes.lt k hk).1, (ho.nodes.lt k hk).2⟩⟩
    · exact ⟨own0 ho.jobs, fun k hk => ⟨Nat.le_trans hbase (ho.jobs.lt k hk).1, (ho.jobs.lt k hk).2⟩⟩
  · simp only [List.mem_cons, List.not_mem_nil, or_false] at hr
    rcases hr with rfl | rfl
    · exact hne g (.inl e) rfl
    · exact hne g (.inr e) rfl
  · refine List.Pairwise.cons (fun r hr => ?_) (List.Pairwise.cons (fun r hr => by cases hr) List.Pairwise.nil)
    simp only [List.mem_cons, List.not_mem_nil, or_false] at hr
    subst hr
    exact ho.off
/-- What the rows' blocks are in. -/
theorem Sg.inN {F : Fp} {w : World} {g : Nat} {vn vj : Value} {s : St} (h : Sg F w g vn vj s) : ∀ k, vn.ownBlock = some k → F k ∧ k ≠ g := fun k hk =>
  ⟨(ObjF.ok h ⟨45, 5, vn, s.nodes.length, nodesC s.nodes⟩ (by simp)).2 k hk, fun e => ObjF.off h ⟨45, 5, vn, s.nodes.length, nodesC s.nodes⟩ (by simp) (by rw [hk, e])⟩
theorem Sg.inJ {F : Fp} {w : World} {g : Nat} {vn vj : Value} {s : St} (h : Sg F w g vn vj s) : ∀ k, vj.ownBlock = some k → F k ∧ k ≠ g := fun k hk =>
  ⟨(ObjF.ok h ⟨52, 12, vj, s.jobs.length, jobsC s.jobs⟩ (by simp)).2 k hk, fun e => ObjF.off h ⟨52, 12, vj, s.jobs.length, jobsC s.jobs⟩ (by simp) (by rw [hk, e])⟩

/-- A job's count of holds goes up, its times are struck: three cells are written. -/
theorem sg_want {F : Fp} {w : World} {g k : Nat} {vn vj : Value} {s : St} {j : Jb} (h : Sg F w g vn vj s) (hk : s.jobs[k]? = some j) : ∃ bj cap, vj = .slice (some ⟨bj, 0, none⟩) s.jobs.length cap ∧ ∀ w1 w2 w3, w1 = w.setCell ⟨bj, k * 12 + 7, none⟩ (.int .i64 (j.inc + 1)) → w2 = w1.setCell ⟨bj, k * 12 + 9, none⟩ (.int .i64 0) → w3 = w2.setCell ⟨bj, k * 12 + 10, none⟩ (.int .i64 0) →
    (w.cell? ⟨g, 1, none⟩ = some vj ∧ w.cell? ⟨bj, k * 12 + 7, none⟩ = some (.int .i64 j.inc) ∧ w.frozen? ⟨bj, k * 12 + 7, none⟩ = false) ∧ (w1.cell? ⟨g, 1, none⟩ = some vj ∧ w1.cell? ⟨bj, k * 12 + 9, none⟩ = some (.int .i64 j.since) ∧ w1.frozen? ⟨bj, k * 12 + 9, none⟩ = false) ∧
    (w2.cell? ⟨g, 1, none⟩ = some vj ∧ w2.cell? ⟨bj, k * 12 + 10, none⟩ = some (.int .i64 j.til) ∧ w2.frozen? ⟨bj, k * 12 + 10, none⟩ = false) ∧ Sg F w3 g vn vj (setJ s k (wantJ j)) ∧ Chg F w w3 := by
  have hkl := (List.getElem?_eq_some_iff.1 hk).1
  obtain ⟨bj, cap, rfl, -, -, -, -, hat, hfr⟩ := h.jobAt hk
  refine ⟨bj, cap, rfl, ?_⟩
  rintro w1 w2 w3 rfl rfl rfl
  obtain ⟨h1, c1⟩ := h.setJ (n' := { j with inc := j.inc + 1 }) hk rfl 7 (by omega) (.int .i64 (j.inc + 1)) rfl
  have l1 : (setJ s k { j with inc := j.inc + 1 }).jobs.length = s.jobs.length := by simp [setJ]
  have k1 : (setJ s k { j with inc := j.inc + 1 }).jobs[k]? = some { j with inc := j.inc + 1 } := by simp only [setJ]; rw [List.getElem?_set_self hkl]
  obtain ⟨b1, p1, e1, -, -, -, -, hat1, hfr1⟩ := h1.jobAt k1
  rw [l1] at e1
  cases e1
  obtain ⟨h2, c2⟩ := h1.setJ (b := bj) (cap := cap) (n' := { j with inc := j.inc + 1, since := 0 }) k1 (by rw [l1]) 9 (by omega) (.int .i64 0) rfl
  rw [setJ_setJ] at h2
  have l2 : (setJ s k { j with inc := j.inc + 1, since := 0 }).jobs.length = s.jobs.length := by simp [setJ]
  have k2 : (setJ s k { j with inc := j.inc + 1, since := 0 }).jobs[k]? = some { j with inc := j.inc + 1, since := 0 } := by simp only [setJ]; rw [List.getElem?_set_self hkl]
  obtain ⟨b2, p2, e2, -, -, -, -, hat2, hfr2⟩ := h2.jobAt k2
  rw [l2] at e2
  cases e2
  obtain ⟨h3, c3⟩ := h2.setJ (b := bj) (cap := cap) (n' := wantJ j) k2 (by rw [l2]) 10 (by omega) (.int .i64 0) rfl
  rw [setJ_setJ] at h3
  exact ⟨⟨h.blk.cell 1, hat.c7, hfr _⟩, ⟨h1.blk.cell 1, hat1.c9, hfr1 _⟩, ⟨h2.blk.cell 1, hat2.c10, hfr2 _⟩, h3, (c1.trans c2 (fun _ _ h => h)).trans c3 (fun _ _ h => h)⟩

end Go.Proofs.YtddhbokknbmdfaaDoor

/- The reference of layer 9: one job more in a state's variable. -/
namespace Go.Proofs.YtddhbokknbmdfaaDoor
open Go.RowKit

/-- One job more. -/
theorem Sg.snoc {F : Fp} {w w' : World} {g : Nat} {vn vj v' : Value} {s : St} (h : Sg F w g vn vj s) (j : Jb)
    (hg : GrewK 0 52 12 vj w (s.jobs.length + 1) (jobsC s.jobs ++ j.cells) v' w') :
    Sg (F.since w (w'.setCell ⟨g, 1, none⟩ v')) (w'.setCell ⟨g, 1, none⟩ v') g vn v' { s with jobs := s.jobs ++ [j] } ∧ Chg F w (w'.setCell ⟨g, 1, none⟩ v') := by
  have hj : jobsC (s.jobs ++ [j]) = jobsC s.jobs ++ j.cells := by unfold jobsC; rw [List.flatMap_append]; simp
  have hl : (s.jobs ++ [j]).length = s.jobs.length + 1 := by simp
  have ht := ObjF.turn (w' := w') h 1 (by simp) ⟨52, 12, v', (s.jobs ++ [j]).length, jobsC (s.jobs ++ [j])⟩ (by rw [hj, hl]; exact hg.1) (Chg.of_grown hg.2.1 fun k hk => hk) (fun k hk => by
    rcases hg.2.2 with h2 | h2
    · exact .inl (by show vj.ownBlock = some k; rw [← h2]; exact hk)
    · exact .inr (h2 k hk))
  obtain ⟨h1, h2⟩ := ht
  obtain ⟨h3, h4⟩ := h1.setCell 1 v'
  have hs : (w'.setCell ⟨g, 1, none⟩ v').heap.size = w'.heap.size := by simp
  have h5 := ObjF.mono (G := Fp.since F w (w'.setCell ⟨g, 1, none⟩ v')) h3 (fun k hk => by
    rcases hk with hk | hk
    · exact .inl hk
    · exact .inr ⟨hk.1, by rw [hs]; exact hk.2⟩) (h.isIn.since (by rw [hs]; exact h2.size))
  exact ⟨h5, h2.trans h4 (fun x hx hF => by
    rcases hF with hF | hF
    · exact hF
    · omega)⟩

end Go.Proofs.YtddhbokknbmdfaaDoor
