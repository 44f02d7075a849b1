/- Texts that the proof of B rests on, one behind the other. -/
import Derived.Test.YtkpcjdhnbjkaaaaDoorBQ2
import Derived.Test.YtkpcjdhnbjkaaaaDoorBQ3
import Derived.Test.YtkpcjdhnbjkaaaaDoorBQ4
import Derived.Test.YtkpcjdhnbjkaaaaDoorBQ8

/- Package book: Copy. -/
namespace Go.Proofs.YtkpcjdhnbjkaaaaDoor
open Go.RowKit

theorem blk_second (w : World) (t1 t2 : TypeId) (c1 c2 : Array Value) : Blk ((w.alloc (.cells c1 t1)).alloc (.cells c2 t2)) (w.heap.size + 1) t2 c2 := by
  have := Blk.new (w.alloc (.cells c1 t1)) t2 c2
  have e : (w.alloc (.cells c1 t1)).heap.size = w.heap.size + 1 := by simp
  rw [e] at this
  exact this
theorem own_at {w w' : World} {base K n : Nat} {e : TypeId} {v : Value} {xs : List Value} (h : w.ownsRow base e K v n xs) (hk : ∀ k, v.ownBlock = some k → w'.heap[k]? = w.heap[k]?) : w'.ownsRow base e K v n xs := by
  refine ⟨h.1, ?_⟩
  rcases h.2 with hv | ⟨b, cap, cur, hv, hg, hh, x⟩
  · exact .inl hv
  · exact .inr ⟨b, cap, cur, hv, hg, by rw [hk b (by rw [hv]; rfl)]; exact hh, x⟩

set_option maxRecDepth 100000 in
set_option maxHeartbeats 4000000 in
theorem Copy_any (vn vj : Value) (s : St) (w : World) (h : RdSt w vn vj s) (hn : s.nodes.length ≤ 1000) (hj : s.jobs.length ≤ 1000) :
    Calls Tryd.prog 21 #[stV vn vj s] w fun e w' => ∃ vn' vj', e = .returned (stV vn' vj' s) ∧ OwnSt w.heap.size 41 58 w' vn' vj' s ∧ Ext w w' := by
  have HR := Lib.hid h
  have HR2 := Lib.hid h
  obtain ⟨An, cn, rfl, hnc, hcm⟩ := h.nodes.slice_
  obtain ⟨Aj, cj, rfl, hjc, hjm⟩ := h.jobs.slice_
  have HON := Lib.hid (nodes_oneCell s.nodes)
  have HOJ := Lib.hid (jobs_oneCell s.jobs)
  have hl1 : 0 + s.nodes.length ≤ maxLen := by unfold maxLen; omega
  have hl2 : (0 + s.nodes.length) * 24 ≤ 140737488355328 := by omega
  have hl3 : 0 + s.jobs.length ≤ maxLen := by unfold maxLen; omega
  have hl4 : (0 + s.jobs.length) * 96 ≤ 140737488355328 := by omega
  clear h
  unfold stV
  go_enter Tryd.func21, Tryd.ntmps21
  go_wp2_with (first
    | (refine wpList_appendK rfl (.const (.slice none 0 0)) (.tmp 4) 24 rfl w.heap.size 41 _ 5 24 Tryd.underlying24 Tryd.infoNode rfl (by decide) (.slice none 0 0) 0 [] rfl (World.ownsRow_nil _ _ _ _) (.slice An s.nodes.length cn) s.nodes.length (nodesC s.nodes) rfl (HR.out.nodes.ext (ext2 w _ _ _ _)) HON.out hl1 hl2 (by simp; omega) ?_
       intro v3 w3 hg3
       (try rw [Nat.zero_add, List.nil_append] at hg3)
       have hx3 := hg3.ext
       have bb3 := ((Blk.new w 27 #[.slice An s.nodes.length cn, .slice Aj s.jobs.length cj, .int .i64 s.goal, .int .i64 s.prior, .int .i64 s.mode, .int .i64 s.term]).ext ((Below.refl _ _).alloc (Nat.le_refl _) (.cells #[.slice none 0 0, .slice none 0 0, .int .i64 0, .int .i64 0, .int .i64 0, .int .i64 0] 27))).ext hx3
       have br3 := (blk_second w 27 27 #[.slice An s.nodes.length cn, .slice Aj s.jobs.length cj, .int .i64 s.goal, .int .i64 s.prior, .int .i64 s.mode, .int .i64 s.term] #[.slice none 0 0, .slice none 0 0, .int .i64 0, .int .i64 0, .int .i64 0, .int .i64 0]).ext hx3
       have k0 : w3.cell? ⟨w.heap.size, 0, none⟩ = some (.slice An s.nodes.length cn) := bb3.cell 0
       have k1 : w3.cell? ⟨w.heap.size, 1, none⟩ = some (.slice Aj s.jobs.length cj) := bb3.cell 1
       have f0 := bb3.frozen 0
       obtain ⟨A3, c3, rfl⟩ := own_slice hg3.1)
    | (refine wpList_appendK rfl (.const (.slice none 0 0)) (.tmp 8) 25 rfl w.heap.size 58 _ 12 96 Tryd.underlying25 Tryd.infoJob rfl (by decide) (.slice none 0 0) 0 [] rfl (World.ownsRow_nil _ _ _ _) (.slice Aj s.jobs.length cj) s.jobs.length (jobsC s.jobs) rfl (HR.out.jobs.ext (Below.setCell (Ext.trans (ext2 w _ _ _ _) hx3) (Nat.le_refl _) _)) HOJ.out hl3 hl4 (by have := hx3.size; simp at this ⊢; omega) ?_
       intro v4 w4 hg4
       (try rw [Nat.zero_add, List.nil_append] at hg4)
       have hx4 := hg4.ext
       have bb4 := (bb3.set_ 0 (.slice A3 s.nodes.length c3)).ext hx4
       have br4 : Blk w4 (w.heap.size + 1) 27 #[.slice none 0 0, .slice none 0 0, .int .i64 0, .int .i64 0, .int .i64 0, .int .i64 0] := (br3.far (p := ⟨w.heap.size, 0, none⟩) (by show w.heap.size + 1 ≠ w.heap.size; omega) _).ext hx4
       have m0 : w4.cell? ⟨w.heap.size, 0, none⟩ = some (.slice A3 s.nodes.length c3) := bb4.cell 0
       have m1 : w4.cell? ⟨w.heap.size, 1, none⟩ = some (.slice Aj s.jobs.length cj) := bb4.cell 1
       have m2 : w4.cell? ⟨w.heap.size, 2, none⟩ = some (.int .i64 s.goal) := bb4.cell 2
       have m3 : w4.cell? ⟨w.heap.size, 3, none⟩ = some (.int .i64 s.prior) := bb4.cell 3
       have m4 : w4.cell? ⟨w.heap.size, 4, none⟩ = some (.int .i64 s.mode) := bb4.cell 4
       have m5 : w4.cell? ⟨w.heap.size, 5, none⟩ = some (.int .i64 s.term) := bb4.cell 5
       have f1 : w4.frozen? ⟨w.heap.size, 1, none⟩ = false := bb4.frozen 1
       have r0 : w4.cell? ⟨w.heap.size + 1, 0, none⟩ = some (.slice none 0 0) := br4.cell 0
       have g0 : w4.frozen? ⟨w.heap.size + 1, 0, none⟩ = false := br4.frozen 0
       have r1 : w4.cell? ⟨w.heap.size + 1, 1, none⟩ = some (.slice none 0 0) := br4.cell 1
       have g1 : w4.frozen? ⟨w.heap.size + 1, 1, none⟩ = false := br4.frozen 1
       have r2 : w4.cell? ⟨w.heap.size + 1, 2, none⟩ = some (.int .i64 0) := br4.cell 2
       have g2 : w4.frozen? ⟨w.heap.size + 1, 2, none⟩ = false := br4.frozen 2
       have r3 : w4.cell? ⟨w.heap.size + 1, 3, none⟩ = some (.int .i64 0) := br4.cell 3
       have g3 : w4.frozen? ⟨w.heap.size + 1, 3, none⟩ = false := br4.frozen 3
       have r4 : w4.cell? ⟨w.heap.size + 1, 4, none⟩ = some (.int .i64 0) := br4.cell 4
       have g4 : w4.frozen? ⟨w.heap.size + 1, 4, none⟩ = false := br4.frozen 4
       have r5 : w4.cell? ⟨w.heap.size + 1, 5, none⟩ = some (.int .i64 0) := br4.cell 5
       have g5 : w4.frozen? ⟨w.heap.size + 1, 5, none⟩ = false := br4.frozen 5
       obtain ⟨A4, c4, rfl⟩ := own_slice hg4.1))
  have hs2 : ((w.alloc (.cells #[.slice An s.nodes.length cn, .slice Aj s.jobs.length cj, .int .i64 s.goal, .int .i64 s.prior, .int .i64 s.mode, .int .i64 s.term] 27)).alloc (.cells #[.slice none 0 0, .slice none 0 0, .int .i64 0, .int .i64 0, .int .i64 0, .int .i64 0] 27)).heap.size = w.heap.size + 2 := by simp
  have hs3 := hx3.size
  rw [hs2] at hs3
  have hs4 := hx4.size
  have hs5 : (w3.setCell ⟨w.heap.size, 0, none⟩ (.slice A3 s.nodes.length c3)).heap.size = w3.heap.size := by simp
  rw [hs5] at hs4
  have hnb : ∀ k, (Value.slice A3 s.nodes.length c3).ownBlock = some k → w.heap.size + 2 ≤ k ∧ k < w3.heap.size := fun k hk => by
    refine ⟨?_, (hg3.1.lt k hk).2⟩
    rcases hg3.2.2 with h | h
    · rw [h] at hk
      cases hk
    · have := h k hk
      rw [hs2] at this
      exact this
  have hjb : ∀ k, (Value.slice A4 s.jobs.length c4).ownBlock = some k → w3.heap.size ≤ k ∧ k < w4.heap.size := fun k hk => by
    refine ⟨?_, (hg4.1.lt k hk).2⟩
    rcases hg4.2.2 with h | h
    · rw [h] at hk
      cases hk
    · have := h k hk
      rw [hs5] at this
      exact this
  have hrow : ∀ k, w.heap.size + 2 ≤ k → ∀ (u1 u2 u3 u4 u5 u6 u7 : Value), (((((((w4.setCell ⟨w.heap.size, 1, none⟩ u1).setCell ⟨w.heap.size + 1, 0, none⟩ u2).setCell ⟨w.heap.size + 1, 1, none⟩ u3).setCell ⟨w.heap.size + 1, 2, none⟩ u4).setCell ⟨w.heap.size + 1, 3, none⟩ u5).setCell ⟨w.heap.size + 1, 4, none⟩ u6).setCell ⟨w.heap.size + 1, 5, none⟩ u7).heap[k]? = w4.heap[k]? := fun k hk u1 u2 u3 u4 u5 u6 u7 => by
    rw [Below.heap_setCell _ _ _ _ (by show k ≠ w.heap.size + 1; omega), Below.heap_setCell _ _ _ _ (by show k ≠ w.heap.size + 1; omega), Below.heap_setCell _ _ _ _ (by show k ≠ w.heap.size + 1; omega), Below.heap_setCell _ _ _ _ (by show k ≠ w.heap.size + 1; omega), Below.heap_setCell _ _ _ _ (by show k ≠ w.heap.size + 1; omega), Below.heap_setCell _ _ _ _ (by show k ≠ w.heap.size + 1; omega), Below.heap_setCell _ _ _ _ (by show k ≠ w.heap.size; omega)]
  have hb := ((((((br4.far (p := ⟨w.heap.size, 1, none⟩) (by show w.heap.size + 1 ≠ w.heap.size; omega) (.slice A4 s.jobs.length c4)).set_ 0 (.slice A3 s.nodes.length c3)).set_ 1 (.slice A4 s.jobs.length c4)).set_ 2 (.int .i64 s.goal)).set_ 3 (.int .i64 s.prior)).set_ 4 (.int .i64 s.mode)).set_ 5 (.int .i64 s.term)
  have hxa : Ext w (w3.setCell ⟨w.heap.size, 0, none⟩ (.slice A3 s.nodes.length c3)) := Below.setCell (Ext.trans (ext2 w _ _ _ _) hx3) (Nat.le_refl _) _
  have hxf := Below.setCell (p := ⟨w.heap.size + 1, 5, none⟩) (Below.setCell (p := ⟨w.heap.size + 1, 4, none⟩) (Below.setCell (p := ⟨w.heap.size + 1, 3, none⟩) (Below.setCell (p := ⟨w.heap.size + 1, 2, none⟩) (Below.setCell (p := ⟨w.heap.size + 1, 1, none⟩) (Below.setCell (p := ⟨w.heap.size + 1, 0, none⟩) (Below.setCell (p := ⟨w.heap.size, 1, none⟩) (Ext.trans hxa hx4) (Nat.le_refl _) (.slice A4 s.jobs.length c4)) (Nat.le_succ _) (.slice A3 s.nodes.length c3)) (Nat.le_succ _) (.slice A4 s.jobs.length c4)) (Nat.le_succ _) (.int .i64 s.goal)) (Nat.le_succ _) (.int .i64 s.prior)) (Nat.le_succ _) (.int .i64 s.mode)) (Nat.le_succ _) (.int .i64 s.term)
  refine bodyPost_ret (results_cell_row rfl _ _ (w.heap.size + 1) 27 _ (0, 0) _ rfl hb rfl rfl (by kernel_rfl)) rfl ⟨_, _, rfl, ⟨own_at hg3.1 fun k hk => ?_, own_at hg4.1 fun k hk => ?_, fun k hk hk2 => ?_⟩, hxf⟩
  · have := hnb k hk
    rw [hrow k this.1, hx4.block k (by rw [hs5]; exact this.2)]
    exact Below.heap_setCell _ _ _ _ (by show k ≠ w.heap.size; omega)
  · exact hrow k (by have := hjb k hk; omega) _ _ _ _ _ _ _
  · have := hnb k hk
    have := hjb k hk2
    omega

end Go.Proofs.YtkpcjdhnbjkaaaaDoor

/- A variable that holds a state; what stands behind 't, e = book.Apply(c, s, o)'. -/
namespace Go.Proofs.YtkpcjdhnbjkaaaaDoor
open Go.RowKit

theorem blk_three (w : World) (t1 t2 t3 : TypeId) (c1 c2 c3 : Array Value) : ∃ W, W = ((w.alloc (.cells c1 t1)).alloc (.cells c2 t2)).alloc (.cells c3 t3) ∧ Ext w W ∧ Blk W w.heap.size t1 c1 ∧ Blk W (w.heap.size + 1) t2 c2 ∧ Blk W (w.heap.size + 2) t3 c3 ∧ W.heap.size = w.heap.size + 3 := by
  refine ⟨_, rfl, ext3 w t1 t2 t3 c1 c2 c3, ((Blk.new w t1 c1).alloc _).alloc _, ?_, ?_, by simp⟩
  · have := (Blk.new (w.alloc (.cells c1 t1)) t2 c2).alloc (.cells c3 t3)
    have e : (w.alloc (.cells c1 t1)).heap.size = w.heap.size + 1 := by simp
    rw [e] at this
    exact this
  · have := Blk.new ((w.alloc (.cells c1 t1)).alloc (.cells c2 t2)) t3 c3
    have e : ((w.alloc (.cells c1 t1)).alloc (.cells c2 t2)).heap.size = w.heap.size + 2 := by simp
    rw [e] at this
    exact this
theorem four_blocks (w : World) (t1 t2 t3 t4 : TypeId) (c1 c2 c3 c4 : Array Value) : ∃ W, W = (((w.alloc (.cells c1 t1)).alloc (.cells c2 t2)).alloc (.cells c3 t3)).alloc (.cells c4 t4) ∧ Ext w W ∧ Blk W w.heap.size t1 c1 ∧ Blk W (w.heap.size + 1) t2 c2 ∧ Blk W (w.heap.size + 2) t3 c3 ∧ Blk W (w.heap.size + 3) t4 c4 ∧ W.heap.size = w.heap.size + 4 := by
  refine ⟨_, rfl, ?_, ?_, ?_, ?_, ?_, by simp⟩
  · exact (ext3 w t1 t2 t3 c1 c2 c3).alloc (by simp; omega) _
  · exact (((Blk.new w t1 c1).alloc _).alloc _).alloc _
  · have := ((Blk.new (w.alloc (.cells c1 t1)) t2 c2).alloc (.cells c3 t3)).alloc (.cells c4 t4)
    have e : (w.alloc (.cells c1 t1)).heap.size = w.heap.size + 1 := by simp
    rw [e] at this
    exact this
  · have := (Blk.new ((w.alloc (.cells c1 t1)).alloc (.cells c2 t2)) t3 c3).alloc (.cells c4 t4)
    have e : ((w.alloc (.cells c1 t1)).alloc (.cells c2 t2)).heap.size = w.heap.size + 2 := by simp
    rw [e] at this
    exact this
  · have := Blk.new (((w.alloc (.cells c1 t1)).alloc (.cells c2 t2)).alloc (.cells c3 t3)) t4 c4
    have e : (((w.alloc (.cells c1 t1)).alloc (.cells c2 t2)).alloc (.cells c3 t3)).heap.size = w.heap.size + 3 := by simp
    rw [e] at this
    exact this
theorem two_blocks (w : World) (t1 t2 : TypeId) (c1 c2 : Array Value) : ∃ W, W = (w.alloc (.cells c1 t1)).alloc (.cells c2 t2) ∧ Ext w W ∧ Blk W w.heap.size t1 c1 ∧ Blk W (w.heap.size + 1) t2 c2 := by
  refine ⟨_, rfl, ext2 w t1 t2 c1 c2, (Blk.new w t1 c1).alloc _, ?_⟩
  have := Blk.new (w.alloc (.cells c1 t1)) t2 c2
  have e : (w.alloc (.cells c1 t1)).heap.size = w.heap.size + 1 := by simp
  rw [e] at this
  exact this
theorem three_blocks (w : World) (t1 t2 t3 : TypeId) (c1 c2 c3 : Array Value) : ∃ W, W = ((w.alloc (.cells c1 t1)).alloc (.cells c2 t2)).alloc (.cells c3 t3) ∧ Ext w W ∧ Blk W w.heap.size t1 c1 ∧ Blk W (w.heap.size + 1) t2 c2 ∧ Blk W (w.heap.size + 2) t3 c3 := by
  refine ⟨_, rfl, ext3 w t1 t2 t3 c1 c2 c3, ((Blk.new w t1 c1).alloc _).alloc _, ?_, ?_⟩
  · have := (Blk.new (w.alloc (.cells c1 t1)) t2 c2).alloc (.cells c3 t3)
    have e : (w.alloc (.cells c1 t1)).heap.size = w.heap.size + 1 := by simp
    rw [e] at this
    exact this
  · have := Blk.new ((w.alloc (.cells c1 t1)).alloc (.cells c2 t2)) t3 c3
    have e : ((w.alloc (.cells c1 t1)).alloc (.cells c2 t2)).heap.size = w.heap.size + 2 := by simp
    rw [e] at this
    exact this

/-! ### A variable that holds a state -/
/-- What the slice value reads lies in another block than g. -/
def offG (g : Nat) (v : Value) (n : Nat) : Prop := 0 < n → ∀ k, v.ownBlock = some k → k ≠ g
theorem RdS.lt {K n : Nat} {w : World} {v : Value} {xs : List Value} (h : RdS K w v n xs) (hn : 0 < n) {k : Nat} (hk : v.ownBlock = some k) : k < w.heap.size := by
  obtain ⟨_, A, c, e, _, _, h3⟩ := h
  obtain ⟨b, o, hA, hlt, _⟩ := h3 hn
  rw [e, hA] at hk
  have : b = k := Option.some.inj hk
  omega
theorem offG.of_lt {K n g : Nat} {w : World} {v : Value} {xs : List Value} (h : RdS K w v n xs) (hg : w.heap.size ≤ g) : offG g v n := fun hn k hk e => by
  have := h.lt hn hk
  omega
/-- In a world in which all blocks but g are as they were. -/
theorem RdS.off {K n g : Nat} {w w' : World} {v : Value} {xs : List Value} (h : RdS K w v n xs) (ho : offG g v n) (hs : w.heap.size ≤ w'.heap.size) (hk : ∀ k, k ≠ g → w'.heap[k]? = w.heap[k]?) : RdS K w' v n xs := by
  obtain ⟨h0, A, c, e, h1, h2, h3⟩ := h
  refine ⟨h0, A, c, e, h1, h2, fun hn => ?_⟩
  obtain ⟨b, o, hA, hlt, hc⟩ := h3 hn
  refine ⟨b, o, hA, Nat.lt_of_lt_of_le hlt hs, fun j u hu => ?_⟩
  have := hk b (ho hn b (by rw [e, hA]; rfl))
  exact (World.cell?_of_block (a := ⟨b, o + j, none⟩) this).trans (hc j u hu)

structure SAt (w : World) (g : Nat) (vn vj : Value) (s : St) : Prop where
  blk : Blk w g 27 #[vn, vj, .int .i64 s.goal, .int .i64 s.prior, .int .i64 s.mode, .int .i64 s.term]
  rd : RdSt w vn vj s
  offn : offG g vn s.nodes.length
  offj : offG g vj s.jobs.length
theorem SAt.ext {w w' : World} {g : Nat} {vn vj : Value} {s : St} (h : SAt w g vn vj s) (hx : Ext w w') : SAt w' g vn vj s := ⟨h.blk.ext hx, h.rd.ext hx, h.offn, h.offj⟩
theorem SAt.first {w w' : World} {g : Nat} {vn vj : Value} {s : St} (h : RdSt w vn vj s) (hx : Ext w w') (hb : Blk w' g 27 #[vn, vj, .int .i64 s.goal, .int .i64 s.prior, .int .i64 s.mode, .int .i64 s.term]) (hg : w.heap.size ≤ g) : SAt w' g vn vj s :=
  ⟨hb, h.ext hx, .of_lt h.nodes hg, .of_lt h.jobs hg⟩
/-- A state is stored. -/
theorem SAt.putR {w : World} {g : Nat} {vn vj un uj : Value} {s t : St} (h : SAt w g vn vj s) (h2 : RdSt w un uj t) (hon : offG g un t.nodes.length) (hoj : offG g uj t.jobs.length) : ∃ w', w' = (((((w.setCell ⟨g, 0, none⟩ un).setCell ⟨g, 1, none⟩ uj).setCell ⟨g, 2, none⟩ (.int .i64 t.goal)).setCell ⟨g, 3, none⟩ (.int .i64 t.prior)).setCell ⟨g, 4, none⟩ (.int .i64 t.mode)).setCell ⟨g, 5, none⟩ (.int .i64 t.term) ∧
    SAt w' g un uj t ∧ (∀ k, k ≠ g → w'.heap[k]? = w.heap[k]?) ∧ w'.heap.size = w.heap.size ∧ ∀ (B : Nat) (a : World), Below B a w → B ≤ g → Below B a w' := by
  have hq := PB.start h.blk
  replace hq := hq.set 0 un
  replace hq := hq.set 1 uj
  replace hq := hq.set 2 (.int .i64 t.goal)
  replace hq := hq.set 3 (.int .i64 t.prior)
  replace hq := hq.set 4 (.int .i64 t.mode)
  replace hq := hq.set 5 (.int .i64 t.term)
  simp only [List.setIfInBounds_toArray, List.set_cons_zero, List.set_cons_succ] at hq
  exact ⟨_, rfl, ⟨hq.blk, ⟨h2.nodes.off hon (by rw [hq.size]; exact Nat.le_refl _) hq.same, h2.jobs.off hoj (by rw [hq.size]; exact Nat.le_refl _) hq.same⟩, hon, hoj⟩, hq.same, hq.size, hq.below⟩
/-- The state of another variable is stored. -/
theorem SAt.put {w : World} {g g2 : Nat} {vn vj un uj : Value} {s t : St} (h : SAt w g vn vj s) (h2 : SAt w g2 un uj t) (hon : offG g un t.nodes.length) (hoj : offG g uj t.jobs.length) : ∃ w', w' = (((((w.setCell ⟨g, 0, none⟩ un).setCell ⟨g, 1, none⟩ uj).setCell ⟨g, 2, none⟩ (.int .i64 t.goal)).setCell ⟨g, 3, none⟩ (.int .i64 t.prior)).setCell ⟨g, 4, none⟩ (.int .i64 t.mode)).setCell ⟨g, 5, none⟩ (.int .i64 t.term) ∧
    SAt w' g un uj t ∧ (∀ k, k ≠ g → w'.heap[k]? = w.heap[k]?) ∧ w'.heap.size = w.heap.size ∧ ∀ (B : Nat) (a : World), Below B a w → B ≤ g → Below B a w' := h.putR h2.rd hon hoj
/-- Another variable is written. -/
theorem SAt.keep {w w' : World} {g g' : Nat} {vn vj : Value} {s : St} (h : SAt w g' vn vj s) (hne : g' ≠ g) (h1 : offG g vn s.nodes.length) (h2 : offG g vj s.jobs.length) (hs : w'.heap.size = w.heap.size) (hk : ∀ k, k ≠ g → w'.heap[k]? = w.heap[k]?) : SAt w' g' vn vj s :=
  ⟨(hk _ hne).trans h.blk, ⟨h.rd.nodes.off h1 (by rw [hs]; exact Nat.le_refl _) hk, h.rd.jobs.off h2 (by rw [hs]; exact Nat.le_refl _) hk⟩, h.offn, h.offj⟩
/-- The variable's slices lie ahead of what is made later. -/
theorem SAt.later {w : World} {g g' : Nat} {vn vj : Value} {s : St} (h : SAt w g' vn vj s) (hg : w.heap.size ≤ g) : offG g vn s.nodes.length ∧ offG g vj s.jobs.length ∧ g' ≠ g := by
  have := h.blk.lt
  exact ⟨.of_lt h.rd.nodes hg, .of_lt h.rd.jobs hg, by omega⟩

/-! ### Behind 't, e = book.Apply(c, s, o)' -/
structure ApCut (W : World) (r : Res9) (p e : Value) (wx : World) : Prop where
  out : ∃ g vn vj, p = .pointer (some ⟨g, 0, none⟩) ∧ e = .int .i64 r.2 ∧ W.heap.size ≤ g ∧ Ext W wx ∧ SAt wx g vn vj r.1 ∧ ∀ k, vn.ownBlock = some k ∨ vj.ownBlock = some k → W.heap.size ≤ k
theorem ApCut.made {W w3 : World} {r : Res9} {vn vj : Value} (hx : Ext W w3) (hr : RdSt w3 vn vj r.1) (hk : ∀ k, vn.ownBlock = some k ∨ vj.ownBlock = some k → W.heap.size ≤ k) :
    ApCut W r (.pointer (some ⟨w3.heap.size, 0, none⟩)) (.int .i64 r.2) (w3.alloc (.cells #[vn, vj, .int .i64 r.1.goal, .int .i64 r.1.prior, .int .i64 r.1.mode, .int .i64 r.1.term] 27)) := by
  have hy : Ext w3 (w3.alloc (.cells #[vn, vj, .int .i64 r.1.goal, .int .i64 r.1.prior, .int .i64 r.1.mode, .int .i64 r.1.term] 27)) := (Below.refl _ _).alloc (Nat.le_refl _) _
  exact ⟨_, _, _, rfl, rfl, hx.size, hx.trans hy, SAt.first hr hy (Blk.new _ _ _) (Nat.le_refl _), hk⟩
theorem ApCut.ahead {W w3 w' : World} {r : Res9} {vn vj : Value} (hx : Ext W w3) (hr : RdSt w3 vn vj r.1) (hq : PB w3 W.heap.size 27 w' #[vn, vj, .int .i64 r.1.goal, .int .i64 r.1.prior, .int .i64 r.1.mode, .int .i64 r.1.term])
    (hk : ∀ k, vn.ownBlock = some k ∨ vj.ownBlock = some k → W.heap.size + 1 ≤ k) : ApCut W r (.pointer (some ⟨W.heap.size, 0, none⟩)) (.int .i64 r.2) w' := by
  have h1 : offG W.heap.size vn r.1.nodes.length := fun _ k h e => by have := hk k (.inl h); omega
  have h2 : offG W.heap.size vj r.1.jobs.length := fun _ k h e => by have := hk k (.inr h); omega
  exact ⟨_, _, _, rfl, rfl, Nat.le_refl _, hq.below _ _ hx (Nat.le_refl _), ⟨hq.blk, ⟨hr.nodes.off h1 (by rw [hq.size]; exact Nat.le_refl _) hq.same, hr.jobs.off h2 (by rw [hq.size]; exact Nat.le_refl _) hq.same⟩, h1, h2⟩, fun k h => by have := hk k h; omega⟩

end Go.Proofs.YtkpcjdhnbjkaaaaDoor

/- Package book: the page that ops are done to, in memory. -/
namespace Go.Proofs.YtkpcjdhnbjkaaaaDoor
open Go.RowKit

def pgC (c : Cf) (vn vj : Value) (s : St) : Array Value := #[.int .i64 c.nodes, .int .i64 c.queues, .int .i64 c.quota, .int .i64 c.wave, .int .i64 c.lease, .int .i64 c.retry, .int .i64 c.deadline, .int .i64 c.room, .int .i64 c.disk, vn, vj, .int .i64 s.goal, .int .i64 s.prior, .int .i64 s.mode, .int .i64 s.term]
/-- The page at g: its fleet, its state; all in the set. -/
def Pg (F : Fp) (w : World) (g : Nat) (c : Cf) (vn vj : Value) (s : St) : Prop :=
  ObjF F w g 55 (pgC c vn vj s) [⟨41, 5, vn, s.nodes.length, nodesC s.nodes⟩, ⟨58, 12, vj, s.jobs.length, jobsC s.jobs⟩]

section
variable {F G : Fp} {w w' : World} {g : Nat} {c : Cf} {vn vj : Value} {s : St}
theorem Pg.ext (h : Pg F w g c vn vj s) (hx : Ext w w') : Pg F w' g c vn vj s := ObjF.ext h hx
theorem Pg.isIn (h : Pg F w g c vn vj s) : F.isIn w := ObjF.isIn h
theorem Pg.mono (h : Pg F w g c vn vj s) (hf : ∀ k, F k → G k) (hi : G.isIn w) : Pg G w g c vn vj s := ObjF.mono h hf hi
theorem Pg.blk (h : Pg F w g c vn vj s) : Blk w g 55 (pgC c vn vj s) := ObjF.blk h
theorem Pg.lt (h : Pg F w g c vn vj s) : g < w.heap.size := (ObjF.blk h).lt
theorem Pg.rowN (h : Pg F w g c vn vj s) : w.ownsRow 0 41 5 vn s.nodes.length (nodesC s.nodes) := (ObjF.ok h ⟨41, 5, vn, s.nodes.length, nodesC s.nodes⟩ (by simp)).1
theorem Pg.rowJ (h : Pg F w g c vn vj s) : w.ownsRow 0 58 12 vj s.jobs.length (jobsC s.jobs) := (ObjF.ok h ⟨58, 12, vj, s.jobs.length, jobsC s.jobs⟩ (by simp)).1
theorem Pg.rd (h : Pg F w g c vn vj s) : RdSt w vn vj s := ⟨RdS.own h.rowN, RdS.own h.rowJ⟩
theorem Pg.fr (h : Pg F w g c vn vj s) (i : Nat) : w.frozen? ⟨g, i, none⟩ = false := (ObjF.blk h).frozen i
/-- What a walk wants of a node. -/
theorem Pg.nodeAt (h : Pg F w g c vn vj s) {i : Nat} {n : Nd} (hi : s.nodes[i]? = some n) : ∃ b cap, vn = .slice (some ⟨b, 0, none⟩) s.nodes.length cap ∧ s.nodes.length ≤ cap ∧ cap ≤ 9223372036854775807 ∧ b < w.heap.size ∧ b ≠ g ∧ NdAt w b (i * 5) n ∧ ∀ k, w.frozen? ⟨b, k, none⟩ = false := by
  have hr := h.rowN
  have hil := (List.getElem?_eq_some_iff.1 hi).1
  rcases hr.2 with ⟨_, h0⟩ | ⟨b, cap, cur, hv, hg, hh, hn, hcap, hs, ht⟩
  · omega
  · have hoff := ObjF.off h ⟨41, 5, vn, s.nodes.length, nodesC s.nodes⟩ (by simp)
    subst hv
    refine ⟨b, cap, rfl, hn, by unfold maxLen at hcap; omega, (Array.getElem?_eq_some_iff.1 hh).1, fun e => hoff (by rw [e]; rfl), ?_, fun k => hr.frozenAt k⟩
    refine NdAt.of fun j u hu => ?_
    have hj : j < 5 := (List.getElem?_eq_some_iff.1 hu).1
    rw [hr.cellAt _ (by omega)]
    exact (flat_get Nd.len hi j hj).trans hu
theorem Pg.jobAt (h : Pg F w g c vn vj s) {i : Nat} {n : Jb} (hi : s.jobs[i]? = some n) : ∃ b cap, vj = .slice (some ⟨b, 0, none⟩) s.jobs.length cap ∧ s.jobs.length ≤ cap ∧ cap ≤ 9223372036854775807 ∧ b < w.heap.size ∧ b ≠ g ∧ JbAt w b (i * 12) n ∧ ∀ k, w.frozen? ⟨b, k, none⟩ = false := by
  have hr := h.rowJ
  have hil := (List.getElem?_eq_some_iff.1 hi).1
  rcases hr.2 with ⟨_, h0⟩ | ⟨b, cap, cur, hv, hg, hh, hn, hcap, hs, ht⟩
  · omega
  · have hoff := ObjF.off h ⟨58, 12, vj, s.jobs.length, jobsC s.jobs⟩ (by simp)
    subst hv
    refine ⟨b, cap, rfl, hn, by unfold maxLen at hcap; omega, (Array.getElem?_eq_some_iff.1 hh).1, fun e => hoff (by rw [e]; rfl), ?_, fun k => hr.frozenAt k⟩
    refine JbAt.of fun j u hu => ?_
    have hj : j < 12 := (List.getElem?_eq_some_iff.1 hu).1
    rw [hr.cellAt _ (by omega)]
    exact (flat_get Jb.len hi j hj).trans hu
theorem Pg.far (h : Pg F w g c vn vj s) : ∀ k, vn.ownBlock = some k → vj.ownBlock ≠ some k := by
  have := ObjF.apart h
  rw [List.pairwise_cons] at this
  exact this.1 ⟨58, 12, vj, s.jobs.length, jobsC s.jobs⟩ (by simp)

theorem chg_cell {b k : Nat} {u : Value} (hF : F b) : Chg F w (w.setCell ⟨b, k, none⟩ u) := (Chg.refl F w).setCell fun _ => hF
/-- A node's field is written. -/
theorem Pg.setN (h : Pg F w g c vn vj s) {i : Nat} {n n' : Nd} (hi : s.nodes[i]? = some n) {b cap : Nat} (hv : vn = .slice (some ⟨b, 0, none⟩) s.nodes.length cap) (j : Nat) (hj : j < 5) (u : Value) (hn : n'.cells = n.cells.set j u) :
    Pg F (w.setCell ⟨b, i * 5 + j, none⟩ u) g c vn vj (setN s i n') ∧ Chg F w (w.setCell ⟨b, i * 5 + j, none⟩ u) := by
  have hr := h.rowN
  have hF : F b := (ObjF.ok h ⟨41, 5, vn, s.nodes.length, nodesC s.nodes⟩ (by simp)).2 b (by rw [hv]; rfl)
  have hc := chg_cell (w := w) (k := i * 5 + j) (u := u) hF
  subst hv
  obtain ⟨h1, h2⟩ := hr.stored (i * 5 + j) u
  have hset : nodesC (s.nodes.set i n') = (nodesC s.nodes).set (i * 5 + j) u := flat_set Nd.len hi j hj u hn
  have ht := ObjF.turn (w' := w.setCell ⟨b, i * 5 + j, none⟩ u) h 0 (by simp) ⟨41, 5, .slice (some ⟨b, 0, none⟩) s.nodes.length cap, (s.nodes.set i n').length, nodesC (s.nodes.set i n')⟩ (by rw [hset, List.length_set]; exact h1)
    ((Chg.refl _ w).setCell fun _ => rfl) (fun k hk => .inl hk)
  refine ⟨?_, hc⟩
  have hm : Pg (Fp.since F w (w.setCell ⟨b, i * 5 + j, none⟩ u)) (w.setCell ⟨b, i * 5 + j, none⟩ u) g c (.slice (some ⟨b, 0, none⟩) s.nodes.length cap) vj (Go.Proofs.YtkpcjdhnbjkaaaaDoor.setN s i n') := ht.1
  refine hm.mono (fun k hk => ?_) (h.isIn.chg hc)
  rcases hk with hk | hk
  · exact hk
  · simp at hk
    omega
/-- A job's field is written. -/
theorem Pg.setJ (h : Pg F w g c vn vj s) {i : Nat} {n n' : Jb} (hi : s.jobs[i]? = some n) {b cap : Nat} (hv : vj = .slice (some ⟨b, 0, none⟩) s.jobs.length cap) (j : Nat) (hj : j < 12) (u : Value) (hn : n'.cells = n.cells.set j u) :
    Pg F (w.setCell ⟨b, i * 12 + j, none⟩ u) g c vn vj (setJ s i n') ∧ Chg F w (w.setCell ⟨b, i * 12 + j, none⟩ u) := by
  have hr := h.rowJ
  have hF : F b := (ObjF.ok h ⟨58, 12, vj, s.jobs.length, jobsC s.jobs⟩ (by simp)).2 b (by rw [hv]; rfl)
  have hc := chg_cell (w := w) (k := i * 12 + j) (u := u) hF
  subst hv
  obtain ⟨h1, h2⟩ := hr.stored (i * 12 + j) u
  have hset : jobsC (s.jobs.set i n') = (jobsC s.jobs).set (i * 12 + j) u := flat_set Jb.len hi j hj u hn
  have ht := ObjF.turn (w' := w.setCell ⟨b, i * 12 + j, none⟩ u) h 1 (by simp) ⟨58, 12, .slice (some ⟨b, 0, none⟩) s.jobs.length cap, (s.jobs.set i n').length, jobsC (s.jobs.set i n')⟩ (by rw [hset, List.length_set]; exact h1)
    ((Chg.refl _ w).setCell fun _ => rfl) (fun k hk => .inl hk)
  refine ⟨?_, hc⟩
  have hm : Pg (Fp.since F w (w.setCell ⟨b, i * 12 + j, none⟩ u)) (w.setCell ⟨b, i * 12 + j, none⟩ u) g c vn (.slice (some ⟨b, 0, none⟩) s.jobs.length cap) (Go.Proofs.YtkpcjdhnbjkaaaaDoor.setJ s i n') := ht.1
  refine hm.mono (fun k hk => ?_) (h.isIn.chg hc)
  rcases hk with hk | hk
  · exact hk
  · simp at hk
    omega
/-- One of the state's numbers is written. -/
theorem Pg.setG (h : Pg F w g c vn vj s) (s' : St) (k : Nat) (u : Value) (hn : s'.nodes = s.nodes) (hj : s'.jobs = s.jobs) (hc : pgC c vn vj s' = (pgC c vn vj s).setIfInBounds k u) :
    Pg F (w.setCell ⟨g, k, none⟩ u) g c vn vj s' ∧ Chg F w (w.setCell ⟨g, k, none⟩ u) := by
  have := ObjF.setCell h k u
  unfold Pg
  rw [hn, hj, hc]
  exact this
end

end Go.Proofs.YtkpcjdhnbjkaaaaDoor

/- Package book: a page's small methods. -/
namespace Go.Proofs.YtkpcjdhnbjkaaaaDoor
open Go.RowKit

section
variable {F : Fp} {w : World} {g : Nat} {c : Cf} {vn vj : Value} {s : St}
theorem Pg.c9 (h : Pg F w g c vn vj s) : w.cell? ⟨g, 9, none⟩ = some vn := h.blk.cell 9
theorem Pg.c10 (h : Pg F w g c vn vj s) : w.cell? ⟨g, 10, none⟩ = some vj := h.blk.cell 10
theorem Pg.c11 (h : Pg F w g c vn vj s) : w.cell? ⟨g, 11, none⟩ = some (.int .i64 s.goal) := h.blk.cell 11
theorem Pg.c12 (h : Pg F w g c vn vj s) : w.cell? ⟨g, 12, none⟩ = some (.int .i64 s.prior) := h.blk.cell 12
theorem Pg.c13 (h : Pg F w g c vn vj s) : w.cell? ⟨g, 13, none⟩ = some (.int .i64 s.mode) := h.blk.cell 13
theorem Pg.c14 (h : Pg F w g c vn vj s) : w.cell? ⟨g, 14, none⟩ = some (.int .i64 s.term) := h.blk.cell 14
theorem Pg.slN (h : Pg F w g c vn vj s) : ∃ A cap, vn = .slice A s.nodes.length cap ∧ s.nodes.length ≤ cap ∧ cap ≤ 9223372036854775807 := h.rd.nodes.slice_
theorem Pg.slJ (h : Pg F w g c vn vj s) : ∃ A cap, vj = .slice A s.jobs.length cap ∧ s.jobs.length ≤ cap ∧ cap ≤ 9223372036854775807 := h.rd.jobs.slice_
end

theorem isJob_any (F : Fp) (w : World) (g : Nat) (c : Cf) (vn vj : Value) (s : St) (a : Int) (h : Pg F w g c vn vj s) :
    Calls Tryd.prog 41 #[.pointer (some ⟨g, 0, none⟩), .int .i64 a] w fun e w' => e = .returned (.bool (inR a 1 (s.jobs.length : Int))) ∧ w = w' := by
  have HF := Lib.hid fun n lo hi w' => isFrom_any n lo hi w'
  have c10 := h.c10
  obtain ⟨A, cap, rfl, h1, h2⟩ := h.slJ
  clear h
  go_enter Tryd.func41, Tryd.ntmps41
  go_wp2_with fail
  refine (HF.out _ _ _ _).mono ?_
  rintro e1 w1 ⟨rfl, rfl⟩
  go_wp2
  go_ret
  exact ⟨rfl, rfl⟩

theorem isNode_any (F : Fp) (w : World) (g : Nat) (c : Cf) (vn vj : Value) (s : St) (a : Int) (h : Pg F w g c vn vj s) :
    Calls Tryd.prog 42 #[.pointer (some ⟨g, 0, none⟩), .int .i64 a] w fun e w' => e = .returned (.bool (inR a 0 ((s.nodes.length : Int) - 1))) ∧ w = w' := by
  have HF := Lib.hid fun n lo hi w' => isFrom_any n lo hi w'
  have c9 := h.c9
  obtain ⟨A, cap, rfl, h1, h2⟩ := h.slN
  have hw : wrap64 ((s.nodes.length : Int) - 1) = (s.nodes.length : Int) - 1 := IntWalk.wrap64_in _ (by omega)
  clear h
  go_enter Tryd.func42, Tryd.ntmps42
  go_wp2_with fail
  refine (HF.out _ _ _ _).mono ?_
  rintro e1 w1 ⟨rfl, rfl⟩
  go_wp2
  go_ret
  exact ⟨rfl, rfl⟩

theorem node_any (F : Fp) (w : World) (g : Nat) (c : Cf) (vj : Value) (s : St) (i b cap : Nat) (n : Nd) (h : Pg F w g c (.slice (some ⟨b, 0, none⟩) s.nodes.length cap) vj s) (hi : s.nodes[i]? = some n) :
    Calls Tryd.prog 67 #[.pointer (some ⟨g, 0, none⟩), .int .i64 (i : Int)] w fun e w' => e = .returned (.pointer (some ⟨b, i * 5, none⟩)) ∧ w = w' := by
  have c9 := h.c9
  have hil := (List.getElem?_eq_some_iff.1 hi).1
  clear h hi
  go_enter Tryd.func67, Tryd.ntmps67
  go_wp2
  go_ret
  exact ⟨by simp, rfl⟩

theorem job_any (F : Fp) (w : World) (g : Nat) (c : Cf) (vn : Value) (s : St) (i b cap : Nat) (n : Jb) (h : Pg F w g c vn (.slice (some ⟨b, 0, none⟩) s.jobs.length cap) s) (hi : s.jobs[i]? = some n) (hc : cap ≤ 9223372036854775807) (hn : s.jobs.length ≤ cap) :
    Calls Tryd.prog 68 #[.pointer (some ⟨g, 0, none⟩), .int .i64 ((i : Int) + 1)] w fun e w' => e = .returned (.pointer (some ⟨b, i * 12, none⟩)) ∧ w = w' := by
  have c10 := h.c10
  have hil := (List.getElem?_eq_some_iff.1 hi).1
  have hw1 : wrap64 ((i : Int) + 1 - 1) = (i : Int) := by rw [IntWalk.wrap64_in _ (by omega)]; omega
  clear h hi
  go_enter Tryd.func68, Tryd.ntmps68
  go_wp2
  go_ret
  exact ⟨by simp, rfl⟩

theorem Index_any (xs : List Int) (x : Int) (v : Value) (w : World) (hr : Rd w v (xs.map I)) (hl : xs.length ≤ 100) :
    Calls Tryd.prog 75 #[v, .int .i64 x] w fun e w' => ∃ r : Int, e = .returned (.int .i64 r) ∧ (0 ≤ r ↔ x ∈ xs) ∧ w = w' := by
  obtain ⟨A, cap, rfl, hnc, hcm⟩ := hr.sliceN (n := xs.length) (by simp)
  have HR := Lib.hid hr
  clear hr
  go_enter Tryd.func75, Tryd.ntmps75
  go_wp2_with fail
  go_loop [8] (fun i => ∃ k : Nat, i = .int .i64 k ∧ k ≤ xs.length ∧ Hid (∀ j y, j < k → xs[j]? = some y → y ≠ x)) (fun i => xs.length - (intOf i).toNat)
  case atStart => exact ⟨0, rfl, Nat.zero_le _, Lib.hid (fun j y h => absurd h (Nat.not_lt_zero j))⟩
  case round =>
    obtain ⟨k, rfl, hk, HA⟩ := hrel
    by_cases hlt : k < xs.length
    · have d1 : decide ((k : Int) < (xs.length : Int)) = true := decide_eq_true (by omega)
      have d1' : decide (k < xs.length) = true := decide_eq_true hlt
      obtain ⟨y, hy⟩ : ∃ y, xs[k]? = some y := ⟨_, List.getElem?_eq_getElem hlt⟩
      obtain ⟨b, o, rfl, _, hc⟩ := HR.out.get (by simpa using (show 0 < xs.length by omega))
      have c0 := hc k (I y) (by rw [List.getElem?_map, hy]; rfl)
      have HY := Lib.hid hy
      have HLT := Lib.hid hlt
      clear hc hy
      by_cases he : x = y
      · have e1 : (x == y) = true := by rw [he]; exact beq_self_eq_true _
        have HM : Hid (x ∈ xs) := Lib.hid (by rw [he]; exact List.mem_of_getElem? HY.out)
        clear he
        go_wp2
        go_ret
        exact ⟨(k : Int), rfl, ⟨fun _ => HM.out, fun _ => by omega⟩, rfl⟩
      · have e1 : (x == y) = false := by rw [beq_eq_false_iff_ne]; exact he
        have HE := Lib.hid he
        clear he
        go_wp2
        go_round
        case rel =>
          refine ⟨k + 1, by go_num, HLT.out, Lib.hid fun j z hj hz => ?_⟩
          rcases Nat.lt_or_ge j k with h' | h'
          · exact HA.out j z h' hz
          · obtain rfl : j = k := by omega
            rw [HY.out] at hz
            cases hz
            exact fun e => HE.out e.symm
        case measure => have := HLT.out; simp [intOf]; omega
    · have d1 : decide ((k : Int) < (xs.length : Int)) = false := decide_eq_false (by omega)
      have d1' : decide (k < xs.length) = false := decide_eq_false hlt
      obtain rfl : k = xs.length := by omega
      have HM : Hid (¬ x ∈ xs) := Lib.hid fun hm => by
        obtain ⟨j, hj, e⟩ := List.getElem_of_mem hm
        exact HA.out j x hj (by rw [List.getElem?_eq_getElem hj, e]) rfl
      go_wp2
      go_ret
      exact ⟨-1, rfl, ⟨fun h => by omega, fun h => absurd h HM.out⟩, rfl⟩

theorem Contains_any (xs : List Int) (x : Int) (v : Value) (w : World) (hr : Rd w v (xs.map I)) (hl : xs.length ≤ 100) :
    Calls Tryd.prog 73 #[v, .int .i64 x] w fun e w' => e = .returned (.bool (decide (x ∈ xs))) ∧ w = w' := by
  have HI := Lib.hid (Index_any xs x v w hr hl)
  clear hr
  go_enter Tryd.func73, Tryd.ntmps73
  go_wp2_with fail
  refine HI.out.mono ?_
  rintro e1 w1 ⟨r, rfl, hr, rfl⟩
  have HD : Hid (decide (0 ≤ r) = decide (x ∈ xs)) := Lib.hid (by rw [decide_eq_decide]; exact hr)
  clear hr
  go_wp2
  go_ret
  exact ⟨by rw [← HD.out]; rfl, rfl⟩

theorem is_any (F : Fp) (w : World) (g : Nat) (c : Cf) (vn vj : Value) (s : St) (i : Nat) (j : Jb) (xs : List Int) (v : Value) (h : Pg F w g c vn vj s) (hi : s.jobs[i]? = some j) (hr : Rd w v (xs.map I)) (hl : xs.length ≤ 100) :
    Calls Tryd.prog 65 #[.pointer (some ⟨g, 0, none⟩), .int .i64 ((i : Int) + 1), v] w fun e w' => e = .returned (.bool (decide (j.phase ∈ xs))) ∧ w = w' := by
  obtain ⟨b, cap, rfl, hnc, hcm, hb, hbg, hat, hfr⟩ := h.jobAt hi
  have HJ := Lib.hid (job_any F w g c vn s i b cap j h hi hcm hnc)
  have HC := Lib.hid (Contains_any xs j.phase v w hr hl)
  have c6 := hat.c6
  generalize decide (j.phase ∈ xs) = d at *
  clear h hi hr hat hfr hb hbg
  go_enter Tryd.func65, Tryd.ntmps65
  go_wp2_with fail
  refine HJ.out.mono ?_
  rintro e1 w1 ⟨rfl, rfl⟩
  go_wp2_with fail
  refine HC.out.mono ?_
  rintro e1 w1 ⟨rfl, rfl⟩
  go_wp2
  go_ret
  exact ⟨rfl, rfl⟩

end Go.Proofs.YtkpcjdhnbjkaaaaDoor

/- Package book: nodes get a job, or none; a job is let go; whether nodes are free. -/
namespace Go.Proofs.YtkpcjdhnbjkaaaaDoor
open Go.RowKit

theorem Nd.setJob (n : Nd) (job : Int) : ({ n with job := job } : Nd).cells = n.cells.set 4 (.int .i64 job) := rfl

set_option maxRecDepth 100000 in
set_option maxHeartbeats 4000000 in
theorem give_any (F : Fp) (w : World) (g : Nat) (c : Cf) (vn vj : Value) (s : St) (set job : Int) (h : Pg F w g c vn vj s) (hn : s.nodes.length ≤ 6) :
    Calls Tryd.prog 70 #[.pointer (some ⟨g, 0, none⟩), .int .i64 set, .int .i64 job] w fun e w' => e = .returned (.tuple #[]) ∧ Pg F w' g c vn vj (giveS s set job) ∧ Chg F w w' := by
  have HH := Lib.hid fun i hi w' => has_any set i hi w'
  have c9 := h.c9
  obtain ⟨A, cap, rfl, hnc, hcm⟩ := h.slN
  have HP := Lib.hid h
  clear h
  go_enter Tryd.func70, Tryd.ntmps70
  go_wp2_with fail
  go_loopg [13] s.nodes.length (fun gg i wr => ∃ (q : Nat), i = .int .i64 q ∧ q ≤ s.nodes.length ∧ gg = s.nodes.length - q ∧ Hid (Pg F wr g c (.slice A s.nodes.length cap) vj { s with nodes := giveK s.nodes set job q } ∧ Chg F w wr))
  case atStart => exact ⟨0, rfl, Nat.zero_le _, by omega, Lib.hid ⟨by rw [giveK_zero]; exact HP.out, Chg.refl _ _⟩⟩
  case round =>
    obtain ⟨q, rfl, hq, rfl, HR⟩ := hrel
    by_cases hlt : q < s.nodes.length
    · have d1 : decide ((q : Int) < (s.nodes.length : Int)) = true := decide_eq_true (by omega)
      have d1' : decide (q < s.nodes.length) = true := decide_eq_true hlt
      obtain ⟨n, hnk⟩ : ∃ n, s.nodes[q]? = some n := ⟨_, List.getElem?_eq_getElem hlt⟩
      have hq64 : q < 64 := by omega
      have HNK := Lib.hid hnk
      have HLT := Lib.hid hlt
      clear hnk
      go_wp2_with fail
      refine (HH.out q hq64 _).mono ?_
      rintro e1 w1 ⟨rfl, rfl⟩
      cases hh : hasS set q
      · have HR2 := Lib.hid (show Pg F wr g c (.slice A s.nodes.length cap) vj { s with nodes := giveK s.nodes set job (q + 1) } by rw [giveK_skip hh]; exact HR.out.1)
        go_wp2
        go_roundg (s.nodes.length - (q + 1))
        case measure => have := HLT.out; omega
        case rel => exact ⟨q + 1, by go_num, HLT.out, rfl, Lib.hid ⟨HR2.out, HR.out.2⟩⟩
      · have hl := giveK_len s.nodes set job q
        have hg1 := giveK_get (set := set) (job := job) HNK.out
        obtain ⟨b, cap2, hv, hnc2, hcm2, hb, hbg, hat, hfr⟩ := HR.out.1.nodeAt (i := q) (n := n) hg1
        simp only [hl] at hv
        injection hv with hA _ hcap
        subst hA hcap
        have HN := Lib.hid (node_any F wr g c vj { s with nodes := giveK s.nodes set job q } q b cap n (by simp only [hl]; exact HR.out.1) hg1)
        have HS := Lib.hid (HR.out.1.setN (b := b) (cap := cap) (n' := { n with job := job }) hg1 (by simp only [hl]) 4 (by omega) (.int .i64 job) (Nd.setJob n job))
        have c4 := hat.c4
        have f4 := hfr (q * 5 + 4)
        have HR2 : Hid (Pg F (wr.setCell ⟨b, q * 5 + 4, none⟩ (.int .i64 job)) g c (.slice (some ⟨b, 0, none⟩) s.nodes.length cap) vj { s with nodes := giveK s.nodes set job (q + 1) } ∧ Chg F w (wr.setCell ⟨b, q * 5 + 4, none⟩ (.int .i64 job))) := Lib.hid (by
          rw [← giveK_set HNK.out hh]
          exact ⟨HS.out.1, HR.out.2.trans HS.out.2 (fun _ _ h => h)⟩)
        clear hat hfr hb hbg hg1 HS hl
        go_wp2_with fail
        refine HN.out.mono ?_
        rintro e1 w1_ ⟨rfl, rfl⟩
        go_wp2
        go_roundg (s.nodes.length - (q + 1))
        case measure => have := HLT.out; omega
        case rel => exact ⟨q + 1, by go_num, HLT.out, rfl, HR2⟩
    · have d1 : decide ((q : Int) < (s.nodes.length : Int)) = false := decide_eq_false (by omega)
      have d1' : decide (q < s.nodes.length) = false := decide_eq_false hlt
      obtain rfl : q = s.nodes.length := by omega
      go_wp2
      go_end0
      refine ⟨rfl, ?_, HR.out.2⟩
      have := HR.out.1
      rw [giveK_all] at this
      exact this

section
variable {F : Fp} {w : World} {g : Nat} {c : Cf} {vn vj : Value} {s : St}
/-- Four fields of a job are written. -/
theorem Pg.gone (h : Pg F w g c vn vj s) {k : Nat} {j : Jb} (hj : s.jobs[k]? = some j) {b cap : Nat} (hv : vj = .slice (some ⟨b, 0, none⟩) s.jobs.length cap) (phase : Int) :
    Pg F ((((w.setCell ⟨b, k * 12 + 6, none⟩ (.int .i64 phase)).setCell ⟨b, k * 12 + 8, none⟩ (.int .i64 0)).setCell ⟨b, k * 12 + 9, none⟩ (.int .i64 0)).setCell ⟨b, k * 12 + 10, none⟩ (.int .i64 0)) g c vn vj (Go.Proofs.YtkpcjdhnbjkaaaaDoor.setJ s k (Go.Proofs.YtkpcjdhnbjkaaaaDoor.gone j phase)) ∧
      Chg F w ((((w.setCell ⟨b, k * 12 + 6, none⟩ (.int .i64 phase)).setCell ⟨b, k * 12 + 8, none⟩ (.int .i64 0)).setCell ⟨b, k * 12 + 9, none⟩ (.int .i64 0)).setCell ⟨b, k * 12 + 10, none⟩ (.int .i64 0)) := by
  have hk := (List.getElem?_eq_some_iff.1 hj).1
  have set_at : ∀ (l : List Jb) (x : Jb), l.length = s.jobs.length → (l.set k x)[k]? = some x := fun l x hl => by rw [List.getElem?_set_self (by omega)]
  obtain ⟨h1, e1⟩ := h.setJ (n' := { j with phase := phase }) hj hv 6 (by omega) (.int .i64 phase) rfl
  obtain ⟨h2, e2⟩ := h1.setJ (n' := { j with phase := phase, nodes := 0 }) (set_at s.jobs _ rfl) (b := b) (cap := cap) (by rw [hv]; simp [Go.Proofs.YtkpcjdhnbjkaaaaDoor.setJ]) 8 (by omega) (.int .i64 0) rfl
  obtain ⟨h3, e3⟩ := h2.setJ (n' := { j with phase := phase, nodes := 0, since := 0 }) (set_at _ _ (by simp [Go.Proofs.YtkpcjdhnbjkaaaaDoor.setJ])) (b := b) (cap := cap) (by rw [hv]; simp [Go.Proofs.YtkpcjdhnbjkaaaaDoor.setJ]) 9 (by omega) (.int .i64 0) rfl
  obtain ⟨h4, e4⟩ := h3.setJ (n' := Go.Proofs.YtkpcjdhnbjkaaaaDoor.gone j phase) (set_at _ _ (by simp [Go.Proofs.YtkpcjdhnbjkaaaaDoor.setJ])) (b := b) (cap := cap) (by rw [hv]; simp [Go.Proofs.YtkpcjdhnbjkaaaaDoor.setJ]) 10 (by omega) (.int .i64 0) rfl
  refine ⟨?_, ((e1.trans e2 (fun _ _ h => h)).trans e3 (fun _ _ h => h)).trans e4 (fun _ _ h => h)⟩
  simp only [Go.Proofs.YtkpcjdhnbjkaaaaDoor.setJ, List.set_set] at h4 ⊢
  exact h4
end

set_option maxRecDepth 100000 in
set_option maxHeartbeats 4000000 in
theorem letGo_any (F : Fp) (w : World) (g : Nat) (c : Cf) (vn vj : Value) (s : St) (k : Nat) (j : Jb) (phase : Int) (h : Pg F w g c vn vj s) (hj : s.jobs[k]? = some j) (hn : s.nodes.length ≤ 6) :
    Calls Tryd.prog 66 #[.pointer (some ⟨g, 0, none⟩), .int .i64 ((k : Int) + 1), .int .i64 phase] w fun e w' => e = .returned (.tuple #[]) ∧ Pg F w' g c vn vj (letGoS s k j phase) ∧ Chg F w w' := by
  obtain ⟨b, cap, rfl, hnc, hcm, hb, hbg, hat, hfr⟩ := h.jobAt hj
  have HJ := Lib.hid (job_any F w g c vn s k b cap j h hj hcm hnc)
  have HG := Lib.hid (give_any F w g c vn (.slice (some ⟨b, 0, none⟩) s.jobs.length cap) s j.nodes 0 h hn)
  have c8 := hat.c8
  have HK := Lib.hid hj
  clear h hat hfr hj
  go_enter Tryd.func66, Tryd.ntmps66
  go_wp2_with fail
  refine HJ.out.mono ?_
  rintro e1 w1 ⟨rfl, rfl⟩
  go_wp2_with fail
  refine HG.out.mono ?_
  rintro e2 w2 ⟨rfl, hp, hc⟩
  have HC := Lib.hid hc
  have hj2 : (giveS s j.nodes 0).jobs[k]? = some j := HK.out
  have HS := Lib.hid (hp.gone hj2 (b := b) (cap := cap) rfl phase)
  obtain ⟨b', cap', hv, _, _, hb', hbg', hat', hfr'⟩ := hp.jobAt hj2
  injection hv with hA _ hcap
  injection hA with hA
  injection hA with hA
  subst hA hcap
  have c6 := hat'.c6
  have c8 := hat'.c8
  have c9 := hat'.c9
  have c10 := hat'.c10
  have f6 := hfr' (k * 12 + 6)
  have f8 := hfr' (k * 12 + 8)
  have f9 := hfr' (k * 12 + 9)
  have f10 := hfr' (k * 12 + 10)
  clear hp hc hj2 hat' hfr' hb hb' hbg hbg'
  go_wp2
  go_end0
  exact ⟨rfl, HS.out.1, HC.out.trans HS.out.2 (fun _ _ h => h)⟩

end Go.Proofs.YtkpcjdhnbjkaaaaDoor

/- Package book: the ops of a node. -/
namespace Go.Proofs.YtkpcjdhnbjkaaaaDoor
open Go.RowKit

/-- What an op's function leaves. -/
def MDone (F : Fp) (w : World) (g : Nat) (c : Cf) (res : Res9) (e : Ending) (w' : World) : Prop := e = .returned (.int .i64 res.2) ∧ (∃ vn vj, Pg (F.since w w') w' g c vn vj res.1) ∧ Chg F w w'
theorem MDone.of {F : Fp} {w w' : World} {g : Nat} {c : Cf} {vn vj : Value} {res : Res9} {s' : St} {er : Int} {e : Ending} (hres : res = (s', er)) (he : e = .returned (.int .i64 er)) (hp : Pg F w' g c vn vj s') (hc : Chg F w w') : MDone F w g c res e w' := by
  subst hres
  refine ⟨he, ⟨vn, vj, hp.mono (fun k hk => .inl hk) fun k hk => ?_⟩, hc⟩
  rcases hk with hk | hk
  · exact hp.isIn k hk
  · exact hk.2
theorem chg2 {F : Fp} {a b c : World} (h1 : Ext a b) (h2 : Chg F b c) : Chg F a c := (Chg.of_ext h1).trans h2 (fun _ _ h => h)
theorem chg3 {F : Fp} {a b c : World} (h1 : Chg F a b) (h2 : Chg F b c) : Chg F a c := h1.trans h2 (fun _ _ h => h)
theorem boxOp (w : World) (oc : Array Value) : Ext w (w.alloc (.cells oc 32)) ∧ Blk (w.alloc (.cells oc 32)) w.heap.size 32 oc := ⟨(Below.refl _ _).alloc (Nat.le_refl _) _, Blk.new w _ _⟩
theorem set_set_get {l : List Nd} {i : Nat} {n m : Nd} (h : l[i]? = some n) : (l.set i m)[i]? = some m := by rw [List.getElem?_set_self (List.getElem?_eq_some_iff.1 h).1]

set_option maxRecDepth 100000 in
set_option maxHeartbeats 4000000 in
theorem cordon_any (F : Fp) (w : World) (g : Nat) (c : Cf) (vn vj : Value) (s : St) (z v a3 a4 a5 a6 : Int) (i : Nat) (n : Nd) (h : Pg F w g c vn vj s) (hi : s.nodes[i]? = some n) :
    Calls Tryd.prog 58 #[.pointer (some ⟨g, 0, none⟩), .agg #[.int .i64 z, .int .i64 (i : Int), .int .i64 v, .int .i64 a3, .int .i64 a4, .int .i64 a5, .int .i64 a6]] w fun e w' => e = .returned (.int .i64 (cordonS s i n).2) ∧ (∃ vn vj, Pg (F.since w w') w' g c vn vj (cordonS s i n).1) ∧ Chg F w w' := by
  obtain ⟨hx, hbk⟩ := boxOp w #[.int .i64 z, .int .i64 (i : Int), .int .i64 v, .int .i64 a3, .int .i64 a4, .int .i64 a5, .int .i64 a6]
  obtain ⟨W1, hW1⟩ : ∃ W1, W1 = w.alloc (.cells #[.int .i64 z, .int .i64 (i : Int), .int .i64 v, .int .i64 a3, .int .i64 a4, .int .i64 a5, .int .i64 a6] 32) := ⟨_, rfl⟩
  rw [← hW1] at hx hbk
  have hp := h.ext hx
  obtain ⟨b, cap, rfl, hnc, hcm, hb, hbg, hat, hfr⟩ := hp.nodeAt hi
  have HN := Lib.hid (node_any F W1 g c vj s i b cap n hp hi)
  have HX := Lib.hid hx
  have HP := Lib.hid hp
  have HI := Lib.hid hi
  have HB := Lib.hid hbk
  have HF0 := Lib.hid hfr
  have hlw : w.heap.size ≠ b := fun e => by
    obtain ⟨b0, cap0, e0, _, _, hb0, _⟩ := h.nodeAt hi
    injection e0 with e1
    injection e1 with e1
    injection e1 with e1
    omega
  have q2 : W1.cell? ⟨w.heap.size, 2, none⟩ = some (.int .i64 v) := hbk.cell 2
  obtain ⟨c0, c1, c2, c3, c4⟩ := hat
  have f0 := hfr (i * 5)
  have f1 := hfr (i * 5 + 1)
  have f2 := hfr (i * 5 + 2)
  have f3 := hfr (i * 5 + 3)
  have f4 := hfr (i * 5 + 4)
  clear hx hp hi hfr hbk h
  have HS := Lib.hid (HP.out.setN HI.out rfl 1 (by omega) (.bool true) (n' := { n with cordon := true }) rfl)
  cases hup : n.up
  · have hr : cordonS s i n = (s, 5) := by rw [cordonS, if_neg (by rw [hup]; simp)]
    have HR := Lib.hid hr
    clear hr
    go_enter Tryd.func58, Tryd.ntmps58
    go_wp2_with fail
    rw [← hW1]
    clear hW1
    refine HN.out.mono ?_
    rintro e1 w1 ⟨rfl, rfl⟩
    go_wp2
    go_ret
    exact MDone.of (HR.out) rfl HP.out (Chg.of_ext HX.out)
  cases hco : n.cordon
  · have hr : cordonS s i n = (setN s i { n with cordon := true }, 0) := by rw [cordonS, if_pos ⟨hup, hco⟩]
    have HR := Lib.hid hr
    clear hr
    go_enter Tryd.func58, Tryd.ntmps58
    go_wp2_with fail
    rw [← hW1]
    clear hW1
    refine HN.out.mono ?_
    rintro e1 w1 ⟨rfl, rfl⟩
    go_wp2
    go_ret
    exact MDone.of (HR.out) rfl HS.out.1 (chg2 HX.out HS.out.2)
  · have hr : cordonS s i n = (s, 5) := by rw [cordonS, if_neg (by rw [hco]; simp)]
    have HR := Lib.hid hr
    clear hr
    go_enter Tryd.func58, Tryd.ntmps58
    go_wp2_with fail
    rw [← hW1]
    clear hW1
    refine HN.out.mono ?_
    rintro e1 w1 ⟨rfl, rfl⟩
    go_wp2
    go_ret
    exact MDone.of (HR.out) rfl HP.out (Chg.of_ext HX.out)

set_option maxRecDepth 100000 in
set_option maxHeartbeats 4000000 in
theorem uncordon_any (F : Fp) (w : World) (g : Nat) (c : Cf) (vn vj : Value) (s : St) (z v a3 a4 a5 a6 : Int) (i : Nat) (n : Nd) (h : Pg F w g c vn vj s) (hi : s.nodes[i]? = some n) :
    Calls Tryd.prog 59 #[.pointer (some ⟨g, 0, none⟩), .agg #[.int .i64 z, .int .i64 (i : Int), .int .i64 v, .int .i64 a3, .int .i64 a4, .int .i64 a5, .int .i64 a6]] w fun e w' => e = .returned (.int .i64 (uncordonS s i n).2) ∧ (∃ vn vj, Pg (F.since w w') w' g c vn vj (uncordonS s i n).1) ∧ Chg F w w' := by
  obtain ⟨hx, hbk⟩ := boxOp w #[.int .i64 z, .int .i64 (i : Int), .int .i64 v, .int .i64 a3, .int .i64 a4, .int .i64 a5, .int .i64 a6]
  obtain ⟨W1, hW1⟩ : ∃ W1, W1 = w.alloc (.cells #[.int .i64 z, .int .i64 (i : Int), .int .i64 v, .int .i64 a3, .int .i64 a4, .int .i64 a5, .int .i64 a6] 32) := ⟨_, rfl⟩
  rw [← hW1] at hx hbk
  have hp := h.ext hx
  obtain ⟨b, cap, rfl, hnc, hcm, hb, hbg, hat, hfr⟩ := hp.nodeAt hi
  have HN := Lib.hid (node_any F W1 g c vj s i b cap n hp hi)
  have HX := Lib.hid hx
  have HP := Lib.hid hp
  have HI := Lib.hid hi
  have HB := Lib.hid hbk
  have HF0 := Lib.hid hfr
  have hlw : w.heap.size ≠ b := fun e => by
    obtain ⟨b0, cap0, e0, _, _, hb0, _⟩ := h.nodeAt hi
    injection e0 with e1
    injection e1 with e1
    injection e1 with e1
    omega
  have q2 : W1.cell? ⟨w.heap.size, 2, none⟩ = some (.int .i64 v) := hbk.cell 2
  obtain ⟨c0, c1, c2, c3, c4⟩ := hat
  have f0 := hfr (i * 5)
  have f1 := hfr (i * 5 + 1)
  have f2 := hfr (i * 5 + 2)
  have f3 := hfr (i * 5 + 3)
  have f4 := hfr (i * 5 + 4)
  clear hx hp hi hfr hbk h
  have HS := Lib.hid (HP.out.setN HI.out rfl 1 (by omega) (.bool false) (n' := { n with cordon := false }) rfl)
  cases hco : n.cordon
  · have hr : uncordonS s i n = (s, 5) := by rw [uncordonS, if_neg (by rw [hco]; simp)]
    have HR := Lib.hid hr
    clear hr
    go_enter Tryd.func59, Tryd.ntmps59
    go_wp2_with fail
    rw [← hW1]
    clear hW1
    refine HN.out.mono ?_
    rintro e1 w1 ⟨rfl, rfl⟩
    go_wp2
    go_ret
    exact MDone.of (HR.out) rfl HP.out (Chg.of_ext HX.out)
  cases hmv : n.moving
  · have hr : uncordonS s i n = (setN s i { n with cordon := false }, 0) := by rw [uncordonS, if_pos ⟨hco, hmv⟩]
    have HR := Lib.hid hr
    clear hr
    go_enter Tryd.func59, Tryd.ntmps59
    go_wp2_with fail
    rw [← hW1]
    clear hW1
    refine HN.out.mono ?_
    rintro e1 w1 ⟨rfl, rfl⟩
    go_wp2
    go_ret
    exact MDone.of (HR.out) rfl HS.out.1 (chg2 HX.out HS.out.2)
  · have hr : uncordonS s i n = (s, 5) := by rw [uncordonS, if_neg (by rw [hmv]; simp)]
    have HR := Lib.hid hr
    clear hr
    go_enter Tryd.func59, Tryd.ntmps59
    go_wp2_with fail
    rw [← hW1]
    clear hW1
    refine HN.out.mono ?_
    rintro e1 w1 ⟨rfl, rfl⟩
    go_wp2
    go_ret
    exact MDone.of (HR.out) rfl HP.out (Chg.of_ext HX.out)

set_option maxRecDepth 100000 in
set_option maxHeartbeats 4000000 in
theorem move_any (F : Fp) (w : World) (g : Nat) (c : Cf) (vn vj : Value) (s : St) (z v a3 a4 a5 a6 : Int) (i : Nat) (n : Nd) (h : Pg F w g c vn vj s) (hi : s.nodes[i]? = some n) :
    Calls Tryd.prog 60 #[.pointer (some ⟨g, 0, none⟩), .agg #[.int .i64 z, .int .i64 (i : Int), .int .i64 v, .int .i64 a3, .int .i64 a4, .int .i64 a5, .int .i64 a6]] w fun e w' => e = .returned (.int .i64 (moveS s i n).2) ∧ (∃ vn vj, Pg (F.since w w') w' g c vn vj (moveS s i n).1) ∧ Chg F w w' := by
  obtain ⟨hx, hbk⟩ := boxOp w #[.int .i64 z, .int .i64 (i : Int), .int .i64 v, .int .i64 a3, .int .i64 a4, .int .i64 a5, .int .i64 a6]
  obtain ⟨W1, hW1⟩ : ∃ W1, W1 = w.alloc (.cells #[.int .i64 z, .int .i64 (i : Int), .int .i64 v, .int .i64 a3, .int .i64 a4, .int .i64 a5, .int .i64 a6] 32) := ⟨_, rfl⟩
  rw [← hW1] at hx hbk
  have hp := h.ext hx
  obtain ⟨b, cap, rfl, hnc, hcm, hb, hbg, hat, hfr⟩ := hp.nodeAt hi
  have HN := Lib.hid (node_any F W1 g c vj s i b cap n hp hi)
  have HX := Lib.hid hx
  have HP := Lib.hid hp
  have HI := Lib.hid hi
  have HB := Lib.hid hbk
  have HF0 := Lib.hid hfr
  have hlw : w.heap.size ≠ b := fun e => by
    obtain ⟨b0, cap0, e0, _, _, hb0, _⟩ := h.nodeAt hi
    injection e0 with e1
    injection e1 with e1
    injection e1 with e1
    omega
  have q2 : W1.cell? ⟨w.heap.size, 2, none⟩ = some (.int .i64 v) := hbk.cell 2
  obtain ⟨c0, c1, c2, c3, c4⟩ := hat
  have f0 := hfr (i * 5)
  have f1 := hfr (i * 5 + 1)
  have f2 := hfr (i * 5 + 2)
  have f3 := hfr (i * 5 + 3)
  have f4 := hfr (i * 5 + 4)
  clear hx hp hi hfr hbk h
  have HS := Lib.hid (HP.out.setN HI.out rfl 2 (by omega) (.bool true) (n' := { n with moving := true }) rfl)
  cases hup : n.up
  · have hr : moveS s i n = (s, 5) := by rw [moveS, if_neg (by rw [hup]; simp)]
    have HR := Lib.hid hr
    clear hr
    go_enter Tryd.func60, Tryd.ntmps60
    go_wp2_with fail
    rw [← hW1]
    clear hW1
    refine HN.out.mono ?_
    rintro e1 w1 ⟨rfl, rfl⟩
    go_wp2
    go_ret
    exact MDone.of (HR.out) rfl HP.out (Chg.of_ext HX.out)
  cases hco : n.cordon
  · have hr : moveS s i n = (s, 5) := by rw [moveS, if_neg (by rw [hco]; simp)]
    have HR := Lib.hid hr
    clear hr
    go_enter Tryd.func60, Tryd.ntmps60
    go_wp2_with fail
    rw [← hW1]
    clear hW1
    refine HN.out.mono ?_
    rintro e1 w1 ⟨rfl, rfl⟩
    go_wp2
    go_ret
    exact MDone.of (HR.out) rfl HP.out (Chg.of_ext HX.out)
  cases hmv : n.moving
  · by_cases hj : n.job = 0
    · have hr : moveS s i n = (setN s i { n with moving := true }, 0) := by rw [moveS, if_pos ⟨hup, hco, hmv, hj⟩]
      have HR := Lib.hid hr
      have hj1 : (n.job != 0) = false := by rw [hj]; rfl
      clear hr hj
      go_enter Tryd.func60, Tryd.ntmps60
      go_wp2_with fail
      rw [← hW1]
      clear hW1
      refine HN.out.mono ?_
      rintro e1 w1 ⟨rfl, rfl⟩
      go_wp2
      go_ret
      exact MDone.of (HR.out) rfl HS.out.1 (chg2 HX.out HS.out.2)
    · have hr : moveS s i n = (s, 5) := by rw [moveS, if_neg (fun h => hj h.2.2.2)]
      have HR := Lib.hid hr
      have hj1 : (n.job != 0) = true := by rw [bne_iff_ne]; exact hj
      clear hr hj
      go_enter Tryd.func60, Tryd.ntmps60
      go_wp2_with fail
      rw [← hW1]
      clear hW1
      refine HN.out.mono ?_
      rintro e1 w1 ⟨rfl, rfl⟩
      go_wp2
      go_ret
      exact MDone.of (HR.out) rfl HP.out (Chg.of_ext HX.out)
  · have hr : moveS s i n = (s, 5) := by rw [moveS, if_neg (by rw [hmv]; simp)]
    have HR := Lib.hid hr
    clear hr
    go_enter Tryd.func60, Tryd.ntmps60
    go_wp2_with fail
    rw [← hW1]
    clear hW1
    refine HN.out.mono ?_
    rintro e1 w1 ⟨rfl, rfl⟩
    go_wp2
    go_ret
    exact MDone.of (HR.out) rfl HP.out (Chg.of_ext HX.out)

set_option maxRecDepth 100000 in
set_option maxHeartbeats 4000000 in
theorem moved_any (F : Fp) (w : World) (g : Nat) (c : Cf) (vn vj : Value) (s : St) (z v a3 a4 a5 a6 : Int) (i : Nat) (n : Nd) (h : Pg F w g c vn vj s) (hi : s.nodes[i]? = some n) :
    Calls Tryd.prog 61 #[.pointer (some ⟨g, 0, none⟩), .agg #[.int .i64 z, .int .i64 (i : Int), .int .i64 v, .int .i64 a3, .int .i64 a4, .int .i64 a5, .int .i64 a6]] w fun e w' => e = .returned (.int .i64 (movedS s i n v).2) ∧ (∃ vn vj, Pg (F.since w w') w' g c vn vj (movedS s i n v).1) ∧ Chg F w w' := by
  obtain ⟨hx, hbk⟩ := boxOp w #[.int .i64 z, .int .i64 (i : Int), .int .i64 v, .int .i64 a3, .int .i64 a4, .int .i64 a5, .int .i64 a6]
  obtain ⟨W1, hW1⟩ : ∃ W1, W1 = w.alloc (.cells #[.int .i64 z, .int .i64 (i : Int), .int .i64 v, .int .i64 a3, .int .i64 a4, .int .i64 a5, .int .i64 a6] 32) := ⟨_, rfl⟩
  rw [← hW1] at hx hbk
  have hp := h.ext hx
  obtain ⟨b, cap, rfl, hnc, hcm, hb, hbg, hat, hfr⟩ := hp.nodeAt hi
  have HN := Lib.hid (node_any F W1 g c vj s i b cap n hp hi)
  have HX := Lib.hid hx
  have HP := Lib.hid hp
  have HI := Lib.hid hi
  have HB := Lib.hid hbk
  have HF0 := Lib.hid hfr
  have hlw : w.heap.size ≠ b := fun e => by
    obtain ⟨b0, cap0, e0, _, _, hb0, _⟩ := h.nodeAt hi
    injection e0 with e1
    injection e1 with e1
    injection e1 with e1
    omega
  have q2 : W1.cell? ⟨w.heap.size, 2, none⟩ = some (.int .i64 v) := hbk.cell 2
  obtain ⟨c0, c1, c2, c3, c4⟩ := hat
  have f0 := hfr (i * 5)
  have f1 := hfr (i * 5 + 1)
  have f2 := hfr (i * 5 + 2)
  have f3 := hfr (i * 5 + 3)
  have f4 := hfr (i * 5 + 4)
  clear hx hp hi hfr hbk h
  have HV := Lib.hid fun w' => isVersion_any v w'
  have hil := (List.getElem?_eq_some_iff.1 HI.out).1
  obtain ⟨h1, e1⟩ := HP.out.setN HI.out rfl 3 (by omega) (.int .i64 v) (n' := { n with version := v }) rfl
  obtain ⟨h2, e2⟩ := h1.setN (b := b) (cap := cap) (n := { n with version := v }) (set_set_get HI.out) (by simp [setN]) 2 (by omega) (.bool false) (n' := { n with version := v, moving := false }) rfl
  obtain ⟨h3, e3⟩ := h2.setN (b := b) (cap := cap) (n := { n with version := v, moving := false }) (set_set_get (set_set_get HI.out)) (by simp [setN]) 1 (by omega) (.bool false) (n' := { n with version := v, moving := false, cordon := false }) rfl
  simp only [setN, List.set_set] at h3
  have HS := Lib.hid (And.intro h3 (chg3 (chg3 e1 e2) e3))
  clear h1 h2 h3 e1 e2 e3
  cases hv : inR v 1 9
  · have hr : movedS s i n v = (s, 1) := by rw [movedS, if_pos hv]
    have HR := Lib.hid hr
    clear hr
    go_enter Tryd.func61, Tryd.ntmps61
    go_wp2_with fail
    rw [← hW1]
    clear hW1
    refine HN.out.mono ?_
    rintro e1 w1 ⟨rfl, rfl⟩
    go_wp2_with fail
    refine (HV.out _).mono ?_
    rintro e1 w1 ⟨rfl, rfl⟩
    go_wp2
    go_ret
    exact MDone.of (HR.out) rfl HP.out (Chg.of_ext HX.out)
  cases hmv : n.moving
  · have hr : movedS s i n v = (s, 5) := by rw [movedS, if_neg (by rw [hv]; simp), if_neg (by rw [hmv]; simp)]
    have HR := Lib.hid hr
    clear hr
    go_enter Tryd.func61, Tryd.ntmps61
    go_wp2_with fail
    rw [← hW1]
    clear hW1
    refine HN.out.mono ?_
    rintro e1 w1 ⟨rfl, rfl⟩
    go_wp2_with fail
    refine (HV.out _).mono ?_
    rintro e1 w1 ⟨rfl, rfl⟩
    go_wp2
    go_ret
    exact MDone.of (HR.out) rfl HP.out (Chg.of_ext HX.out)
  · have hr : movedS s i n v = (setN s i { n with version := v, moving := false, cordon := false }, 0) := by rw [movedS, if_neg (by rw [hv]; simp), if_pos hmv]
    have HR := Lib.hid hr
    clear hr
    go_enter Tryd.func61, Tryd.ntmps61
    go_wp2_with fail
    rw [← hW1]
    clear hW1
    refine HN.out.mono ?_
    rintro e1 w1 ⟨rfl, rfl⟩
    go_wp2_with fail
    refine (HV.out _).mono ?_
    rintro e1 w1 ⟨rfl, rfl⟩
    go_wp2
    go_ret
    exact MDone.of (HR.out) rfl HS.out.1 (chg2 HX.out HS.out.2)

set_option maxRecDepth 100000 in
set_option maxHeartbeats 4000000 in
theorem up_any (F : Fp) (w : World) (g : Nat) (c : Cf) (vn vj : Value) (s : St) (z v a3 a4 a5 a6 : Int) (i : Nat) (n : Nd) (h : Pg F w g c vn vj s) (hi : s.nodes[i]? = some n) :
    Calls Tryd.prog 50 #[.pointer (some ⟨g, 0, none⟩), .agg #[.int .i64 z, .int .i64 (i : Int), .int .i64 v, .int .i64 a3, .int .i64 a4, .int .i64 a5, .int .i64 a6]] w fun e w' => e = .returned (.int .i64 (upS s i n v).2) ∧ (∃ vn vj, Pg (F.since w w') w' g c vn vj (upS s i n v).1) ∧ Chg F w w' := by
  obtain ⟨hx, hbk⟩ := boxOp w #[.int .i64 z, .int .i64 (i : Int), .int .i64 v, .int .i64 a3, .int .i64 a4, .int .i64 a5, .int .i64 a6]
  obtain ⟨W1, hW1⟩ : ∃ W1, W1 = w.alloc (.cells #[.int .i64 z, .int .i64 (i : Int), .int .i64 v, .int .i64 a3, .int .i64 a4, .int .i64 a5, .int .i64 a6] 32) := ⟨_, rfl⟩
  rw [← hW1] at hx hbk
  have hp := h.ext hx
  obtain ⟨b, cap, rfl, hnc, hcm, hb, hbg, hat, hfr⟩ := hp.nodeAt hi
  have HN := Lib.hid (node_any F W1 g c vj s i b cap n hp hi)
  have HX := Lib.hid hx
  have HP := Lib.hid hp
  have HI := Lib.hid hi
  have HB := Lib.hid hbk
  have HF0 := Lib.hid hfr
  have hlw : w.heap.size ≠ b := fun e => by
    obtain ⟨b0, cap0, e0, _, _, hb0, _⟩ := h.nodeAt hi
    injection e0 with e1
    injection e1 with e1
    injection e1 with e1
    omega
  have q2 : W1.cell? ⟨w.heap.size, 2, none⟩ = some (.int .i64 v) := hbk.cell 2
  obtain ⟨c0, c1, c2, c3, c4⟩ := hat
  have f0 := hfr (i * 5)
  have f1 := hfr (i * 5 + 1)
  have f2 := hfr (i * 5 + 2)
  have f3 := hfr (i * 5 + 3)
  have f4 := hfr (i * 5 + 4)
  clear hx hp hi hfr hbk h
  have HV := Lib.hid fun w' => isVersion_any v w'
  obtain ⟨h1, e1⟩ := HP.out.setN HI.out rfl 0 (by omega) (.bool true) (n' := { n with up := true }) rfl
  obtain ⟨h2, e2⟩ := h1.setN (b := b) (cap := cap) (n := { n with up := true }) (set_set_get HI.out) (by simp [setN]) 3 (by omega) (.int .i64 v) (n' := { n with up := true, version := v }) rfl
  simp only [setN, List.set_set] at h2
  have HS := Lib.hid (And.intro h2 (chg3 e1 e2))
  clear h1 h2 e1 e2
  cases hv : inR v 1 9
  · have hr : upS s i n v = (s, 1) := by rw [upS, if_pos hv]
    have HR := Lib.hid hr
    clear hr
    go_enter Tryd.func50, Tryd.ntmps50
    go_wp2_with fail
    rw [← hW1]
    clear hW1
    refine HN.out.mono ?_
    rintro e1 w1 ⟨rfl, rfl⟩
    go_wp2_with fail
    refine (HV.out _).mono ?_
    rintro e1 w1 ⟨rfl, rfl⟩
    go_wp2
    go_ret
    exact MDone.of (HR.out) rfl HP.out (Chg.of_ext HX.out)
  cases hup : n.up
  · have hr : upS s i n v = (setN s i { n with up := true, version := v }, 0) := by rw [upS, if_neg (by rw [hv]; simp), if_neg (by rw [hup]; simp)]
    have HR := Lib.hid hr
    clear hr
    go_enter Tryd.func50, Tryd.ntmps50
    go_wp2_with fail
    rw [← hW1]
    clear hW1
    refine HN.out.mono ?_
    rintro e1 w1 ⟨rfl, rfl⟩
    go_wp2_with fail
    refine (HV.out _).mono ?_
    rintro e1 w1 ⟨rfl, rfl⟩
    go_wp2_with fail
    go_region
    go_wp2
    go_ret
    exact MDone.of (HR.out) rfl (ObjF.drew HS.out.1) (chg2 HX.out HS.out.2).drew
  · have hr : upS s i n v = (s, 5) := by rw [upS, if_neg (by rw [hv]; simp), if_pos hup]
    have HR := Lib.hid hr
    clear hr
    go_enter Tryd.func50, Tryd.ntmps50
    go_wp2_with fail
    rw [← hW1]
    clear hW1
    refine HN.out.mono ?_
    rintro e1 w1 ⟨rfl, rfl⟩
    go_wp2_with fail
    refine (HV.out _).mono ?_
    rintro e1 w1 ⟨rfl, rfl⟩
    go_wp2
    go_ret
    exact MDone.of (HR.out) rfl HP.out (Chg.of_ext HX.out)

theorem giveL_get {l : List Nd} {set job : Int} {i : Nat} {n : Nd} (h : l[i]? = some n) (hs : hasS set i = true) : (giveL l set job)[i]? = some { n with job := job } := by
  unfold giveL
  rw [List.getElem?_mapIdx, h]
  simp [hs]
theorem giveL_len (l : List Nd) (set job : Int) : (giveL l set job).length = l.length := by unfold giveL; simp

set_option maxRecDepth 100000 in
set_option maxHeartbeats 4000000 in
theorem down_any (F : Fp) (w : World) (g : Nat) (c : Cf) (vn vj : Value) (s : St) (z v a3 a4 a5 a6 : Int) (i : Nat) (n : Nd) (h : Pg F w g c vn vj s) (hi : s.nodes[i]? = some n) (hn : s.nodes.length ≤ 6) (hj : n.job = 0 ∨ ∃ (k : Nat) (j : Jb), n.job = (k : Int) + 1 ∧ s.jobs[k]? = some j ∧ hasS j.nodes i = true) :
    Calls Tryd.prog 49 #[.pointer (some ⟨g, 0, none⟩), .agg #[.int .i64 z, .int .i64 (i : Int), .int .i64 v, .int .i64 a3, .int .i64 a4, .int .i64 a5, .int .i64 a6]] w fun e w' => e = .returned (.int .i64 (downS s i n).2) ∧ (∃ vn vj, Pg (F.since w w') w' g c vn vj (downS s i n).1) ∧ Chg F w w' := by
  obtain ⟨hx, hbk⟩ := boxOp w #[.int .i64 z, .int .i64 (i : Int), .int .i64 v, .int .i64 a3, .int .i64 a4, .int .i64 a5, .int .i64 a6]
  obtain ⟨W1, hW1⟩ : ∃ W1, W1 = w.alloc (.cells #[.int .i64 z, .int .i64 (i : Int), .int .i64 v, .int .i64 a3, .int .i64 a4, .int .i64 a5, .int .i64 a6] 32) := ⟨_, rfl⟩
  rw [← hW1] at hx hbk
  have hp := h.ext hx
  obtain ⟨b, cap, rfl, hnc, hcm, hb, hbg, hat, hfr⟩ := hp.nodeAt hi
  have HN := Lib.hid (node_any F W1 g c vj s i b cap n hp hi)
  have HX := Lib.hid hx
  have HP := Lib.hid hp
  have HI := Lib.hid hi
  have HB := Lib.hid hbk
  have HF0 := Lib.hid hfr
  have hlw : w.heap.size ≠ b := fun e => by
    obtain ⟨b0, cap0, e0, _, _, hb0, _⟩ := h.nodeAt hi
    injection e0 with e1
    injection e1 with e1
    injection e1 with e1
    omega
  have q2 : W1.cell? ⟨w.heap.size, 2, none⟩ = some (.int .i64 v) := hbk.cell 2
  obtain ⟨c0, c1, c2, c3, c4⟩ := hat
  have f0 := hfr (i * 5)
  have f1 := hfr (i * 5 + 1)
  have f2 := hfr (i * 5 + 2)
  have f3 := hfr (i * 5 + 3)
  have f4 := hfr (i * 5 + 4)
  clear hx hp hi hfr hbk h
  cases hup : n.up
  · have hr : downS s i n = (s, 5) := by rw [downS, if_neg (by rw [hup]; simp)]
    have HR := Lib.hid hr
    clear hr
    go_enter Tryd.func49, Tryd.ntmps49
    go_wp2_with fail
    rw [← hW1]
    clear hW1
    refine HN.out.mono ?_
    rintro e1 w1 ⟨rfl, rfl⟩
    go_wp2
    go_ret
    exact MDone.of (HR.out) rfl HP.out (Chg.of_ext HX.out)
  rcases hj with hj | ⟨k, j, hj, hk, hs⟩
  · have hr : downS s i n = (setN s i { n with up := false, moving := false }, 0) := by
      have hd : dropS s n = s := by rw [dropS, hj]; rfl
      rw [downS, if_pos hup, hd]
      congr 3
      rw [hj]
    obtain ⟨h1, e1⟩ := HP.out.setN HI.out rfl 0 (by omega) (.bool false) (n' := { n with up := false }) rfl
    obtain ⟨h2, e2⟩ := h1.setN (b := b) (cap := cap) (n := { n with up := false }) (set_set_get HI.out) (by simp [setN]) 2 (by omega) (.bool false) (n' := { n with up := false, moving := false }) rfl
    simp only [setN, List.set_set] at h2
    have HS := Lib.hid (And.intro h2 (chg3 e1 e2))
    have HR := Lib.hid hr
    have hj1 : (n.job != 0) = false := by rw [hj]; rfl
    clear hr hj h1 h2 e1 e2
    go_enter Tryd.func49, Tryd.ntmps49
    go_wp2_with fail
    rw [← hW1]
    clear hW1
    refine HN.out.mono ?_
    rintro e1 w1 ⟨rfl, rfl⟩
    go_wp2
    go_ret
    exact MDone.of (HR.out) rfl HS.out.1 (chg2 HX.out HS.out.2)
  · have hdr : dropS s n = letGoS s k j 0 := by
      have h1 : jobOf s n.job = some j := by
        rw [hj, jobOf, if_pos (by omega)]
        have : ((k : Int) + 1 - 1).toNat = k := by omega
        rw [this]
        exact hk
      have h2 : (n.job - 1).toNat = k := by omega
      rw [dropS, h1]
      simp only [h2]
    have hr : downS s i n = (setN (letGoS s k j 0) i { n with up := false, moving := false, job := 0 }, 0) := by rw [downS, if_pos hup, hdr]
    have HR := Lib.hid hr
    have HL := Lib.hid (letGo_any F W1 g c (.slice (some ⟨b, 0, none⟩) s.nodes.length cap) vj s k j 0 HP.out hk hn)
    have HJ := Lib.hid hj
    have HG : Hid ((letGoS s k j 0).nodes[i]? = some { n with job := 0 }) := Lib.hid (giveL_get HI.out hs)
    have HLN : Hid ((letGoS s k j 0).nodes.length = s.nodes.length) := Lib.hid (giveL_len _ _ _)
    have hj1 : (n.job != 0) = true := by rw [hj, bne_iff_ne]; omega
    have hj2 : n.job = (k : Int) + 1 := hj
    have HJ2 := Lib.hid hj2
    clear hr hdr hj hk hs hj2
    go_enter Tryd.func49, Tryd.ntmps49
    go_wp2_with fail
    rw [← hW1]
    clear hW1
    refine HN.out.mono ?_
    rintro e1 w1 ⟨rfl, rfl⟩
    rw [HJ2.out] at c4 hj1
    go_wp2_with fail
    refine HL.out.mono ?_
    rintro e2 w2 ⟨rfl, hp2, hc2⟩
    have HC2 := Lib.hid hc2
    obtain ⟨b', cap', hv, _, _, hb', hbg', hat', hfr'⟩ := hp2.nodeAt HG.out
    injection hv with hA _ hcap
    injection hA with hA
    injection hA with hA
    subst hA hcap
    obtain ⟨h1, e1⟩ := hp2.setN (b := b) (cap := cap) HG.out (by rw [HLN.out]) 0 (by omega) (.bool false) (n' := { n with job := 0, up := false }) rfl
    obtain ⟨h2, e2⟩ := h1.setN (b := b) (cap := cap) (n := { n with job := 0, up := false }) (set_set_get HG.out) (by simp only [setN, List.length_set]; rw [HLN.out]) 2 (by omega) (.bool false) (n' := { n with job := 0, up := false, moving := false }) rfl
    simp only [setN, List.set_set] at h2
    have HS := Lib.hid (And.intro h2 (chg3 e1 e2))
    have c0 := hat'.c0
    have c2 := hat'.c2
    have f0 := hfr' (i * 5)
    have f2 := hfr' (i * 5 + 2)
    clear h1 h2 e1 e2 hat' hfr' hp2 hc2 c1 c3 c4 f1 f3 f4 q2
    go_wp2
    go_ret
    exact MDone.of HR.out rfl HS.out.1 (chg3 (chg2 HX.out HC2.out) HS.out.2)

end Go.Proofs.YtkpcjdhnbjkaaaaDoor

/- Package book: the ops of the whole state. -/
namespace Go.Proofs.YtkpcjdhnbjkaaaaDoor
open Go.RowKit

set_option maxRecDepth 100000 in
set_option maxHeartbeats 4000000 in
theorem pause_any (F : Fp) (w : World) (g : Nat) (c : Cf) (vn vj : Value) (s : St) (z v a2 a3 a4 a5 a6 : Int) (h : Pg F w g c vn vj s) :
    Calls Tryd.prog 46 #[.pointer (some ⟨g, 0, none⟩), .agg #[.int .i64 z, .int .i64 v, .int .i64 a2, .int .i64 a3, .int .i64 a4, .int .i64 a5, .int .i64 a6]] w fun e w' => e = .returned (.int .i64 (pauseS s).2) ∧ (∃ vn vj, Pg (F.since w w') w' g c vn vj (pauseS s).1) ∧ Chg F w w' := by
  obtain ⟨hx, hbk⟩ := boxOp w #[.int .i64 z, .int .i64 v, .int .i64 a2, .int .i64 a3, .int .i64 a4, .int .i64 a5, .int .i64 a6]
  obtain ⟨W1, hW1⟩ : ∃ W1, W1 = w.alloc (.cells #[.int .i64 z, .int .i64 v, .int .i64 a2, .int .i64 a3, .int .i64 a4, .int .i64 a5, .int .i64 a6] 32) := ⟨_, rfl⟩
  rw [← hW1] at hx hbk
  have hp := h.ext hx
  have HX := Lib.hid hx
  have HP := Lib.hid hp
  have HB := Lib.hid hbk
  have hlw : w.heap.size ≠ g := fun e => by have := h.lt; omega
  have q1 : W1.cell? ⟨w.heap.size, 1, none⟩ = some (.int .i64 v) := hbk.cell 1
  have c9 := hp.c9
  have c10 := hp.c10
  have c11 := hp.c11
  have c12 := hp.c12
  have c13 := hp.c13
  have c14 := hp.c14
  have f12 := hp.fr 12
  have f11 := hp.fr 11
  have f13 := hp.fr 13
  have f14 := hp.fr 14
  clear hx hp hbk h
  have HS := Lib.hid (HP.out.setG { s with mode := 1 } 13 (.int .i64 1) rfl rfl rfl)
  by_cases ht : s.mode = 0
  · have hr : pauseS s = ({ s with mode := 1 }, 0) := by rw [pauseS, if_pos ht]
    have d : (s.mode != 0) = false := by rw [ht]; rfl
    have HR := Lib.hid hr
    clear hr ht
    subst hW1
    go_enter Tryd.func46, Tryd.ntmps46
    go_wp2
    go_ret
    exact MDone.of HR.out rfl HS.out.1 (chg2 HX.out HS.out.2)
  · have hr : pauseS s = (s, 5) := by rw [pauseS, if_neg ht]
    have d : (s.mode != 0) = true := by rw [bne_iff_ne]; exact ht
    have HR := Lib.hid hr
    clear hr ht
    subst hW1
    go_enter Tryd.func46, Tryd.ntmps46
    go_wp2
    go_ret
    exact MDone.of HR.out rfl HP.out (Chg.of_ext HX.out)

set_option maxRecDepth 100000 in
set_option maxHeartbeats 4000000 in
theorem resume_any (F : Fp) (w : World) (g : Nat) (c : Cf) (vn vj : Value) (s : St) (z v a2 a3 a4 a5 a6 : Int) (h : Pg F w g c vn vj s) :
    Calls Tryd.prog 47 #[.pointer (some ⟨g, 0, none⟩), .agg #[.int .i64 z, .int .i64 v, .int .i64 a2, .int .i64 a3, .int .i64 a4, .int .i64 a5, .int .i64 a6]] w fun e w' => e = .returned (.int .i64 (resumeS s).2) ∧ (∃ vn vj, Pg (F.since w w') w' g c vn vj (resumeS s).1) ∧ Chg F w w' := by
  obtain ⟨hx, hbk⟩ := boxOp w #[.int .i64 z, .int .i64 v, .int .i64 a2, .int .i64 a3, .int .i64 a4, .int .i64 a5, .int .i64 a6]
  obtain ⟨W1, hW1⟩ : ∃ W1, W1 = w.alloc (.cells #[.int .i64 z, .int .i64 v, .int .i64 a2, .int .i64 a3, .int .i64 a4, .int .i64 a5, .int .i64 a6] 32) := ⟨_, rfl⟩
  rw [← hW1] at hx hbk
  have hp := h.ext hx
  have HX := Lib.hid hx
  have HP := Lib.hid hp
  have HB := Lib.hid hbk
  have hlw : w.heap.size ≠ g := fun e => by have := h.lt; omega
  have q1 : W1.cell? ⟨w.heap.size, 1, none⟩ = some (.int .i64 v) := hbk.cell 1
  have c9 := hp.c9
  have c10 := hp.c10
  have c11 := hp.c11
  have c12 := hp.c12
  have c13 := hp.c13
  have c14 := hp.c14
  have f12 := hp.fr 12
  have f11 := hp.fr 11
  have f13 := hp.fr 13
  have f14 := hp.fr 14
  clear hx hp hbk h
  have HS := Lib.hid (HP.out.setG { s with mode := 0 } 13 (.int .i64 0) rfl rfl rfl)
  by_cases ht : s.mode = 1
  · have hr : resumeS s = ({ s with mode := 0 }, 0) := by rw [resumeS, if_pos ht]
    have d : (s.mode != 1) = false := by rw [ht]; rfl
    have HR := Lib.hid hr
    clear hr ht
    subst hW1
    go_enter Tryd.func47, Tryd.ntmps47
    go_wp2
    go_ret
    exact MDone.of HR.out rfl HS.out.1 (chg2 HX.out HS.out.2)
  · have hr : resumeS s = (s, 5) := by rw [resumeS, if_neg ht]
    have d : (s.mode != 1) = true := by rw [bne_iff_ne]; exact ht
    have HR := Lib.hid hr
    clear hr ht
    subst hW1
    go_enter Tryd.func47, Tryd.ntmps47
    go_wp2
    go_ret
    exact MDone.of HR.out rfl HP.out (Chg.of_ext HX.out)

set_option maxRecDepth 100000 in
set_option maxHeartbeats 4000000 in
theorem abort_any (F : Fp) (w : World) (g : Nat) (c : Cf) (vn vj : Value) (s : St) (z v a2 a3 a4 a5 a6 : Int) (h : Pg F w g c vn vj s) :
    Calls Tryd.prog 48 #[.pointer (some ⟨g, 0, none⟩), .agg #[.int .i64 z, .int .i64 v, .int .i64 a2, .int .i64 a3, .int .i64 a4, .int .i64 a5, .int .i64 a6]] w fun e w' => e = .returned (.int .i64 (abortS s).2) ∧ (∃ vn vj, Pg (F.since w w') w' g c vn vj (abortS s).1) ∧ Chg F w w' := by
  obtain ⟨hx, hbk⟩ := boxOp w #[.int .i64 z, .int .i64 v, .int .i64 a2, .int .i64 a3, .int .i64 a4, .int .i64 a5, .int .i64 a6]
  obtain ⟨W1, hW1⟩ : ∃ W1, W1 = w.alloc (.cells #[.int .i64 z, .int .i64 v, .int .i64 a2, .int .i64 a3, .int .i64 a4, .int .i64 a5, .int .i64 a6] 32) := ⟨_, rfl⟩
  rw [← hW1] at hx hbk
  have hp := h.ext hx
  have HX := Lib.hid hx
  have HP := Lib.hid hp
  have HB := Lib.hid hbk
  have hlw : w.heap.size ≠ g := fun e => by have := h.lt; omega
  have q1 : W1.cell? ⟨w.heap.size, 1, none⟩ = some (.int .i64 v) := hbk.cell 1
  have c9 := hp.c9
  have c10 := hp.c10
  have c11 := hp.c11
  have c12 := hp.c12
  have c13 := hp.c13
  have c14 := hp.c14
  have f12 := hp.fr 12
  have f11 := hp.fr 11
  have f13 := hp.fr 13
  have f14 := hp.fr 14
  clear hx hp hbk h
  have HS := Lib.hid (HP.out.setG { s with mode := 2 } 13 (.int .i64 2) rfl rfl rfl)
  by_cases ht : s.mode = 2
  · have hr : abortS s = (s, 5) := by rw [abortS, if_pos ht]
    have d : (s.mode == 2) = true := by rw [ht]; rfl
    have HR := Lib.hid hr
    clear hr ht
    subst hW1
    go_enter Tryd.func48, Tryd.ntmps48
    go_wp2
    go_ret
    exact MDone.of HR.out rfl HP.out (Chg.of_ext HX.out)
  · have hr : abortS s = ({ s with mode := 2 }, 0) := by rw [abortS, if_neg ht]
    have d : (s.mode == 2) = false := by rw [beq_eq_false_iff_ne]; exact ht
    have HR := Lib.hid hr
    clear hr ht
    subst hW1
    go_enter Tryd.func48, Tryd.ntmps48
    go_wp2
    go_ret
    exact MDone.of HR.out rfl HS.out.1 (chg2 HX.out HS.out.2)

set_option maxRecDepth 100000 in
set_option maxHeartbeats 4000000 in
theorem newterm_any (F : Fp) (w : World) (g : Nat) (c : Cf) (vn vj : Value) (s : St) (z v a2 a3 a4 a5 a6 : Int) (h : Pg F w g c vn vj s) (ht0 : 0 ≤ s.term ∧ s.term ≤ 1000000) :
    Calls Tryd.prog 63 #[.pointer (some ⟨g, 0, none⟩), .agg #[.int .i64 z, .int .i64 v, .int .i64 a2, .int .i64 a3, .int .i64 a4, .int .i64 a5, .int .i64 a6]] w fun e w' => e = .returned (.int .i64 (newtermS s).2) ∧ (∃ vn vj, Pg (F.since w w') w' g c vn vj (newtermS s).1) ∧ Chg F w w' := by
  obtain ⟨hx, hbk⟩ := boxOp w #[.int .i64 z, .int .i64 v, .int .i64 a2, .int .i64 a3, .int .i64 a4, .int .i64 a5, .int .i64 a6]
  obtain ⟨W1, hW1⟩ : ∃ W1, W1 = w.alloc (.cells #[.int .i64 z, .int .i64 v, .int .i64 a2, .int .i64 a3, .int .i64 a4, .int .i64 a5, .int .i64 a6] 32) := ⟨_, rfl⟩
  rw [← hW1] at hx hbk
  have hp := h.ext hx
  have HX := Lib.hid hx
  have HP := Lib.hid hp
  have HB := Lib.hid hbk
  have hlw : w.heap.size ≠ g := fun e => by have := h.lt; omega
  have q1 : W1.cell? ⟨w.heap.size, 1, none⟩ = some (.int .i64 v) := hbk.cell 1
  have c9 := hp.c9
  have c10 := hp.c10
  have c11 := hp.c11
  have c12 := hp.c12
  have c13 := hp.c13
  have c14 := hp.c14
  have f12 := hp.fr 12
  have f11 := hp.fr 11
  have f13 := hp.fr 13
  have f14 := hp.fr 14
  clear hx hp hbk h
  have hw : wrap64 (s.term + 1) = s.term + 1 := IntWalk.wrap64_in _ (by omega)
  have HS := Lib.hid (HP.out.setG { s with term := s.term + 1 } 14 (.int .i64 (s.term + 1)) rfl rfl rfl)
  by_cases ht : s.term = 1000000
  · have hr : newtermS s = (s, 3) := by rw [newtermS, if_pos ht]
    have d : (s.term == 1000000) = true := by rw [ht]; rfl
    have HR := Lib.hid hr
    clear hr ht hw ht0
    subst hW1
    go_enter Tryd.func63, Tryd.ntmps63
    go_wp2
    go_ret
    exact MDone.of HR.out rfl HP.out (Chg.of_ext HX.out)
  · have hr : newtermS s = ({ s with term := s.term + 1 }, 0) := by rw [newtermS, if_neg ht]
    have d : (s.term == 1000000) = false := by rw [beq_eq_false_iff_ne]; exact ht
    have HR := Lib.hid hr
    clear hr ht
    subst hW1
    go_enter Tryd.func63, Tryd.ntmps63
    go_wp2
    go_ret
    exact MDone.of HR.out rfl HS.out.1 (chg2 HX.out HS.out.2)

set_option maxRecDepth 100000 in
set_option maxHeartbeats 4000000 in
theorem target_any (F : Fp) (w : World) (g : Nat) (c : Cf) (vn vj : Value) (s : St) (z v a2 a3 a4 a5 a6 : Int) (h : Pg F w g c vn vj s) :
    Calls Tryd.prog 45 #[.pointer (some ⟨g, 0, none⟩), .agg #[.int .i64 z, .int .i64 v, .int .i64 a2, .int .i64 a3, .int .i64 a4, .int .i64 a5, .int .i64 a6]] w fun e w' => e = .returned (.int .i64 (targetS s v).2) ∧ (∃ vn vj, Pg (F.since w w') w' g c vn vj (targetS s v).1) ∧ Chg F w w' := by
  obtain ⟨hx, hbk⟩ := boxOp w #[.int .i64 z, .int .i64 v, .int .i64 a2, .int .i64 a3, .int .i64 a4, .int .i64 a5, .int .i64 a6]
  obtain ⟨W1, hW1⟩ : ∃ W1, W1 = w.alloc (.cells #[.int .i64 z, .int .i64 v, .int .i64 a2, .int .i64 a3, .int .i64 a4, .int .i64 a5, .int .i64 a6] 32) := ⟨_, rfl⟩
  rw [← hW1] at hx hbk
  have hp := h.ext hx
  have HX := Lib.hid hx
  have HP := Lib.hid hp
  have HB := Lib.hid hbk
  have hlw : w.heap.size ≠ g := fun e => by have := h.lt; omega
  have q1 : W1.cell? ⟨w.heap.size, 1, none⟩ = some (.int .i64 v) := hbk.cell 1
  have c9 := hp.c9
  have c10 := hp.c10
  have c11 := hp.c11
  have c12 := hp.c12
  have c13 := hp.c13
  have c14 := hp.c14
  have f12 := hp.fr 12
  have f11 := hp.fr 11
  have f13 := hp.fr 13
  have f14 := hp.fr 14
  clear hx hp hbk h
  have HV := Lib.hid fun w' => isVersion_any v w'
  have HSF : Hid (∀ w2, Ext W1 w2 → Pg F (((w2.setCell ⟨g, 12, none⟩ (.int .i64 (meantS s))).setCell ⟨g, 11, none⟩ (.int .i64 v)).setCell ⟨g, 13, none⟩ (.int .i64 0)) g c vn vj { s with prior := meantS s, goal := v, mode := 0 } ∧
      Chg F w2 (((w2.setCell ⟨g, 12, none⟩ (.int .i64 (meantS s))).setCell ⟨g, 11, none⟩ (.int .i64 v)).setCell ⟨g, 13, none⟩ (.int .i64 0))) := Lib.hid fun w2 h2 => by
    obtain ⟨h1, e1⟩ := (HP.out.ext h2).setG { s with prior := meantS s } 12 (.int .i64 (meantS s)) rfl rfl rfl
    obtain ⟨h2, e2⟩ := h1.setG { s with prior := meantS s, goal := v } 11 (.int .i64 v) rfl rfl rfl
    obtain ⟨h3, e3⟩ := h2.setG { s with prior := meantS s, goal := v, mode := 0 } 13 (.int .i64 0) rfl rfl rfl
    exact ⟨h3, chg3 (chg3 e1 e2) e3⟩
  have HM := Lib.hid fun w' => Meant_any vn vj s w'
  unfold stV at HM
  obtain ⟨mt, hmt⟩ : ∃ mt, mt = meantS s := ⟨_, rfl⟩
  rw [← hmt] at HM HSF
  cases hv : inR v 1 9
  · have hr : targetS s v = (s, 1) := by rw [targetS, if_pos hv]
    have HR := Lib.hid hr
    clear hmt
    clear hr
    go_enter Tryd.func45, Tryd.ntmps45
    go_wp2_with fail
    rw [← hW1]
    clear hW1
    refine (HV.out _).mono ?_
    rintro e1 w1 ⟨rfl, rfl⟩
    go_wp2
    go_ret
    exact MDone.of HR.out rfl HP.out (Chg.of_ext HX.out)
  · have hr : targetS s v = ({ s with prior := meantS s, goal := v, mode := 0 }, 0) := by rw [targetS, if_neg (by rw [hv]; simp)]
    rw [← hmt] at hr
    have HR := Lib.hid hr
    clear hmt
    clear hr
    go_enter Tryd.func45, Tryd.ntmps45
    go_wp2_with fail
    rw [← hW1]
    clear hW1
    refine (HV.out _).mono ?_
    rintro e1 w1 ⟨rfl, rfl⟩
    go_wp2_with fail
    go_region_with ((go_at_call 26); (refine (HM.out _).mono ?_); (rintro e2 w2 ⟨rfl, hx2⟩); (first | (have hx3 : Ext W1 w2 := hx2) | (have hx3 : Ext W1 w2 := Ext.of_drew hx2)); (have hp2 := HP.out.ext hx3); (have k11 := hp2.c11); (have k12 := hp2.c12); (have k13 := hp2.c13); (have g11 := hp2.fr 11); (have g12 := hp2.fr 12); (have g13 := hp2.fr 13); (have q2 := (HB.out.ext hx3).cell 1); (have hlt2 := hp2.lt))
    all_goals
      have HS := Lib.hid (HSF.out w2 hx3)
      have HX2 := Lib.hid (HX.out.trans hx3)
      clear hx2 hx3 hp2 k11 k12 k13 g11 g12 g13 q2 hlt2
      go_wp2
      go_ret
      exact MDone.of HR.out rfl HS.out.1 (chg2 HX2.out HS.out.2)

end Go.Proofs.YtkpcjdhnbjkaaaaDoor
