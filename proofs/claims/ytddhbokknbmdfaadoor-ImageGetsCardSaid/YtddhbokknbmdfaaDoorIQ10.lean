/- Texts that the proof of I rests on, one behind the other. -/
import Derived.Test.YtddhbokknbmdfaaDoorIQ9
import Derived.Laws.OwnMore
import Derived.Deep.Cut

/- Package book: New. -/
namespace Go.Proofs.YtddhbokknbmdfaaDoor
open Go.RowKit

def zeroN : Nd := ⟨false, false, false, 0, 0⟩
/-- A fleet's first state, or a zero one. -/
def newSt (c : Cf) : St := if mayC c = true then newS c.nodes.toNat else zeroS
/-- k nodes are made. -/
def newK (n k : Nat) : List Nd := List.replicate k newN ++ List.replicate (n - k) zeroN
theorem newK_len {n k : Nat} (h : k ≤ n) : (newK n k).length = n := by unfold newK; simp; omega
theorem newK_get {n k : Nat} (h : k < n) : (newK n k)[k]? = some zeroN := by
  unfold newK
  rw [List.getElem?_append_right (by simp), List.length_replicate, Nat.sub_self, List.getElem?_replicate, if_pos (by omega)]
theorem newK_set {n k : Nat} (h : k < n) : (newK n k).set k newN = newK n (k + 1) := by
  unfold newK
  rw [List.set_append_right _ _ (by simp)]
  obtain ⟨m, hm⟩ : ∃ m, n - k = m + 1 := ⟨n - k - 1, by omega⟩
  have e2 : n - (k + 1) = m := by omega
  rw [hm, e2, List.length_replicate, Nat.sub_self, List.replicate_succ, List.set_cons_zero, List.replicate_succ', List.append_assoc]
  rfl
theorem newK_all (n : Nat) : newK n n = List.replicate n newN := by unfold newK; simp
theorem newK_zero (n : Nat) : newK n 0 = List.replicate n zeroN := by unfold newK; simp

theorem row_step {w : World} {base g n cap i : Nat} {e : TypeId} {l : List Nd} {x : Nd} (h : w.ownsRow base e 5 (.slice (some ⟨g, 0, none⟩) n cap) n (nodesC (l.set i x))) (hl : i < l.length) (y : Nd) (j : Nat) (hj : j < 5) (u : Value) (hy : y.cells = x.cells.set j u) :
    (w.setCell ⟨g, i * 5 + j, none⟩ u).ownsRow base e 5 (.slice (some ⟨g, 0, none⟩) n cap) n (nodesC (l.set i y)) := by
  have h1 := (h.stored (i * 5 + j) u).1
  have hx : (l.set i x)[i]? = some x := List.getElem?_set_self hl
  have e1 : nodesC ((l.set i x).set i y) = (nodesC (l.set i x)).set (i * 5 + j) u := flat_set Nd.len hx j hj u hy
  rw [← e1, List.set_set] at h1
  exact h1
/-- A node of an own row is written whole. -/
theorem row_node {w : World} {base g n cap i : Nat} {e : TypeId} {l : List Nd} {x : Nd} (h : w.ownsRow base e 5 (.slice (some ⟨g, 0, none⟩) n cap) n (nodesC l)) (hi : l[i]? = some x) (y : Nd) :
    (((((w.setCell ⟨g, i * 5, none⟩ (.bool y.up)).setCell ⟨g, i * 5 + 1, none⟩ (.bool y.cordon)).setCell ⟨g, i * 5 + 2, none⟩ (.bool y.moving)).setCell ⟨g, i * 5 + 3, none⟩ (.int .i64 y.version)).setCell ⟨g, i * 5 + 4, none⟩ (.int .i64 y.job)).ownsRow base e 5 (.slice (some ⟨g, 0, none⟩) n cap) n (nodesC (l.set i y)) := by
  obtain ⟨hl, hx⟩ := List.getElem?_eq_some_iff.1 hi
  have hs : l.set i x = l := by rw [← hx]; exact List.set_getElem_self hl
  rw [← hs] at h
  have h1 := row_step h hl { x with up := y.up } 0 (by omega) (.bool y.up) rfl
  have h2 := row_step h1 hl { x with up := y.up, cordon := y.cordon } 1 (by omega) (.bool y.cordon) rfl
  have h3 := row_step h2 hl { x with up := y.up, cordon := y.cordon, moving := y.moving } 2 (by omega) (.bool y.moving) rfl
  have h4 := row_step h3 hl { x with up := y.up, cordon := y.cordon, moving := y.moving, version := y.version } 3 (by omega) (.int .i64 y.version) rfl
  exact row_step h4 hl y 4 (by omega) (.int .i64 y.job) rfl

theorem made_nodes (n : Nat) : (madeCells (Value.agg #[.bool false, .bool false, .bool false, .int .i64 0, .int .i64 0]).cells (n * 5)).toList = nodesC (List.replicate n zeroN) := by
  apply List.ext_getElem?
  intro j
  by_cases hj : j < n * 5
  · have h1 : (madeCells (Value.agg #[.bool false, .bool false, .bool false, .int .i64 0, .int .i64 0]).cells (n * 5)).toList[j]? = (zeroN.cells)[j % 5]? := by
      simp [madeCells, hj, Value.cells, zeroN, Nd.cells]
      rcases (show j % 5 = 0 ∨ j % 5 = 1 ∨ j % 5 = 2 ∨ j % 5 = 3 ∨ j % 5 = 4 by omega) with h | h | h | h | h <;> rw [h] <;> rfl
    rw [h1]
    have hq : j / 5 < n := by omega
    have := flat_get (f := Nd.cells) Nd.len (l := List.replicate n zeroN) (i := j / 5) (x := zeroN) (by rw [List.getElem?_replicate, if_pos hq]) (j % 5) (by omega)
    unfold nodesC
    rw [← this]
    congr 1
    omega
  · rw [List.getElem?_eq_none (by simp [madeCells]; omega), List.getElem?_eq_none (by unfold nodesC; rw [flat_len Nd.len, List.length_replicate]; omega)]

set_option maxRecDepth 100000 in
set_option maxHeartbeats 4000000 in
theorem New_any (c : Cf) (w : World) :
    Calls Tryd.prog 7 #[cfV c] w fun e w' => ∃ vn vj, e = .returned (stV vn vj (newSt c)) ∧ RdSt w' vn vj (newSt c) ∧ Ext w w' ∧ ∀ k, vn.ownBlock = some k ∨ vj.ownBlock = some k → w.heap.size ≤ k := by
  have HM := Lib.hid fun w' => May_any c w'
  obtain ⟨W2, hW2⟩ : ∃ W2, W2 = (w.alloc (.cells #[.int .i64 c.nodes, .int .i64 c.queues, .int .i64 c.quota, .int .i64 c.wave, .int .i64 c.lease, .int .i64 c.retry, .int .i64 c.deadline, .int .i64 c.room, .int .i64 c.disk] 23)).alloc (.cells #[.slice none 0 0, .slice none 0 0, .int .i64 0, .int .i64 0, .int .i64 0, .int .i64 0] 30) := ⟨_, rfl⟩
  have hx : Ext w W2 := by rw [hW2]; exact ext2 w _ _ _ _
  have hb0 : Blk W2 w.heap.size 23 #[.int .i64 c.nodes, .int .i64 c.queues, .int .i64 c.quota, .int .i64 c.wave, .int .i64 c.lease, .int .i64 c.retry, .int .i64 c.deadline, .int .i64 c.room, .int .i64 c.disk] := by rw [hW2]; exact (Blk.new w _ _).alloc _
  have hb1 : Blk W2 (w.heap.size + 1) 30 #[.slice none 0 0, .slice none 0 0, .int .i64 0, .int .i64 0, .int .i64 0, .int .i64 0] := by rw [hW2]; exact blk_second w _ _ _ _
  have HX := Lib.hid hx
  have HB0 := Lib.hid hb0
  have HB1 := Lib.hid hb1
  unfold cfV at HM
  unfold cfV
  clear hx hb0 hb1
  go_enter Tryd.func7, Tryd.ntmps7
  go_wp2_with fail
  rw [← hW2]
  clear hW2
  refine (HM.out _).mono ?_
  rintro e1 w1 ⟨rfl, hx1⟩
  have HXW := Lib.hid (HX.out.trans hx1)
  have HC0 := Lib.hid (HB0.out.ext hx1)
  have HC1 := Lib.hid (HB1.out.ext hx1)
  clear hx1
  have k0 : w1.cell? ⟨w.heap.size, 0, none⟩ = some (.int .i64 c.nodes) := HC0.out.cell 0
  have r0 : w1.cell? ⟨w.heap.size + 1, 0, none⟩ = some (.slice none 0 0) := HC1.out.cell 0
  have r1 : w1.cell? ⟨w.heap.size + 1, 1, none⟩ = some (.slice none 0 0) := HC1.out.cell 1
  have r2 : w1.cell? ⟨w.heap.size + 1, 2, none⟩ = some (.int .i64 0) := HC1.out.cell 2
  have r3 : w1.cell? ⟨w.heap.size + 1, 3, none⟩ = some (.int .i64 0) := HC1.out.cell 3
  have r4 : w1.cell? ⟨w.heap.size + 1, 4, none⟩ = some (.int .i64 0) := HC1.out.cell 4
  have r5 : w1.cell? ⟨w.heap.size + 1, 5, none⟩ = some (.int .i64 0) := HC1.out.cell 5
  have g0 : w1.frozen? ⟨w.heap.size + 1, 0, none⟩ = false := HC1.out.frozen 0
  have g1 : w1.frozen? ⟨w.heap.size + 1, 1, none⟩ = false := HC1.out.frozen 1
  have g2 : w1.frozen? ⟨w.heap.size + 1, 2, none⟩ = false := HC1.out.frozen 2
  have g3 : w1.frozen? ⟨w.heap.size + 1, 3, none⟩ = false := HC1.out.frozen 3
  have g4 : w1.frozen? ⟨w.heap.size + 1, 4, none⟩ = false := HC1.out.frozen 4
  have g5 : w1.frozen? ⟨w.heap.size + 1, 5, none⟩ = false := HC1.out.frozen 5
  cases hm : mayC c
  · have hnew : newSt c = zeroS := by rw [newSt, if_neg (by rw [hm]; simp)]
    have HN := Lib.hid hnew
    clear hnew
    go_wp2
    have hq := (((((PB.start HC1.out).set 0 (.slice none 0 0)).set 1 (.slice none 0 0)).set 2 (.int .i64 0)).set 3 (.int .i64 0)).set 4 (.int .i64 0)
    replace hq := hq.set 5 (.int .i64 0)
    simp only [List.setIfInBounds_toArray, List.set_cons_zero, List.set_cons_succ] at hq
    rw [HN.out]
    exact bodyPost_ret (results_cell_row rfl _ _ (w.heap.size + 1) 30 _ (0, 0) _ rfl hq.blk rfl rfl (by kernel_rfl)) rfl ⟨.slice none 0 0, .slice none 0 0, rfl, ⟨RdS.own (World.ownsRow_nil _ 0 45 5), RdS.own (World.ownsRow_nil _ 0 52 12)⟩, hq.below _ _ HXW.out (Nat.le_succ _), fun k hk => by rcases hk with hk | hk <;> cases hk⟩
  have hm2 : 1 ≤ c.nodes ∧ c.nodes ≤ 6 := by
    simp only [mayC, Bool.and_eq_true, inR_iff] at hm
    exact ⟨by omega, by omega⟩
  obtain ⟨n, hn⟩ : ∃ n : Nat, c.nodes = (n : Int) := ⟨c.nodes.toNat, by omega⟩
  have hnew : newSt c = newS n := by rw [newSt, if_pos hm, hn]; rfl
  have HN := Lib.hid hnew
  have hn6 : n ≤ 6 := by omega
  rw [hn] at k0
  obtain ⟨i0, hi, hz0, hz1, hz2⟩ := info_parts Tryd.infoNode
  have HI := Lib.hid hi
  have HZ0 := Lib.hid hz0
  have HZ1 := Lib.hid hz1
  have hby : i0.bytes * n ≤ 281474976710656 := by rw [hz2]; omega
  clear hnew hm2 hn hi hz0 hz1 hz2
  go_wp2_with (refine wpList_make_full _ rfl (.tmp 10) (.tmp 10) 27 rfl w1.heap.size 45 i0 _ 5 Tryd.underlying27 HI.out HZ0.out HZ1.out .i64 .i64 _ _ n rfl rfl rfl rfl hby (by unfold maxLen; omega) (Nat.le_refl _) ?_
               intro w3 ho3 hg3)
  rw [made_nodes] at ho3
  have hx3 : Ext w1 w3 := (Below.refl _ _).grown hg3 (Nat.le_refl _) (fun k hk => by cases hk)
  have hl3 : w1.heap.size < w3.heap.size := (ho3.lt w1.heap.size rfl).2
  have HX3 := Lib.hid hx3
  have HO3 := Lib.hid ho3
  clear ho3 hg3 hx3 k0 r0 r1 r2 r3 r4 r5 g0 g1 g2 g3 g4 g5
  go_loopg [16] n (fun gg i wr => ∃ q : Nat, i = .int .i64 q ∧ q ≤ n ∧ gg = n - q ∧ Hid (Ext w1 wr ∧ Blk wr w3.heap.size 30 #[.slice (some ⟨w1.heap.size, 0, none⟩) n n, .slice none 0 0, .int .i64 1, .int .i64 1, .int .i64 0, .int .i64 0] ∧ wr.ownsRow w1.heap.size 45 5 (.slice (some ⟨w1.heap.size, 0, none⟩) n n) n (nodesC (newK n q))))
  case atStart => exact ⟨0, rfl, Nat.zero_le _, by omega, Lib.hid ⟨Below.alloc HX3.out (by omega) _, Blk.new _ _ _, by rw [newK_zero]; exact HO3.out.alloc _⟩⟩
  case round =>
    obtain ⟨q, rfl, hq, rfl, HR⟩ := hrel
    have s0 : wr.cell? ⟨w3.heap.size, 0, none⟩ = some (.slice (some ⟨w1.heap.size, 0, none⟩) n n) := HR.out.2.1.cell 0
    by_cases hlt : q < n
    · have d1 : decide ((q : Int) < (n : Int)) = true := decide_eq_true (by omega)
      have d1' : decide (q < n) = true := decide_eq_true hlt
      have hgt := newK_get hlt
      have hlq := newK_len hq
      have hat : NdAt wr w1.heap.size (q * 5) zeroN := NdAt.of fun j u hu => by
        have hj : j < 5 := (List.getElem?_eq_some_iff.1 hu).1
        rw [HR.out.2.2.cellAt _ (by omega)]
        exact (flat_get Nd.len hgt j hj).trans hu
      obtain ⟨c0, c1, c2, c3, c4⟩ := hat
      have f0 := HR.out.2.2.frozenAt (q * 5)
      have f1 := HR.out.2.2.frozenAt (q * 5 + 1)
      have f2 := HR.out.2.2.frozenAt (q * 5 + 2)
      have f3 := HR.out.2.2.frozenAt (q * 5 + 3)
      have f4 := HR.out.2.2.frozenAt (q * 5 + 4)
      have HLT := Lib.hid hlt
      have HNEW := Lib.hid (row_node HR.out.2.2 hgt newN)
      rw [newK_set hlt] at HNEW
      have hne : w3.heap.size ≠ w1.heap.size := by omega
      have HPB := Lib.hid ((((((HR.out.2.1.far (p := ⟨w1.heap.size, q * 5, none⟩) hne (.bool true)).far (p := ⟨w1.heap.size, q * 5 + 1, none⟩) hne (.bool false)).far (p := ⟨w1.heap.size, q * 5 + 2, none⟩) hne (.bool false)).far (p := ⟨w1.heap.size, q * 5 + 3, none⟩) hne (.int .i64 1)).far (p := ⟨w1.heap.size, q * 5 + 4, none⟩) hne (.int .i64 0)))
      have HXR := Lib.hid (Below.setCell (p := ⟨w1.heap.size, q * 5 + 4, none⟩) (Below.setCell (p := ⟨w1.heap.size, q * 5 + 3, none⟩) (Below.setCell (p := ⟨w1.heap.size, q * 5 + 2, none⟩) (Below.setCell (p := ⟨w1.heap.size, q * 5 + 1, none⟩) (Below.setCell (p := ⟨w1.heap.size, q * 5, none⟩) HR.out.1 (Nat.le_refl _) (.bool true)) (Nat.le_refl _) (.bool false)) (Nat.le_refl _) (.bool false)) (Nat.le_refl _) (.int .i64 1)) (Nat.le_refl _) (.int .i64 0))
      clear hgt hlq
      go_wp2
      go_roundg (n - (q + 1))
      case measure => have := HLT.out; omega
      case rel => exact ⟨q + 1, by go_num, HLT.out, rfl, Lib.hid ⟨HXR.out, HPB.out, HNEW.out⟩⟩
    · have d1 : decide ((q : Int) < (n : Int)) = false := decide_eq_false (by omega)
      have d1' : decide (q < n) = false := decide_eq_false hlt
      obtain rfl : q = n := by omega
      have s1 : wr.cell? ⟨w3.heap.size, 1, none⟩ = some (.slice none 0 0) := HR.out.2.1.cell 1
      have s2 : wr.cell? ⟨w3.heap.size, 2, none⟩ = some (.int .i64 1) := HR.out.2.1.cell 2
      have s3 : wr.cell? ⟨w3.heap.size, 3, none⟩ = some (.int .i64 1) := HR.out.2.1.cell 3
      have s4 : wr.cell? ⟨w3.heap.size, 4, none⟩ = some (.int .i64 0) := HR.out.2.1.cell 4
      have s5 : wr.cell? ⟨w3.heap.size, 5, none⟩ = some (.int .i64 0) := HR.out.2.1.cell 5
      have HC1r := Lib.hid (HC1.out.ext HR.out.1)
      have r0 : wr.cell? ⟨w.heap.size + 1, 0, none⟩ = some (.slice none 0 0) := HC1r.out.cell 0
      have r1 : wr.cell? ⟨w.heap.size + 1, 1, none⟩ = some (.slice none 0 0) := HC1r.out.cell 1
      have r2 : wr.cell? ⟨w.heap.size + 1, 2, none⟩ = some (.int .i64 0) := HC1r.out.cell 2
      have r3 : wr.cell? ⟨w.heap.size + 1, 3, none⟩ = some (.int .i64 0) := HC1r.out.cell 3
      have r4 : wr.cell? ⟨w.heap.size + 1, 4, none⟩ = some (.int .i64 0) := HC1r.out.cell 4
      have r5 : wr.cell? ⟨w.heap.size + 1, 5, none⟩ = some (.int .i64 0) := HC1r.out.cell 5
      have g0 : wr.frozen? ⟨w.heap.size + 1, 0, none⟩ = false := HC1r.out.frozen 0
      have g1 : wr.frozen? ⟨w.heap.size + 1, 1, none⟩ = false := HC1r.out.frozen 1
      have g2 : wr.frozen? ⟨w.heap.size + 1, 2, none⟩ = false := HC1r.out.frozen 2
      have g3 : wr.frozen? ⟨w.heap.size + 1, 3, none⟩ = false := HC1r.out.frozen 3
      have g4 : wr.frozen? ⟨w.heap.size + 1, 4, none⟩ = false := HC1r.out.frozen 4
      have g5 : wr.frozen? ⟨w.heap.size + 1, 5, none⟩ = false := HC1r.out.frozen 5
      have hl1 : w.heap.size + 1 < w1.heap.size := HC1.out.lt
      go_wp2
      have hq' := (((((PB.start HC1r.out).set 0 (.slice (some ⟨w1.heap.size, 0, none⟩) q q)).set 1 (.slice none 0 0)).set 2 (.int .i64 1)).set 3 (.int .i64 1)).set 4 (.int .i64 0)
      replace hq' := hq'.set 5 (.int .i64 0)
      simp only [List.setIfInBounds_toArray, List.set_cons_zero, List.set_cons_succ] at hq'
      have hrow := HR.out.2.2
      rw [newK_all] at hrow
      rw [HN.out]
      refine bodyPost_ret (results_cell_row rfl _ _ (w.heap.size + 1) 30 _ (0, 0) _ rfl hq'.blk rfl rfl (by kernel_rfl)) rfl ⟨.slice (some ⟨w1.heap.size, 0, none⟩) q q, .slice none 0 0, rfl, ⟨?_, RdS.own (World.ownsRow_nil _ 0 52 12)⟩, hq'.below _ _ (HXW.out.trans HR.out.1) (Nat.le_succ _), fun k hk => ?_⟩
      rotate_left
      · have := HXW.out.size
        rcases hk with hk | hk
        · cases hk
          exact this
        · cases hk
      have hown := own_at hrow (w' := _) (fun k hk => hq'.same k (by cases hk; show w1.heap.size ≠ w.heap.size + 1; omega))
      have := RdS.own hown
      unfold RdNd
      rw [show (newS q).nodes = List.replicate q newN from rfl, List.length_replicate]
      exact this

end Go.Proofs.YtddhbokknbmdfaaDoor

/- Layer 9, the statements: what all of them ask first. -/
namespace Go.Proofs.YtddhbokknbmdfaaDoor
open Go.RowKit

theorem RdS.at_ {K : Nat} {w w' : World} {v : Value} {n : Nat} {xs : List Value} (h : RdS K w v n xs) (hs : w.heap.size ≤ w'.heap.size) (hk : ∀ k, v.ownBlock = some k → w'.heap[k]? = w.heap[k]?) : RdS K w' v n xs := by
  obtain ⟨h0, A, c, e, h1, h2, h3⟩ := h
  refine ⟨h0, A, c, e, h1, h2, fun hn => ?_⟩
  obtain ⟨b, o, hA, hlt, hc⟩ := h3 hn
  refine ⟨b, o, hA, Nat.lt_of_lt_of_le hlt hs, fun j u hu => ?_⟩
  have := hk b (by rw [e, hA]; rfl)
  exact (World.cell?_of_block (a := ⟨b, o + j, none⟩) this).trans (hc j u hu)
theorem st_set {w : World} {g : Nat} (vn vj : Value) (a b c d : Int) (hb : Blk w g 30 #[.slice none 0 0, .slice none 0 0, .int .i64 0, .int .i64 0, .int .i64 0, .int .i64 0]) :
    PB w g 30 ((((((w.setCell ⟨g, 0, none⟩ vn).setCell ⟨g, 1, none⟩ vj).setCell ⟨g, 2, none⟩ (.int .i64 a)).setCell ⟨g, 3, none⟩ (.int .i64 b)).setCell ⟨g, 4, none⟩ (.int .i64 c)).setCell ⟨g, 5, none⟩ (.int .i64 d)) #[vn, vj, .int .i64 a, .int .i64 b, .int .i64 c, .int .i64 d] := by
  have h := PB.start hb
  replace h := h.set 0 vn
  replace h := h.set 1 vj
  replace h := h.set 2 (.int .i64 a)
  replace h := h.set 3 (.int .i64 b)
  replace h := h.set 4 (.int .i64 c)
  replace h := h.set 5 (.int .i64 d)
  simp only [List.setIfInBounds_toArray, List.set_cons_zero, List.set_cons_succ] at h
  exact h

theorem ex_right0' : RightP exC ⟨[newN, newN], [], 1, 1, 0, 0⟩ := by
  have := ex_right0
  rw [ex_first] at this
  exact this
theorem ex_one' : applyS exC ⟨[newN, newN], [], 1, 1, 0, 0⟩ exO1 = (exS1, 0) := by
  have := ex_one
  rw [ex_first] at this
  exact this
def exS0 : St := ⟨[newN, newN], [], 1, 1, 0, 0⟩
theorem exC_new : newSt exC = newS exC.nodes.toNat := by rw [newSt, if_pos ex_may]
/-- An op that is done to a state that may be. -/
theorem Apply_at {c : Cf} {vn vj : Value} {s : St} {o : OpN} {r : Res9} {w : World} (h : RdSt w vn vj s) (hL : Laid w) (hR : RightP c s) (he : applyS c s o = r) :
    Calls Tryd.prog 9 #[cfV c, stV vn vj s, opV o] w fun e w' => ∃ vn' vj', e = .returned (.tuple #[stV vn' vj' r.1, .int .i64 r.2]) ∧ RdSt w' vn' vj' r.1 ∧ Ext w w' ∧ ∀ k, vn'.ownBlock = some k ∨ vj'.ownBlock = some k → w.heap.size ≤ k := by
  refine (Apply_any c vn vj s o w h hL).mono ?_
  rintro e w' ⟨vn', vj', s', er, rfl, hr, hx, hy, -, hk⟩
  have h1 := (hy hR).trans he
  subst h1
  exact ⟨vn', vj', rfl, hr, hx, hk⟩
theorem Right_at {c : Cf} {vn vj : Value} {s : St} {w : World} (h : RdSt w vn vj s) (hR : RightP c s) :
    Calls Tryd.prog 22 #[cfV c, stV vn vj s] w fun e w' => e = .returned (.bool true) ∧ Ext w w' := by
  refine (RightS_any c vn vj s w h.nodes h.jobs).mono ?_
  rintro e w' ⟨b, rfl, hb, hx⟩
  rw [hb.2 hR]
  exact ⟨rfl, hx⟩

theorem held_two {P : Program} {l : List Oper} {Q : Exit → Act → World → Prop} {md : Region.Mode} {S : World → Prop} {i j : Nat} {oi oj : Oper} {fuel : Nat} {listed : Array Bool} {a : Act} {w : World} (hr : Region.ready md l.toArray listed = [i, j]) (hi : l[i]? = some oi) (hj : l[j]? = some oj)
    (h1 : ∀ K : Act → World → Prop, (∀ a' w', S w' → (S w' → wpAnyH P md l.toArray (NoPanic Q) S fuel (listed.setIfInBounds i true) a' w') → K a' w') →
      if Region.wanted oi (yielded l.toArray a.tmps) = true then Oper.wp P oi a w K (NoPanic Q) else K (a.put oi.dst undef) w)
    (h2 : ∀ K : Act → World → Prop, (∀ a' w', S w' → (S w' → wpAnyH P md l.toArray (NoPanic Q) S fuel (listed.setIfInBounds j true) a' w') → K a' w') →
      if Region.wanted oj (yielded l.toArray a.tmps) = true then Oper.wp P oj a w K (NoPanic Q) else K (a.put oj.dst undef) w) : wpAnyH P md l.toArray (NoPanic Q) S (fuel + 1) listed a w := by
  refine wpAnyH_all hr (by simp) (fun k hk => ?_)
  simp only [List.mem_cons, List.not_mem_nil, or_false] at hk
  rcases hk with rfl | rfl
  · have e : l.toArray[k]? = some oi := by simpa using hi
    exact wpOp_step e (fun K hK => h1 K (fun a' w' h1 h2 => hK a' w' ⟨h1, h2 h1⟩))
  · have e : l.toArray[k]? = some oj := by simpa using hj
    exact wpOp_step e (fun K hK => h2 K (fun a' w' h1 h2 => hK a' w' ⟨h1, h2 h1⟩))

set_option maxRecDepth 100000 in
set_option maxHeartbeats 8000000 in
theorem alive9_any (w : World) (hL : Laid w) :
    Calls Tryd.prog 5 #[] w fun e w' => e = .returned (.bool true) ∧ Ext w w' := by
  have HNW : Hid (∀ W, Calls Tryd.prog 7 #[.agg #[.int .i64 2, .int .i64 1, .int .i64 1, .int .i64 1, .int .i64 3, .int .i64 1, .int .i64 5, .int .i64 0, .int .i64 2000]] W fun e w' => ∃ vn' vj', e = .returned (.agg #[vn', vj', .int .i64 1, .int .i64 1, .int .i64 0, .int .i64 0]) ∧ RdSt w' vn' vj' exS0 ∧ Ext W w' ∧ ∀ k, vn'.ownBlock = some k ∨ vj'.ownBlock = some k → W.heap.size ≤ k) := Lib.hid fun W => by
    have := New_any exC W
    rw [exC_new, ex_first] at this
    exact this
  have HA1 : Hid (∀ W vn vj, Ext w W → RdSt W vn vj exS0 → Calls Tryd.prog 9 #[.agg #[.int .i64 2, .int .i64 1, .int .i64 1, .int .i64 1, .int .i64 3, .int .i64 1, .int .i64 5, .int .i64 0, .int .i64 2000], .agg #[vn, vj, .int .i64 1, .int .i64 1, .int .i64 0, .int .i64 0], .agg #[.int .i64 1, .int .i64 0, .int .i64 0, .int .i64 2, .int .i64 2, .int .i64 1, .int .i64 0]] W fun e w' => ∃ vn' vj', e = .returned (.tuple #[.agg #[vn', vj', .int .i64 1, .int .i64 1, .int .i64 0, .int .i64 0], .int .i64 0]) ∧ RdSt w' vn' vj' exS1 ∧ Ext W w' ∧ ∀ k, vn'.ownBlock = some k ∨ vj'.ownBlock = some k → W.heap.size ≤ k) := Lib.hid fun W vn vj hx h => Apply_at (c := exC) (s := exS0) (o := exO1) (r := (exS1, 0)) h (hL.ext hx) ex_right0' ex_one'
  have HA2 : Hid (∀ W vn vj, Ext w W → RdSt W vn vj exS1 → Calls Tryd.prog 9 #[.agg #[.int .i64 2, .int .i64 1, .int .i64 1, .int .i64 1, .int .i64 3, .int .i64 1, .int .i64 5, .int .i64 0, .int .i64 2000], .agg #[vn, vj, .int .i64 1, .int .i64 1, .int .i64 0, .int .i64 0], .agg #[.int .i64 9, .int .i64 1, .int .i64 3, .int .i64 0, .int .i64 0, .int .i64 0, .int .i64 0]] W fun e w' => ∃ vn' vj', e = .returned (.tuple #[.agg #[vn', vj', .int .i64 1, .int .i64 1, .int .i64 0, .int .i64 0], .int .i64 0]) ∧ RdSt w' vn' vj' exS2 ∧ Ext W w' ∧ ∀ k, vn'.ownBlock = some k ∨ vj'.ownBlock = some k → W.heap.size ≤ k) := Lib.hid fun W vn vj hx h => Apply_at (c := exC) (s := exS1) (o := exO2) (r := (exS2, 0)) h (hL.ext hx) ex_right1 ex_two
  have HA3 : Hid (∀ W vn vj, Ext w W → RdSt W vn vj exS2 → Calls Tryd.prog 9 #[.agg #[.int .i64 2, .int .i64 1, .int .i64 1, .int .i64 1, .int .i64 3, .int .i64 1, .int .i64 5, .int .i64 0, .int .i64 2000], .agg #[vn, vj, .int .i64 1, .int .i64 1, .int .i64 0, .int .i64 0], .agg #[.int .i64 9, .int .i64 1, .int .i64 3, .int .i64 0, .int .i64 0, .int .i64 0, .int .i64 0]] W fun e w' => ∃ vn' vj', e = .returned (.tuple #[.agg #[vn', vj', .int .i64 1, .int .i64 1, .int .i64 0, .int .i64 0], .int .i64 5]) ∧ RdSt w' vn' vj' exS2 ∧ Ext W w' ∧ ∀ k, vn'.ownBlock = some k ∨ vj'.ownBlock = some k → W.heap.size ≤ k) := Lib.hid fun W vn vj hx h => Apply_at (c := exC) (s := exS2) (o := exO2) (r := (exS2, 5)) h (hL.ext hx) ex_right2 ex_three
  have HRT : Hid (∀ W vn vj, RdSt W vn vj exS2 → Calls Tryd.prog 22 #[.agg #[.int .i64 2, .int .i64 1, .int .i64 1, .int .i64 1, .int .i64 3, .int .i64 1, .int .i64 5, .int .i64 0, .int .i64 2000], .agg #[vn, vj, .int .i64 1, .int .i64 1, .int .i64 0, .int .i64 0]] W fun e w' => e = .returned (.bool true) ∧ Ext W w') := Lib.hid fun W vn vj h => Right_at (c := exC) (s := exS2) h ex_right2
  have HMY : Hid (∀ W, Calls Tryd.prog 23 #[.agg #[.int .i64 2, .int .i64 1, .int .i64 1, .int .i64 1, .int .i64 3, .int .i64 1, .int .i64 5, .int .i64 0, .int .i64 2000]] W fun e w' => e = .returned (.bool true) ∧ Ext W w') := Lib.hid fun W => by
    have := May_any exC W
    rw [ex_may] at this
    exact this
  have HME : Hid (∀ W vn vj, Calls Tryd.prog 12 #[.agg #[vn, vj, .int .i64 1, .int .i64 1, .int .i64 0, .int .i64 0]] W fun e w' => e = .returned (.int .i64 1) ∧ Ext W w') := Lib.hid fun W vn vj => Meant_any vn vj exS2 W
  have HFR : Hid (∀ W, Calls Tryd.prog 17 #[.agg #[.bool true, .bool false, .bool false, .int .i64 1, .int .i64 0]] W fun e w' => e = .returned (.bool true) ∧ Ext W w') := Lib.hid fun W => Free_any newN W
  have HDR : Hid (∀ W vn vj, RdSt W vn vj exS2 → Calls Tryd.prog 14 #[.agg #[vn, vj, .int .i64 1, .int .i64 1, .int .i64 0, .int .i64 0], .int .i64 0] W fun e w' => e = .returned (.int .i64 0) ∧ Ext W w') := Lib.hid fun W vn vj h => Drains_any vn vj exS2 0 W h.jobs
  have HCP : Hid (∀ W vn vj, RdSt W vn vj exS2 → Calls Tryd.prog 16 #[.agg #[vn, vj, .int .i64 1, .int .i64 1, .int .i64 0, .int .i64 0]] W fun e w' => ∃ vn' vj', e = .returned (.agg #[vn', vj', .int .i64 1, .int .i64 1, .int .i64 0, .int .i64 0]) ∧ OwnSt W.heap.size 45 52 w' vn' vj' exS2 ∧ Ext W w') := Lib.hid fun W vn vj h => Copy_any vn vj exS2 W h (by decide) (by decide)
  obtain ⟨W1, hW1⟩ : ∃ W1, W1 = w.alloc (.cells #[.int .i64 2, .int .i64 1, .int .i64 1, .int .i64 1, .int .i64 3, .int .i64 1, .int .i64 5, .int .i64 0, .int .i64 2000] 23) := ⟨_, rfl⟩
  have hx1 : Ext w W1 := by rw [hW1]; exact (Below.refl _ _).alloc (Nat.le_refl _) _
  have hcb : Blk W1 w.heap.size 23 #[.int .i64 2, .int .i64 1, .int .i64 1, .int .i64 1, .int .i64 3, .int .i64 1, .int .i64 5, .int .i64 0, .int .i64 2000] := by rw [hW1]; exact Blk.new _ _ _
  have hlw : w.heap.size < W1.heap.size := hcb.lt
  have HX1 := Lib.hid hx1
  have HCB := Lib.hid hcb
  have b0 : W1.cell? ⟨w.heap.size, 0, none⟩ = some (.int .i64 2) := hcb.cell 0
  have b1 : W1.cell? ⟨w.heap.size, 1, none⟩ = some (.int .i64 1) := hcb.cell 1
  have b2 : W1.cell? ⟨w.heap.size, 2, none⟩ = some (.int .i64 1) := hcb.cell 2
  have b3 : W1.cell? ⟨w.heap.size, 3, none⟩ = some (.int .i64 1) := hcb.cell 3
  have b4 : W1.cell? ⟨w.heap.size, 4, none⟩ = some (.int .i64 3) := hcb.cell 4
  have b5 : W1.cell? ⟨w.heap.size, 5, none⟩ = some (.int .i64 1) := hcb.cell 5
  have b6 : W1.cell? ⟨w.heap.size, 6, none⟩ = some (.int .i64 5) := hcb.cell 6
  have b7 : W1.cell? ⟨w.heap.size, 7, none⟩ = some (.int .i64 0) := hcb.cell 7
  have b8 : W1.cell? ⟨w.heap.size, 8, none⟩ = some (.int .i64 2000) := hcb.cell 8
  have HSC : Hid (∀ W, Ext W1 W → (fun (W : World) => W.cell? ⟨w.heap.size, 0, none⟩ = some (.int .i64 2) ∧ W.cell? ⟨w.heap.size, 1, none⟩ = some (.int .i64 1) ∧ W.cell? ⟨w.heap.size, 2, none⟩ = some (.int .i64 1) ∧ W.cell? ⟨w.heap.size, 3, none⟩ = some (.int .i64 1) ∧ W.cell? ⟨w.heap.size, 4, none⟩ = some (.int .i64 3) ∧ W.cell? ⟨w.heap.size, 5, none⟩ = some (.int .i64 1) ∧ W.cell? ⟨w.heap.size, 6, none⟩ = some (.int .i64 5) ∧ W.cell? ⟨w.heap.size, 7, none⟩ = some (.int .i64 0) ∧ W.cell? ⟨w.heap.size, 8, none⟩ = some (.int .i64 2000)) W) := Lib.hid fun W hx => ⟨(HCB.out.ext hx).cell 0, (HCB.out.ext hx).cell 1, (HCB.out.ext hx).cell 2, (HCB.out.ext hx).cell 3, (HCB.out.ext hx).cell 4, (HCB.out.ext hx).cell 5, (HCB.out.ext hx).cell 6, (HCB.out.ext hx).cell 7, (HCB.out.ext hx).cell 8⟩
  clear hx1 hcb hL b0 b1 b2 b3 b4 b5 b6 b7 b8
  go_enter Tryd.func5, Tryd.ntmps5
  go_upto_region 2 with (fail)
  rw [← hW1]
  clear hW1
  go_cut [2, 3] from 4 (fun p er wx => ∃ (A : Nat) (vn vj : Value), p = .pointer (some ⟨A, 0, none⟩) ∧ er = .int .i64 0 ∧ Hid (Ext W1 wx ∧ Blk wx A 30 #[vn, vj, .int .i64 1, .int .i64 1, .int .i64 0, .int .i64 0] ∧ RdSt wx vn vj exS1))
  case first =>
    refine held_begin (by kernel_rfl) ?_
    have hHeld0 : True := True.intro
    refine held_more (S' := fun (W : World) => W.cell? ⟨w.heap.size, 0, none⟩ = some (.int .i64 2) ∧ W.cell? ⟨w.heap.size, 1, none⟩ = some (.int .i64 1) ∧ W.cell? ⟨w.heap.size, 2, none⟩ = some (.int .i64 1) ∧ W.cell? ⟨w.heap.size, 3, none⟩ = some (.int .i64 1) ∧ W.cell? ⟨w.heap.size, 4, none⟩ = some (.int .i64 3) ∧ W.cell? ⟨w.heap.size, 5, none⟩ = some (.int .i64 1) ∧ W.cell? ⟨w.heap.size, 6, none⟩ = some (.int .i64 5) ∧ W.cell? ⟨w.heap.size, 7, none⟩ = some (.int .i64 0) ∧ W.cell? ⟨w.heap.size, 8, none⟩ = some (.int .i64 2000)) (fun _ _ => True.intro) ?_
    have hHeld1 : (fun (W : World) => W.cell? ⟨w.heap.size, 0, none⟩ = some (.int .i64 2) ∧ W.cell? ⟨w.heap.size, 1, none⟩ = some (.int .i64 1) ∧ W.cell? ⟨w.heap.size, 2, none⟩ = some (.int .i64 1) ∧ W.cell? ⟨w.heap.size, 3, none⟩ = some (.int .i64 1) ∧ W.cell? ⟨w.heap.size, 4, none⟩ = some (.int .i64 3) ∧ W.cell? ⟨w.heap.size, 5, none⟩ = some (.int .i64 1) ∧ W.cell? ⟨w.heap.size, 6, none⟩ = some (.int .i64 5) ∧ W.cell? ⟨w.heap.size, 7, none⟩ = some (.int .i64 0) ∧ W.cell? ⟨w.heap.size, 8, none⟩ = some (.int .i64 2000)) _ := HSC.out _ (ext_drew9 (Ext.refl _))
    clear hHeld0
    refine held_take (i := 0) (v := ?_) rfl (by kernel_rfl) (by kernel_rfl) (by kernel_rfl) (by rfl) (by first | assumption | exact True.intro) ?_ ?_
    rotate_left
    · (intro w hSw; (try dsimp only at hSw); go_simp; (try with_reducible rfl))
    try simp only [Act.put, List.setIfInBounds_toArray, List.set_cons_zero, List.set_cons_succ]
    refine held_take (i := 1) (v := ?_) rfl (by kernel_rfl) (by kernel_rfl) (by kernel_rfl) (by rfl) (by first | assumption | exact True.intro) ?_ ?_
    rotate_left
    · (intro w hSw; (try dsimp only at hSw); go_simp; (try with_reducible rfl))
    try simp only [Act.put, List.setIfInBounds_toArray, List.set_cons_zero, List.set_cons_succ]
    refine held_take (i := 3) (v := ?_) rfl (by kernel_rfl) (by kernel_rfl) (by kernel_rfl) (by rfl) (by first | assumption | exact True.intro) ?_ ?_
    rotate_left
    · (intro w hSw; (try dsimp only at hSw); go_simp; (try with_reducible rfl))
    try simp only [Act.put, List.setIfInBounds_toArray, List.set_cons_zero, List.set_cons_succ]
    refine held_two (i := 2) (j := 8) (by kernel_rfl) rfl rfl (fun K hK => ?_) (fun K hK => ?_)
    · go_simp
      go_at_call 7
      (with_reducible refine (HNW.out _).mono ?_)
      rintro e2 w2 ⟨vn2, vj2, rfl, hr2, hx2, -⟩
      have hx12 : Ext W1 w2 := by first | exact hx2 | exact Ext.of_drew hx2 | exact Ext.trans (Below.alloc (Ext.refl _) (Nat.le_refl _) _) hx2 | exact Ext.trans (Below.alloc (ext_drew9 (Ext.refl _)) (Nat.le_refl _) _) hx2 | exact Ext.trans (ext_drew9 (Below.alloc (Ext.refl _) (Nat.le_refl _) _)) hx2
      refine hK _ _ ?_ (fun hHeld2 => ?_)
      · exact HSC.out _ hx12
      clear hK K hHeld1
      try simp only [Act.put, List.setIfInBounds_toArray, List.set_cons_zero, List.set_cons_succ]
      refine held_two (i := 4) (j := 8) (by kernel_rfl) rfl rfl (fun K hK => ?_) (fun K hK => ?_)
      · go_simp
        go_at_call 9
        (refine (HA1.out _ _ _ (Ext.trans HX1.out (Ext.trans hx12 (by first | exact Ext.refl _ | exact ext_drew9 (Ext.refl _) | exact Below.alloc (Ext.refl _) (Nat.le_refl _) _ | exact Below.alloc (ext_drew9 (Ext.refl _)) (Nat.le_refl _) _ | exact ext_drew9 (Below.alloc (Ext.refl _) (Nat.le_refl _) _)))) (hr2.ext (by first | exact Ext.refl _ | exact ext_drew9 (Ext.refl _) | exact Below.alloc (Ext.refl _) (Nat.le_refl _) _ | exact Below.alloc (ext_drew9 (Ext.refl _)) (Nat.le_refl _) _ | exact ext_drew9 (Below.alloc (Ext.refl _) (Nat.le_refl _) _)))).mono ?_)
        rintro e3 w3 ⟨vn3, vj3, rfl, hr3, hx3, hf3⟩
        obtain ⟨A3, c3, rfl, -, -⟩ := hr3.nodes.slice_
        obtain ⟨B3, k3, rfl, -, -⟩ := hr3.jobs.slice_
        have hx23 : Ext w2 w3 := by first | exact hx3 | exact Ext.of_drew hx3 | exact Ext.trans (Below.alloc (Ext.refl _) (Nat.le_refl _) _) hx3 | exact Ext.trans (Below.alloc (ext_drew9 (Ext.refl _)) (Nat.le_refl _) _) hx3 | exact Ext.trans (ext_drew9 (Below.alloc (Ext.refl _) (Nat.le_refl _) _)) hx3
        refine hK _ _ ?_ (fun hHeld3 => ?_)
        · exact HSC.out _ (Ext.trans hx12 hx23)
        clear hK K hHeld2
        try simp only [Act.put, List.setIfInBounds_toArray, List.set_cons_zero, List.set_cons_succ]
        refine held_take (i := 5) (v := ?_) rfl (by kernel_rfl) (by kernel_rfl) (by kernel_rfl) (by rfl) (by first | assumption | exact True.intro) ?_ ?_
        rotate_left
        · (intro w hSw; (try dsimp only at hSw); go_simp; (try with_reducible rfl))
        try simp only [Act.put, List.setIfInBounds_toArray, List.set_cons_zero, List.set_cons_succ]
        refine held_take (i := 6) (v := ?_) rfl (by kernel_rfl) (by kernel_rfl) (by kernel_rfl) (by rfl) (by first | assumption | exact True.intro) ?_ ?_
        rotate_left
        · (intro w hSw; (try dsimp only at hSw); go_simp; (try with_reducible rfl))
        try simp only [Act.put, List.setIfInBounds_toArray, List.set_cons_zero, List.set_cons_succ]
        refine held_take (i := 7) (v := ?_) rfl (by kernel_rfl) (by kernel_rfl) (by kernel_rfl) (by rfl) (by first | assumption | exact True.intro) ?_ ?_
        rotate_left
        · (intro w hSw; (try dsimp only at hSw); go_simp; (try with_reducible rfl))
        try simp only [Act.put, List.setIfInBounds_toArray, List.set_cons_zero, List.set_cons_succ]
        refine held_op (i := 8) (by kernel_rfl) rfl (fun K hK => ?_)
        go_simp
        refine hK _ _ ?_ (fun hHeld4 => ?_)
        · exact HSC.out _ (Ext.trans hx12 (Ext.trans hx23 (by first | exact Ext.refl _ | exact ext_drew9 (Ext.refl _) | exact Below.alloc (Ext.refl _) (Nat.le_refl _) _ | exact Below.alloc (ext_drew9 (Ext.refl _)) (Nat.le_refl _) _ | exact ext_drew9 (Below.alloc (Ext.refl _) (Nat.le_refl _) _))))
        clear hK K hHeld3
        try simp only [Act.put, List.setIfInBounds_toArray, List.set_cons_zero, List.set_cons_succ]
        refine held_op (i := 9) (by kernel_rfl) rfl (fun K hK => ?_)
        go_simp
        refine hK _ _ ?_ (fun hHeld5 => ?_)
        · exact HSC.out _ (Ext.trans hx12 (Ext.trans hx23 (by first | exact Ext.refl _ | exact ext_drew9 (Ext.refl _) | exact Below.alloc (Ext.refl _) (Nat.le_refl _) _ | exact Below.alloc (ext_drew9 (Ext.refl _)) (Nat.le_refl _) _ | exact ext_drew9 (Below.alloc (Ext.refl _) (Nat.le_refl _) _))))
        clear hK K hHeld4
        try simp only [Act.put, List.setIfInBounds_toArray, List.set_cons_zero, List.set_cons_succ]
        refine held_take (i := 10) (v := ?_) rfl (by kernel_rfl) (by kernel_rfl) (by kernel_rfl) (by rfl) (by first | assumption | exact True.intro) ?_ ?_
        rotate_left
        · (intro w hSw; (try dsimp only at hSw); go_simp; (try with_reducible rfl))
        try simp only [Act.put, List.setIfInBounds_toArray, List.set_cons_zero, List.set_cons_succ]
        refine wpAnyH_done (by kernel_rfl) ?_ _
        refine NoPanic.normal ?_
        clear hHeld5
        go_wp2_with fail
        go_meet
        exact ⟨w3.heap.size, _, _, rfl, rfl, Lib.hid ⟨Ext.trans hx12 (Ext.trans hx23 (by first | exact Ext.refl _ | exact ext_drew9 (Ext.refl _) | exact Below.alloc (Ext.refl _) (Nat.le_refl _) _ | exact Below.alloc (ext_drew9 (Ext.refl _)) (Nat.le_refl _) _ | exact ext_drew9 (Below.alloc (Ext.refl _) (Nat.le_refl _) _))), Blk.new _ _ _, hr3.ext (by first | exact Ext.refl _ | exact ext_drew9 (Ext.refl _) | exact Below.alloc (Ext.refl _) (Nat.le_refl _) _ | exact Below.alloc (ext_drew9 (Ext.refl _)) (Nat.le_refl _) _ | exact ext_drew9 (Below.alloc (Ext.refl _) (Nat.le_refl _) _))⟩⟩
      · go_simp
        refine hK _ _ ?_ (fun hHeld3 => ?_)
        · exact HSC.out _ (Ext.trans hx12 (by first | exact Ext.refl _ | exact ext_drew9 (Ext.refl _) | exact Below.alloc (Ext.refl _) (Nat.le_refl _) _ | exact Below.alloc (ext_drew9 (Ext.refl _)) (Nat.le_refl _) _ | exact ext_drew9 (Below.alloc (Ext.refl _) (Nat.le_refl _) _)))
        clear hK K hHeld2
        try simp only [Act.put, List.setIfInBounds_toArray, List.set_cons_zero, List.set_cons_succ]
        refine held_op (i := 4) (by kernel_rfl) rfl (fun K hK => ?_)
        go_simp
        go_at_call 9
        (refine (HA1.out _ _ _ (Ext.trans HX1.out (Ext.trans hx12 (by first | exact Ext.refl _ | exact ext_drew9 (Ext.refl _) | exact Below.alloc (Ext.refl _) (Nat.le_refl _) _ | exact Below.alloc (ext_drew9 (Ext.refl _)) (Nat.le_refl _) _ | exact ext_drew9 (Below.alloc (Ext.refl _) (Nat.le_refl _) _)))) (hr2.ext (by first | exact Ext.refl _ | exact ext_drew9 (Ext.refl _) | exact Below.alloc (Ext.refl _) (Nat.le_refl _) _ | exact Below.alloc (ext_drew9 (Ext.refl _)) (Nat.le_refl _) _ | exact ext_drew9 (Below.alloc (Ext.refl _) (Nat.le_refl _) _)))).mono ?_)
        rintro e3 w3 ⟨vn3, vj3, rfl, hr3, hx3, hf3⟩
        obtain ⟨A3, c3, rfl, -, -⟩ := hr3.nodes.slice_
        obtain ⟨B3, k3, rfl, -, -⟩ := hr3.jobs.slice_
        have hx23 : Ext w2 w3 := by first | exact hx3 | exact Ext.of_drew hx3 | exact Ext.trans (Below.alloc (Ext.refl _) (Nat.le_refl _) _) hx3 | exact Ext.trans (Below.alloc (ext_drew9 (Ext.refl _)) (Nat.le_refl _) _) hx3 | exact Ext.trans (ext_drew9 (Below.alloc (Ext.refl _) (Nat.le_refl _) _)) hx3
        refine hK _ _ ?_ (fun hHeld4 => ?_)
        · exact HSC.out _ (Ext.trans hx12 hx23)
        clear hK K hHeld3
        try simp only [Act.put, List.setIfInBounds_toArray, List.set_cons_zero, List.set_cons_succ]
        have qb : Blk w3 w2.heap.size 30 #[.slice none 0 0, .slice none 0 0, .int .i64 0, .int .i64 0, .int .i64 0, .int .i64 0] := Blk.ext (by first | exact Blk.new w2 _ _ | exact Blk.new w2.drew _ _) hx3
        have qbz0 : w3.cell? ⟨w2.heap.size, 0, none⟩ = some (.slice none 0 0) := qb.cell 0
        have qbf0 : w3.frozen? ⟨w2.heap.size, 0, none⟩ = false := qb.frozen 0
        have qbz1 : w3.cell? ⟨w2.heap.size, 1, none⟩ = some (.slice none 0 0) := qb.cell 1
        have qbf1 : w3.frozen? ⟨w2.heap.size, 1, none⟩ = false := qb.frozen 1
        have qbz2 : w3.cell? ⟨w2.heap.size, 2, none⟩ = some (.int .i64 0) := qb.cell 2
        have qbf2 : w3.frozen? ⟨w2.heap.size, 2, none⟩ = false := qb.frozen 2
        have qbz3 : w3.cell? ⟨w2.heap.size, 3, none⟩ = some (.int .i64 0) := qb.cell 3
        have qbf3 : w3.frozen? ⟨w2.heap.size, 3, none⟩ = false := qb.frozen 3
        have qbz4 : w3.cell? ⟨w2.heap.size, 4, none⟩ = some (.int .i64 0) := qb.cell 4
        have qbf4 : w3.frozen? ⟨w2.heap.size, 4, none⟩ = false := qb.frozen 4
        have qbz5 : w3.cell? ⟨w2.heap.size, 5, none⟩ = some (.int .i64 0) := qb.cell 5
        have qbf5 : w3.frozen? ⟨w2.heap.size, 5, none⟩ = false := qb.frozen 5
        have hq := st_set (.slice A3 exS1.nodes.length c3) (.slice B3 exS1.jobs.length k3) 1 1 0 0 qb
        have hl12 := hx12.size
        refine held_take (i := 5) (v := ?_) rfl (by kernel_rfl) (by kernel_rfl) (by kernel_rfl) (by rfl) (by first | assumption | exact True.intro) ?_ ?_
        rotate_left
        · (intro w hSw; (try dsimp only at hSw); go_simp; (try with_reducible rfl))
        try simp only [Act.put, List.setIfInBounds_toArray, List.set_cons_zero, List.set_cons_succ]
        refine held_take (i := 6) (v := ?_) rfl (by kernel_rfl) (by kernel_rfl) (by kernel_rfl) (by rfl) (by first | assumption | exact True.intro) ?_ ?_
        rotate_left
        · (intro w hSw; (try dsimp only at hSw); go_simp; (try with_reducible rfl))
        try simp only [Act.put, List.setIfInBounds_toArray, List.set_cons_zero, List.set_cons_succ]
        refine held_take (i := 7) (v := ?_) rfl (by kernel_rfl) (by kernel_rfl) (by kernel_rfl) (by rfl) (by first | assumption | exact True.intro) ?_ ?_
        rotate_left
        · (intro w hSw; (try dsimp only at hSw); go_simp; (try with_reducible rfl))
        try simp only [Act.put, List.setIfInBounds_toArray, List.set_cons_zero, List.set_cons_succ]
        refine held_op (i := 9) (by kernel_rfl) rfl (fun K hK => ?_)
        go_simp
        refine hK _ _ ?_ (fun hHeld5 => ?_)
        · exact HSC.out _ (hq.below _ _ (Ext.trans hx12 hx23) hl12)
        clear hK K hHeld4
        try simp only [Act.put, List.setIfInBounds_toArray, List.set_cons_zero, List.set_cons_succ]
        refine held_take (i := 10) (v := ?_) rfl (by kernel_rfl) (by kernel_rfl) (by kernel_rfl) (by rfl) (by first | assumption | exact True.intro) ?_ ?_
        rotate_left
        · (intro w hSw; (try dsimp only at hSw); go_simp; (try with_reducible rfl))
        try simp only [Act.put, List.setIfInBounds_toArray, List.set_cons_zero, List.set_cons_succ]
        refine wpAnyH_done (by kernel_rfl) ?_ _
        refine NoPanic.normal ?_
        clear hHeld5
        go_wp2_with fail
        go_meet
        have hne : ∀ k, (Value.slice A3 exS1.nodes.length c3).ownBlock = some k ∨ (Value.slice B3 exS1.jobs.length k3).ownBlock = some k → k ≠ w2.heap.size := fun k hk e => by
          have := hf3 k hk
          (try simp at this)
          omega
        exact ⟨w2.heap.size, _, _, rfl, rfl, Lib.hid ⟨hq.below _ _ (Ext.trans hx12 hx23) hl12, hq.blk, ⟨RdS.at_ hr3.nodes (by rw [hq.size]; exact Nat.le_refl _) fun k hk => hq.same k (hne k (.inl hk)), RdS.at_ hr3.jobs (by rw [hq.size]; exact Nat.le_refl _) fun k hk => hq.same k (hne k (.inr hk))⟩⟩⟩
    · go_simp
      refine hK _ _ ?_ (fun hHeld2 => ?_)
      · exact HSC.out _ (by first | exact Ext.refl _ | exact ext_drew9 (Ext.refl _) | exact Below.alloc (Ext.refl _) (Nat.le_refl _) _ | exact Below.alloc (ext_drew9 (Ext.refl _)) (Nat.le_refl _) _ | exact ext_drew9 (Below.alloc (Ext.refl _) (Nat.le_refl _) _))
      clear hK K hHeld1
      try simp only [Act.put, List.setIfInBounds_toArray, List.set_cons_zero, List.set_cons_succ]
      refine held_op (i := 2) (by kernel_rfl) rfl (fun K hK => ?_)
      go_simp
      go_at_call 7
      (with_reducible refine (HNW.out _).mono ?_)
      rintro e2 w2 ⟨vn2, vj2, rfl, hr2, hx2, -⟩
      have hx12 : Ext W1 w2 := by first | exact hx2 | exact Ext.of_drew hx2 | exact Ext.trans (Below.alloc (Ext.refl _) (Nat.le_refl _) _) hx2 | exact Ext.trans (Below.alloc (ext_drew9 (Ext.refl _)) (Nat.le_refl _) _) hx2 | exact Ext.trans (ext_drew9 (Below.alloc (Ext.refl _) (Nat.le_refl _) _)) hx2
      refine hK _ _ ?_ (fun hHeld3 => ?_)
      · exact HSC.out _ hx12
      clear hK K hHeld2
      try simp only [Act.put, List.setIfInBounds_toArray, List.set_cons_zero, List.set_cons_succ]
      have pb2 : Blk w2 W1.heap.size 30 #[.slice none 0 0, .slice none 0 0, .int .i64 0, .int .i64 0, .int .i64 0, .int .i64 0] := Blk.ext (by first | exact Blk.new W1 _ _ | exact Blk.new W1.drew _ _) hx2
      have hl2 := pb2.lt
      refine held_op (i := 4) (by kernel_rfl) rfl (fun K hK => ?_)
      go_simp
      go_at_call 9
      (refine (HA1.out _ _ _ (Ext.trans HX1.out (Ext.trans hx12 (by first | exact Ext.refl _ | exact ext_drew9 (Ext.refl _) | exact Below.alloc (Ext.refl _) (Nat.le_refl _) _ | exact Below.alloc (ext_drew9 (Ext.refl _)) (Nat.le_refl _) _ | exact ext_drew9 (Below.alloc (Ext.refl _) (Nat.le_refl _) _)))) (hr2.ext (by first | exact Ext.refl _ | exact ext_drew9 (Ext.refl _) | exact Below.alloc (Ext.refl _) (Nat.le_refl _) _ | exact Below.alloc (ext_drew9 (Ext.refl _)) (Nat.le_refl _) _ | exact ext_drew9 (Below.alloc (Ext.refl _) (Nat.le_refl _) _)))).mono ?_)
      rintro e3 w3 ⟨vn3, vj3, rfl, hr3, hx3, hf3⟩
      obtain ⟨A3, c3, rfl, -, -⟩ := hr3.nodes.slice_
      obtain ⟨B3, k3, rfl, -, -⟩ := hr3.jobs.slice_
      have hx23 : Ext w2 w3 := by first | exact hx3 | exact Ext.of_drew hx3 | exact Ext.trans (Below.alloc (Ext.refl _) (Nat.le_refl _) _) hx3 | exact Ext.trans (Below.alloc (ext_drew9 (Ext.refl _)) (Nat.le_refl _) _) hx3 | exact Ext.trans (ext_drew9 (Below.alloc (Ext.refl _) (Nat.le_refl _) _)) hx3
      refine hK _ _ ?_ (fun hHeld4 => ?_)
      · exact HSC.out _ (Ext.trans hx12 hx23)
      clear hK K hHeld3
      try simp only [Act.put, List.setIfInBounds_toArray, List.set_cons_zero, List.set_cons_succ]
      have pb := pb2.ext hx23
      have pbz0 : w3.cell? ⟨W1.heap.size, 0, none⟩ = some (.slice none 0 0) := pb.cell 0
      have pbf0 : w3.frozen? ⟨W1.heap.size, 0, none⟩ = false := pb.frozen 0
      have pbz1 : w3.cell? ⟨W1.heap.size, 1, none⟩ = some (.slice none 0 0) := pb.cell 1
      have pbf1 : w3.frozen? ⟨W1.heap.size, 1, none⟩ = false := pb.frozen 1
      have pbz2 : w3.cell? ⟨W1.heap.size, 2, none⟩ = some (.int .i64 0) := pb.cell 2
      have pbf2 : w3.frozen? ⟨W1.heap.size, 2, none⟩ = false := pb.frozen 2
      have pbz3 : w3.cell? ⟨W1.heap.size, 3, none⟩ = some (.int .i64 0) := pb.cell 3
      have pbf3 : w3.frozen? ⟨W1.heap.size, 3, none⟩ = false := pb.frozen 3
      have pbz4 : w3.cell? ⟨W1.heap.size, 4, none⟩ = some (.int .i64 0) := pb.cell 4
      have pbf4 : w3.frozen? ⟨W1.heap.size, 4, none⟩ = false := pb.frozen 4
      have pbz5 : w3.cell? ⟨W1.heap.size, 5, none⟩ = some (.int .i64 0) := pb.cell 5
      have pbf5 : w3.frozen? ⟨W1.heap.size, 5, none⟩ = false := pb.frozen 5
      have hq := st_set (.slice A3 exS1.nodes.length c3) (.slice B3 exS1.jobs.length k3) 1 1 0 0 pb
      refine held_take (i := 5) (v := ?_) rfl (by kernel_rfl) (by kernel_rfl) (by kernel_rfl) (by rfl) (by first | assumption | exact True.intro) ?_ ?_
      rotate_left
      · (intro w hSw; (try dsimp only at hSw); go_simp; (try with_reducible rfl))
      try simp only [Act.put, List.setIfInBounds_toArray, List.set_cons_zero, List.set_cons_succ]
      refine held_take (i := 6) (v := ?_) rfl (by kernel_rfl) (by kernel_rfl) (by kernel_rfl) (by rfl) (by first | assumption | exact True.intro) ?_ ?_
      rotate_left
      · (intro w hSw; (try dsimp only at hSw); go_simp; (try with_reducible rfl))
      try simp only [Act.put, List.setIfInBounds_toArray, List.set_cons_zero, List.set_cons_succ]
      refine held_take (i := 7) (v := ?_) rfl (by kernel_rfl) (by kernel_rfl) (by kernel_rfl) (by rfl) (by first | assumption | exact True.intro) ?_ ?_
      rotate_left
      · (intro w hSw; (try dsimp only at hSw); go_simp; (try with_reducible rfl))
      try simp only [Act.put, List.setIfInBounds_toArray, List.set_cons_zero, List.set_cons_succ]
      refine held_op (i := 9) (by kernel_rfl) rfl (fun K hK => ?_)
      go_simp
      refine hK _ _ ?_ (fun hHeld5 => ?_)
      · exact HSC.out _ (hq.below _ _ (Ext.trans hx12 hx23) (Nat.le_refl _))
      clear hK K hHeld4
      try simp only [Act.put, List.setIfInBounds_toArray, List.set_cons_zero, List.set_cons_succ]
      refine held_take (i := 10) (v := ?_) rfl (by kernel_rfl) (by kernel_rfl) (by kernel_rfl) (by rfl) (by first | assumption | exact True.intro) ?_ ?_
      rotate_left
      · (intro w hSw; (try dsimp only at hSw); go_simp; (try with_reducible rfl))
      try simp only [Act.put, List.setIfInBounds_toArray, List.set_cons_zero, List.set_cons_succ]
      refine wpAnyH_done (by kernel_rfl) ?_ _
      refine NoPanic.normal ?_
      clear hHeld5
      go_wp2_with fail
      go_meet
      have hne : ∀ k, (Value.slice A3 exS1.nodes.length c3).ownBlock = some k ∨ (Value.slice B3 exS1.jobs.length k3).ownBlock = some k → k ≠ W1.heap.size := fun k hk e => by
        have := hf3 k hk
        (try simp at this)
        omega
      exact ⟨W1.heap.size, _, _, rfl, rfl, Lib.hid ⟨hq.below _ _ (Ext.trans hx12 hx23) (Nat.le_refl _), hq.blk, ⟨RdS.at_ hr3.nodes (by rw [hq.size]; exact Nat.le_refl _) fun k hk => hq.same k (hne k (.inl hk)), RdS.at_ hr3.jobs (by rw [hq.size]; exact Nat.le_refl _) fun k hk => hq.same k (hne k (.inr hk))⟩⟩⟩
  case rest =>
    obtain ⟨A, vn, vj, rfl, rfl, HCT⟩ := hcut
    have HCC : Hid (∀ W, Ext W1 W → W.cell? ⟨w.heap.size, 0, none⟩ = some (.int .i64 2) ∧ W.cell? ⟨w.heap.size, 1, none⟩ = some (.int .i64 1) ∧ W.cell? ⟨w.heap.size, 2, none⟩ = some (.int .i64 1) ∧ W.cell? ⟨w.heap.size, 3, none⟩ = some (.int .i64 1) ∧ W.cell? ⟨w.heap.size, 4, none⟩ = some (.int .i64 3) ∧ W.cell? ⟨w.heap.size, 5, none⟩ = some (.int .i64 1) ∧ W.cell? ⟨w.heap.size, 6, none⟩ = some (.int .i64 5) ∧ W.cell? ⟨w.heap.size, 7, none⟩ = some (.int .i64 0) ∧ W.cell? ⟨w.heap.size, 8, none⟩ = some (.int .i64 2000)) := Lib.hid fun W hx => ⟨(HCB.out.ext hx).cell 0, (HCB.out.ext hx).cell 1, (HCB.out.ext hx).cell 2, (HCB.out.ext hx).cell 3, (HCB.out.ext hx).cell 4, (HCB.out.ext hx).cell 5, (HCB.out.ext hx).cell 6, (HCB.out.ext hx).cell 7, (HCB.out.ext hx).cell 8⟩
    have HX0 := Lib.hid HCT.out.1
    have HBS := Lib.hid HCT.out.2.1
    have HRS := Lib.hid HCT.out.2.2
    clear HCT
    obtain ⟨A0, c0, rfl, -, -, hs0⟩ : ∃ A c, vn = .slice A 2 c ∧ 2 ≤ c ∧ c ≤ 9223372036854775807 ∧ ∀ i n, exS1.nodes[i]? = some n → ∃ b o, A = some ⟨b, o, none⟩ ∧ b < wc.heap.size ∧ NdAt wc b (o + i * 5) n := has_cells HRS.out.nodes
    obtain ⟨b0, o0, rfl, hb0, at0⟩ := hs0 0 newN rfl
    have HAT0 := Lib.hid at0
    have HB00 := Lib.hid hb0
    obtain ⟨B0, k0, rfl, -, -⟩ := HRS.out.jobs.slice_
    obtain ⟨f0, f1, f2, f3, f4, f5, f6, f7, f8⟩ := HCC.out wc HX0.out
    have s0 : wc.cell? ⟨A, 0, none⟩ = some (.slice (some ⟨b0, o0, none⟩) 2 c0) := HBS.out.cell 0
    have s1 : wc.cell? ⟨A, 1, none⟩ = some (.slice B0 exS1.jobs.length k0) := HBS.out.cell 1
    have s2 : wc.cell? ⟨A, 2, none⟩ = some (.int .i64 1) := HBS.out.cell 2
    have s3 : wc.cell? ⟨A, 3, none⟩ = some (.int .i64 1) := HBS.out.cell 3
    have s4 : wc.cell? ⟨A, 4, none⟩ = some (.int .i64 0) := HBS.out.cell 4
    have s5 : wc.cell? ⟨A, 5, none⟩ = some (.int .i64 0) := HBS.out.cell 5
    clear hs0 at0 hb0
    go_wp2_with fail
    refine (HA2.out wc _ _ (Ext.trans HX1.out HX0.out) HRS.out).mono ?_
    rintro e4 w4 ⟨vn4, vj4, rfl, hr4, hx4, -⟩
    clear f0 f1 f2 f3 f4 f5 f6 f7 f8 s0 s1 s2 s3 s4 s5
    obtain ⟨A4, c4, rfl, -, -, hn4⟩ : ∃ A c, vn4 = .slice A 2 c ∧ 2 ≤ c ∧ c ≤ 9223372036854775807 ∧ ∀ i n, exS2.nodes[i]? = some n → ∃ b o, A = some ⟨b, o, none⟩ ∧ b < w4.heap.size ∧ NdAt w4 b (o + i * 5) n := has_cells hr4.nodes
    obtain ⟨B4, k4, rfl, -, -, hj4⟩ : ∃ A c, vj4 = .slice A 1 c ∧ 1 ≤ c ∧ c ≤ 9223372036854775807 ∧ ∀ i n, exS2.jobs[i]? = some n → ∃ b o, A = some ⟨b, o, none⟩ ∧ b < w4.heap.size ∧ JbAt w4 b (o + i * 12) n := jobs_cells hr4.jobs
    obtain ⟨b4, o4, rfl, hb4, at4⟩ := hn4 1 exN2 rfl
    obtain ⟨b5, o5, rfl, hb5, at5⟩ := hj4 0 exJ2 rfl
    obtain ⟨W5, hW5⟩ : ∃ W5, W5 = w4.alloc (.cells #[.slice (some ⟨b4, o4, none⟩) 2 c4, .slice (some ⟨b5, o5, none⟩) 1 k4, .int .i64 1, .int .i64 1, .int .i64 0, .int .i64 0] 30) := ⟨_, rfl⟩
    have hx5 : Ext w4 W5 := by rw [hW5]; exact (Below.refl _ _).alloc (Nat.le_refl _) _
    have ht5 : Blk W5 w4.heap.size 30 #[.slice (some ⟨b4, o4, none⟩) 2 c4, .slice (some ⟨b5, o5, none⟩) 1 k4, .int .i64 1, .int .i64 1, .int .i64 0, .int .i64 0] := by rw [hW5]; exact Blk.new _ _ _
    have HTT : Hid (∀ W, Ext W5 W → W.cell? ⟨w4.heap.size, 0, none⟩ = some (.slice (some ⟨b4, o4, none⟩) 2 c4) ∧ W.cell? ⟨w4.heap.size, 1, none⟩ = some (.slice (some ⟨b5, o5, none⟩) 1 k4) ∧ W.cell? ⟨w4.heap.size, 2, none⟩ = some (.int .i64 1) ∧ W.cell? ⟨w4.heap.size, 3, none⟩ = some (.int .i64 1) ∧ W.cell? ⟨w4.heap.size, 4, none⟩ = some (.int .i64 0) ∧ W.cell? ⟨w4.heap.size, 5, none⟩ = some (.int .i64 0)) := Lib.hid fun W hx => ⟨(ht5.ext hx).cell 0, (ht5.ext hx).cell 1, (ht5.ext hx).cell 2, (ht5.ext hx).cell 3, (ht5.ext hx).cell 4, (ht5.ext hx).cell 5⟩
    have HX4 := Lib.hid (HX0.out.trans hx4)
    have HX5 := Lib.hid ((HX0.out.trans hx4).trans hx5)
    have HXC5 := Lib.hid (hx4.trans hx5)
    have HR5 := Lib.hid (hr4.ext hx5)
    have HN4 : Hid (∀ W, Ext W5 W → W.cell? ⟨b4, o4 + 1 * 5 + 4, none⟩ = some (.int .i64 1)) := Lib.hid fun W hx => (at4.ext (hx5.trans hx) hb4).c4
    have HJ4 : Hid (∀ W, Ext W5 W → W.cell? ⟨b5, o5 + 0 * 12 + 6, none⟩ = some (.int .i64 1)) := Lib.hid fun W hx => (at5.ext (hx5.trans hx) hb5).c6
    have hl5 : w4.heap.size < W5.heap.size := ht5.lt
    have hcl : w.heap.size < W5.heap.size := Nat.lt_of_lt_of_le hlw HX5.out.size
    have hal : A < W5.heap.size := Nat.lt_of_lt_of_le HBS.out.lt (hx4.trans hx5).size
    have hb4l : b4 < W5.heap.size := Nat.lt_of_lt_of_le hb4 hx5.size
    have hb5l : b5 < W5.heap.size := Nat.lt_of_lt_of_le hb5 hx5.size
    have hc4l : w.heap.size < w4.heap.size := Nat.lt_of_lt_of_le hlw (HX0.out.trans hx4).size
    obtain ⟨f0, f1, f2, f3, f4, f5, f6, f7, f8⟩ := HCC.out w4 HX4.out
    clear hn4 hj4 at4 at5 hr4 hx4 hx5 ht5 hb4 hb5
    go_wp2_with fail
    rw [← hW5]
    clear hW5 f0 f1 f2 f3 f4 f5 f6 f7 f8
    refine (HA3.out W5 _ _ (Ext.trans HX1.out HX5.out) HR5.out).mono ?_
    rintro e6 w6 ⟨vn6, vj6, rfl, hr6, hx6, -⟩
    obtain ⟨A6, c6, rfl, -, -⟩ := hr6.nodes.slice_
    obtain ⟨B6, k6, rfl, -, -⟩ : ∃ A c, vj6 = .slice A 1 c ∧ 1 ≤ c ∧ c ≤ 9223372036854775807 := hr6.jobs.slice_
    obtain ⟨f0, f1, f2, f3, f4, f5, f6, f7, f8⟩ := HCC.out w6 (HX5.out.trans hx6)
    obtain ⟨g0, g1, g2, g3, g4, g5⟩ := HTT.out w6 hx6
    have n4 := HN4.out w6 hx6
    have j4 := HJ4.out w6 hx6
    have hs6 := hx6.size
    have hl56 : w4.heap.size < w6.heap.size := Nat.lt_of_lt_of_le hl5 hs6
    have hcl6 : w.heap.size < w6.heap.size := Nat.lt_of_lt_of_le hcl hs6
    have hal6 : A < w6.heap.size := Nat.lt_of_lt_of_le hal hs6
    have hb4l6 : b4 < w6.heap.size := Nat.lt_of_lt_of_le hb4l hs6
    have hb5l6 : b5 < w6.heap.size := Nat.lt_of_lt_of_le hb5l hs6
    have HX6 := Lib.hid hx6
    clear hr6 hx6
    go_wp2_with fail
    refine (HRT.out _ _ _ (HR5.out.ext (Ext.trans HX6.out (Below.alloc (Ext.refl w6) (Nat.le_refl _) _)))).mono ?_
    rintro e8 w8 ⟨rfl, hx8⟩
    have HX8 : Hid (Ext W5 w8) := Lib.hid (Ext.trans HX6.out (Ext.trans (Below.alloc (Ext.refl w6) (Nat.le_refl _) _) hx8))
    clear hx8 f0 f1 f2 f3 f4 f5 f6 f7 f8 g0 g1 g2 g3 g4 g5 n4 j4 hl56 hcl6 hal6 hb4l6 hb5l6 hs6
    obtain ⟨f0, f1, f2, f3, f4, f5, f6, f7, f8⟩ := HCC.out w8 (Ext.trans HX5.out HX8.out)
    go_wp2_with fail
    refine (HMY.out _).mono ?_
    rintro e9 w9 ⟨rfl, hx9⟩
    have HX9 := Lib.hid (Ext.trans HX8.out hx9)
    clear hx9 f0 f1 f2 f3 f4 f5 f6 f7 f8
    obtain ⟨g0, g1, g2, g3, g4, g5⟩ := HTT.out w9 HX9.out
    go_wp2_with fail
    refine (HME.out _ _ _).mono ?_
    rintro e10 w10 ⟨rfl, hx10⟩
    have HX10 := Lib.hid (Ext.trans HX9.out hx10)
    clear hx10 g0 g1 g2 g3 g4 g5
    have s0 : w10.cell? ⟨A, 0, none⟩ = some (.slice (some ⟨b0, o0, none⟩) 2 c0) := (HBS.out.ext (Ext.trans HXC5.out HX10.out)).cell 0
    obtain ⟨p0, p1, p2, p3, p4⟩ := HAT0.out.ext (Ext.trans HXC5.out HX10.out) HB00.out
    simp only [newN, Nat.zero_mul, Nat.add_zero] at p0 p1 p2 p3 p4
    go_wp2_with fail
    refine (HFR.out _).mono ?_
    rintro e11 w11 ⟨rfl, hx11⟩
    have HX11 := Lib.hid (Ext.trans HX10.out hx11)
    clear hx11 s0 p0 p1 p2 p3 p4
    obtain ⟨g0, g1, g2, g3, g4, g5⟩ := HTT.out w11 HX11.out
    go_wp2_with fail
    refine (HDR.out _ _ _ (HR5.out.ext HX11.out)).mono ?_
    rintro e12 w12 ⟨rfl, hx12⟩
    have HX12 := Lib.hid (Ext.trans HX11.out hx12)
    clear hx12 g0 g1 g2 g3 g4 g5
    obtain ⟨g0, g1, g2, g3, g4, g5⟩ := HTT.out w12 HX12.out
    go_wp2_with fail
    refine (HCP.out _ _ _ (HR5.out.ext HX12.out)).mono ?_
    rintro e13 w13 ⟨vn13, vj13, rfl, ho13, hx13⟩
    have HXF := Lib.hid (Ext.trans HX1.out (Ext.trans HX5.out (Ext.trans HX12.out hx13)))
    obtain ⟨A13, c13, rfl⟩ : ∃ A c, vn13 = .slice A 2 c := own_slice ho13.nodes
    obtain ⟨B13, k13, rfl⟩ : ∃ A c, vj13 = .slice A 1 c := own_slice ho13.jobs
    clear hx13 ho13 g0 g1 g2 g3 g4 g5
    have hfd : ∀ W : World, (Instr.field 30 (.agg #[.slice A13 2 c13, .slice B13 1 k13, .int .i64 1, .int .i64 1, .int .i64 0, .int .i64 0]) 0).run Tryd.prog W = .ok (.slice A13 2 c13) W := fun _ => by kernel_rfl
    go_wp2
    go_ret
    exact ⟨rfl, HXF.out⟩

end Go.Proofs.YtddhbokknbmdfaaDoor
