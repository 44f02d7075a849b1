/- Texts that the proof of F rests on, one behind the other. -/
import Derived.Test.YtbfjlhddebollaaDoorFQ10
import Derived.Deep.Cut
import Derived.Deep.LoopGhost
import Derived.BigQuiet
import Derived.Deep.QuietTactic

/- Layer 9: what the listed variable gives; fleets, states, ops and lists of ops as arguments. -/
namespace Go.Proofs.YtbfjlhddebollaaDoor
open Go.Joins Go.ChangeShapes Go.WideShapes Go.ChangeAt Go.RowKit Go.Deep

theorem counts_datum : Rows.laid_dunnage_ops_counts (H := Unit) = Lib.tabData .i64 cntL := by kernel_rfl
theorem laid_of {W : World} (L : List (String × DataW Unit)) (h : laidMet Tryd.prog L W) (m2 : ("dunnage/ops.counts", Rows.laid_dunnage_ops_counts) ∈ L) : Laid W := by
  obtain ⟨r2, h2⟩ := laid_at L m2 h
  rw [counts_datum] at h2
  exact ⟨Lib.tabIs_of_head Tryd.gCounts (t := 100) (by kernel_rfl) Tryd.underlying100 Tryd.underlying3 (by kernel_rfl) (by kernel_rfl) h2⟩

def opC (o : OpN) : List Value := [.int .i64 o.1, .int .i64 o.2.1, .int .i64 o.2.2.1, .int .i64 o.2.2.2.1, .int .i64 o.2.2.2.2.1, .int .i64 o.2.2.2.2.2.1, .int .i64 o.2.2.2.2.2.2]
theorem opC_len (o : OpN) : (opC o).length = 7 := rfl
/-- A slice of ops. -/
abbrev RdOps (w : World) (v : Value) (l : List OpN) : Prop := RdS 7 w v l.length (l.flatMap opC)

section
variable {H : Type} {enc : TypeId × Value → H} {w : World} {base : Nat} {held : Bool} {r : Reach} {b0 : Nat}
set_option maxRecDepth 100000 in
theorem dec_conf {v : Value} {d : DataW H} {p : List MemPlace} (hv : Value.okWide Tryd.prog w r b0 23 v) (h : DataW.Trod enc Tryd.prog w base (fun _ => true) held 23 v d p) : ∃ c : Cf, v = cfV c := by
  obtain ⟨l, hl, rfl⟩ := dec_nums Tryd.underlying23 (by kernel_rfl) (by kernel_rfl) (ti := 3) (by kernel_rfl) Tryd.underlying3 hv h
  match l, hl with
  | [a, b, c, d, e, f, g, h, i], _ => exact ⟨⟨a, b, c, d, e, f, g, h, i⟩, rfl⟩
set_option maxRecDepth 100000 in
theorem dec_op {v : Value} {d : DataW H} {p : List MemPlace} (hv : Value.okWide Tryd.prog w r b0 36 v) (h : DataW.Trod enc Tryd.prog w base (fun _ => true) held 36 v d p) : ∃ o : OpN, v = opV o := by
  obtain ⟨l, hl, rfl⟩ := dec_nums Tryd.underlying36 (by kernel_rfl) (by kernel_rfl) (ti := 3) (by kernel_rfl) Tryd.underlying3 hv h
  match l, hl with
  | [a, b, c, d, e, f, g], _ => exact ⟨(a, b, c, d, e, f, g), rfl⟩
theorem tr_int {m : Nat} {u : Value} {y : DataW H × List MemPlace} (h : DataW.trod enc Tryd.prog w base (fun _ => true) held m 3 [u] = some y) : ∃ z : Int, u = .int .i64 z := by
  obtain ⟨z, hz, _, _⟩ := DataW.trod_int Tryd.underlying3 h
  simp only [List.cons.injEq, and_true] at hz
  exact ⟨z, hz⟩
theorem tr_bool {m : Nat} {u : Value} {y : DataW H × List MemPlace} (h : DataW.trod enc Tryd.prog w base (fun _ => true) held m 4 [u] = some y) : ∃ z : Bool, u = .bool z := by
  obtain ⟨z, hz, _⟩ := DataW.trod_bool Tryd.underlying4 h
  simp only [List.cons.injEq, and_true] at hz
  exact ⟨z, hz⟩
theorem tr_nodes {m : Nat} {V : Value} {x : DataW H × List MemPlace} (h : DataW.trod enc Tryd.prog w base (fun _ => true) held m 27 [V] = some x) : ∃ l : List Nd, RdNd w V l := by
  obtain ⟨A, n, c, hV, hnc, hcm, hx⟩ := structs_tr Tryd.underlying27 Tryd.underlying45 (by kernel_rfl) (by kernel_rfl) (by decide) h
  obtain ⟨l, _, hr⟩ := rdS_of (f := Nd.cells) (K := 5) Nd.len hV hnc hcm fun hn => by
    obtain ⟨b, o, hA, hb, hc⟩ := hx hn
    refine ⟨b, o, hA, hb, fun i hi => ?_⟩
    obtain ⟨u0, k0, y0, c0, t0⟩ := hc i hi 0 _ rfl
    obtain ⟨u1, k1, y1, c1, t1⟩ := hc i hi 1 _ rfl
    obtain ⟨u2, k2, y2, c2, t2⟩ := hc i hi 2 _ rfl
    obtain ⟨u3, k3, y3, c3, t3⟩ := hc i hi 3 _ rfl
    obtain ⟨u4, k4, y4, c4, t4⟩ := hc i hi 4 _ rfl
    obtain ⟨z0, rfl⟩ := tr_bool t0
    obtain ⟨z1, rfl⟩ := tr_bool t1
    obtain ⟨z2, rfl⟩ := tr_bool t2
    obtain ⟨z3, rfl⟩ := tr_int t3
    obtain ⟨z4, rfl⟩ := tr_int t4
    refine ⟨⟨z0, z1, z2, z3, z4⟩, fun r u hu => ?_⟩
    have hr := (List.getElem?_eq_some_iff.1 hu).1
    rw [Nd.len] at hr
    match r, hr, hu with
    | 0, _, hu => cases hu; exact c0
    | 1, _, hu => cases hu; exact c1
    | 2, _, hu => cases hu; exact c2
    | 3, _, hu => cases hu; exact c3
    | 4, _, hu => cases hu; exact c4
  exact ⟨l, hr⟩
theorem tr_jobs {m : Nat} {V : Value} {x : DataW H × List MemPlace} (h : DataW.trod enc Tryd.prog w base (fun _ => true) held m 28 [V] = some x) : ∃ l : List Jb, RdJb w V l := by
  obtain ⟨A, n, c, hV, hnc, hcm, hx⟩ := structs_tr Tryd.underlying28 Tryd.underlying56 (by kernel_rfl) (by kernel_rfl) (by decide) h
  obtain ⟨l, _, hr⟩ := rdS_of (f := Jb.cells) (K := 12) Jb.len hV hnc hcm fun hn => by
    obtain ⟨b, o, hA, hb, hc⟩ := hx hn
    refine ⟨b, o, hA, hb, fun i hi => ?_⟩
    obtain ⟨u0, k0, y0, c0, t0⟩ := hc i hi 0 _ rfl
    obtain ⟨u1, k1, y1, c1, t1⟩ := hc i hi 1 _ rfl
    obtain ⟨u2, k2, y2, c2, t2⟩ := hc i hi 2 _ rfl
    obtain ⟨u3, k3, y3, c3, t3⟩ := hc i hi 3 _ rfl
    obtain ⟨u4, k4, y4, c4, t4⟩ := hc i hi 4 _ rfl
    obtain ⟨u5, k5, y5, c5, t5⟩ := hc i hi 5 _ rfl
    obtain ⟨u6, k6, y6, c6, t6⟩ := hc i hi 6 _ rfl
    obtain ⟨u7, k7, y7, c7, t7⟩ := hc i hi 7 _ rfl
    obtain ⟨u8, k8, y8, c8, t8⟩ := hc i hi 8 _ rfl
    obtain ⟨u9, k9, y9, c9, t9⟩ := hc i hi 9 _ rfl
    obtain ⟨ua, ka, ya, ca, ta⟩ := hc i hi 10 _ rfl
    obtain ⟨ub, kb, yb, cb, tb⟩ := hc i hi 11 _ rfl
    obtain ⟨z0, rfl⟩ := tr_int t0
    obtain ⟨z1, rfl⟩ := tr_int t1
    obtain ⟨z2, rfl⟩ := tr_int t2
    obtain ⟨z3, rfl⟩ := tr_int t3
    obtain ⟨z4, rfl⟩ := tr_int t4
    obtain ⟨z5, rfl⟩ := tr_int t5
    obtain ⟨z6, rfl⟩ := tr_int t6
    obtain ⟨z7, rfl⟩ := tr_int t7
    obtain ⟨z8, rfl⟩ := tr_int t8
    obtain ⟨z9, rfl⟩ := tr_int t9
    obtain ⟨za, rfl⟩ := tr_int ta
    obtain ⟨zb, rfl⟩ := tr_int tb
    refine ⟨⟨z0, z1, z2, z3, z4, z5, z6, z7, z8, z9, za, zb⟩, fun r u hu => ?_⟩
    have hr := (List.getElem?_eq_some_iff.1 hu).1
    rw [Jb.len] at hr
    match r, hr, hu with
    | 0, _, hu => cases hu; exact c0
    | 1, _, hu => cases hu; exact c1
    | 2, _, hu => cases hu; exact c2
    | 3, _, hu => cases hu; exact c3
    | 4, _, hu => cases hu; exact c4
    | 5, _, hu => cases hu; exact c5
    | 6, _, hu => cases hu; exact c6
    | 7, _, hu => cases hu; exact c7
    | 8, _, hu => cases hu; exact c8
    | 9, _, hu => cases hu; exact c9
    | 10, _, hu => cases hu; exact ca
    | 11, _, hu => cases hu; exact cb
  exact ⟨l, hr⟩
set_option maxRecDepth 100000 in
theorem dec_ops {v : Value} {d : DataW H} {p : List MemPlace} (hv : Value.okWide Tryd.prog w r b0 24 v) (h : DataW.Trod enc Tryd.prog w base (fun _ => true) held 24 v d p) : ∃ l : List OpN, RdOps w v l := by
  obtain ⟨A, n, c, hV, hnc, hcm, hx⟩ := structs_at Tryd.underlying24 Tryd.underlying36 (by kernel_rfl) (by kernel_rfl) (by decide) hv h
  obtain ⟨l, _, hr⟩ := rdS_of (f := opC) (K := 7) opC_len hV hnc hcm fun hn => by
    obtain ⟨b, o, hA, hb, hc⟩ := hx hn
    refine ⟨b, o, hA, hb, fun i hi => ?_⟩
    obtain ⟨u0, k0, y0, c0, t0⟩ := hc i hi 0 _ rfl
    obtain ⟨u1, k1, y1, c1, t1⟩ := hc i hi 1 _ rfl
    obtain ⟨u2, k2, y2, c2, t2⟩ := hc i hi 2 _ rfl
    obtain ⟨u3, k3, y3, c3, t3⟩ := hc i hi 3 _ rfl
    obtain ⟨u4, k4, y4, c4, t4⟩ := hc i hi 4 _ rfl
    obtain ⟨u5, k5, y5, c5, t5⟩ := hc i hi 5 _ rfl
    obtain ⟨u6, k6, y6, c6, t6⟩ := hc i hi 6 _ rfl
    obtain ⟨z0, rfl⟩ := tr_int t0
    obtain ⟨z1, rfl⟩ := tr_int t1
    obtain ⟨z2, rfl⟩ := tr_int t2
    obtain ⟨z3, rfl⟩ := tr_int t3
    obtain ⟨z4, rfl⟩ := tr_int t4
    obtain ⟨z5, rfl⟩ := tr_int t5
    obtain ⟨z6, rfl⟩ := tr_int t6
    refine ⟨(z0, z1, z2, z3, z4, z5, z6), fun r u hu => ?_⟩
    have hr := (List.getElem?_eq_some_iff.1 hu).1
    rw [opC_len] at hr
    match r, hr, hu with
    | 0, _, hu => cases hu; exact c0
    | 1, _, hu => cases hu; exact c1
    | 2, _, hu => cases hu; exact c2
    | 3, _, hu => cases hu; exact c3
    | 4, _, hu => cases hu; exact c4
    | 5, _, hu => cases hu; exact c5
    | 6, _, hu => cases hu; exact c6
  exact ⟨l, hr⟩
set_option maxRecDepth 100000 in
theorem dec_state {v : Value} {d : DataW H} {p : List MemPlace} (hv : Value.okWide Tryd.prog w r b0 30 v) (h : DataW.Trod enc Tryd.prog w base (fun _ => true) held 30 v d p) : ∃ vn vj s, v = stV vn vj s ∧ RdSt w vn vj s := by
  obtain ⟨cs, rfl, hsz⟩ := okWide_struct Tryd.underlying30 hv
  obtain ⟨fuel, hf⟩ := h
  obtain ⟨hl, hp⟩ := struct_parts Tryd.underlying30 (by kernel_rfl) (by kernel_rfl) hf
  obtain ⟨u0, k0, y0, c0, t0⟩ := hp 0 _ rfl
  obtain ⟨u1, k1, y1, c1, t1⟩ := hp 1 _ rfl
  obtain ⟨u2, k2, y2, c2, t2⟩ := hp 2 _ rfl
  obtain ⟨u3, k3, y3, c3, t3⟩ := hp 3 _ rfl
  obtain ⟨u4, k4, y4, c4, t4⟩ := hp 4 _ rfl
  obtain ⟨u5, k5, y5, c5, t5⟩ := hp 5 _ rfl
  obtain ⟨ln, hn⟩ := tr_nodes t0
  obtain ⟨lj, hj⟩ := tr_jobs t1
  obtain ⟨z2, rfl⟩ := tr_int t2
  obtain ⟨z3, rfl⟩ := tr_int t3
  obtain ⟨z4, rfl⟩ := tr_int t4
  obtain ⟨z5, rfl⟩ := tr_int t5
  refine ⟨u0, u1, ⟨ln, lj, z2, z3, z4, z5⟩, ?_, hn, hj⟩
  have hsz' : cs.toList.length = 6 := hl
  obtain ⟨l⟩ := cs
  match l, hsz' with
  | [a, b, c, d, e, f], _ =>
    simp only [Value.cells, List.getElem?_cons_zero, List.getElem?_cons_succ, Option.some.injEq] at c0 c1 c2 c3 c4 c5
    subst c0 c1 c2 c3 c4 c5
    rfl
end

end Go.Proofs.YtbfjlhddebollaaDoor

/- Layer 9's statements: words that they share; is a state more than is looked at. -/
namespace Go.Proofs.YtbfjlhddebollaaDoor
open Go.RowKit

theorem two_blocks (w : World) (t1 t2 : TypeId) (c1 c2 : Array Value) : ∃ W, W = (w.alloc (.cells c1 t1)).alloc (.cells c2 t2) ∧ Ext w W ∧ Blk W w.heap.size t1 c1 ∧ Blk W (w.heap.size + 1) t2 c2 := by
  refine ⟨_, rfl, ext2 w t1 t2 c1 c2, (Blk.new w t1 c1).alloc _, ?_⟩
  have := Blk.new (w.alloc (.cells c1 t1)) t2 c2
  have e : (w.alloc (.cells c1 t1)).heap.size = w.heap.size + 1 := by simp
  rw [e] at this
  exact this
theorem three_blocks (w : World) (t1 t2 t3 : TypeId) (c1 c2 c3 : Array Value) : ∃ W, W = ((w.alloc (.cells c1 t1)).alloc (.cells c2 t2)).alloc (.cells c3 t3) ∧ Ext w W ∧ Blk W w.heap.size t1 c1 ∧ Blk W (w.heap.size + 1) t2 c2 ∧ Blk W (w.heap.size + 2) t3 c3 := by
  refine ⟨_, rfl, ext3 w t1 t2 t3 c1 c2 c3, ((Blk.new w t1 c1).alloc _).alloc _, ?_, ?_⟩
  · have := (Blk.new (w.alloc (.cells c1 t1)) t2 c2).alloc (.cells c3 t3)
    have e : (w.alloc (.cells c1 t1)).heap.size = w.heap.size + 1 := by simp
    rw [e] at this
    exact this
  · have := Blk.new ((w.alloc (.cells c1 t1)).alloc (.cells c2 t2)) t3 c3
    have e : ((w.alloc (.cells c1 t1)).alloc (.cells c2 t2)).heap.size = w.heap.size + 2 := by simp
    rw [e] at this
    exact this

/-! ### A variable that holds a state -/
/-- What the slice value reads lies in another block than g. -/
def offG (g : Nat) (v : Value) (n : Nat) : Prop := 0 < n → ∀ k, v.ownBlock = some k → k ≠ g
theorem RdS.lt {K n : Nat} {w : World} {v : Value} {xs : List Value} (h : RdS K w v n xs) (hn : 0 < n) {k : Nat} (hk : v.ownBlock = some k) : k < w.heap.size := by
  obtain ⟨_, A, c, e, _, _, h3⟩ := h
  obtain ⟨b, o, hA, hlt, _⟩ := h3 hn
  rw [e, hA] at hk
  have : b = k := Option.some.inj hk
  omega
theorem offG.of_lt {K n g : Nat} {w : World} {v : Value} {xs : List Value} (h : RdS K w v n xs) (hg : w.heap.size ≤ g) : offG g v n := fun hn k hk e => by
  have := h.lt hn hk
  omega
/-- In a world in which all blocks but g are as they were. -/
theorem RdS.off {K n g : Nat} {w w' : World} {v : Value} {xs : List Value} (h : RdS K w v n xs) (ho : offG g v n) (hs : w.heap.size ≤ w'.heap.size) (hk : ∀ k, k ≠ g → w'.heap[k]? = w.heap[k]?) : RdS K w' v n xs := by
  obtain ⟨h0, A, c, e, h1, h2, h3⟩ := h
  refine ⟨h0, A, c, e, h1, h2, fun hn => ?_⟩
  obtain ⟨b, o, hA, hlt, hc⟩ := h3 hn
  refine ⟨b, o, hA, Nat.lt_of_lt_of_le hlt hs, fun j u hu => ?_⟩
  have := hk b (ho hn b (by rw [e, hA]; rfl))
  exact (World.cell?_of_block (a := ⟨b, o + j, none⟩) this).trans (hc j u hu)

structure SAt (w : World) (g : Nat) (vn vj : Value) (s : St) : Prop where
  blk : Blk w g 30 #[vn, vj, .int .i64 s.goal, .int .i64 s.prior, .int .i64 s.mode, .int .i64 s.term]
  rd : RdSt w vn vj s
  offn : offG g vn s.nodes.length
  offj : offG g vj s.jobs.length
theorem SAt.ext {w w' : World} {g : Nat} {vn vj : Value} {s : St} (h : SAt w g vn vj s) (hx : Ext w w') : SAt w' g vn vj s := ⟨h.blk.ext hx, h.rd.ext hx, h.offn, h.offj⟩
theorem SAt.first {w w' : World} {g : Nat} {vn vj : Value} {s : St} (h : RdSt w vn vj s) (hx : Ext w w') (hb : Blk w' g 30 #[vn, vj, .int .i64 s.goal, .int .i64 s.prior, .int .i64 s.mode, .int .i64 s.term]) (hg : w.heap.size ≤ g) : SAt w' g vn vj s :=
  ⟨hb, h.ext hx, .of_lt h.nodes hg, .of_lt h.jobs hg⟩
/-- A state is stored. -/
theorem SAt.putR {w : World} {g : Nat} {vn vj un uj : Value} {s t : St} (h : SAt w g vn vj s) (h2 : RdSt w un uj t) (hon : offG g un t.nodes.length) (hoj : offG g uj t.jobs.length) : ∃ w', w' = (((((w.setCell ⟨g, 0, none⟩ un).setCell ⟨g, 1, none⟩ uj).setCell ⟨g, 2, none⟩ (.int .i64 t.goal)).setCell ⟨g, 3, none⟩ (.int .i64 t.prior)).setCell ⟨g, 4, none⟩ (.int .i64 t.mode)).setCell ⟨g, 5, none⟩ (.int .i64 t.term) ∧
    SAt w' g un uj t ∧ (∀ k, k ≠ g → w'.heap[k]? = w.heap[k]?) ∧ w'.heap.size = w.heap.size ∧ ∀ (B : Nat) (a : World), Below B a w → B ≤ g → Below B a w' := by
  have hq := PB.start h.blk
  replace hq := hq.set 0 un
  replace hq := hq.set 1 uj
  replace hq := hq.set 2 (.int .i64 t.goal)
  replace hq := hq.set 3 (.int .i64 t.prior)
  replace hq := hq.set 4 (.int .i64 t.mode)
  replace hq := hq.set 5 (.int .i64 t.term)
  simp only [List.setIfInBounds_toArray, List.set_cons_zero, List.set_cons_succ] at hq
  exact ⟨_, rfl, ⟨hq.blk, ⟨h2.nodes.off hon (by rw [hq.size]; exact Nat.le_refl _) hq.same, h2.jobs.off hoj (by rw [hq.size]; exact Nat.le_refl _) hq.same⟩, hon, hoj⟩, hq.same, hq.size, hq.below⟩
/-- The state of another variable is stored. -/
theorem SAt.put {w : World} {g g2 : Nat} {vn vj un uj : Value} {s t : St} (h : SAt w g vn vj s) (h2 : SAt w g2 un uj t) (hon : offG g un t.nodes.length) (hoj : offG g uj t.jobs.length) : ∃ w', w' = (((((w.setCell ⟨g, 0, none⟩ un).setCell ⟨g, 1, none⟩ uj).setCell ⟨g, 2, none⟩ (.int .i64 t.goal)).setCell ⟨g, 3, none⟩ (.int .i64 t.prior)).setCell ⟨g, 4, none⟩ (.int .i64 t.mode)).setCell ⟨g, 5, none⟩ (.int .i64 t.term) ∧
    SAt w' g un uj t ∧ (∀ k, k ≠ g → w'.heap[k]? = w.heap[k]?) ∧ w'.heap.size = w.heap.size ∧ ∀ (B : Nat) (a : World), Below B a w → B ≤ g → Below B a w' := h.putR h2.rd hon hoj
/-- Another variable is written. -/
theorem SAt.keep {w w' : World} {g g' : Nat} {vn vj : Value} {s : St} (h : SAt w g' vn vj s) (hne : g' ≠ g) (h1 : offG g vn s.nodes.length) (h2 : offG g vj s.jobs.length) (hs : w'.heap.size = w.heap.size) (hk : ∀ k, k ≠ g → w'.heap[k]? = w.heap[k]?) : SAt w' g' vn vj s :=
  ⟨(hk _ hne).trans h.blk, ⟨h.rd.nodes.off h1 (by rw [hs]; exact Nat.le_refl _) hk, h.rd.jobs.off h2 (by rw [hs]; exact Nat.le_refl _) hk⟩, h.offn, h.offj⟩
/-- The variable's slices lie ahead of what is made later. -/
theorem SAt.later {w : World} {g g' : Nat} {vn vj : Value} {s : St} (h : SAt w g' vn vj s) (hg : w.heap.size ≤ g) : offG g vn s.nodes.length ∧ offG g vj s.jobs.length ∧ g' ≠ g := by
  have := h.blk.lt
  exact ⟨.of_lt h.rd.nodes hg, .of_lt h.rd.jobs hg, by omega⟩

/-! ### Behind 't, e = book.Apply(c, s, o)' -/
structure ApCut (W : World) (r : Res9) (p e : Value) (wx : World) : Prop where
  out : ∃ g vn vj, p = .pointer (some ⟨g, 0, none⟩) ∧ e = .int .i64 r.2 ∧ W.heap.size ≤ g ∧ Ext W wx ∧ SAt wx g vn vj r.1 ∧ ∀ k, vn.ownBlock = some k ∨ vj.ownBlock = some k → W.heap.size ≤ k
theorem ApCut.made {W w3 : World} {r : Res9} {vn vj : Value} (hx : Ext W w3) (hr : RdSt w3 vn vj r.1) (hk : ∀ k, vn.ownBlock = some k ∨ vj.ownBlock = some k → W.heap.size ≤ k) :
    ApCut W r (.pointer (some ⟨w3.heap.size, 0, none⟩)) (.int .i64 r.2) (w3.alloc (.cells #[vn, vj, .int .i64 r.1.goal, .int .i64 r.1.prior, .int .i64 r.1.mode, .int .i64 r.1.term] 30)) := by
  have hy : Ext w3 (w3.alloc (.cells #[vn, vj, .int .i64 r.1.goal, .int .i64 r.1.prior, .int .i64 r.1.mode, .int .i64 r.1.term] 30)) := (Below.refl _ _).alloc (Nat.le_refl _) _
  exact ⟨_, _, _, rfl, rfl, hx.size, hx.trans hy, SAt.first hr hy (Blk.new _ _ _) (Nat.le_refl _), hk⟩
theorem ApCut.ahead {W w3 w' : World} {r : Res9} {vn vj : Value} (hx : Ext W w3) (hr : RdSt w3 vn vj r.1) (hq : PB w3 W.heap.size 30 w' #[vn, vj, .int .i64 r.1.goal, .int .i64 r.1.prior, .int .i64 r.1.mode, .int .i64 r.1.term])
    (hk : ∀ k, vn.ownBlock = some k ∨ vj.ownBlock = some k → W.heap.size + 1 ≤ k) : ApCut W r (.pointer (some ⟨W.heap.size, 0, none⟩)) (.int .i64 r.2) w' := by
  have h1 : offG W.heap.size vn r.1.nodes.length := fun _ k h e => by have := hk k (.inl h); omega
  have h2 : offG W.heap.size vj r.1.jobs.length := fun _ k h e => by have := hk k (.inr h); omega
  exact ⟨_, _, _, rfl, rfl, Nat.le_refl _, hq.below _ _ hx (Nat.le_refl _), ⟨hq.blk, ⟨hr.nodes.off h1 (by rw [hq.size]; exact Nat.le_refl _) hq.same, hr.jobs.off h2 (by rw [hq.size]; exact Nat.le_refl _) hq.same⟩, h1, h2⟩, fun k h => by have := hk k h; omega⟩

/-- At the head of a loop over ops: the variables of the fleet and of the state. -/
structure KR9 (w : World) (c : Cf) (s : St) (wr : World) : Prop where
  out : ∃ vn vj, Below w.heap.size w wr ∧ Blk wr w.heap.size 23 #[.int .i64 c.nodes, .int .i64 c.queues, .int .i64 c.quota, .int .i64 c.wave, .int .i64 c.lease, .int .i64 c.retry, .int .i64 c.deadline, .int .i64 c.room, .int .i64 c.disk] ∧ SAt wr (w.heap.size + 1) vn vj s ∧ RightP c s

/-! ### A list of ops -/
structure OpAt (w : World) (b q : Nat) (o : OpN) : Prop where
  c0 : w.cell? ⟨b, q, none⟩ = some (.int .i64 o.1)
  c1 : w.cell? ⟨b, q + 1, none⟩ = some (.int .i64 o.2.1)
  c2 : w.cell? ⟨b, q + 2, none⟩ = some (.int .i64 o.2.2.1)
  c3 : w.cell? ⟨b, q + 3, none⟩ = some (.int .i64 o.2.2.2.1)
  c4 : w.cell? ⟨b, q + 4, none⟩ = some (.int .i64 o.2.2.2.2.1)
  c5 : w.cell? ⟨b, q + 5, none⟩ = some (.int .i64 o.2.2.2.2.2.1)
  c6 : w.cell? ⟨b, q + 6, none⟩ = some (.int .i64 o.2.2.2.2.2.2)
theorem OpAt.ext {w w' : World} {b q : Nat} {n : OpN} (h : OpAt w b q n) (hx : Ext w w') (hb : b < w.heap.size) : OpAt w' b q n := ⟨hx.cellOf h.c0 hb, hx.cellOf h.c1 hb, hx.cellOf h.c2 hb, hx.cellOf h.c3 hb, hx.cellOf h.c4 hb, hx.cellOf h.c5 hb, hx.cellOf h.c6 hb⟩
theorem OpAt.low {w w' : World} {b q B : Nat} {n : OpN} (h : OpAt w b q n) (hx : Below B w w') (hb : b < B) : OpAt w' b q n := ⟨(hx.cell (p := ⟨b, q, none⟩) hb).trans h.c0, (hx.cell (p := ⟨b, q + 1, none⟩) hb).trans h.c1, (hx.cell (p := ⟨b, q + 2, none⟩) hb).trans h.c2, (hx.cell (p := ⟨b, q + 3, none⟩) hb).trans h.c3, (hx.cell (p := ⟨b, q + 4, none⟩) hb).trans h.c4, (hx.cell (p := ⟨b, q + 5, none⟩) hb).trans h.c5, (hx.cell (p := ⟨b, q + 6, none⟩) hb).trans h.c6⟩
theorem ops_cells {w : World} {v : Value} {l : List OpN} (h : RdOps w v l) : ∃ A c, v = .slice A l.length c ∧ l.length ≤ c ∧ c ≤ 9223372036854775807 ∧ ∀ i n, l[i]? = some n → ∃ b o, A = some ⟨b, o, none⟩ ∧ b < w.heap.size ∧ OpAt w b (o + i * 7) n := by
  obtain ⟨A, c, rfl, h1, h2⟩ := h.slice_
  refine ⟨A, c, rfl, h1, h2, fun i n hi => ?_⟩
  have hl := (List.getElem?_eq_some_iff.1 hi).1
  obtain ⟨b, o, hA, hb, hc⟩ := h.get (by omega)
  have key : ∀ j u, (opC n)[j]? = some u → w.cell? ⟨b, o + i * 7 + j, none⟩ = some u := fun j u hu => by
    have hj : j < 7 := (List.getElem?_eq_some_iff.1 hu).1
    rw [Nat.add_assoc]
    exact hc _ _ ((flat_get opC_len hi j hj).trans hu)
  exact ⟨b, o, hA, hb, ⟨key 0 _ rfl, key 1 _ rfl, key 2 _ rfl, key 3 _ rfl, key 4 _ rfl, key 5 _ rfl, key 6 _ rfl⟩⟩

/-! ### Is a state more than is looked at? -/
def greatS (s : St) : Bool := decide (50 < s.nodes.length) || decide (100 < s.jobs.length)
theorem great_no {s : St} (h : greatS s = false) : s.nodes.length ≤ 50 ∧ s.jobs.length ≤ 100 := by
  unfold greatS at h
  simp only [Bool.or_eq_false_iff, decide_eq_false_iff_not] at h
  omega
theorem RightP.not_great {c : Cf} {s : St} (h : RightP c s) : greatS s = false := by
  have h1 := h.len
  have h2 := h.nj
  unfold greatS
  simp only [Bool.or_eq_false_iff, decide_eq_false_iff_not]
  omega

end Go.Proofs.YtbfjlhddebollaaDoor

/- The reference of layer 9: words for Why. -/
namespace Go.Proofs.YtbfjlhddebollaaDoor
open Go.RowKit

theorem op_in {o : OpN} (h : rightO o = true) : (0 ≤ o.2.1 ∧ o.2.1 ≤ 1000000) ∧ (0 ≤ o.2.2.1 ∧ o.2.2.1 ≤ 1000000) := by
  have hin := (rightO_iff.1 h).2.1
  exact ⟨hin _ (by simp [numsO]), hin _ (by simp [numsO])⟩
theorem do_job {c : Cf} {s : St} {kd a b : Int} {t : Int × Int × Int × Int} {j : Jb} (hj : jobOf s a = some j) (h1 : kd ≠ 1 ∧ kd ≠ 3 ∧ kd ≠ 4 ∧ kd ≠ 5 ∧ kd ≠ 6 ∧ kd ≠ 21) (h2 : ¬ (kd = 7 ∨ kd = 8 ∨ kd = 16 ∨ kd = 17 ∨ kd = 18 ∨ kd = 19)) :
    doS c s (kd, a, b, t) = jobOp c s kd (a - 1).toNat j b := by
  unfold doS
  dsimp only
  rw [if_neg h1.1, if_neg h1.2.1, if_neg h1.2.2.1, if_neg h1.2.2.2.1, if_neg h1.2.2.2.2.1, if_neg h1.2.2.2.2.2, if_neg h2, hj]
theorem do_jobN {c : Cf} {s : St} {kd a b : Int} {t : Int × Int × Int × Int} (hj : jobOf s a = none) (h1 : kd ≠ 1 ∧ kd ≠ 3 ∧ kd ≠ 4 ∧ kd ≠ 5 ∧ kd ≠ 6 ∧ kd ≠ 21) (h2 : ¬ (kd = 7 ∨ kd = 8 ∨ kd = 16 ∨ kd = 17 ∨ kd = 18 ∨ kd = 19)) :
    doS c s (kd, a, b, t) = (s, 4) := by
  unfold doS
  dsimp only
  rw [if_neg h1.1, if_neg h1.2.1, if_neg h1.2.2.1, if_neg h1.2.2.2.1, if_neg h1.2.2.2.2.1, if_neg h1.2.2.2.2.2, if_neg h2, hj]
theorem do_node {c : Cf} {s : St} {kd a b : Int} {t : Int × Int × Int × Int} {n : Nd} (hn : s.nodes[a.toNat]? = some n) (h2 : kd = 7 ∨ kd = 8 ∨ kd = 16 ∨ kd = 17 ∨ kd = 18 ∨ kd = 19) : doS c s (kd, a, b, t) = nodeOp s kd a.toNat n b := by
  unfold doS
  dsimp only
  rw [if_neg (by omega), if_neg (by omega), if_neg (by omega), if_neg (by omega), if_neg (by omega), if_neg (by omega), if_pos h2, hn]
theorem do_nodeN {c : Cf} {s : St} {kd a b : Int} {t : Int × Int × Int × Int} (hn : s.nodes[a.toNat]? = none) (h2 : kd = 7 ∨ kd = 8 ∨ kd = 16 ∨ kd = 17 ∨ kd = 18 ∨ kd = 19) : doS c s (kd, a, b, t) = (s, 4) := by
  unfold doS
  dsimp only
  rw [if_neg (by omega), if_neg (by omega), if_neg (by omega), if_neg (by omega), if_neg (by omega), if_neg (by omega), if_pos h2, hn]

/-- The first q nodes of the set are free. -/
def afK (l : List Nd) (set : Int) (q : Nat) : Bool := ((List.range q).all fun i => !hasS set i || (match l[i]? with | some n => freeN n | none => true))
theorem afK_zero (l : List Nd) (set : Int) : afK l set 0 = true := rfl
theorem afK_snoc {l : List Nd} {set : Int} {q : Nat} {n : Nd} (h : l[q]? = some n) : afK l set (q + 1) = (afK l set q && (!hasS set q || freeN n)) := by
  unfold afK
  rw [List.range_succ, List.all_append]
  simp [h]

end Go.Proofs.YtbfjlhddebollaaDoor

/- The reference of layer 9: Why, at a kind. -/
namespace Go.Proofs.YtbfjlhddebollaaDoor
open Go.RowKit

set_option maxRecDepth 100000 in
set_option maxHeartbeats 4000000 in
theorem Why_no (c : Cf) (vn vj : Value) (s : St) (kd a1 a2 a3 a4 a5 a6 : Int) (w : World) (h : RdSt w vn vj s) (hr : rightO (kd, a1, a2, a3, a4, a5, a6) = false) :
    Calls Tryd.prog 29 #[cfV c, stV vn vj s, .agg #[.int .i64 kd, .int .i64 a1, .int .i64 a2, .int .i64 a3, .int .i64 a4, .int .i64 a5, .int .i64 a6]] w fun e w' => e = .returned (.int .i64 1) ∧ Ext w w' := by
  obtain ⟨An, cn, rfl, hnc, hcm, hNN⟩ := has_cells h.nodes
  obtain ⟨Aj, cj, rfl, hjc, hjm, hJJ⟩ := jobs_cells h.jobs
  obtain ⟨W3, hW3, hx3, hb0, hb1, hb2⟩ := three_blocks w 23 30 36 #[.int .i64 c.nodes, .int .i64 c.queues, .int .i64 c.quota, .int .i64 c.wave, .int .i64 c.lease, .int .i64 c.retry, .int .i64 c.deadline, .int .i64 c.room, .int .i64 c.disk] #[.slice An s.nodes.length cn, .slice Aj s.jobs.length cj, .int .i64 s.goal, .int .i64 s.prior, .int .i64 s.mode, .int .i64 s.term] #[.int .i64 kd, .int .i64 a1, .int .i64 a2, .int .i64 a3, .int .i64 a4, .int .i64 a5, .int .i64 a6]
  have HRR := Lib.hid (RefRight08 (kd, a1, a2, a3, a4, a5, a6) W3)
  rw [hr] at HRR
  have HX3 := Lib.hid hx3
  have HB0 := Lib.hid hb0
  have HB1 := Lib.hid hb1
  have HB2 := Lib.hid hb2
  have HNN := Lib.hid hNN
  have HJJ := Lib.hid hJJ
  have HH := Lib.hid h
  have o0 : W3.cell? ⟨w.heap.size + 2, 0, none⟩ = some (.int .i64 kd) := hb2.cell 0
  have o1 : W3.cell? ⟨w.heap.size + 2, 1, none⟩ = some (.int .i64 a1) := hb2.cell 1
  have o2 : W3.cell? ⟨w.heap.size + 2, 2, none⟩ = some (.int .i64 a2) := hb2.cell 2
  have o3 : W3.cell? ⟨w.heap.size + 2, 3, none⟩ = some (.int .i64 a3) := hb2.cell 3
  have o4 : W3.cell? ⟨w.heap.size + 2, 4, none⟩ = some (.int .i64 a4) := hb2.cell 4
  have o5 : W3.cell? ⟨w.heap.size + 2, 5, none⟩ = some (.int .i64 a5) := hb2.cell 5
  have o6 : W3.cell? ⟨w.heap.size + 2, 6, none⟩ = some (.int .i64 a6) := hb2.cell 6
  rw [show opV (kd, a1, a2, a3, a4, a5, a6) = .agg #[.int .i64 kd, .int .i64 a1, .int .i64 a2, .int .i64 a3, .int .i64 a4, .int .i64 a5, .int .i64 a6] from rfl] at *
  unfold cfV stV
  clear hx3 hb0 hb1 hb2 hNN hJJ h hr
  go_enter Tryd.func29, Tryd.ntmps29
  go_wp2_with fail
  rw [← hW3]
  clear hW3
  refine HRR.out.mono ?_
  rintro e1 w1 ⟨rfl, hx1⟩
  have HX1 := Lib.hid (HX3.out.trans hx1)
  have HC0 := Lib.hid (HB0.out.ext hx1)
  have HC1 := Lib.hid (HB1.out.ext hx1)
  have HC2 := Lib.hid (HB2.out.ext hx1)
  clear hx1 HX3 HB0 HB1 HB2 HRR o0 o1 o2 o3 o4 o5 o6
  have hlw : w.heap.size + 2 < w1.heap.size := HC2.out.lt
  have hlw1 : w.heap.size + 1 < w1.heap.size := by omega
  have hlw0 : w.heap.size < w1.heap.size := by omega
  have HXE : Hid (∀ c1 t1 c2 t2, Ext w ((w1.alloc (.cells c1 t1)).alloc (.cells c2 t2))) := Lib.hid fun c1 t1 c2 t2 => (HX1.out.alloc HX1.out.size _).alloc (by have := HX1.out.size; simp; omega) _
  go_wp2
  all_goals
    go_ret
    first | exact ⟨rfl, HX1.out⟩ | exact ⟨rfl, HXE.out _ _ _ _⟩

end Go.Proofs.YtbfjlhddebollaaDoor

/- The reference of layer 9: Why, at a kind. -/
namespace Go.Proofs.YtbfjlhddebollaaDoor
open Go.RowKit

set_option maxRecDepth 100000 in
set_option maxHeartbeats 4000000 in
theorem Why_1 (c : Cf) (vn vj : Value) (s : St) (a1 a2 a3 a4 a5 a6 : Int) (w : World) (h : RdSt w vn vj s) (hR : RightP c s) (hr : rightO (1, a1, a2, a3, a4, a5, a6) = true) :
    Calls Tryd.prog 29 #[cfV c, stV vn vj s, .agg #[.int .i64 1, .int .i64 a1, .int .i64 a2, .int .i64 a3, .int .i64 a4, .int .i64 a5, .int .i64 a6]] w fun e w' => e = .returned (.int .i64 (doS c s (1, a1, a2, a3, a4, a5, a6)).2) ∧ Ext w w' := by
  have hR6 := hR.len.2
  have hj24 := hR.nj
  have hin := op_in hr
  dsimp only at hin
  obtain ⟨⟨ha0, ha9_⟩, ⟨hb0_, hb9_⟩⟩ := hin
  have HA9 := Lib.hid ha9_
  have HB9 := Lib.hid hb9_
  clear ha9_ hb9_ hb0_
  obtain ⟨An, cn, rfl, hnc, hcm, hNN⟩ := has_cells h.nodes
  obtain ⟨Aj, cj, rfl, hjc, hjm, hJJ⟩ := jobs_cells h.jobs
  obtain ⟨W3, hW3, hx3, hb0, hb1, hb2⟩ := three_blocks w 23 30 36 #[.int .i64 c.nodes, .int .i64 c.queues, .int .i64 c.quota, .int .i64 c.wave, .int .i64 c.lease, .int .i64 c.retry, .int .i64 c.deadline, .int .i64 c.room, .int .i64 c.disk] #[.slice An s.nodes.length cn, .slice Aj s.jobs.length cj, .int .i64 s.goal, .int .i64 s.prior, .int .i64 s.mode, .int .i64 s.term] #[.int .i64 1, .int .i64 a1, .int .i64 a2, .int .i64 a3, .int .i64 a4, .int .i64 a5, .int .i64 a6]
  have HRR := Lib.hid (RefRight08 (1, a1, a2, a3, a4, a5, a6) W3)
  rw [hr] at HRR
  have HX3 := Lib.hid hx3
  have HB0 := Lib.hid hb0
  have HB1 := Lib.hid hb1
  have HB2 := Lib.hid hb2
  have HNN := Lib.hid hNN
  have HJJ := Lib.hid hJJ
  have HH := Lib.hid h
  have HRP := Lib.hid hR
  have o0 : W3.cell? ⟨w.heap.size + 2, 0, none⟩ = some (.int .i64 1) := hb2.cell 0
  have o1 : W3.cell? ⟨w.heap.size + 2, 1, none⟩ = some (.int .i64 a1) := hb2.cell 1
  have o2 : W3.cell? ⟨w.heap.size + 2, 2, none⟩ = some (.int .i64 a2) := hb2.cell 2
  have o3 : W3.cell? ⟨w.heap.size + 2, 3, none⟩ = some (.int .i64 a3) := hb2.cell 3
  have o4 : W3.cell? ⟨w.heap.size + 2, 4, none⟩ = some (.int .i64 a4) := hb2.cell 4
  have o5 : W3.cell? ⟨w.heap.size + 2, 5, none⟩ = some (.int .i64 a5) := hb2.cell 5
  have o6 : W3.cell? ⟨w.heap.size + 2, 6, none⟩ = some (.int .i64 a6) := hb2.cell 6
  rw [show opV (1, a1, a2, a3, a4, a5, a6) = .agg #[.int .i64 1, .int .i64 a1, .int .i64 a2, .int .i64 a3, .int .i64 a4, .int .i64 a5, .int .i64 a6] from rfl] at *
  unfold cfV stV
  clear hx3 hb0 hb1 hb2 hNN hJJ h hR hr
  go_enter Tryd.func29, Tryd.ntmps29
  go_wp2_with fail
  rw [← hW3]
  clear hW3
  refine HRR.out.mono ?_
  rintro e1 w1 ⟨rfl, hx1⟩
  have HX1 := Lib.hid (HX3.out.trans hx1)
  have HC0 := Lib.hid (HB0.out.ext hx1)
  have HC1 := Lib.hid (HB1.out.ext hx1)
  have HC2 := Lib.hid (HB2.out.ext hx1)
  clear hx1 HX3 HB0 HB1 HB2 HRR o0 o1 o2 o3 o4 o5 o6
  have hlw : w.heap.size + 2 < w1.heap.size := HC2.out.lt
  have hlw1 : w.heap.size + 1 < w1.heap.size := by omega
  have hlw0 : w.heap.size < w1.heap.size := by omega
  have HXE : Hid (∀ c1 t1 c2 t2, Ext w ((w1.alloc (.cells c1 t1)).alloc (.cells c2 t2))) := Lib.hid fun c1 t1 c2 t2 => (HX1.out.alloc HX1.out.size _).alloc (by have := HX1.out.size; simp; omega) _
  have o0 : w1.cell? ⟨w.heap.size + 2, 0, none⟩ = some (.int .i64 1) := HC2.out.cell 0
  have o1 : w1.cell? ⟨w.heap.size + 2, 1, none⟩ = some (.int .i64 a1) := HC2.out.cell 1
  have o2 : w1.cell? ⟨w.heap.size + 2, 2, none⟩ = some (.int .i64 a2) := HC2.out.cell 2
  have o3 : w1.cell? ⟨w.heap.size + 2, 3, none⟩ = some (.int .i64 a3) := HC2.out.cell 3
  have o4 : w1.cell? ⟨w.heap.size + 2, 4, none⟩ = some (.int .i64 a4) := HC2.out.cell 4
  have o5 : w1.cell? ⟨w.heap.size + 2, 5, none⟩ = some (.int .i64 a5) := HC2.out.cell 5
  have o6 : w1.cell? ⟨w.heap.size + 2, 6, none⟩ = some (.int .i64 a6) := HC2.out.cell 6
  have s0 : w1.cell? ⟨w.heap.size + 1, 0, none⟩ = some (.slice An s.nodes.length cn) := HC1.out.cell 0
  have s1 : w1.cell? ⟨w.heap.size + 1, 1, none⟩ = some (.slice Aj s.jobs.length cj) := HC1.out.cell 1
  have s2 : w1.cell? ⟨w.heap.size + 1, 2, none⟩ = some (.int .i64 s.goal) := HC1.out.cell 2
  have s3 : w1.cell? ⟨w.heap.size + 1, 3, none⟩ = some (.int .i64 s.prior) := HC1.out.cell 3
  have s4 : w1.cell? ⟨w.heap.size + 1, 4, none⟩ = some (.int .i64 s.mode) := HC1.out.cell 4
  have s5 : w1.cell? ⟨w.heap.size + 1, 5, none⟩ = some (.int .i64 s.term) := HC1.out.cell 5
  have k0 : w1.cell? ⟨w.heap.size, 0, none⟩ = some (.int .i64 c.nodes) := HC0.out.cell 0
  have k1 : w1.cell? ⟨w.heap.size, 1, none⟩ = some (.int .i64 c.queues) := HC0.out.cell 1
  have k2 : w1.cell? ⟨w.heap.size, 2, none⟩ = some (.int .i64 c.quota) := HC0.out.cell 2
  have k3 : w1.cell? ⟨w.heap.size, 3, none⟩ = some (.int .i64 c.wave) := HC0.out.cell 3
  have k4 : w1.cell? ⟨w.heap.size, 4, none⟩ = some (.int .i64 c.lease) := HC0.out.cell 4
  have k5 : w1.cell? ⟨w.heap.size, 5, none⟩ = some (.int .i64 c.retry) := HC0.out.cell 5
  have k6 : w1.cell? ⟨w.heap.size, 6, none⟩ = some (.int .i64 c.deadline) := HC0.out.cell 6
  have k7 : w1.cell? ⟨w.heap.size, 7, none⟩ = some (.int .i64 c.room) := HC0.out.cell 7
  have k8 : w1.cell? ⟨w.heap.size, 8, none⟩ = some (.int .i64 c.disk) := HC0.out.cell 8
  have HAS := Lib.hid fun W => RefAsked_any c (newJ (1, a1, a2, a3, a4, a5, a6)) W
  obtain ⟨ab, hab⟩ : ∃ ab, askedJ c (newJ (1, a1, a2, a3, a4, a5, a6)) = ab := ⟨_, rfl⟩
  rw [hab] at HAS
  have HAB := Lib.hid hab
  unfold newJ cfV jbV at HAS
  dsimp only at HAS
  clear hab
  go_wp2_with fail
  refine (HAS.out _).mono ?_
  rintro e2 w2 ⟨rfl, hx2⟩
  have hx12 : Ext w1 w2 := Ext.trans (Below.alloc (Below.alloc (Ext.refl w1) (Nat.le_refl _) _) (by simp) _) hx2
  have HX2 := Lib.hid (HX1.out.trans hx12)
  have HS2 := Lib.hid (HC1.out.ext hx12)
  clear hx2 hx12 k0 k1 k2 k3 k4 k5 k6 k7 k8 o0 o1 o2 o3 o4 o5 o6 s0 s1 s2 s3 s4 s5
  have s1 : w2.cell? ⟨w.heap.size + 1, 1, none⟩ = some (.slice Aj s.jobs.length cj) := HS2.out.cell 1
  cases ab
  · have HV : Hid ((doS c s (1, a1, a2, a3, a4, a5, a6)).2 = 1) := Lib.hid (by show (submitS c s _).2 = 1; unfold submitS; rw [if_pos HAB.out])
    go_wp2
    go_ret
    exact ⟨congrArg (fun n => Ending.returned (.int .i64 n)) HV.out.symm, HX2.out⟩
  by_cases h_f : s.jobs.length = 24
  · have d_f : ((s.jobs.length : Int) == 24) = true := by rw [h_f]; rfl
    have HV : Hid ((doS c s (1, a1, a2, a3, a4, a5, a6)).2 = 3) := Lib.hid (by show (submitS c s _).2 = 3; unfold submitS; rw [if_neg (by rw [HAB.out]; simp), if_pos h_f])
    clear h_f
    go_wp2
    go_ret
    exact ⟨congrArg (fun n => Ending.returned (.int .i64 n)) HV.out.symm, HX2.out⟩
  have d_f : ((s.jobs.length : Int) == 24) = false := by rw [beq_eq_false_iff_ne]; omega
  have HV : Hid ((doS c s (1, a1, a2, a3, a4, a5, a6)).2 = 0) := Lib.hid (by show (submitS c s _).2 = 0; unfold submitS; rw [if_neg (by rw [HAB.out]; simp), if_neg h_f])
  clear h_f
  go_wp2
  go_ret
  exact ⟨congrArg (fun n => Ending.returned (.int .i64 n)) HV.out.symm, HX2.out⟩

end Go.Proofs.YtbfjlhddebollaaDoor

/- The reference of layer 9: Why, at a kind. -/
namespace Go.Proofs.YtbfjlhddebollaaDoor
open Go.RowKit

set_option maxRecDepth 100000 in
set_option maxHeartbeats 4000000 in
theorem Why_2 (c : Cf) (vn vj : Value) (s : St) (a1 a2 a3 a4 a5 a6 : Int) (w : World) (h : RdSt w vn vj s) (hR : RightP c s) (hr : rightO (2, a1, a2, a3, a4, a5, a6) = true) :
    Calls Tryd.prog 29 #[cfV c, stV vn vj s, .agg #[.int .i64 2, .int .i64 a1, .int .i64 a2, .int .i64 a3, .int .i64 a4, .int .i64 a5, .int .i64 a6]] w fun e w' => e = .returned (.int .i64 (doS c s (2, a1, a2, a3, a4, a5, a6)).2) ∧ Ext w w' := by
  have hR6 := hR.len.2
  have hj24 := hR.nj
  have hin := op_in hr
  dsimp only at hin
  obtain ⟨⟨ha0, ha9_⟩, ⟨hb0_, hb9_⟩⟩ := hin
  have HA9 := Lib.hid ha9_
  have HB9 := Lib.hid hb9_
  clear ha9_ hb9_
  obtain ⟨An, cn, rfl, hnc, hcm, hNN⟩ := has_cells h.nodes
  obtain ⟨Aj, cj, rfl, hjc, hjm, hJJ⟩ := jobs_cells h.jobs
  obtain ⟨W3, hW3, hx3, hb0, hb1, hb2⟩ := three_blocks w 23 30 36 #[.int .i64 c.nodes, .int .i64 c.queues, .int .i64 c.quota, .int .i64 c.wave, .int .i64 c.lease, .int .i64 c.retry, .int .i64 c.deadline, .int .i64 c.room, .int .i64 c.disk] #[.slice An s.nodes.length cn, .slice Aj s.jobs.length cj, .int .i64 s.goal, .int .i64 s.prior, .int .i64 s.mode, .int .i64 s.term] #[.int .i64 2, .int .i64 a1, .int .i64 a2, .int .i64 a3, .int .i64 a4, .int .i64 a5, .int .i64 a6]
  have HRR := Lib.hid (RefRight08 (2, a1, a2, a3, a4, a5, a6) W3)
  rw [hr] at HRR
  have HX3 := Lib.hid hx3
  have HB0 := Lib.hid hb0
  have HB1 := Lib.hid hb1
  have HB2 := Lib.hid hb2
  have HNN := Lib.hid hNN
  have HJJ := Lib.hid hJJ
  have HH := Lib.hid h
  have HRP := Lib.hid hR
  have o0 : W3.cell? ⟨w.heap.size + 2, 0, none⟩ = some (.int .i64 2) := hb2.cell 0
  have o1 : W3.cell? ⟨w.heap.size + 2, 1, none⟩ = some (.int .i64 a1) := hb2.cell 1
  have o2 : W3.cell? ⟨w.heap.size + 2, 2, none⟩ = some (.int .i64 a2) := hb2.cell 2
  have o3 : W3.cell? ⟨w.heap.size + 2, 3, none⟩ = some (.int .i64 a3) := hb2.cell 3
  have o4 : W3.cell? ⟨w.heap.size + 2, 4, none⟩ = some (.int .i64 a4) := hb2.cell 4
  have o5 : W3.cell? ⟨w.heap.size + 2, 5, none⟩ = some (.int .i64 a5) := hb2.cell 5
  have o6 : W3.cell? ⟨w.heap.size + 2, 6, none⟩ = some (.int .i64 a6) := hb2.cell 6
  rw [show opV (2, a1, a2, a3, a4, a5, a6) = .agg #[.int .i64 2, .int .i64 a1, .int .i64 a2, .int .i64 a3, .int .i64 a4, .int .i64 a5, .int .i64 a6] from rfl] at *
  unfold cfV stV
  clear hx3 hb0 hb1 hb2 hNN hJJ h hR hr
  go_enter Tryd.func29, Tryd.ntmps29
  go_wp2_with fail
  rw [← hW3]
  clear hW3
  refine HRR.out.mono ?_
  rintro e1 w1 ⟨rfl, hx1⟩
  have HX1 := Lib.hid (HX3.out.trans hx1)
  have HC0 := Lib.hid (HB0.out.ext hx1)
  have HC1 := Lib.hid (HB1.out.ext hx1)
  have HC2 := Lib.hid (HB2.out.ext hx1)
  clear hx1 HX3 HB0 HB1 HB2 HRR o0 o1 o2 o3 o4 o5 o6
  have hlw : w.heap.size + 2 < w1.heap.size := HC2.out.lt
  have hlw1 : w.heap.size + 1 < w1.heap.size := by omega
  have hlw0 : w.heap.size < w1.heap.size := by omega
  have HXE : Hid (∀ c1 t1 c2 t2, Ext w ((w1.alloc (.cells c1 t1)).alloc (.cells c2 t2))) := Lib.hid fun c1 t1 c2 t2 => (HX1.out.alloc HX1.out.size _).alloc (by have := HX1.out.size; simp; omega) _
  have o0 : w1.cell? ⟨w.heap.size + 2, 0, none⟩ = some (.int .i64 2) := HC2.out.cell 0
  have o1 : w1.cell? ⟨w.heap.size + 2, 1, none⟩ = some (.int .i64 a1) := HC2.out.cell 1
  have o2 : w1.cell? ⟨w.heap.size + 2, 2, none⟩ = some (.int .i64 a2) := HC2.out.cell 2
  have o3 : w1.cell? ⟨w.heap.size + 2, 3, none⟩ = some (.int .i64 a3) := HC2.out.cell 3
  have o4 : w1.cell? ⟨w.heap.size + 2, 4, none⟩ = some (.int .i64 a4) := HC2.out.cell 4
  have o5 : w1.cell? ⟨w.heap.size + 2, 5, none⟩ = some (.int .i64 a5) := HC2.out.cell 5
  have o6 : w1.cell? ⟨w.heap.size + 2, 6, none⟩ = some (.int .i64 a6) := HC2.out.cell 6
  have s0 : w1.cell? ⟨w.heap.size + 1, 0, none⟩ = some (.slice An s.nodes.length cn) := HC1.out.cell 0
  have s1 : w1.cell? ⟨w.heap.size + 1, 1, none⟩ = some (.slice Aj s.jobs.length cj) := HC1.out.cell 1
  have s2 : w1.cell? ⟨w.heap.size + 1, 2, none⟩ = some (.int .i64 s.goal) := HC1.out.cell 2
  have s3 : w1.cell? ⟨w.heap.size + 1, 3, none⟩ = some (.int .i64 s.prior) := HC1.out.cell 3
  have s4 : w1.cell? ⟨w.heap.size + 1, 4, none⟩ = some (.int .i64 s.mode) := HC1.out.cell 4
  have s5 : w1.cell? ⟨w.heap.size + 1, 5, none⟩ = some (.int .i64 s.term) := HC1.out.cell 5
  by_cases h_l : a1 < 1
  · have d_l : decide (a1 < 1) = true := decide_eq_true h_l
    have HV : Hid ((doS c s (2, a1, a2, a3, a4, a5, a6)).2 = 4) := Lib.hid (by rw [do_jobN (by unfold jobOf; rw [if_neg (by omega)]) (by decide) (by decide)])
    clear h_l
    go_wp2
    all_goals
      go_ret
      exact ⟨congrArg (fun n => Ending.returned (.int .i64 n)) HV.out.symm, HXE.out _ _ _ _⟩
  have d_l : decide (a1 < 1) = false := decide_eq_false h_l
  by_cases h_n : (s.jobs.length : Int) < a1
  · have d_n : decide ((s.jobs.length : Int) < a1) = true := decide_eq_true h_n
    have HV : Hid ((doS c s (2, a1, a2, a3, a4, a5, a6)).2 = 4) := Lib.hid (by rw [do_jobN (by unfold jobOf; rw [if_pos (by omega)]; exact List.getElem?_eq_none (by omega)) (by decide) (by decide)])
    clear h_n h_l
    go_wp2
    all_goals
      go_ret
      exact ⟨congrArg (fun n => Ending.returned (.int .i64 n)) HV.out.symm, HXE.out _ _ _ _⟩
  have d_n : decide ((s.jobs.length : Int) < a1) = false := decide_eq_false h_n
  obtain ⟨k, hk1⟩ : ∃ k : Nat, a1 - 1 = (k : Int) := ⟨(a1 - 1).toNat, by omega⟩
  obtain ⟨j, hj⟩ : ∃ j, s.jobs[k]? = some j := ⟨_, List.getElem?_eq_getElem (by omega)⟩
  have HJK := Lib.hid hj
  have hk2 : (a1 - 1).toNat = k := by omega
  have HDO : Hid (doS c s (2, a1, a2, a3, a4, a5, a6) = jobOp c s 2 k j a2) := Lib.hid (by have := do_job (c := c) (s := s) (kd := 2) (a := a1) (b := a2) (t := (a3, a4, a5, a6)) (j := j) (by unfold jobOf; rw [if_pos (by omega), hk2]; exact hj) (by decide) (by decide); rw [hk2] at this; exact this)
  obtain ⟨bk, o, rfl, hb, hat⟩ := HJJ.out k j hj
  obtain ⟨n0, n1, n2, n3, n4, n5, n6, n7, n8, n9, n10, n11⟩ := hat.ext HX1.out hb
  have hbl : bk < w1.heap.size := Nat.lt_of_lt_of_le hb HX1.out.size
  have x1 : (0 : Int) ≤ (k : Int) ∧ (k : Int) < (s.jobs.length : Int) := by omega
  have hwk : IntKind.i64.wrap (a1 - 1) = (k : Int) := by rw [hk1]; exact IntWalk.i64_in _ (by omega)
  have hwk' : wrap64 (a1 - 1) = (k : Int) := by rw [hk1]; exact IntWalk.wrap64_in _ (by omega)
  clear hj hat hb h_n h_l hk2 hk1 ha0
  by_cases h_p : j.phase = 4
  · have d_p : (j.phase != 4) = false := by rw [h_p]; exact bne_self_eq_false _
    have HV : Hid ((doS c s (2, a1, a2, a3, a4, a5, a6)).2 = 5) := Lib.hid (by rw [HDO.out]; unfold jobOp cancelS; simp [h_p])
    clear h_p
    go_wp2
    all_goals
      go_ret
      exact ⟨congrArg (fun n => Ending.returned (.int .i64 n)) HV.out.symm, HXE.out _ _ _ _⟩
  have d_p : (j.phase != 4) = true := by rw [bne_iff_ne]; exact h_p
  have HV : Hid ((doS c s (2, a1, a2, a3, a4, a5, a6)).2 = 0) := Lib.hid (by rw [HDO.out]; unfold jobOp cancelS; simp [h_p])
  clear h_p
  go_wp2
  all_goals
    go_ret
    exact ⟨congrArg (fun n => Ending.returned (.int .i64 n)) HV.out.symm, HXE.out _ _ _ _⟩

end Go.Proofs.YtbfjlhddebollaaDoor

/- The reference of layer 9: Why, at a kind. -/
namespace Go.Proofs.YtbfjlhddebollaaDoor
open Go.RowKit

set_option maxRecDepth 100000 in
set_option maxHeartbeats 4000000 in
theorem Why_3 (c : Cf) (vn vj : Value) (s : St) (a1 a2 a3 a4 a5 a6 : Int) (w : World) (h : RdSt w vn vj s) (hR : RightP c s) (hr : rightO (3, a1, a2, a3, a4, a5, a6) = true) :
    Calls Tryd.prog 29 #[cfV c, stV vn vj s, .agg #[.int .i64 3, .int .i64 a1, .int .i64 a2, .int .i64 a3, .int .i64 a4, .int .i64 a5, .int .i64 a6]] w fun e w' => e = .returned (.int .i64 (doS c s (3, a1, a2, a3, a4, a5, a6)).2) ∧ Ext w w' := by
  have hR6 := hR.len.2
  have hj24 := hR.nj
  have hin := op_in hr
  dsimp only at hin
  obtain ⟨⟨ha0, ha9_⟩, ⟨hb0_, hb9_⟩⟩ := hin
  have HA9 := Lib.hid ha9_
  have HB9 := Lib.hid hb9_
  clear ha9_ hb9_ hb0_
  obtain ⟨An, cn, rfl, hnc, hcm, hNN⟩ := has_cells h.nodes
  obtain ⟨Aj, cj, rfl, hjc, hjm, hJJ⟩ := jobs_cells h.jobs
  obtain ⟨W3, hW3, hx3, hb0, hb1, hb2⟩ := three_blocks w 23 30 36 #[.int .i64 c.nodes, .int .i64 c.queues, .int .i64 c.quota, .int .i64 c.wave, .int .i64 c.lease, .int .i64 c.retry, .int .i64 c.deadline, .int .i64 c.room, .int .i64 c.disk] #[.slice An s.nodes.length cn, .slice Aj s.jobs.length cj, .int .i64 s.goal, .int .i64 s.prior, .int .i64 s.mode, .int .i64 s.term] #[.int .i64 3, .int .i64 a1, .int .i64 a2, .int .i64 a3, .int .i64 a4, .int .i64 a5, .int .i64 a6]
  have HRR := Lib.hid (RefRight08 (3, a1, a2, a3, a4, a5, a6) W3)
  rw [hr] at HRR
  have HX3 := Lib.hid hx3
  have HB0 := Lib.hid hb0
  have HB1 := Lib.hid hb1
  have HB2 := Lib.hid hb2
  have HNN := Lib.hid hNN
  have HJJ := Lib.hid hJJ
  have HH := Lib.hid h
  have HRP := Lib.hid hR
  have o0 : W3.cell? ⟨w.heap.size + 2, 0, none⟩ = some (.int .i64 3) := hb2.cell 0
  have o1 : W3.cell? ⟨w.heap.size + 2, 1, none⟩ = some (.int .i64 a1) := hb2.cell 1
  have o2 : W3.cell? ⟨w.heap.size + 2, 2, none⟩ = some (.int .i64 a2) := hb2.cell 2
  have o3 : W3.cell? ⟨w.heap.size + 2, 3, none⟩ = some (.int .i64 a3) := hb2.cell 3
  have o4 : W3.cell? ⟨w.heap.size + 2, 4, none⟩ = some (.int .i64 a4) := hb2.cell 4
  have o5 : W3.cell? ⟨w.heap.size + 2, 5, none⟩ = some (.int .i64 a5) := hb2.cell 5
  have o6 : W3.cell? ⟨w.heap.size + 2, 6, none⟩ = some (.int .i64 a6) := hb2.cell 6
  rw [show opV (3, a1, a2, a3, a4, a5, a6) = .agg #[.int .i64 3, .int .i64 a1, .int .i64 a2, .int .i64 a3, .int .i64 a4, .int .i64 a5, .int .i64 a6] from rfl] at *
  unfold cfV stV
  clear hx3 hb0 hb1 hb2 hNN hJJ h hR hr
  go_enter Tryd.func29, Tryd.ntmps29
  go_wp2_with fail
  rw [← hW3]
  clear hW3
  refine HRR.out.mono ?_
  rintro e1 w1 ⟨rfl, hx1⟩
  have HX1 := Lib.hid (HX3.out.trans hx1)
  have HC0 := Lib.hid (HB0.out.ext hx1)
  have HC1 := Lib.hid (HB1.out.ext hx1)
  have HC2 := Lib.hid (HB2.out.ext hx1)
  clear hx1 HX3 HB0 HB1 HB2 HRR o0 o1 o2 o3 o4 o5 o6
  have hlw : w.heap.size + 2 < w1.heap.size := HC2.out.lt
  have hlw1 : w.heap.size + 1 < w1.heap.size := by omega
  have hlw0 : w.heap.size < w1.heap.size := by omega
  have HXE : Hid (∀ c1 t1 c2 t2, Ext w ((w1.alloc (.cells c1 t1)).alloc (.cells c2 t2))) := Lib.hid fun c1 t1 c2 t2 => (HX1.out.alloc HX1.out.size _).alloc (by have := HX1.out.size; simp; omega) _
  have o0 : w1.cell? ⟨w.heap.size + 2, 0, none⟩ = some (.int .i64 3) := HC2.out.cell 0
  have o1 : w1.cell? ⟨w.heap.size + 2, 1, none⟩ = some (.int .i64 a1) := HC2.out.cell 1
  have o2 : w1.cell? ⟨w.heap.size + 2, 2, none⟩ = some (.int .i64 a2) := HC2.out.cell 2
  have o3 : w1.cell? ⟨w.heap.size + 2, 3, none⟩ = some (.int .i64 a3) := HC2.out.cell 3
  have o4 : w1.cell? ⟨w.heap.size + 2, 4, none⟩ = some (.int .i64 a4) := HC2.out.cell 4
  have o5 : w1.cell? ⟨w.heap.size + 2, 5, none⟩ = some (.int .i64 a5) := HC2.out.cell 5
  have o6 : w1.cell? ⟨w.heap.size + 2, 6, none⟩ = some (.int .i64 a6) := HC2.out.cell 6
  have s0 : w1.cell? ⟨w.heap.size + 1, 0, none⟩ = some (.slice An s.nodes.length cn) := HC1.out.cell 0
  have s1 : w1.cell? ⟨w.heap.size + 1, 1, none⟩ = some (.slice Aj s.jobs.length cj) := HC1.out.cell 1
  have s2 : w1.cell? ⟨w.heap.size + 1, 2, none⟩ = some (.int .i64 s.goal) := HC1.out.cell 2
  have s3 : w1.cell? ⟨w.heap.size + 1, 3, none⟩ = some (.int .i64 s.prior) := HC1.out.cell 3
  have s4 : w1.cell? ⟨w.heap.size + 1, 4, none⟩ = some (.int .i64 s.mode) := HC1.out.cell 4
  have s5 : w1.cell? ⟨w.heap.size + 1, 5, none⟩ = some (.int .i64 s.term) := HC1.out.cell 5
  by_cases h_l : a1 < 1
  · have d_l : decide (a1 < 1) = true := decide_eq_true h_l
    have HV : Hid ((doS c s (3, a1, a2, a3, a4, a5, a6)).2 = 1) := Lib.hid (by show (targetS s a1).2 = 1; unfold targetS; rw [if_pos (by unfold inR; simp; omega)])
    clear h_l
    go_wp2
    all_goals
      go_ret
      exact ⟨congrArg (fun n => Ending.returned (.int .i64 n)) HV.out.symm, HXE.out _ _ _ _⟩
  have d_l : decide (a1 < 1) = false := decide_eq_false h_l
  by_cases h_m : 9 < a1
  · have d_m : decide (9 < a1) = true := decide_eq_true h_m
    have HV : Hid ((doS c s (3, a1, a2, a3, a4, a5, a6)).2 = 1) := Lib.hid (by show (targetS s a1).2 = 1; unfold targetS; rw [if_pos (by unfold inR; simp; omega)])
    clear h_l h_m
    go_wp2
    all_goals
      go_ret
      exact ⟨congrArg (fun n => Ending.returned (.int .i64 n)) HV.out.symm, HXE.out _ _ _ _⟩
  have d_m : decide (9 < a1) = false := decide_eq_false h_m
  have HV : Hid ((doS c s (3, a1, a2, a3, a4, a5, a6)).2 = 0) := Lib.hid (by show (targetS s a1).2 = 0; unfold targetS; rw [if_neg (by unfold inR; simp; omega)])
  clear h_l h_m
  go_wp2
  all_goals
    go_ret
    exact ⟨congrArg (fun n => Ending.returned (.int .i64 n)) HV.out.symm, HXE.out _ _ _ _⟩

end Go.Proofs.YtbfjlhddebollaaDoor

/- The reference of layer 9: Why, at a kind. -/
namespace Go.Proofs.YtbfjlhddebollaaDoor
open Go.RowKit

set_option maxRecDepth 100000 in
set_option maxHeartbeats 4000000 in
theorem Why_4 (c : Cf) (vn vj : Value) (s : St) (a1 a2 a3 a4 a5 a6 : Int) (w : World) (h : RdSt w vn vj s) (hR : RightP c s) (hr : rightO (4, a1, a2, a3, a4, a5, a6) = true) :
    Calls Tryd.prog 29 #[cfV c, stV vn vj s, .agg #[.int .i64 4, .int .i64 a1, .int .i64 a2, .int .i64 a3, .int .i64 a4, .int .i64 a5, .int .i64 a6]] w fun e w' => e = .returned (.int .i64 (doS c s (4, a1, a2, a3, a4, a5, a6)).2) ∧ Ext w w' := by
  have hR6 := hR.len.2
  have hj24 := hR.nj
  have hin := op_in hr
  dsimp only at hin
  obtain ⟨⟨ha0, ha9_⟩, ⟨hb0_, hb9_⟩⟩ := hin
  have HA9 := Lib.hid ha9_
  have HB9 := Lib.hid hb9_
  clear ha9_ hb9_ hb0_
  obtain ⟨An, cn, rfl, hnc, hcm, hNN⟩ := has_cells h.nodes
  obtain ⟨Aj, cj, rfl, hjc, hjm, hJJ⟩ := jobs_cells h.jobs
  obtain ⟨W3, hW3, hx3, hb0, hb1, hb2⟩ := three_blocks w 23 30 36 #[.int .i64 c.nodes, .int .i64 c.queues, .int .i64 c.quota, .int .i64 c.wave, .int .i64 c.lease, .int .i64 c.retry, .int .i64 c.deadline, .int .i64 c.room, .int .i64 c.disk] #[.slice An s.nodes.length cn, .slice Aj s.jobs.length cj, .int .i64 s.goal, .int .i64 s.prior, .int .i64 s.mode, .int .i64 s.term] #[.int .i64 4, .int .i64 a1, .int .i64 a2, .int .i64 a3, .int .i64 a4, .int .i64 a5, .int .i64 a6]
  have HRR := Lib.hid (RefRight08 (4, a1, a2, a3, a4, a5, a6) W3)
  rw [hr] at HRR
  have HX3 := Lib.hid hx3
  have HB0 := Lib.hid hb0
  have HB1 := Lib.hid hb1
  have HB2 := Lib.hid hb2
  have HNN := Lib.hid hNN
  have HJJ := Lib.hid hJJ
  have HH := Lib.hid h
  have HRP := Lib.hid hR
  have o0 : W3.cell? ⟨w.heap.size + 2, 0, none⟩ = some (.int .i64 4) := hb2.cell 0
  have o1 : W3.cell? ⟨w.heap.size + 2, 1, none⟩ = some (.int .i64 a1) := hb2.cell 1
  have o2 : W3.cell? ⟨w.heap.size + 2, 2, none⟩ = some (.int .i64 a2) := hb2.cell 2
  have o3 : W3.cell? ⟨w.heap.size + 2, 3, none⟩ = some (.int .i64 a3) := hb2.cell 3
  have o4 : W3.cell? ⟨w.heap.size + 2, 4, none⟩ = some (.int .i64 a4) := hb2.cell 4
  have o5 : W3.cell? ⟨w.heap.size + 2, 5, none⟩ = some (.int .i64 a5) := hb2.cell 5
  have o6 : W3.cell? ⟨w.heap.size + 2, 6, none⟩ = some (.int .i64 a6) := hb2.cell 6
  rw [show opV (4, a1, a2, a3, a4, a5, a6) = .agg #[.int .i64 4, .int .i64 a1, .int .i64 a2, .int .i64 a3, .int .i64 a4, .int .i64 a5, .int .i64 a6] from rfl] at *
  unfold cfV stV
  clear hx3 hb0 hb1 hb2 hNN hJJ h hR hr
  go_enter Tryd.func29, Tryd.ntmps29
  go_wp2_with fail
  rw [← hW3]
  clear hW3
  refine HRR.out.mono ?_
  rintro e1 w1 ⟨rfl, hx1⟩
  have HX1 := Lib.hid (HX3.out.trans hx1)
  have HC0 := Lib.hid (HB0.out.ext hx1)
  have HC1 := Lib.hid (HB1.out.ext hx1)
  have HC2 := Lib.hid (HB2.out.ext hx1)
  clear hx1 HX3 HB0 HB1 HB2 HRR o0 o1 o2 o3 o4 o5 o6
  have hlw : w.heap.size + 2 < w1.heap.size := HC2.out.lt
  have hlw1 : w.heap.size + 1 < w1.heap.size := by omega
  have hlw0 : w.heap.size < w1.heap.size := by omega
  have HXE : Hid (∀ c1 t1 c2 t2, Ext w ((w1.alloc (.cells c1 t1)).alloc (.cells c2 t2))) := Lib.hid fun c1 t1 c2 t2 => (HX1.out.alloc HX1.out.size _).alloc (by have := HX1.out.size; simp; omega) _
  have o0 : w1.cell? ⟨w.heap.size + 2, 0, none⟩ = some (.int .i64 4) := HC2.out.cell 0
  have o1 : w1.cell? ⟨w.heap.size + 2, 1, none⟩ = some (.int .i64 a1) := HC2.out.cell 1
  have o2 : w1.cell? ⟨w.heap.size + 2, 2, none⟩ = some (.int .i64 a2) := HC2.out.cell 2
  have o3 : w1.cell? ⟨w.heap.size + 2, 3, none⟩ = some (.int .i64 a3) := HC2.out.cell 3
  have o4 : w1.cell? ⟨w.heap.size + 2, 4, none⟩ = some (.int .i64 a4) := HC2.out.cell 4
  have o5 : w1.cell? ⟨w.heap.size + 2, 5, none⟩ = some (.int .i64 a5) := HC2.out.cell 5
  have o6 : w1.cell? ⟨w.heap.size + 2, 6, none⟩ = some (.int .i64 a6) := HC2.out.cell 6
  have s0 : w1.cell? ⟨w.heap.size + 1, 0, none⟩ = some (.slice An s.nodes.length cn) := HC1.out.cell 0
  have s1 : w1.cell? ⟨w.heap.size + 1, 1, none⟩ = some (.slice Aj s.jobs.length cj) := HC1.out.cell 1
  have s2 : w1.cell? ⟨w.heap.size + 1, 2, none⟩ = some (.int .i64 s.goal) := HC1.out.cell 2
  have s3 : w1.cell? ⟨w.heap.size + 1, 3, none⟩ = some (.int .i64 s.prior) := HC1.out.cell 3
  have s4 : w1.cell? ⟨w.heap.size + 1, 4, none⟩ = some (.int .i64 s.mode) := HC1.out.cell 4
  have s5 : w1.cell? ⟨w.heap.size + 1, 5, none⟩ = some (.int .i64 s.term) := HC1.out.cell 5
  by_cases h_m : s.mode = 0
  · have d_m : (s.mode == 0) = true := by rw [beq_iff_eq]; exact h_m
    have HV : Hid ((doS c s (4, a1, a2, a3, a4, a5, a6)).2 = 0) := Lib.hid (by show (pauseS s).2 = 0; unfold pauseS; rw [if_pos h_m])
    clear h_m
    go_wp2
    all_goals
      go_ret
      exact ⟨congrArg (fun n => Ending.returned (.int .i64 n)) HV.out.symm, HXE.out _ _ _ _⟩
  have d_m : (s.mode == 0) = false := by rw [beq_eq_false_iff_ne]; exact h_m
  have HV : Hid ((doS c s (4, a1, a2, a3, a4, a5, a6)).2 = 5) := Lib.hid (by show (pauseS s).2 = 5; unfold pauseS; rw [if_neg h_m])
  clear h_m
  go_wp2
  all_goals
    go_ret
    exact ⟨congrArg (fun n => Ending.returned (.int .i64 n)) HV.out.symm, HXE.out _ _ _ _⟩

end Go.Proofs.YtbfjlhddebollaaDoor

/- The reference of layer 9: Why, at a kind. -/
namespace Go.Proofs.YtbfjlhddebollaaDoor
open Go.RowKit

set_option maxRecDepth 100000 in
set_option maxHeartbeats 4000000 in
theorem Why_5 (c : Cf) (vn vj : Value) (s : St) (a1 a2 a3 a4 a5 a6 : Int) (w : World) (h : RdSt w vn vj s) (hR : RightP c s) (hr : rightO (5, a1, a2, a3, a4, a5, a6) = true) :
    Calls Tryd.prog 29 #[cfV c, stV vn vj s, .agg #[.int .i64 5, .int .i64 a1, .int .i64 a2, .int .i64 a3, .int .i64 a4, .int .i64 a5, .int .i64 a6]] w fun e w' => e = .returned (.int .i64 (doS c s (5, a1, a2, a3, a4, a5, a6)).2) ∧ Ext w w' := by
  have hR6 := hR.len.2
  have hj24 := hR.nj
  have hin := op_in hr
  dsimp only at hin
  obtain ⟨⟨ha0, ha9_⟩, ⟨hb0_, hb9_⟩⟩ := hin
  have HA9 := Lib.hid ha9_
  have HB9 := Lib.hid hb9_
  clear ha9_ hb9_ hb0_
  obtain ⟨An, cn, rfl, hnc, hcm, hNN⟩ := has_cells h.nodes
  obtain ⟨Aj, cj, rfl, hjc, hjm, hJJ⟩ := jobs_cells h.jobs
  obtain ⟨W3, hW3, hx3, hb0, hb1, hb2⟩ := three_blocks w 23 30 36 #[.int .i64 c.nodes, .int .i64 c.queues, .int .i64 c.quota, .int .i64 c.wave, .int .i64 c.lease, .int .i64 c.retry, .int .i64 c.deadline, .int .i64 c.room, .int .i64 c.disk] #[.slice An s.nodes.length cn, .slice Aj s.jobs.length cj, .int .i64 s.goal, .int .i64 s.prior, .int .i64 s.mode, .int .i64 s.term] #[.int .i64 5, .int .i64 a1, .int .i64 a2, .int .i64 a3, .int .i64 a4, .int .i64 a5, .int .i64 a6]
  have HRR := Lib.hid (RefRight08 (5, a1, a2, a3, a4, a5, a6) W3)
  rw [hr] at HRR
  have HX3 := Lib.hid hx3
  have HB0 := Lib.hid hb0
  have HB1 := Lib.hid hb1
  have HB2 := Lib.hid hb2
  have HNN := Lib.hid hNN
  have HJJ := Lib.hid hJJ
  have HH := Lib.hid h
  have HRP := Lib.hid hR
  have o0 : W3.cell? ⟨w.heap.size + 2, 0, none⟩ = some (.int .i64 5) := hb2.cell 0
  have o1 : W3.cell? ⟨w.heap.size + 2, 1, none⟩ = some (.int .i64 a1) := hb2.cell 1
  have o2 : W3.cell? ⟨w.heap.size + 2, 2, none⟩ = some (.int .i64 a2) := hb2.cell 2
  have o3 : W3.cell? ⟨w.heap.size + 2, 3, none⟩ = some (.int .i64 a3) := hb2.cell 3
  have o4 : W3.cell? ⟨w.heap.size + 2, 4, none⟩ = some (.int .i64 a4) := hb2.cell 4
  have o5 : W3.cell? ⟨w.heap.size + 2, 5, none⟩ = some (.int .i64 a5) := hb2.cell 5
  have o6 : W3.cell? ⟨w.heap.size + 2, 6, none⟩ = some (.int .i64 a6) := hb2.cell 6
  rw [show opV (5, a1, a2, a3, a4, a5, a6) = .agg #[.int .i64 5, .int .i64 a1, .int .i64 a2, .int .i64 a3, .int .i64 a4, .int .i64 a5, .int .i64 a6] from rfl] at *
  unfold cfV stV
  clear hx3 hb0 hb1 hb2 hNN hJJ h hR hr
  go_enter Tryd.func29, Tryd.ntmps29
  go_wp2_with fail
  rw [← hW3]
  clear hW3
  refine HRR.out.mono ?_
  rintro e1 w1 ⟨rfl, hx1⟩
  have HX1 := Lib.hid (HX3.out.trans hx1)
  have HC0 := Lib.hid (HB0.out.ext hx1)
  have HC1 := Lib.hid (HB1.out.ext hx1)
  have HC2 := Lib.hid (HB2.out.ext hx1)
  clear hx1 HX3 HB0 HB1 HB2 HRR o0 o1 o2 o3 o4 o5 o6
  have hlw : w.heap.size + 2 < w1.heap.size := HC2.out.lt
  have hlw1 : w.heap.size + 1 < w1.heap.size := by omega
  have hlw0 : w.heap.size < w1.heap.size := by omega
  have HXE : Hid (∀ c1 t1 c2 t2, Ext w ((w1.alloc (.cells c1 t1)).alloc (.cells c2 t2))) := Lib.hid fun c1 t1 c2 t2 => (HX1.out.alloc HX1.out.size _).alloc (by have := HX1.out.size; simp; omega) _
  have o0 : w1.cell? ⟨w.heap.size + 2, 0, none⟩ = some (.int .i64 5) := HC2.out.cell 0
  have o1 : w1.cell? ⟨w.heap.size + 2, 1, none⟩ = some (.int .i64 a1) := HC2.out.cell 1
  have o2 : w1.cell? ⟨w.heap.size + 2, 2, none⟩ = some (.int .i64 a2) := HC2.out.cell 2
  have o3 : w1.cell? ⟨w.heap.size + 2, 3, none⟩ = some (.int .i64 a3) := HC2.out.cell 3
  have o4 : w1.cell? ⟨w.heap.size + 2, 4, none⟩ = some (.int .i64 a4) := HC2.out.cell 4
  have o5 : w1.cell? ⟨w.heap.size + 2, 5, none⟩ = some (.int .i64 a5) := HC2.out.cell 5
  have o6 : w1.cell? ⟨w.heap.size + 2, 6, none⟩ = some (.int .i64 a6) := HC2.out.cell 6
  have s0 : w1.cell? ⟨w.heap.size + 1, 0, none⟩ = some (.slice An s.nodes.length cn) := HC1.out.cell 0
  have s1 : w1.cell? ⟨w.heap.size + 1, 1, none⟩ = some (.slice Aj s.jobs.length cj) := HC1.out.cell 1
  have s2 : w1.cell? ⟨w.heap.size + 1, 2, none⟩ = some (.int .i64 s.goal) := HC1.out.cell 2
  have s3 : w1.cell? ⟨w.heap.size + 1, 3, none⟩ = some (.int .i64 s.prior) := HC1.out.cell 3
  have s4 : w1.cell? ⟨w.heap.size + 1, 4, none⟩ = some (.int .i64 s.mode) := HC1.out.cell 4
  have s5 : w1.cell? ⟨w.heap.size + 1, 5, none⟩ = some (.int .i64 s.term) := HC1.out.cell 5
  by_cases h_m : s.mode = 1
  · have d_m : (s.mode == 1) = true := by rw [beq_iff_eq]; exact h_m
    have HV : Hid ((doS c s (5, a1, a2, a3, a4, a5, a6)).2 = 0) := Lib.hid (by show (resumeS s).2 = 0; unfold resumeS; rw [if_pos h_m])
    clear h_m
    go_wp2
    all_goals
      go_ret
      exact ⟨congrArg (fun n => Ending.returned (.int .i64 n)) HV.out.symm, HXE.out _ _ _ _⟩
  have d_m : (s.mode == 1) = false := by rw [beq_eq_false_iff_ne]; exact h_m
  have HV : Hid ((doS c s (5, a1, a2, a3, a4, a5, a6)).2 = 5) := Lib.hid (by show (resumeS s).2 = 5; unfold resumeS; rw [if_neg h_m])
  clear h_m
  go_wp2
  all_goals
    go_ret
    exact ⟨congrArg (fun n => Ending.returned (.int .i64 n)) HV.out.symm, HXE.out _ _ _ _⟩

end Go.Proofs.YtbfjlhddebollaaDoor

/- The reference of layer 9: Why, at a kind. -/
namespace Go.Proofs.YtbfjlhddebollaaDoor
open Go.RowKit

set_option maxRecDepth 100000 in
set_option maxHeartbeats 4000000 in
theorem Why_6 (c : Cf) (vn vj : Value) (s : St) (a1 a2 a3 a4 a5 a6 : Int) (w : World) (h : RdSt w vn vj s) (hR : RightP c s) (hr : rightO (6, a1, a2, a3, a4, a5, a6) = true) :
    Calls Tryd.prog 29 #[cfV c, stV vn vj s, .agg #[.int .i64 6, .int .i64 a1, .int .i64 a2, .int .i64 a3, .int .i64 a4, .int .i64 a5, .int .i64 a6]] w fun e w' => e = .returned (.int .i64 (doS c s (6, a1, a2, a3, a4, a5, a6)).2) ∧ Ext w w' := by
  have hR6 := hR.len.2
  have hj24 := hR.nj
  have hin := op_in hr
  dsimp only at hin
  obtain ⟨⟨ha0, ha9_⟩, ⟨hb0_, hb9_⟩⟩ := hin
  have HA9 := Lib.hid ha9_
  have HB9 := Lib.hid hb9_
  clear ha9_ hb9_ hb0_
  obtain ⟨An, cn, rfl, hnc, hcm, hNN⟩ := has_cells h.nodes
  obtain ⟨Aj, cj, rfl, hjc, hjm, hJJ⟩ := jobs_cells h.jobs
  obtain ⟨W3, hW3, hx3, hb0, hb1, hb2⟩ := three_blocks w 23 30 36 #[.int .i64 c.nodes, .int .i64 c.queues, .int .i64 c.quota, .int .i64 c.wave, .int .i64 c.lease, .int .i64 c.retry, .int .i64 c.deadline, .int .i64 c.room, .int .i64 c.disk] #[.slice An s.nodes.length cn, .slice Aj s.jobs.length cj, .int .i64 s.goal, .int .i64 s.prior, .int .i64 s.mode, .int .i64 s.term] #[.int .i64 6, .int .i64 a1, .int .i64 a2, .int .i64 a3, .int .i64 a4, .int .i64 a5, .int .i64 a6]
  have HRR := Lib.hid (RefRight08 (6, a1, a2, a3, a4, a5, a6) W3)
  rw [hr] at HRR
  have HX3 := Lib.hid hx3
  have HB0 := Lib.hid hb0
  have HB1 := Lib.hid hb1
  have HB2 := Lib.hid hb2
  have HNN := Lib.hid hNN
  have HJJ := Lib.hid hJJ
  have HH := Lib.hid h
  have HRP := Lib.hid hR
  have o0 : W3.cell? ⟨w.heap.size + 2, 0, none⟩ = some (.int .i64 6) := hb2.cell 0
  have o1 : W3.cell? ⟨w.heap.size + 2, 1, none⟩ = some (.int .i64 a1) := hb2.cell 1
  have o2 : W3.cell? ⟨w.heap.size + 2, 2, none⟩ = some (.int .i64 a2) := hb2.cell 2
  have o3 : W3.cell? ⟨w.heap.size + 2, 3, none⟩ = some (.int .i64 a3) := hb2.cell 3
  have o4 : W3.cell? ⟨w.heap.size + 2, 4, none⟩ = some (.int .i64 a4) := hb2.cell 4
  have o5 : W3.cell? ⟨w.heap.size + 2, 5, none⟩ = some (.int .i64 a5) := hb2.cell 5
  have o6 : W3.cell? ⟨w.heap.size + 2, 6, none⟩ = some (.int .i64 a6) := hb2.cell 6
  rw [show opV (6, a1, a2, a3, a4, a5, a6) = .agg #[.int .i64 6, .int .i64 a1, .int .i64 a2, .int .i64 a3, .int .i64 a4, .int .i64 a5, .int .i64 a6] from rfl] at *
  unfold cfV stV
  clear hx3 hb0 hb1 hb2 hNN hJJ h hR hr
  go_enter Tryd.func29, Tryd.ntmps29
  go_wp2_with fail
  rw [← hW3]
  clear hW3
  refine HRR.out.mono ?_
  rintro e1 w1 ⟨rfl, hx1⟩
  have HX1 := Lib.hid (HX3.out.trans hx1)
  have HC0 := Lib.hid (HB0.out.ext hx1)
  have HC1 := Lib.hid (HB1.out.ext hx1)
  have HC2 := Lib.hid (HB2.out.ext hx1)
  clear hx1 HX3 HB0 HB1 HB2 HRR o0 o1 o2 o3 o4 o5 o6
  have hlw : w.heap.size + 2 < w1.heap.size := HC2.out.lt
  have hlw1 : w.heap.size + 1 < w1.heap.size := by omega
  have hlw0 : w.heap.size < w1.heap.size := by omega
  have HXE : Hid (∀ c1 t1 c2 t2, Ext w ((w1.alloc (.cells c1 t1)).alloc (.cells c2 t2))) := Lib.hid fun c1 t1 c2 t2 => (HX1.out.alloc HX1.out.size _).alloc (by have := HX1.out.size; simp; omega) _
  have o0 : w1.cell? ⟨w.heap.size + 2, 0, none⟩ = some (.int .i64 6) := HC2.out.cell 0
  have o1 : w1.cell? ⟨w.heap.size + 2, 1, none⟩ = some (.int .i64 a1) := HC2.out.cell 1
  have o2 : w1.cell? ⟨w.heap.size + 2, 2, none⟩ = some (.int .i64 a2) := HC2.out.cell 2
  have o3 : w1.cell? ⟨w.heap.size + 2, 3, none⟩ = some (.int .i64 a3) := HC2.out.cell 3
  have o4 : w1.cell? ⟨w.heap.size + 2, 4, none⟩ = some (.int .i64 a4) := HC2.out.cell 4
  have o5 : w1.cell? ⟨w.heap.size + 2, 5, none⟩ = some (.int .i64 a5) := HC2.out.cell 5
  have o6 : w1.cell? ⟨w.heap.size + 2, 6, none⟩ = some (.int .i64 a6) := HC2.out.cell 6
  have s0 : w1.cell? ⟨w.heap.size + 1, 0, none⟩ = some (.slice An s.nodes.length cn) := HC1.out.cell 0
  have s1 : w1.cell? ⟨w.heap.size + 1, 1, none⟩ = some (.slice Aj s.jobs.length cj) := HC1.out.cell 1
  have s2 : w1.cell? ⟨w.heap.size + 1, 2, none⟩ = some (.int .i64 s.goal) := HC1.out.cell 2
  have s3 : w1.cell? ⟨w.heap.size + 1, 3, none⟩ = some (.int .i64 s.prior) := HC1.out.cell 3
  have s4 : w1.cell? ⟨w.heap.size + 1, 4, none⟩ = some (.int .i64 s.mode) := HC1.out.cell 4
  have s5 : w1.cell? ⟨w.heap.size + 1, 5, none⟩ = some (.int .i64 s.term) := HC1.out.cell 5
  by_cases h_m : s.mode = 2
  · have d_m : (s.mode != 2) = false := by rw [h_m]; exact bne_self_eq_false _
    have HV : Hid ((doS c s (6, a1, a2, a3, a4, a5, a6)).2 = 5) := Lib.hid (by show (abortS s).2 = 5; unfold abortS; rw [if_pos h_m])
    clear h_m
    go_wp2
    all_goals
      go_ret
      exact ⟨congrArg (fun n => Ending.returned (.int .i64 n)) HV.out.symm, HXE.out _ _ _ _⟩
  have d_m : (s.mode != 2) = true := by rw [bne_iff_ne]; exact h_m
  have HV : Hid ((doS c s (6, a1, a2, a3, a4, a5, a6)).2 = 0) := Lib.hid (by show (abortS s).2 = 0; unfold abortS; rw [if_neg h_m])
  clear h_m
  go_wp2
  all_goals
    go_ret
    exact ⟨congrArg (fun n => Ending.returned (.int .i64 n)) HV.out.symm, HXE.out _ _ _ _⟩

end Go.Proofs.YtbfjlhddebollaaDoor

/- The reference of layer 9: Why, at a kind. -/
namespace Go.Proofs.YtbfjlhddebollaaDoor
open Go.RowKit

set_option maxRecDepth 100000 in
set_option maxHeartbeats 4000000 in
theorem Why_7 (c : Cf) (vn vj : Value) (s : St) (a1 a2 a3 a4 a5 a6 : Int) (w : World) (h : RdSt w vn vj s) (hR : RightP c s) (hr : rightO (7, a1, a2, a3, a4, a5, a6) = true) :
    Calls Tryd.prog 29 #[cfV c, stV vn vj s, .agg #[.int .i64 7, .int .i64 a1, .int .i64 a2, .int .i64 a3, .int .i64 a4, .int .i64 a5, .int .i64 a6]] w fun e w' => e = .returned (.int .i64 (doS c s (7, a1, a2, a3, a4, a5, a6)).2) ∧ Ext w w' := by
  have hR6 := hR.len.2
  have hj24 := hR.nj
  have hin := op_in hr
  dsimp only at hin
  obtain ⟨⟨ha0, ha9_⟩, ⟨hb0_, hb9_⟩⟩ := hin
  have HA9 := Lib.hid ha9_
  have HB9 := Lib.hid hb9_
  clear ha9_ hb9_ hb0_
  obtain ⟨An, cn, rfl, hnc, hcm, hNN⟩ := has_cells h.nodes
  obtain ⟨Aj, cj, rfl, hjc, hjm, hJJ⟩ := jobs_cells h.jobs
  obtain ⟨W3, hW3, hx3, hb0, hb1, hb2⟩ := three_blocks w 23 30 36 #[.int .i64 c.nodes, .int .i64 c.queues, .int .i64 c.quota, .int .i64 c.wave, .int .i64 c.lease, .int .i64 c.retry, .int .i64 c.deadline, .int .i64 c.room, .int .i64 c.disk] #[.slice An s.nodes.length cn, .slice Aj s.jobs.length cj, .int .i64 s.goal, .int .i64 s.prior, .int .i64 s.mode, .int .i64 s.term] #[.int .i64 7, .int .i64 a1, .int .i64 a2, .int .i64 a3, .int .i64 a4, .int .i64 a5, .int .i64 a6]
  have HRR := Lib.hid (RefRight08 (7, a1, a2, a3, a4, a5, a6) W3)
  rw [hr] at HRR
  have HX3 := Lib.hid hx3
  have HB0 := Lib.hid hb0
  have HB1 := Lib.hid hb1
  have HB2 := Lib.hid hb2
  have HNN := Lib.hid hNN
  have HJJ := Lib.hid hJJ
  have HH := Lib.hid h
  have HRP := Lib.hid hR
  have o0 : W3.cell? ⟨w.heap.size + 2, 0, none⟩ = some (.int .i64 7) := hb2.cell 0
  have o1 : W3.cell? ⟨w.heap.size + 2, 1, none⟩ = some (.int .i64 a1) := hb2.cell 1
  have o2 : W3.cell? ⟨w.heap.size + 2, 2, none⟩ = some (.int .i64 a2) := hb2.cell 2
  have o3 : W3.cell? ⟨w.heap.size + 2, 3, none⟩ = some (.int .i64 a3) := hb2.cell 3
  have o4 : W3.cell? ⟨w.heap.size + 2, 4, none⟩ = some (.int .i64 a4) := hb2.cell 4
  have o5 : W3.cell? ⟨w.heap.size + 2, 5, none⟩ = some (.int .i64 a5) := hb2.cell 5
  have o6 : W3.cell? ⟨w.heap.size + 2, 6, none⟩ = some (.int .i64 a6) := hb2.cell 6
  rw [show opV (7, a1, a2, a3, a4, a5, a6) = .agg #[.int .i64 7, .int .i64 a1, .int .i64 a2, .int .i64 a3, .int .i64 a4, .int .i64 a5, .int .i64 a6] from rfl] at *
  unfold cfV stV
  clear hx3 hb0 hb1 hb2 hNN hJJ h hR hr
  go_enter Tryd.func29, Tryd.ntmps29
  go_wp2_with fail
  rw [← hW3]
  clear hW3
  refine HRR.out.mono ?_
  rintro e1 w1 ⟨rfl, hx1⟩
  have HX1 := Lib.hid (HX3.out.trans hx1)
  have HC0 := Lib.hid (HB0.out.ext hx1)
  have HC1 := Lib.hid (HB1.out.ext hx1)
  have HC2 := Lib.hid (HB2.out.ext hx1)
  clear hx1 HX3 HB0 HB1 HB2 HRR o0 o1 o2 o3 o4 o5 o6
  have hlw : w.heap.size + 2 < w1.heap.size := HC2.out.lt
  have hlw1 : w.heap.size + 1 < w1.heap.size := by omega
  have hlw0 : w.heap.size < w1.heap.size := by omega
  have HXE : Hid (∀ c1 t1 c2 t2, Ext w ((w1.alloc (.cells c1 t1)).alloc (.cells c2 t2))) := Lib.hid fun c1 t1 c2 t2 => (HX1.out.alloc HX1.out.size _).alloc (by have := HX1.out.size; simp; omega) _
  have o0 : w1.cell? ⟨w.heap.size + 2, 0, none⟩ = some (.int .i64 7) := HC2.out.cell 0
  have o1 : w1.cell? ⟨w.heap.size + 2, 1, none⟩ = some (.int .i64 a1) := HC2.out.cell 1
  have o2 : w1.cell? ⟨w.heap.size + 2, 2, none⟩ = some (.int .i64 a2) := HC2.out.cell 2
  have o3 : w1.cell? ⟨w.heap.size + 2, 3, none⟩ = some (.int .i64 a3) := HC2.out.cell 3
  have o4 : w1.cell? ⟨w.heap.size + 2, 4, none⟩ = some (.int .i64 a4) := HC2.out.cell 4
  have o5 : w1.cell? ⟨w.heap.size + 2, 5, none⟩ = some (.int .i64 a5) := HC2.out.cell 5
  have o6 : w1.cell? ⟨w.heap.size + 2, 6, none⟩ = some (.int .i64 a6) := HC2.out.cell 6
  have s0 : w1.cell? ⟨w.heap.size + 1, 0, none⟩ = some (.slice An s.nodes.length cn) := HC1.out.cell 0
  have s1 : w1.cell? ⟨w.heap.size + 1, 1, none⟩ = some (.slice Aj s.jobs.length cj) := HC1.out.cell 1
  have s2 : w1.cell? ⟨w.heap.size + 1, 2, none⟩ = some (.int .i64 s.goal) := HC1.out.cell 2
  have s3 : w1.cell? ⟨w.heap.size + 1, 3, none⟩ = some (.int .i64 s.prior) := HC1.out.cell 3
  have s4 : w1.cell? ⟨w.heap.size + 1, 4, none⟩ = some (.int .i64 s.mode) := HC1.out.cell 4
  have s5 : w1.cell? ⟨w.heap.size + 1, 5, none⟩ = some (.int .i64 s.term) := HC1.out.cell 5
  obtain ⟨i, rfl⟩ : ∃ i : Nat, a1 = (i : Int) := ⟨a1.toNat, by omega⟩
  by_cases h_n : s.nodes.length ≤ i
  · have d_n : decide ((s.nodes.length : Int) ≤ (i : Int)) = true := decide_eq_true (by omega)
    have d_n' : decide (s.nodes.length ≤ i) = true := decide_eq_true h_n
    have HV : Hid ((doS c s (7, (i : Int), a2, a3, a4, a5, a6)).2 = 4) := Lib.hid (by rw [do_nodeN (by simpa using h_n) (by decide)])
    clear h_n
    go_wp2
    all_goals
      go_ret
      exact ⟨congrArg (fun n => Ending.returned (.int .i64 n)) HV.out.symm, HXE.out _ _ _ _⟩
  have d_n : decide ((s.nodes.length : Int) ≤ (i : Int)) = false := decide_eq_false (by omega)
  have d_n' : decide (s.nodes.length ≤ i) = false := decide_eq_false h_n
  obtain ⟨⟨up, cd, mv, ver, job⟩, hn⟩ : ∃ n, s.nodes[i]? = some n := ⟨_, List.getElem?_eq_getElem (by omega)⟩
  have HNK := Lib.hid hn
  have HDO : Hid (doS c s (7, (i : Int), a2, a3, a4, a5, a6) = nodeOp s 7 i ⟨up, cd, mv, ver, job⟩ a2) := Lib.hid (by have := do_node (c := c) (s := s) (kd := 7) (a := (i : Int)) (b := a2) (t := (a3, a4, a5, a6)) (by simpa using hn) (by decide); simpa using this)
  obtain ⟨bk, o, rfl, hb, hat⟩ := HNN.out i _ hn
  obtain ⟨n0, n1, n2, n3, n4⟩ := hat.ext HX1.out hb
  dsimp only at n0 n1 n2 n3 n4
  have hbl : bk < w1.heap.size := Nat.lt_of_lt_of_le hb HX1.out.size
  have x1 : (0 : Int) ≤ (i : Int) ∧ (i : Int) < (s.nodes.length : Int) := by omega
  clear hn hat hb h_n
  cases up
  · have HV : Hid ((doS c s (7, (i : Int), a2, a3, a4, a5, a6)).2 = 5) := Lib.hid (by rw [HDO.out]; unfold nodeOp downS; simp [])
    go_wp2
    all_goals
      go_ret
      exact ⟨congrArg (fun n => Ending.returned (.int .i64 n)) HV.out.symm, HXE.out _ _ _ _⟩
  · have HV : Hid ((doS c s (7, (i : Int), a2, a3, a4, a5, a6)).2 = 0) := Lib.hid (by rw [HDO.out]; unfold nodeOp downS; simp [])
    go_wp2
    all_goals
      go_ret
      exact ⟨congrArg (fun n => Ending.returned (.int .i64 n)) HV.out.symm, HXE.out _ _ _ _⟩

end Go.Proofs.YtbfjlhddebollaaDoor

/- The reference of layer 9: Why, at a kind. -/
namespace Go.Proofs.YtbfjlhddebollaaDoor
open Go.RowKit

set_option maxRecDepth 100000 in
set_option maxHeartbeats 4000000 in
theorem Why_8 (c : Cf) (vn vj : Value) (s : St) (a1 a2 a3 a4 a5 a6 : Int) (w : World) (h : RdSt w vn vj s) (hR : RightP c s) (hr : rightO (8, a1, a2, a3, a4, a5, a6) = true) :
    Calls Tryd.prog 29 #[cfV c, stV vn vj s, .agg #[.int .i64 8, .int .i64 a1, .int .i64 a2, .int .i64 a3, .int .i64 a4, .int .i64 a5, .int .i64 a6]] w fun e w' => e = .returned (.int .i64 (doS c s (8, a1, a2, a3, a4, a5, a6)).2) ∧ Ext w w' := by
  have hR6 := hR.len.2
  have hj24 := hR.nj
  have hin := op_in hr
  dsimp only at hin
  obtain ⟨⟨ha0, ha9_⟩, ⟨hb0_, hb9_⟩⟩ := hin
  have HA9 := Lib.hid ha9_
  have HB9 := Lib.hid hb9_
  clear ha9_ hb9_ hb0_
  obtain ⟨An, cn, rfl, hnc, hcm, hNN⟩ := has_cells h.nodes
  obtain ⟨Aj, cj, rfl, hjc, hjm, hJJ⟩ := jobs_cells h.jobs
  obtain ⟨W3, hW3, hx3, hb0, hb1, hb2⟩ := three_blocks w 23 30 36 #[.int .i64 c.nodes, .int .i64 c.queues, .int .i64 c.quota, .int .i64 c.wave, .int .i64 c.lease, .int .i64 c.retry, .int .i64 c.deadline, .int .i64 c.room, .int .i64 c.disk] #[.slice An s.nodes.length cn, .slice Aj s.jobs.length cj, .int .i64 s.goal, .int .i64 s.prior, .int .i64 s.mode, .int .i64 s.term] #[.int .i64 8, .int .i64 a1, .int .i64 a2, .int .i64 a3, .int .i64 a4, .int .i64 a5, .int .i64 a6]
  have HRR := Lib.hid (RefRight08 (8, a1, a2, a3, a4, a5, a6) W3)
  rw [hr] at HRR
  have HX3 := Lib.hid hx3
  have HB0 := Lib.hid hb0
  have HB1 := Lib.hid hb1
  have HB2 := Lib.hid hb2
  have HNN := Lib.hid hNN
  have HJJ := Lib.hid hJJ
  have HH := Lib.hid h
  have HRP := Lib.hid hR
  have o0 : W3.cell? ⟨w.heap.size + 2, 0, none⟩ = some (.int .i64 8) := hb2.cell 0
  have o1 : W3.cell? ⟨w.heap.size + 2, 1, none⟩ = some (.int .i64 a1) := hb2.cell 1
  have o2 : W3.cell? ⟨w.heap.size + 2, 2, none⟩ = some (.int .i64 a2) := hb2.cell 2
  have o3 : W3.cell? ⟨w.heap.size + 2, 3, none⟩ = some (.int .i64 a3) := hb2.cell 3
  have o4 : W3.cell? ⟨w.heap.size + 2, 4, none⟩ = some (.int .i64 a4) := hb2.cell 4
  have o5 : W3.cell? ⟨w.heap.size + 2, 5, none⟩ = some (.int .i64 a5) := hb2.cell 5
  have o6 : W3.cell? ⟨w.heap.size + 2, 6, none⟩ = some (.int .i64 a6) := hb2.cell 6
  rw [show opV (8, a1, a2, a3, a4, a5, a6) = .agg #[.int .i64 8, .int .i64 a1, .int .i64 a2, .int .i64 a3, .int .i64 a4, .int .i64 a5, .int .i64 a6] from rfl] at *
  unfold cfV stV
  clear hx3 hb0 hb1 hb2 hNN hJJ h hR hr
  go_enter Tryd.func29, Tryd.ntmps29
  go_wp2_with fail
  rw [← hW3]
  clear hW3
  refine HRR.out.mono ?_
  rintro e1 w1 ⟨rfl, hx1⟩
  have HX1 := Lib.hid (HX3.out.trans hx1)
  have HC0 := Lib.hid (HB0.out.ext hx1)
  have HC1 := Lib.hid (HB1.out.ext hx1)
  have HC2 := Lib.hid (HB2.out.ext hx1)
  clear hx1 HX3 HB0 HB1 HB2 HRR o0 o1 o2 o3 o4 o5 o6
  have hlw : w.heap.size + 2 < w1.heap.size := HC2.out.lt
  have hlw1 : w.heap.size + 1 < w1.heap.size := by omega
  have hlw0 : w.heap.size < w1.heap.size := by omega
  have HXE : Hid (∀ c1 t1 c2 t2, Ext w ((w1.alloc (.cells c1 t1)).alloc (.cells c2 t2))) := Lib.hid fun c1 t1 c2 t2 => (HX1.out.alloc HX1.out.size _).alloc (by have := HX1.out.size; simp; omega) _
  have o0 : w1.cell? ⟨w.heap.size + 2, 0, none⟩ = some (.int .i64 8) := HC2.out.cell 0
  have o1 : w1.cell? ⟨w.heap.size + 2, 1, none⟩ = some (.int .i64 a1) := HC2.out.cell 1
  have o2 : w1.cell? ⟨w.heap.size + 2, 2, none⟩ = some (.int .i64 a2) := HC2.out.cell 2
  have o3 : w1.cell? ⟨w.heap.size + 2, 3, none⟩ = some (.int .i64 a3) := HC2.out.cell 3
  have o4 : w1.cell? ⟨w.heap.size + 2, 4, none⟩ = some (.int .i64 a4) := HC2.out.cell 4
  have o5 : w1.cell? ⟨w.heap.size + 2, 5, none⟩ = some (.int .i64 a5) := HC2.out.cell 5
  have o6 : w1.cell? ⟨w.heap.size + 2, 6, none⟩ = some (.int .i64 a6) := HC2.out.cell 6
  have s0 : w1.cell? ⟨w.heap.size + 1, 0, none⟩ = some (.slice An s.nodes.length cn) := HC1.out.cell 0
  have s1 : w1.cell? ⟨w.heap.size + 1, 1, none⟩ = some (.slice Aj s.jobs.length cj) := HC1.out.cell 1
  have s2 : w1.cell? ⟨w.heap.size + 1, 2, none⟩ = some (.int .i64 s.goal) := HC1.out.cell 2
  have s3 : w1.cell? ⟨w.heap.size + 1, 3, none⟩ = some (.int .i64 s.prior) := HC1.out.cell 3
  have s4 : w1.cell? ⟨w.heap.size + 1, 4, none⟩ = some (.int .i64 s.mode) := HC1.out.cell 4
  have s5 : w1.cell? ⟨w.heap.size + 1, 5, none⟩ = some (.int .i64 s.term) := HC1.out.cell 5
  obtain ⟨i, rfl⟩ : ∃ i : Nat, a1 = (i : Int) := ⟨a1.toNat, by omega⟩
  by_cases h_n : s.nodes.length ≤ i
  · have d_n : decide ((s.nodes.length : Int) ≤ (i : Int)) = true := decide_eq_true (by omega)
    have d_n' : decide (s.nodes.length ≤ i) = true := decide_eq_true h_n
    have HV : Hid ((doS c s (8, (i : Int), a2, a3, a4, a5, a6)).2 = 4) := Lib.hid (by rw [do_nodeN (by simpa using h_n) (by decide)])
    clear h_n
    go_wp2
    all_goals
      go_ret
      exact ⟨congrArg (fun n => Ending.returned (.int .i64 n)) HV.out.symm, HXE.out _ _ _ _⟩
  have d_n : decide ((s.nodes.length : Int) ≤ (i : Int)) = false := decide_eq_false (by omega)
  have d_n' : decide (s.nodes.length ≤ i) = false := decide_eq_false h_n
  obtain ⟨⟨up, cd, mv, ver, job⟩, hn⟩ : ∃ n, s.nodes[i]? = some n := ⟨_, List.getElem?_eq_getElem (by omega)⟩
  have HNK := Lib.hid hn
  have HDO : Hid (doS c s (8, (i : Int), a2, a3, a4, a5, a6) = nodeOp s 8 i ⟨up, cd, mv, ver, job⟩ a2) := Lib.hid (by have := do_node (c := c) (s := s) (kd := 8) (a := (i : Int)) (b := a2) (t := (a3, a4, a5, a6)) (by simpa using hn) (by decide); simpa using this)
  obtain ⟨bk, o, rfl, hb, hat⟩ := HNN.out i _ hn
  obtain ⟨n0, n1, n2, n3, n4⟩ := hat.ext HX1.out hb
  dsimp only at n0 n1 n2 n3 n4
  have hbl : bk < w1.heap.size := Nat.lt_of_lt_of_le hb HX1.out.size
  have x1 : (0 : Int) ≤ (i : Int) ∧ (i : Int) < (s.nodes.length : Int) := by omega
  clear hn hat hb h_n
  by_cases h_v : ¬ 1 ≤ a2
  · have d_v : decide (1 ≤ a2) = false := decide_eq_false h_v
    have HV : Hid ((doS c s (8, (i : Int), a2, a3, a4, a5, a6)).2 = 1) := Lib.hid (by rw [HDO.out]; unfold nodeOp upS; simp [show inR a2 1 9 = false by unfold inR; simp; omega])
    clear h_v
    go_wp2
    all_goals
      go_ret
      exact ⟨congrArg (fun n => Ending.returned (.int .i64 n)) HV.out.symm, HXE.out _ _ _ _⟩
  have hv1 := Classical.not_not.1 h_v
  have d_v : decide (1 ≤ a2) = true := decide_eq_true hv1
  by_cases h_w : ¬ a2 ≤ 9
  · have d_w : decide (a2 ≤ 9) = false := decide_eq_false h_w
    have HV : Hid ((doS c s (8, (i : Int), a2, a3, a4, a5, a6)).2 = 1) := Lib.hid (by rw [HDO.out]; unfold nodeOp upS; simp [show inR a2 1 9 = false by unfold inR; simp; omega])
    clear h_v h_w hv1
    go_wp2
    all_goals
      go_ret
      exact ⟨congrArg (fun n => Ending.returned (.int .i64 n)) HV.out.symm, HXE.out _ _ _ _⟩
  have hw1 := Classical.not_not.1 h_w
  have d_w : decide (a2 ≤ 9) = true := decide_eq_true hw1
  have HIN : Hid (inR a2 1 9 = true) := Lib.hid (inR_iff.2 ⟨hv1, hw1⟩)
  clear h_v h_w hv1 hw1
  cases up
  · have HV : Hid ((doS c s (8, (i : Int), a2, a3, a4, a5, a6)).2 = 0) := Lib.hid (by rw [HDO.out]; unfold nodeOp upS; simp [HIN.out])
    go_wp2
    all_goals
      go_ret
      exact ⟨congrArg (fun n => Ending.returned (.int .i64 n)) HV.out.symm, HXE.out _ _ _ _⟩
  · have HV : Hid ((doS c s (8, (i : Int), a2, a3, a4, a5, a6)).2 = 5) := Lib.hid (by rw [HDO.out]; unfold nodeOp upS; simp [HIN.out])
    go_wp2
    all_goals
      go_ret
      exact ⟨congrArg (fun n => Ending.returned (.int .i64 n)) HV.out.symm, HXE.out _ _ _ _⟩

end Go.Proofs.YtbfjlhddebollaaDoor
