/- Texts that the proof of I rests on, one behind the other. -/
import Derived.Test.YtddhbokknbmdfaaDoorIQ11
import Derived.Lay
import Derived.PinnedBridge
import Derived.LaidMore
import Derived.Stop.Joined
import Derived.Stop.LaidErr
import Derived.Shelf.Vars
import Derived.Lib.SmallJoins
import Derived.Test.YtddhbokknbmdfaaDoorRows
import Derived.Deep.QuietTactic
import Derived.BigQuiet
import Derived.Handy
import Derived.Defers
import Derived.Recover

/- From a contract to the row of a law that lists package-level variables; structs of numbers, slices of structs, and states as arguments. No function of the program is named here. -/
namespace Go.Proofs.YtddhbokknbmdfaaDoor
open Go.Joins Go.ChangeShapes Go.WideShapes Go.ChangeAt Go.RowKit Go.Deep

section
variable {H : Type} {enc : TypeId × Value → H} {P : Program}
theorem law_liftL {C : Checked} {os : Os} {f : FuncId} {fn : Func} {s : ChangeSpec} {tb : TypeId} (L : List (String × DataW Unit)) (own : ownKnob C.prog.godebug = none) (started : os.Started) (noInit : C.prog.inits.idxOf? f = none) (hfn : C.prog.funcs[f]? = some fn)
    (hl : laidOutB C.prog = true) (hp : (fn.params.toList.all fun t => C.prog.readableRec t && decide (t < C.prog.types.size)) = true) (hres : fn.resultTypes = #[tb]) (htb : C.prog.underlying tb = some .bool) (hv : s.vars = []) (hpv : s.plain.varTypes C.prog = [])
    (hs : ∀ ds : List (DataW H), ds.length = fn.params.toList.length → s.fn H ds = { results := [.lit (.bool true)], args := ds })
    (witness : ∃ (w : World) (tape : Tape) (i : Input), w.os = os ∧ (w.forCall tape i).Shaped C.prog ∧ i.vars = [] ∧ Input.okWide C.prog (w.forCall tape i) .any w.heap.size f i ∧
      ((s.pre enc C.prog fn [] false (w.forCall tape i).memory i.args ∧ laidMetH C.prog L (w.forCall tape i).memory) ∧ sizedMet enc C.prog fn (OpenSpec.ofChange s) false (w.forCall tape i).memory i.args) ∧ ({} : Assume).holds C.prog (lone (Frame.enter C.prog f i.args .normal) [] (w.forCall tape i)))
    (contract : ∀ (W : World) (base : Nat) (args : Array Value) (ds : List (DataW H)) (p : List MemPlace), (∀ (j : Nat) t v, fn.params[j]? = some t → args[j]? = some v → Value.okWide C.prog W .any base t v) →
      DataW.TrodAll enc C.prog W 0 (fun _ => true) true fn.params.toList args.toList ds p → (DataW.weightsEach C.prog fn.params.toList ds).all (· ≤ reachBytes) = true → laidMetH C.prog L W → W.ShapedOpen C.prog →
      Calls C.prog f args W fun e W' => e = .returned (.bool true) ∧ Ext W W') :
    ReturnsInHanded {} C os f .any (fun w args => (s.pre enc C.prog fn [] false w args ∧ laidMetH C.prog L w) ∧ sizedMet enc C.prog fn (OpenSpec.ofChange s) false w args) (s.post enc C.prog fn false true false false) := by
  refine returnsInHanded_of_calls own started noInit witness ?_
  intro w tape i _ hsh _ hok hpre _
  obtain ⟨_, _, _, fn', hfn', _, _, _, _, hval⟩ := hok
  have e : fn' = fn := Option.some.inj (hfn'.symm.trans hfn)
  subst e
  obtain ⟨⟨⟨ds, gs, before, hw, _⟩, hx⟩, hz⟩ := hpre
  have hW := DataW.Whole.of_heap (w' := w.forCall tape i) (by rfl) hw
  have hL : laidMetH C.prog L (w.forCall tape i) := laidMetH.of_heap (by rfl) hx
  have hsz := hz.weights hw
  have hg : gs = [] := by
    obtain ⟨_, _, _, hV, _⟩ := hW
    rw [hv] at hV
    cases gs with
    | nil => rfl
    | cons _ _ => exact hV.elim
  subst hg
  have hsz' : (DataW.weightsEach C.prog fn'.params.toList ds).all (· ≤ reachBytes) = true := by
    have h1 : (DataW.weightsEach C.prog (fn'.params.toList ++ s.plain.varTypes C.prog) (ds ++ [])).all (· ≤ reachBytes) = true := hsz
    rwa [hpv, List.append_nil, List.append_nil] at h1
  have hW' := hW
  obtain ⟨p, q, hA, _, _, _, _⟩ := hW
  have hlen := trodAll_len _ _ _ _ hA
  refine (contract (w.forCall tape i) w.heap.size i.args ds p hval hA hsz' hL hsh).mono fun e W' ⟨he, hx⟩ => ?_
  subst he
  exact ChangeSpec.post_blind (post_true hl hp hres htb hv hW' (hs ds hlen) hx)

/-- A listed variable, wherever it stands on the list. -/
theorem laid_at {n : String} {d : DataW Unit} {W : World} : ∀ (L : List (String × DataW Unit)), (n, d) ∈ L → laidMet P L W → ∃ r, laidMet P ((n, d) :: r) W
  | x :: L, hm, h => by
    rcases List.mem_cons.1 hm with e | hm
    · rw [e]
      exact ⟨L, h⟩
    · exact laid_at L hm h.tail


/-! ### Structs of numbers -/

theorem dec_nums {w : World} {base : Nat} {held : Bool} {r : Reach} {b0 : Nat} {t : TypeId} {fs : Array Field} {v : Value} {d : DataW H} {p : List MemPlace} (hs : P.underlying t = some (.struct fs)) (hone : oneCellFields P fs = true) (hC : P.cellsOf t = fs.size)
    {ti : TypeId} (hta : (fs.all fun f => f.type == ti) = true) (hi : P.underlying ti = some (.int .i64)) (hv : Value.okWide P w r b0 t v) (h : DataW.Trod enc P w base (fun _ => true) held t v d p) : ∃ l : List Int, l.length = fs.size ∧ v = .agg (l.map (Value.int .i64)).toArray := by
  obtain ⟨cs, rfl, hsz⟩ := okWide_struct hs hv
  obtain ⟨fuel, hf⟩ := h
  have hti : ∀ f ∈ fs, P.underlying f.type = some (.int .i64) := fun f hf => by
    obtain ⟨i, hlt, rfl⟩ := Array.getElem_of_mem hf
    have := Array.all_eq_true.1 hta i hlt
    rw [beq_iff_eq] at this
    rw [this]
    exact hi
  obtain ⟨hl, hp⟩ := struct_parts hs hone hC hf
  have hl' : cs.size = fs.size := hsz.trans hC
  refine ⟨cs.toList.map intOf, by simpa using hl', ?_⟩
  congr 1
  apply Array.ext'
  apply List.ext_getElem?
  intro i
  by_cases hi : i < fs.size
  · obtain ⟨u, n, y, hu, hy⟩ := hp i fs[i] (Array.getElem?_eq_getElem hi)
    obtain ⟨z, hz, _, _⟩ := DataW.trod_int (hti _ (Array.getElem_mem hi)) hy
    simp only [List.cons.injEq, and_true] at hz
    subst hz
    have hu' : cs.toList[i]? = some (.int .i64 z) := hu
    simp only [List.getElem?_map, hu', Option.map_some, intOf]
  · rw [List.getElem?_eq_none (by simp; omega), List.getElem?_eq_none (by simp; omega)]

/-! ### Slices of structs -/
/-- As structs_at, of a cell that holds the slice. -/
theorem structs_tr {w : World} {base : Nat} {held : Bool} {m0 : Nat} {t e : TypeId} {fs : Array Field} {V : Value} {x : DataW H × List MemPlace} (ht : P.underlying t = some (.slice e)) (he : P.underlying e = some (.struct fs)) (hone : oneCellFields P fs = true)
    (hC : P.cellsOf e = fs.size) (h0 : 0 < fs.size) (hf : DataW.trod enc P w base (fun _ => true) held m0 t [V] = some x) :
    ∃ A n c, V = .slice A n c ∧ n ≤ c ∧ c ≤ maxLen ∧ (0 < n → ∃ b o, A = some ⟨b, o, none⟩ ∧ b < w.heap.size ∧
      ∀ i, i < n → ∀ (j : Nat) (f : Field), fs[j]? = some f → ∃ u k y, w.cell? ⟨b, o + (i * fs.size + j), none⟩ = some u ∧ DataW.trod enc P w base (fun _ => true) held k f.type [u] = some y) := by
  rcases open_slice ht hf with ⟨hcs, _⟩ | ⟨a, len, cap, m, n, D, Pl, hcs, _, hl, hm, hmm, _, hx⟩
  · simp only [List.cons.injEq, and_true] at hcs
    subst hcs
    exact ⟨none, 0, 0, rfl, Nat.le_refl _, Nat.zero_le _, fun h => absurd h (by omega)⟩
  · simp only [List.cons.injEq, and_true] at hcs
    subst hcs
    simp only [if_true] at hmm
    subst hmm
    have hcell : ∀ i, i < m → ∀ (j : Nat) (f : Field), fs[j]? = some f → ∃ u k y, w.cell? (a.add (i * fs.size + j)) = some u ∧ DataW.trod enc P w base (fun _ => true) held k f.type [u] = some y := by
      intro i hi j f hj
      obtain ⟨cs', hc, htr⟩ := hx i hi
      obtain ⟨hlen, hparts⟩ := struct_parts he hone hC htr
      obtain ⟨u, k, y, hu, hy⟩ := hparts j f hj
      obtain ⟨_, hcl, hat⟩ := World.cells?_some hc
      have hjf : j < fs.size := (Array.getElem?_eq_some_iff.1 hj).1
      have h1 := hat j (by rw [hC]; exact hjf)
      rw [hC, add_of_add, hu] at h1
      exact ⟨u, k, y, h1, hy⟩
    refine ⟨some a, len, m, rfl, hl, hm, fun hn0 => ?_⟩
    obtain ⟨u, _, _, hu, _⟩ := hcell 0 (by omega) 0 fs[0] (Array.getElem?_eq_getElem h0)
    obtain ⟨b, o, spot⟩ := a
    have hspot : spot = none := by simpa [Addr.add] using World.cell?_spot hu
    subst hspot
    refine ⟨b, o, rfl, ?_, fun i hi j f hj => ?_⟩
    · have := World.block_lt_of_cell? w _ hu
      simpa [block_of_add] using this
    · obtain ⟨u, k, y, h1, h2⟩ := hcell i (by omega) j f hj
      rw [Addr.add_lit] at h1
      exact ⟨u, k, y, h1, h2⟩

theorem list_of {α : Type} {n : Nat} {R : Nat → α → Prop} (h : ∀ i, i < n → ∃ x, R i x) : ∃ l : List α, l.length = n ∧ ∀ i x, l[i]? = some x → R i x := by
  induction n with
  | zero => exact ⟨[], rfl, fun i x hx => by simp at hx⟩
  | succ n ih =>
    obtain ⟨l, hl, hr⟩ := ih fun i hi => h i (by omega)
    obtain ⟨y, hy⟩ := h n (by omega)
    refine ⟨l ++ [y], by simp [hl], fun i x hx => ?_⟩
    by_cases hi : i < l.length
    · rw [List.getElem?_append_left hi] at hx
      exact hr i x hx
    · rw [List.getElem?_append_right (by omega)] at hx
      have : i - l.length = 0 := by
        rcases Nat.eq_zero_or_pos (i - l.length) with h0 | h0
        · exact h0
        · rw [List.getElem?_eq_none (by simp; omega)] at hx
          cases hx
      rw [this] at hx
      simp at hx
      subst hx
      have : i = n := by omega
      subst this
      exact hy

theorem flat_inv {α : Type} {f : α → List Value} {K : Nat} (hf : ∀ x, (f x).length = K) {l : List α} {j : Nat} {u : Value} (h : (l.flatMap f)[j]? = some u) : ∃ (i r : Nat) (x : α), l[i]? = some x ∧ r < K ∧ j = i * K + r ∧ (f x)[r]? = some u := by
  induction l generalizing j with
  | nil => simp at h
  | cons y l ih =>
    rw [List.flatMap_cons] at h
    by_cases hj : j < (f y).length
    · rw [List.getElem?_append_left hj] at h
      exact ⟨0, j, y, rfl, by rw [← hf y]; exact hj, by omega, h⟩
    · rw [List.getElem?_append_right (by omega)] at h
      obtain ⟨i, r, x, h1, h2, h3, h4⟩ := ih h
      rw [hf] at h3 hj
      exact ⟨i + 1, r, x, by simpa using h1, h2, by rw [Nat.succ_mul]; omega, h4⟩

/-- A slice of structs whose cells are those of plain things reads as a list of these. -/
theorem rdS_of {α : Type} {w : World} {K : Nat} {f : α → List Value} (hf : ∀ x, (f x).length = K) {V A : _} {n c : Nat} (hV : V = Value.slice A n c) (hnc : n ≤ c) (hcm : c ≤ maxLen)
    (h : 0 < n → ∃ b o, A = some ⟨b, o, none⟩ ∧ b < w.heap.size ∧ ∀ i, i < n → ∃ x : α, ∀ (r : Nat) u, (f x)[r]? = some u → w.cell? ⟨b, o + (i * K + r), none⟩ = some u) :
    ∃ l : List α, l.length = n ∧ RdS K w V l.length (l.flatMap f) := by
  by_cases hn : 0 < n
  · obtain ⟨b, o, hA, hb, hc⟩ := h hn
    obtain ⟨l, hl, hr⟩ := list_of hc
    refine ⟨l, hl, flat_len hf l, A, c, by rw [hV, hl], by omega, hcm, fun _ => ⟨b, o, hA, hb, fun j u hu => ?_⟩⟩
    obtain ⟨i, r, x, h1, _, h3, h4⟩ := flat_inv hf hu
    rw [h3]
    exact hr i x h1 r u h4
  · have : n = 0 := by omega
    subst this
    exact ⟨[], rfl, by simp, A, c, hV, by simp, hcm, fun h => absurd h (by simp)⟩
end

end Go.Proofs.YtddhbokknbmdfaaDoor

/- Two closed facts on the program that every row asks. -/
namespace Go.Proofs.YtddhbokknbmdfaaDoor
open Go.RowKit

theorem Tryd.ownKnob : ownKnob Tryd.prog.godebug = none := by kernel_rfl

theorem Tryd.laidOut : laidOutB Tryd.prog = true := by kernel_rfl

end Go.Proofs.YtddhbokknbmdfaaDoor

/- Layer 9: what the listed variable gives; fleets, states, ops and lists of ops as arguments. -/
namespace Go.Proofs.YtddhbokknbmdfaaDoor
open Go.Joins Go.ChangeShapes Go.WideShapes Go.ChangeAt Go.RowKit Go.Deep

theorem counts_datum : Rows.laid_dunnage_ops_counts (H := Unit) = Lib.tabData .i64 cntL := by kernel_rfl
theorem laid_of {W : World} (L : List (String × DataW Unit)) (h : laidMet Tryd.prog L W) (m2 : ("dunnage/ops.counts", Rows.laid_dunnage_ops_counts) ∈ L) : Laid W := by
  obtain ⟨r2, h2⟩ := laid_at L m2 h
  rw [counts_datum] at h2
  exact ⟨Lib.tabIs_of_head Tryd.gCounts (t := 91) (by kernel_rfl) Tryd.underlying91 Tryd.underlying3 (by kernel_rfl) (by kernel_rfl) h2⟩

def opC (o : OpN) : List Value := [.int .i64 o.1, .int .i64 o.2.1, .int .i64 o.2.2.1, .int .i64 o.2.2.2.1, .int .i64 o.2.2.2.2.1, .int .i64 o.2.2.2.2.2.1, .int .i64 o.2.2.2.2.2.2]
theorem opC_len (o : OpN) : (opC o).length = 7 := rfl
/-- A slice of ops. -/
abbrev RdOps (w : World) (v : Value) (l : List OpN) : Prop := RdS 7 w v l.length (l.flatMap opC)

section
variable {H : Type} {enc : TypeId × Value → H} {w : World} {base : Nat} {held : Bool} {r : Reach} {b0 : Nat}
set_option maxRecDepth 100000 in
theorem dec_conf {v : Value} {d : DataW H} {p : List MemPlace} (hv : Value.okWide Tryd.prog w r b0 23 v) (h : DataW.Trod enc Tryd.prog w base (fun _ => true) held 23 v d p) : ∃ c : Cf, v = cfV c := by
  obtain ⟨l, hl, rfl⟩ := dec_nums Tryd.underlying23 (by kernel_rfl) (by kernel_rfl) (ti := 3) (by kernel_rfl) Tryd.underlying3 hv h
  match l, hl with
  | [a, b, c, d, e, f, g, h, i], _ => exact ⟨⟨a, b, c, d, e, f, g, h, i⟩, rfl⟩
set_option maxRecDepth 100000 in
theorem dec_op {v : Value} {d : DataW H} {p : List MemPlace} (hv : Value.okWide Tryd.prog w r b0 36 v) (h : DataW.Trod enc Tryd.prog w base (fun _ => true) held 36 v d p) : ∃ o : OpN, v = opV o := by
  obtain ⟨l, hl, rfl⟩ := dec_nums Tryd.underlying36 (by kernel_rfl) (by kernel_rfl) (ti := 3) (by kernel_rfl) Tryd.underlying3 hv h
  match l, hl with
  | [a, b, c, d, e, f, g], _ => exact ⟨(a, b, c, d, e, f, g), rfl⟩
theorem tr_int {m : Nat} {u : Value} {y : DataW H × List MemPlace} (h : DataW.trod enc Tryd.prog w base (fun _ => true) held m 3 [u] = some y) : ∃ z : Int, u = .int .i64 z := by
  obtain ⟨z, hz, _, _⟩ := DataW.trod_int Tryd.underlying3 h
  simp only [List.cons.injEq, and_true] at hz
  exact ⟨z, hz⟩
theorem tr_bool {m : Nat} {u : Value} {y : DataW H × List MemPlace} (h : DataW.trod enc Tryd.prog w base (fun _ => true) held m 4 [u] = some y) : ∃ z : Bool, u = .bool z := by
  obtain ⟨z, hz, _⟩ := DataW.trod_bool Tryd.underlying4 h
  simp only [List.cons.injEq, and_true] at hz
  exact ⟨z, hz⟩
theorem tr_nodes {m : Nat} {V : Value} {x : DataW H × List MemPlace} (h : DataW.trod enc Tryd.prog w base (fun _ => true) held m 27 [V] = some x) : ∃ l : List Nd, RdNd w V l := by
  obtain ⟨A, n, c, hV, hnc, hcm, hx⟩ := structs_tr Tryd.underlying27 Tryd.underlying45 (by kernel_rfl) (by kernel_rfl) (by decide) h
  obtain ⟨l, _, hr⟩ := rdS_of (f := Nd.cells) (K := 5) Nd.len hV hnc hcm fun hn => by
    obtain ⟨b, o, hA, hb, hc⟩ := hx hn
    refine ⟨b, o, hA, hb, fun i hi => ?_⟩
    obtain ⟨u0, k0, y0, c0, t0⟩ := hc i hi 0 _ rfl
    obtain ⟨u1, k1, y1, c1, t1⟩ := hc i hi 1 _ rfl
    obtain ⟨u2, k2, y2, c2, t2⟩ := hc i hi 2 _ rfl
    obtain ⟨u3, k3, y3, c3, t3⟩ := hc i hi 3 _ rfl
    obtain ⟨u4, k4, y4, c4, t4⟩ := hc i hi 4 _ rfl
    obtain ⟨z0, rfl⟩ := tr_bool t0
    obtain ⟨z1, rfl⟩ := tr_bool t1
    obtain ⟨z2, rfl⟩ := tr_bool t2
    obtain ⟨z3, rfl⟩ := tr_int t3
    obtain ⟨z4, rfl⟩ := tr_int t4
    refine ⟨⟨z0, z1, z2, z3, z4⟩, fun r u hu => ?_⟩
    have hr := (List.getElem?_eq_some_iff.1 hu).1
    rw [Nd.len] at hr
    match r, hr, hu with
    | 0, _, hu => cases hu; exact c0
    | 1, _, hu => cases hu; exact c1
    | 2, _, hu => cases hu; exact c2
    | 3, _, hu => cases hu; exact c3
    | 4, _, hu => cases hu; exact c4
  exact ⟨l, hr⟩
theorem tr_jobs {m : Nat} {V : Value} {x : DataW H × List MemPlace} (h : DataW.trod enc Tryd.prog w base (fun _ => true) held m 28 [V] = some x) : ∃ l : List Jb, RdJb w V l := by
  obtain ⟨A, n, c, hV, hnc, hcm, hx⟩ := structs_tr Tryd.underlying28 Tryd.underlying52 (by kernel_rfl) (by kernel_rfl) (by decide) h
  obtain ⟨l, _, hr⟩ := rdS_of (f := Jb.cells) (K := 12) Jb.len hV hnc hcm fun hn => by
    obtain ⟨b, o, hA, hb, hc⟩ := hx hn
    refine ⟨b, o, hA, hb, fun i hi => ?_⟩
    obtain ⟨u0, k0, y0, c0, t0⟩ := hc i hi 0 _ rfl
    obtain ⟨u1, k1, y1, c1, t1⟩ := hc i hi 1 _ rfl
    obtain ⟨u2, k2, y2, c2, t2⟩ := hc i hi 2 _ rfl
    obtain ⟨u3, k3, y3, c3, t3⟩ := hc i hi 3 _ rfl
    obtain ⟨u4, k4, y4, c4, t4⟩ := hc i hi 4 _ rfl
    obtain ⟨u5, k5, y5, c5, t5⟩ := hc i hi 5 _ rfl
    obtain ⟨u6, k6, y6, c6, t6⟩ := hc i hi 6 _ rfl
    obtain ⟨u7, k7, y7, c7, t7⟩ := hc i hi 7 _ rfl
    obtain ⟨u8, k8, y8, c8, t8⟩ := hc i hi 8 _ rfl
    obtain ⟨u9, k9, y9, c9, t9⟩ := hc i hi 9 _ rfl
    obtain ⟨ua, ka, ya, ca, ta⟩ := hc i hi 10 _ rfl
    obtain ⟨ub, kb, yb, cb, tb⟩ := hc i hi 11 _ rfl
    obtain ⟨z0, rfl⟩ := tr_int t0
    obtain ⟨z1, rfl⟩ := tr_int t1
    obtain ⟨z2, rfl⟩ := tr_int t2
    obtain ⟨z3, rfl⟩ := tr_int t3
    obtain ⟨z4, rfl⟩ := tr_int t4
    obtain ⟨z5, rfl⟩ := tr_int t5
    obtain ⟨z6, rfl⟩ := tr_int t6
    obtain ⟨z7, rfl⟩ := tr_int t7
    obtain ⟨z8, rfl⟩ := tr_int t8
    obtain ⟨z9, rfl⟩ := tr_int t9
    obtain ⟨za, rfl⟩ := tr_int ta
    obtain ⟨zb, rfl⟩ := tr_int tb
    refine ⟨⟨z0, z1, z2, z3, z4, z5, z6, z7, z8, z9, za, zb⟩, fun r u hu => ?_⟩
    have hr := (List.getElem?_eq_some_iff.1 hu).1
    rw [Jb.len] at hr
    match r, hr, hu with
    | 0, _, hu => cases hu; exact c0
    | 1, _, hu => cases hu; exact c1
    | 2, _, hu => cases hu; exact c2
    | 3, _, hu => cases hu; exact c3
    | 4, _, hu => cases hu; exact c4
    | 5, _, hu => cases hu; exact c5
    | 6, _, hu => cases hu; exact c6
    | 7, _, hu => cases hu; exact c7
    | 8, _, hu => cases hu; exact c8
    | 9, _, hu => cases hu; exact c9
    | 10, _, hu => cases hu; exact ca
    | 11, _, hu => cases hu; exact cb
  exact ⟨l, hr⟩
set_option maxRecDepth 100000 in
theorem dec_ops {v : Value} {d : DataW H} {p : List MemPlace} (hv : Value.okWide Tryd.prog w r b0 24 v) (h : DataW.Trod enc Tryd.prog w base (fun _ => true) held 24 v d p) : ∃ l : List OpN, RdOps w v l := by
  obtain ⟨A, n, c, hV, hnc, hcm, hx⟩ := structs_at Tryd.underlying24 Tryd.underlying36 (by kernel_rfl) (by kernel_rfl) (by decide) hv h
  obtain ⟨l, _, hr⟩ := rdS_of (f := opC) (K := 7) opC_len hV hnc hcm fun hn => by
    obtain ⟨b, o, hA, hb, hc⟩ := hx hn
    refine ⟨b, o, hA, hb, fun i hi => ?_⟩
    obtain ⟨u0, k0, y0, c0, t0⟩ := hc i hi 0 _ rfl
    obtain ⟨u1, k1, y1, c1, t1⟩ := hc i hi 1 _ rfl
    obtain ⟨u2, k2, y2, c2, t2⟩ := hc i hi 2 _ rfl
    obtain ⟨u3, k3, y3, c3, t3⟩ := hc i hi 3 _ rfl
    obtain ⟨u4, k4, y4, c4, t4⟩ := hc i hi 4 _ rfl
    obtain ⟨u5, k5, y5, c5, t5⟩ := hc i hi 5 _ rfl
    obtain ⟨u6, k6, y6, c6, t6⟩ := hc i hi 6 _ rfl
    obtain ⟨z0, rfl⟩ := tr_int t0
    obtain ⟨z1, rfl⟩ := tr_int t1
    obtain ⟨z2, rfl⟩ := tr_int t2
    obtain ⟨z3, rfl⟩ := tr_int t3
    obtain ⟨z4, rfl⟩ := tr_int t4
    obtain ⟨z5, rfl⟩ := tr_int t5
    obtain ⟨z6, rfl⟩ := tr_int t6
    refine ⟨(z0, z1, z2, z3, z4, z5, z6), fun r u hu => ?_⟩
    have hr := (List.getElem?_eq_some_iff.1 hu).1
    rw [opC_len] at hr
    match r, hr, hu with
    | 0, _, hu => cases hu; exact c0
    | 1, _, hu => cases hu; exact c1
    | 2, _, hu => cases hu; exact c2
    | 3, _, hu => cases hu; exact c3
    | 4, _, hu => cases hu; exact c4
    | 5, _, hu => cases hu; exact c5
    | 6, _, hu => cases hu; exact c6
  exact ⟨l, hr⟩
set_option maxRecDepth 100000 in
theorem dec_state {v : Value} {d : DataW H} {p : List MemPlace} (hv : Value.okWide Tryd.prog w r b0 30 v) (h : DataW.Trod enc Tryd.prog w base (fun _ => true) held 30 v d p) : ∃ vn vj s, v = stV vn vj s ∧ RdSt w vn vj s := by
  obtain ⟨cs, rfl, hsz⟩ := okWide_struct Tryd.underlying30 hv
  obtain ⟨fuel, hf⟩ := h
  obtain ⟨hl, hp⟩ := struct_parts Tryd.underlying30 (by kernel_rfl) (by kernel_rfl) hf
  obtain ⟨u0, k0, y0, c0, t0⟩ := hp 0 _ rfl
  obtain ⟨u1, k1, y1, c1, t1⟩ := hp 1 _ rfl
  obtain ⟨u2, k2, y2, c2, t2⟩ := hp 2 _ rfl
  obtain ⟨u3, k3, y3, c3, t3⟩ := hp 3 _ rfl
  obtain ⟨u4, k4, y4, c4, t4⟩ := hp 4 _ rfl
  obtain ⟨u5, k5, y5, c5, t5⟩ := hp 5 _ rfl
  obtain ⟨ln, hn⟩ := tr_nodes t0
  obtain ⟨lj, hj⟩ := tr_jobs t1
  obtain ⟨z2, rfl⟩ := tr_int t2
  obtain ⟨z3, rfl⟩ := tr_int t3
  obtain ⟨z4, rfl⟩ := tr_int t4
  obtain ⟨z5, rfl⟩ := tr_int t5
  refine ⟨u0, u1, ⟨ln, lj, z2, z3, z4, z5⟩, ?_, hn, hj⟩
  have hsz' : cs.toList.length = 6 := hl
  obtain ⟨l⟩ := cs
  match l, hsz' with
  | [a, b, c, d, e, f], _ =>
    simp only [Value.cells, List.getElem?_cons_zero, List.getElem?_cons_succ, Option.some.injEq] at c0 c1 c2 c3 c4 c5
    subst c0 c1 c2 c3 c4 c5
    rfl
end

end Go.Proofs.YtddhbokknbmdfaaDoor

/- Layer 9's statements: words that they share; is a state more than is looked at. -/
namespace Go.Proofs.YtddhbokknbmdfaaDoor
open Go.RowKit

theorem two_blocks (w : World) (t1 t2 : TypeId) (c1 c2 : Array Value) : ∃ W, W = (w.alloc (.cells c1 t1)).alloc (.cells c2 t2) ∧ Ext w W ∧ Blk W w.heap.size t1 c1 ∧ Blk W (w.heap.size + 1) t2 c2 := by
  refine ⟨_, rfl, ext2 w t1 t2 c1 c2, (Blk.new w t1 c1).alloc _, ?_⟩
  have := Blk.new (w.alloc (.cells c1 t1)) t2 c2
  have e : (w.alloc (.cells c1 t1)).heap.size = w.heap.size + 1 := by simp
  rw [e] at this
  exact this
theorem three_blocks (w : World) (t1 t2 t3 : TypeId) (c1 c2 c3 : Array Value) : ∃ W, W = ((w.alloc (.cells c1 t1)).alloc (.cells c2 t2)).alloc (.cells c3 t3) ∧ Ext w W ∧ Blk W w.heap.size t1 c1 ∧ Blk W (w.heap.size + 1) t2 c2 ∧ Blk W (w.heap.size + 2) t3 c3 := by
  refine ⟨_, rfl, ext3 w t1 t2 t3 c1 c2 c3, ((Blk.new w t1 c1).alloc _).alloc _, ?_, ?_⟩
  · have := (Blk.new (w.alloc (.cells c1 t1)) t2 c2).alloc (.cells c3 t3)
    have e : (w.alloc (.cells c1 t1)).heap.size = w.heap.size + 1 := by simp
    rw [e] at this
    exact this
  · have := Blk.new ((w.alloc (.cells c1 t1)).alloc (.cells c2 t2)) t3 c3
    have e : ((w.alloc (.cells c1 t1)).alloc (.cells c2 t2)).heap.size = w.heap.size + 2 := by simp
    rw [e] at this
    exact this

/-! ### A variable that holds a state -/
/-- What the slice value reads lies in another block than g. -/
def offG (g : Nat) (v : Value) (n : Nat) : Prop := 0 < n → ∀ k, v.ownBlock = some k → k ≠ g
theorem RdS.lt {K n : Nat} {w : World} {v : Value} {xs : List Value} (h : RdS K w v n xs) (hn : 0 < n) {k : Nat} (hk : v.ownBlock = some k) : k < w.heap.size := by
  obtain ⟨_, A, c, e, _, _, h3⟩ := h
  obtain ⟨b, o, hA, hlt, _⟩ := h3 hn
  rw [e, hA] at hk
  have : b = k := Option.some.inj hk
  omega
theorem offG.of_lt {K n g : Nat} {w : World} {v : Value} {xs : List Value} (h : RdS K w v n xs) (hg : w.heap.size ≤ g) : offG g v n := fun hn k hk e => by
  have := h.lt hn hk
  omega
/-- In a world in which all blocks but g are as they were. -/
theorem RdS.off {K n g : Nat} {w w' : World} {v : Value} {xs : List Value} (h : RdS K w v n xs) (ho : offG g v n) (hs : w.heap.size ≤ w'.heap.size) (hk : ∀ k, k ≠ g → w'.heap[k]? = w.heap[k]?) : RdS K w' v n xs := by
  obtain ⟨h0, A, c, e, h1, h2, h3⟩ := h
  refine ⟨h0, A, c, e, h1, h2, fun hn => ?_⟩
  obtain ⟨b, o, hA, hlt, hc⟩ := h3 hn
  refine ⟨b, o, hA, Nat.lt_of_lt_of_le hlt hs, fun j u hu => ?_⟩
  have := hk b (ho hn b (by rw [e, hA]; rfl))
  exact (World.cell?_of_block (a := ⟨b, o + j, none⟩) this).trans (hc j u hu)

structure SAt (w : World) (g : Nat) (vn vj : Value) (s : St) : Prop where
  blk : Blk w g 30 #[vn, vj, .int .i64 s.goal, .int .i64 s.prior, .int .i64 s.mode, .int .i64 s.term]
  rd : RdSt w vn vj s
  offn : offG g vn s.nodes.length
  offj : offG g vj s.jobs.length
theorem SAt.ext {w w' : World} {g : Nat} {vn vj : Value} {s : St} (h : SAt w g vn vj s) (hx : Ext w w') : SAt w' g vn vj s := ⟨h.blk.ext hx, h.rd.ext hx, h.offn, h.offj⟩
theorem SAt.first {w w' : World} {g : Nat} {vn vj : Value} {s : St} (h : RdSt w vn vj s) (hx : Ext w w') (hb : Blk w' g 30 #[vn, vj, .int .i64 s.goal, .int .i64 s.prior, .int .i64 s.mode, .int .i64 s.term]) (hg : w.heap.size ≤ g) : SAt w' g vn vj s :=
  ⟨hb, h.ext hx, .of_lt h.nodes hg, .of_lt h.jobs hg⟩
/-- A state is stored. -/
theorem SAt.putR {w : World} {g : Nat} {vn vj un uj : Value} {s t : St} (h : SAt w g vn vj s) (h2 : RdSt w un uj t) (hon : offG g un t.nodes.length) (hoj : offG g uj t.jobs.length) : ∃ w', w' = (((((w.setCell ⟨g, 0, none⟩ un).setCell ⟨g, 1, none⟩ uj).setCell ⟨g, 2, none⟩ (.int .i64 t.goal)).setCell ⟨g, 3, none⟩ (.int .i64 t.prior)).setCell ⟨g, 4, none⟩ (.int .i64 t.mode)).setCell ⟨g, 5, none⟩ (.int .i64 t.term) ∧
    SAt w' g un uj t ∧ (∀ k, k ≠ g → w'.heap[k]? = w.heap[k]?) ∧ w'.heap.size = w.heap.size ∧ ∀ (B : Nat) (a : World), Below B a w → B ≤ g → Below B a w' := by
  have hq := PB.start h.blk
  replace hq := hq.set 0 un
  replace hq := hq.set 1 uj
  replace hq := hq.set 2 (.int .i64 t.goal)
  replace hq := hq.set 3 (.int .i64 t.prior)
  replace hq := hq.set 4 (.int .i64 t.mode)
  replace hq := hq.set 5 (.int .i64 t.term)
  simp only [List.setIfInBounds_toArray, List.set_cons_zero, List.set_cons_succ] at hq
  exact ⟨_, rfl, ⟨hq.blk, ⟨h2.nodes.off hon (by rw [hq.size]; exact Nat.le_refl _) hq.same, h2.jobs.off hoj (by rw [hq.size]; exact Nat.le_refl _) hq.same⟩, hon, hoj⟩, hq.same, hq.size, hq.below⟩
/-- The state of another variable is stored. -/
theorem SAt.put {w : World} {g g2 : Nat} {vn vj un uj : Value} {s t : St} (h : SAt w g vn vj s) (h2 : SAt w g2 un uj t) (hon : offG g un t.nodes.length) (hoj : offG g uj t.jobs.length) : ∃ w', w' = (((((w.setCell ⟨g, 0, none⟩ un).setCell ⟨g, 1, none⟩ uj).setCell ⟨g, 2, none⟩ (.int .i64 t.goal)).setCell ⟨g, 3, none⟩ (.int .i64 t.prior)).setCell ⟨g, 4, none⟩ (.int .i64 t.mode)).setCell ⟨g, 5, none⟩ (.int .i64 t.term) ∧
    SAt w' g un uj t ∧ (∀ k, k ≠ g → w'.heap[k]? = w.heap[k]?) ∧ w'.heap.size = w.heap.size ∧ ∀ (B : Nat) (a : World), Below B a w → B ≤ g → Below B a w' := h.putR h2.rd hon hoj
/-- Another variable is written. -/
theorem SAt.keep {w w' : World} {g g' : Nat} {vn vj : Value} {s : St} (h : SAt w g' vn vj s) (hne : g' ≠ g) (h1 : offG g vn s.nodes.length) (h2 : offG g vj s.jobs.length) (hs : w'.heap.size = w.heap.size) (hk : ∀ k, k ≠ g → w'.heap[k]? = w.heap[k]?) : SAt w' g' vn vj s :=
  ⟨(hk _ hne).trans h.blk, ⟨h.rd.nodes.off h1 (by rw [hs]; exact Nat.le_refl _) hk, h.rd.jobs.off h2 (by rw [hs]; exact Nat.le_refl _) hk⟩, h.offn, h.offj⟩
/-- The variable's slices lie ahead of what is made later. -/
theorem SAt.later {w : World} {g g' : Nat} {vn vj : Value} {s : St} (h : SAt w g' vn vj s) (hg : w.heap.size ≤ g) : offG g vn s.nodes.length ∧ offG g vj s.jobs.length ∧ g' ≠ g := by
  have := h.blk.lt
  exact ⟨.of_lt h.rd.nodes hg, .of_lt h.rd.jobs hg, by omega⟩

/-! ### Behind 't, e = book.Apply(c, s, o)' -/
structure ApCut (W : World) (r : Res9) (p e : Value) (wx : World) : Prop where
  out : ∃ g vn vj, p = .pointer (some ⟨g, 0, none⟩) ∧ e = .int .i64 r.2 ∧ W.heap.size ≤ g ∧ Ext W wx ∧ SAt wx g vn vj r.1 ∧ ∀ k, vn.ownBlock = some k ∨ vj.ownBlock = some k → W.heap.size ≤ k
theorem ApCut.made {W w3 : World} {r : Res9} {vn vj : Value} (hx : Ext W w3) (hr : RdSt w3 vn vj r.1) (hk : ∀ k, vn.ownBlock = some k ∨ vj.ownBlock = some k → W.heap.size ≤ k) :
    ApCut W r (.pointer (some ⟨w3.heap.size, 0, none⟩)) (.int .i64 r.2) (w3.alloc (.cells #[vn, vj, .int .i64 r.1.goal, .int .i64 r.1.prior, .int .i64 r.1.mode, .int .i64 r.1.term] 30)) := by
  have hy : Ext w3 (w3.alloc (.cells #[vn, vj, .int .i64 r.1.goal, .int .i64 r.1.prior, .int .i64 r.1.mode, .int .i64 r.1.term] 30)) := (Below.refl _ _).alloc (Nat.le_refl _) _
  exact ⟨_, _, _, rfl, rfl, hx.size, hx.trans hy, SAt.first hr hy (Blk.new _ _ _) (Nat.le_refl _), hk⟩
theorem ApCut.ahead {W w3 w' : World} {r : Res9} {vn vj : Value} (hx : Ext W w3) (hr : RdSt w3 vn vj r.1) (hq : PB w3 W.heap.size 30 w' #[vn, vj, .int .i64 r.1.goal, .int .i64 r.1.prior, .int .i64 r.1.mode, .int .i64 r.1.term])
    (hk : ∀ k, vn.ownBlock = some k ∨ vj.ownBlock = some k → W.heap.size + 1 ≤ k) : ApCut W r (.pointer (some ⟨W.heap.size, 0, none⟩)) (.int .i64 r.2) w' := by
  have h1 : offG W.heap.size vn r.1.nodes.length := fun _ k h e => by have := hk k (.inl h); omega
  have h2 : offG W.heap.size vj r.1.jobs.length := fun _ k h e => by have := hk k (.inr h); omega
  exact ⟨_, _, _, rfl, rfl, Nat.le_refl _, hq.below _ _ hx (Nat.le_refl _), ⟨hq.blk, ⟨hr.nodes.off h1 (by rw [hq.size]; exact Nat.le_refl _) hq.same, hr.jobs.off h2 (by rw [hq.size]; exact Nat.le_refl _) hq.same⟩, h1, h2⟩, fun k h => by have := hk k h; omega⟩

/-- At the head of a loop over ops: the variables of the fleet and of the state. -/
structure KR9 (w : World) (c : Cf) (s : St) (wr : World) : Prop where
  out : ∃ vn vj, Below w.heap.size w wr ∧ Blk wr w.heap.size 23 #[.int .i64 c.nodes, .int .i64 c.queues, .int .i64 c.quota, .int .i64 c.wave, .int .i64 c.lease, .int .i64 c.retry, .int .i64 c.deadline, .int .i64 c.room, .int .i64 c.disk] ∧ SAt wr (w.heap.size + 1) vn vj s ∧ RightP c s

/-! ### A list of ops -/
structure OpAt (w : World) (b q : Nat) (o : OpN) : Prop where
  c0 : w.cell? ⟨b, q, none⟩ = some (.int .i64 o.1)
  c1 : w.cell? ⟨b, q + 1, none⟩ = some (.int .i64 o.2.1)
  c2 : w.cell? ⟨b, q + 2, none⟩ = some (.int .i64 o.2.2.1)
  c3 : w.cell? ⟨b, q + 3, none⟩ = some (.int .i64 o.2.2.2.1)
  c4 : w.cell? ⟨b, q + 4, none⟩ = some (.int .i64 o.2.2.2.2.1)
  c5 : w.cell? ⟨b, q + 5, none⟩ = some (.int .i64 o.2.2.2.2.2.1)
  c6 : w.cell? ⟨b, q + 6, none⟩ = some (.int .i64 o.2.2.2.2.2.2)
theorem OpAt.ext {w w' : World} {b q : Nat} {n : OpN} (h : OpAt w b q n) (hx : Ext w w') (hb : b < w.heap.size) : OpAt w' b q n := ⟨hx.cellOf h.c0 hb, hx.cellOf h.c1 hb, hx.cellOf h.c2 hb, hx.cellOf h.c3 hb, hx.cellOf h.c4 hb, hx.cellOf h.c5 hb, hx.cellOf h.c6 hb⟩
theorem OpAt.low {w w' : World} {b q B : Nat} {n : OpN} (h : OpAt w b q n) (hx : Below B w w') (hb : b < B) : OpAt w' b q n := ⟨(hx.cell (p := ⟨b, q, none⟩) hb).trans h.c0, (hx.cell (p := ⟨b, q + 1, none⟩) hb).trans h.c1, (hx.cell (p := ⟨b, q + 2, none⟩) hb).trans h.c2, (hx.cell (p := ⟨b, q + 3, none⟩) hb).trans h.c3, (hx.cell (p := ⟨b, q + 4, none⟩) hb).trans h.c4, (hx.cell (p := ⟨b, q + 5, none⟩) hb).trans h.c5, (hx.cell (p := ⟨b, q + 6, none⟩) hb).trans h.c6⟩
theorem ops_cells {w : World} {v : Value} {l : List OpN} (h : RdOps w v l) : ∃ A c, v = .slice A l.length c ∧ l.length ≤ c ∧ c ≤ 9223372036854775807 ∧ ∀ i n, l[i]? = some n → ∃ b o, A = some ⟨b, o, none⟩ ∧ b < w.heap.size ∧ OpAt w b (o + i * 7) n := by
  obtain ⟨A, c, rfl, h1, h2⟩ := h.slice_
  refine ⟨A, c, rfl, h1, h2, fun i n hi => ?_⟩
  have hl := (List.getElem?_eq_some_iff.1 hi).1
  obtain ⟨b, o, hA, hb, hc⟩ := h.get (by omega)
  have key : ∀ j u, (opC n)[j]? = some u → w.cell? ⟨b, o + i * 7 + j, none⟩ = some u := fun j u hu => by
    have hj : j < 7 := (List.getElem?_eq_some_iff.1 hu).1
    rw [Nat.add_assoc]
    exact hc _ _ ((flat_get opC_len hi j hj).trans hu)
  exact ⟨b, o, hA, hb, ⟨key 0 _ rfl, key 1 _ rfl, key 2 _ rfl, key 3 _ rfl, key 4 _ rfl, key 5 _ rfl, key 6 _ rfl⟩⟩

/-! ### Is a state more than is looked at? -/
def greatS (s : St) : Bool := decide (50 < s.nodes.length) || decide (100 < s.jobs.length)
theorem great_no {s : St} (h : greatS s = false) : s.nodes.length ≤ 50 ∧ s.jobs.length ≤ 100 := by
  unfold greatS at h
  simp only [Bool.or_eq_false_iff, decide_eq_false_iff_not] at h
  omega
theorem RightP.not_great {c : Cf} {s : St} (h : RightP c s) : greatS s = false := by
  have h1 := h.len
  have h2 := h.nj
  unfold greatS
  simp only [Bool.or_eq_false_iff, decide_eq_false_iff_not]
  omega

end Go.Proofs.YtddhbokknbmdfaaDoor

/- Layer 1: what its lists and what is read at a place come to, as values. -/
namespace Go.Proofs.YtddhbokknbmdfaaDoor
open Go.RowKit

/-- What GetNum answers at a place from 0 on. -/
def numAt (bs : List UInt8) (p : Nat) : Value := match getN (bs.drop p) with
  | some (n, j) => .tuple #[.int .i64 (n : Int), .int .i64 ((p + j : Nat) : Int), .bool true]
  | none => .tuple #[.int .i64 0, .int .i64 0, .bool false]

def ListPost (l : List Int) (w : World) (e : Ending) (w' : World) : Prop :=
  (∃ v, e = .returned v ∧ l.all isNumB = true ∧ Grew w.heap.size 5 (.slice none 0 0) w ((listB l).map B) v w') ∨ (e = .returned (.slice none 0 0) ∧ l.all isNumB = false ∧ Ext w w')

/-- What GetList answers. -/
def GLPost (r : Option (List Nat × Nat)) (w : World) (e : Ending) (w' : World) : Prop := match r with
  | some (l, q) => ∃ v', e = .returned (.tuple #[v', .int .i64 (q : Int), .bool true]) ∧ w'.ownsRow w.heap.size 3 1 v' l.length (l.map fun (n : Nat) => Value.int .i64 n) ∧ Ext w w'
  | none => e = .returned (.tuple #[.slice none 0 0, .int .i64 0, .bool false]) ∧ Ext w w'

end Go.Proofs.YtddhbokknbmdfaaDoor

/- Layer 1, package code: the number at a place. -/
namespace Go.Proofs.YtddhbokknbmdfaaDoor
open Go.RowKit

set_option maxRecDepth 100000 in
set_option maxHeartbeats 2000000 in
theorem GetNum_at (bs : List UInt8) (v : Value) (p : Nat) (w : World) (hr : Rd w v (bs.map B)) (hp63 : p < 9223372036854775808) :
    Calls Tryd.prog 93 #[v, .int .i64 p] w fun e w' => e = .returned (numAt bs p) ∧ w = w' := by
  obtain ⟨A, c, rfl, hlc, hcm, hcell⟩ := hr
  simp only [List.length_map] at *
  unfold maxLen at hcm
  go_enter Tryd.func93, Tryd.ntmps93
  go_wp2
  go_loop [7, 8] (fun n' i' => ∃ (i acc : Nat), i' = .int .i64 i ∧ n' = .int .i64 acc ∧ i ≤ 8 ∧ acc < 128 ^ i ∧ (p + i < 9223372036854775808) ∧ scanN (8 - i) (bs.drop (p + i)) i acc = getN (bs.drop p)) (fun _ i' => 8 - (intOf i').toNat)
  case atStart => exact ⟨0, 0, rfl, rfl, by omega, by omega, by omega, rfl⟩
  case round =>
    obtain ⟨i, acc, rfl, rfl, hi, hacc, hp6, hsc⟩ := hrel
    by_cases h8 : i < 8
    · by_cases hp : p + i < bs.length
      · obtain ⟨b, o, rfl, hbl, hce⟩ := hcell (by omega)
        have hc1 : w.cell? ⟨b, o + (p + i), none⟩ = some (B bs[p + i]) := hce (p + i) _ (by simp [hp])
        clear hce hcell
        rw [show 8 - i = (7 - i) + 1 by omega, scanN_step i acc (drop_cons hp)] at hsc
        have hcl := bs[p + i].toNat_lt
        unfold B at hc1
        generalize bs[p + i].toNat = c at hc1 hsc hcl
        have hor := or_group i acc c h8 hacc
        have hlt := group_lt i acc c h8 hacc
        have hl8 := pow128_le (show i + 1 ≤ 8 by omega)
        generalize hN : acc + 128 ^ i * (c % 128) = N at hor hsc hlt
        have HN := Lib.hid hN
        clear hN
        by_cases hc : 128 ≤ c
        · rw [if_pos hc] at hsc
          have hSC := Lib.hid hsc
          clear hsc
          go_wp2
          go_roundw
          case rel => exact ⟨i + 1, N, by go_num, rfl, by omega, hlt, by omega, by rw [← hSC.out, show 8 - (i + 1) = 7 - i by omega]; rfl⟩
          case measure => simp [intOf]; omega
        · rw [if_neg hc] at hsc
          by_cases hn : 9007199254740992 ≤ N
          · rw [if_pos (.inl hn)] at hsc
            have hF : Hid (numAt bs p = .tuple #[.int .i64 0, .int .i64 0, .bool false]) := by unfold Hid; rw [numAt, ← hsc]
            have hni : (9007199254740992 : Int) ≤ (N : Int) := by omega
            clear hsc hn
            go_wp2
            go_ret3
            exact ⟨by rw [hF.out]; rfl, rfl⟩
          · have hni : decide ((9007199254740992 : Int) ≤ (N : Int)) = false := by simp; omega
            by_cases hc0 : c = 0
            · subst hc0
              have hor0 : bits .or .i64 (acc : Int) (wrap64 0) = (N : Int) := by simpa using hor
              have hor1 : bits .or .i64 (acc : Int) 0 = (N : Int) := by simpa [wrap64] using hor
              by_cases hi0 : 0 < i
              · rw [if_pos (.inr ⟨rfl, hi0⟩)] at hsc
                have hF : Hid (numAt bs p = .tuple #[.int .i64 0, .int .i64 0, .bool false]) := by unfold Hid; rw [numAt, ← hsc]
                clear hsc hn
                go_wp2
                go_ret3
                exact ⟨by rw [hF.out]; rfl, rfl⟩
              · rw [if_neg (by omega)] at hsc
                have hF : Hid (numAt bs p = .tuple #[.int .i64 (N : Int), .int .i64 ((p + (i + 1) : Nat) : Int), .bool true]) := by unfold Hid; rw [numAt, ← hsc]
                clear hsc hn
                go_wp2
                go_ret3
                exact ⟨by rw [hF.out]; simp; omega, rfl⟩
            · rw [if_neg (by omega)] at hsc
              have hF : Hid (numAt bs p = .tuple #[.int .i64 (N : Int), .int .i64 ((p + (i + 1) : Nat) : Int), .bool true]) := by unfold Hid; rw [numAt, ← hsc]
              have hcb : ((c : Int) == 0) = false := by simpa using hc0
              clear hsc hn
              go_wp2
              go_ret3
              exact ⟨by rw [hF.out]; simp; omega, rfl⟩
      · rw [List.drop_eq_nil_of_le (by omega), show 8 - i = (7 - i) + 1 by omega, scanN] at hsc
        have hF : Hid (numAt bs p = .tuple #[.int .i64 0, .int .i64 0, .bool false]) := by unfold Hid; rw [numAt, ← hsc]
        clear hsc
        go_wp2
        go_ret3
        exact ⟨by rw [hF.out]; rfl, rfl⟩
    · rw [show 8 - i = 0 by omega, scanN] at hsc
      have hF : Hid (numAt bs p = .tuple #[.int .i64 0, .int .i64 0, .bool false]) := by unfold Hid; rw [numAt, ← hsc]
      clear hsc
      go_wp2
      go_ret3
      exact ⟨by rw [hF.out]; rfl, rfl⟩

theorem GetNum_neg (v : Value) (p : Int) (w : World) (hp : p < 0) :
    Calls Tryd.prog 93 #[v, .int .i64 p] w fun e w' => e = .returned (.tuple #[.int .i64 0, .int .i64 0, .bool false]) ∧ w = w' := by
  go_enter Tryd.func93, Tryd.ntmps93
  go_wp2
  go_ret3
  exact ⟨rfl, rfl⟩

theorem GetNum_some (bs : List UInt8) (v : Value) (p n j : Nat) (w : World) (hr : Rd w v (bs.map B)) (hp63 : p < 9223372036854775808) (h : getN (bs.drop p) = some (n, j)) :
    Calls Tryd.prog 93 #[v, .int .i64 p] w fun e w' => e = .returned (.tuple #[.int .i64 n, .int .i64 ((p + j : Nat) : Int), .bool true]) ∧ w = w' := by
  have e : numAt bs p = .tuple #[.int .i64 n, .int .i64 ((p + j : Nat) : Int), .bool true] := by rw [numAt, h]
  rw [← e]
  exact GetNum_at bs v p w hr hp63

theorem GetNum_none (bs : List UInt8) (v : Value) (p : Nat) (w : World) (hr : Rd w v (bs.map B)) (hp63 : p < 9223372036854775808) (h : getN (bs.drop p) = none) :
    Calls Tryd.prog 93 #[v, .int .i64 p] w fun e w' => e = .returned (.tuple #[.int .i64 0, .int .i64 0, .bool false]) ∧ w = w' := by
  have e : numAt bs p = .tuple #[.int .i64 0, .int .i64 0, .bool false] := by rw [numAt, h]
  rw [← e]
  exact GetNum_at bs v p w hr hp63

end Go.Proofs.YtddhbokknbmdfaaDoor

/- Layer 1, package code: the list at a place. -/
namespace Go.Proofs.YtddhbokknbmdfaaDoor
open Go.RowKit

set_option maxRecDepth 100000 in
theorem take_some (bs : List UInt8) (v : Value) (b1 b2 b3 p n j : Nat) (ok : Bool) (w : World) (h1 : Blk w b1 47 #[v]) (h2 : Blk w b2 3 #[.int .i64 p]) (h3 : Blk w b3 4 #[.bool ok]) (h23 : b2 ≠ b3)
    (hr : Rd w v (bs.map B)) (hp63 : p < 9223372036854775808) (h : getN (bs.drop p) = some (n, j)) :
    Calls Tryd.prog 94 #[.pointer (some ⟨b1, 0, none⟩), .pointer (some ⟨b2, 0, none⟩), .pointer (some ⟨b3, 0, none⟩)] w fun e w' => e = .returned (.int .i64 n) ∧
      w' = (w.setCell ⟨b2, 0, none⟩ (.int .i64 ((p + j : Nat) : Int))).setCell ⟨b3, 0, none⟩ (.bool true) := by
  have H := Lib.hid h
  clear h
  have c1 := h1.cell1
  have c2 := h2.cell1
  have c3 := h3.cell1
  have f2 := h2.frozen 0
  have f3 := h3.frozen 0
  have c3' : (w.setCell ⟨b2, 0, none⟩ (.int .i64 ((p : Int) + (j : Int)))).cell? ⟨b3, 0, none⟩ = some (.bool ok) := (h3.far (p := ⟨b2, 0, none⟩) (fun e => h23 e.symm) _).cell1
  go_enter Tryd.func94, Tryd.ntmps94
  go_wp2_with (first | (go_at_call 93; refine (GetNum_some bs _ p n j _ hr (by omega) H.out).mono ?_; rintro e w' ⟨rfl, rfl⟩))
  go_ret
  exact ⟨rfl, rfl⟩

set_option maxRecDepth 100000 in
theorem take_none (bs : List UInt8) (v : Value) (b1 b2 b3 p : Nat) (ok : Bool) (w : World) (h1 : Blk w b1 47 #[v]) (h2 : Blk w b2 3 #[.int .i64 p]) (h3 : Blk w b3 4 #[.bool ok]) (h23 : b2 ≠ b3)
    (hr : Rd w v (bs.map B)) (hp63 : p < 9223372036854775808) (h : getN (bs.drop p) = none) :
    Calls Tryd.prog 94 #[.pointer (some ⟨b1, 0, none⟩), .pointer (some ⟨b2, 0, none⟩), .pointer (some ⟨b3, 0, none⟩)] w fun e w' => e = .returned (.int .i64 0) ∧
      w' = (w.setCell ⟨b2, 0, none⟩ (.int .i64 0)).setCell ⟨b3, 0, none⟩ (.bool false) := by
  have H := Lib.hid h
  clear h
  have c1 := h1.cell1
  have c2 := h2.cell1
  have c3 := h3.cell1
  have f2 := h2.frozen 0
  have f3 := h3.frozen 0
  have c3' : (w.setCell ⟨b2, 0, none⟩ (.int .i64 0)).cell? ⟨b3, 0, none⟩ = some (.bool ok) := (h3.far (p := ⟨b2, 0, none⟩) (fun e => h23 e.symm) _).cell1
  go_enter Tryd.func94, Tryd.ntmps94
  go_wp2_with (first | (go_at_call 93; refine (GetNum_none bs _ p _ hr (by omega) H.out).mono ?_; rintro e w' ⟨rfl, rfl⟩))
  go_ret
  exact ⟨rfl, rfl⟩

set_option maxRecDepth 100000 in
set_option maxHeartbeats 2000000 in
theorem GetList_first (bs : List UInt8) (v : Value) (p : Nat) (most : Int) (w : World) (hr : Rd w v (bs.map B)) (hp63 : p < 9223372036854775808) (h : getN (bs.drop p) = none) :
    Calls Tryd.prog 49 #[v, .int .i64 p, .int .i64 most] w fun e w' => e = .returned (.tuple #[.slice none 0 0, .int .i64 0, .bool false]) ∧ Ext w w' := by
  have H := Lib.hid h
  clear h
  have hlv : ∃ A cp, v = .slice A bs.length cp := by
    obtain ⟨A, cp, h, _⟩ := hr
    exact ⟨A, cp, by simpa using h⟩
  have hR := Lib.hid hr
  clear hr
  obtain ⟨A, cp, rfl⟩ := hlv
  go_enter Tryd.func49, Tryd.ntmps49
  go_wp2_with (first | (go_at_call 93; refine (GetNum_none bs _ p _ (hR.out.ext ((Below.refl _ _).alloc (Nat.le_refl _) _)) (by omega) H.out).mono ?_; rintro e w' ⟨rfl, rfl⟩))
  exact bodyPost_ret (v := .tuple #[.slice none 0 0, .int .i64 0, .bool false]) (by simp [results, Tryd.results49, go_sem]) rfl ⟨rfl, ((((Below.refl _ _).alloc (Nat.le_refl _) _).alloc (by simp) _).alloc (by simp; omega) _)⟩

/-- GetList's loop: the numbers taken so far lie in the list; the place, whether all went well, and the bytes, lie in blocks of their own. -/
structure LR (w wr : World) (V : Value) (c i q : Nat) (ns : List Nat) : Prop where
  own : wr.ownsRow w.heap.size 3 1 (.slice (some ⟨w.heap.size + 1 + 1 + 1, 0, none⟩) c c) c ((ns.map fun (n : Nat) => Value.int .i64 n) ++ List.replicate (c - i) (.int .i64 0))
  len : ns.length = i
  b1 : Blk wr w.heap.size 47 #[V]
  b2 : Blk wr (w.heap.size + 1) 3 #[.int .i64 q]
  b3 : Blk wr (w.heap.size + 1 + 1) 4 #[.bool true]
  ext : Ext w wr

theorem LR.start {w w1 : World} {V : Value} {c q : Nat} (hg : (((w.alloc (Obj.cells #[V] 47)).alloc (Obj.cells #[Value.int IntKind.i64 q] 3)).alloc (Obj.cells #[Value.bool true] 4)).grownBy w1 none)
    (hown : w1.ownsRow w.heap.size 3 1 (.slice (some ⟨w.heap.size + 1 + 1 + 1, 0, none⟩) c c) c (madeCells (Value.int IntKind.i64 0).cells (c * 1)).toList) : LR w w1 V c 0 q [] := by
  refine ⟨?_, rfl, ?_, ?_, ?_, ?_⟩
  · have e : (madeCells (Value.int IntKind.i64 0).cells (c * 1)).toList = List.replicate c (.int .i64 0) := by
      rw [show (Value.int IntKind.i64 0).cells = #[Value.int IntKind.i64 0] from rfl, toList_madeCells_one]
      simp
    rw [e] at hown
    simpa using hown
  · exact (((Blk.new w _ _).alloc _).alloc _).grown hg (by simp)
  · have := (((Blk.new (w.alloc (Obj.cells #[V] 47)) 3 #[.int .i64 q]).alloc (Obj.cells #[Value.bool true] 4))).grown hg (by simp)
    simpa using this
  · have := (Blk.new ((w.alloc (Obj.cells #[V] 47)).alloc (Obj.cells #[Value.int IntKind.i64 q] 3)) 4 #[.bool true]).grown hg (by simp)
    simpa using this
  · exact ((((Below.refl _ _).alloc (Nat.le_refl _) _).alloc (by simp) _).alloc (by simp; omega) _).grown hg (by simp; omega) (by simp)

theorem LR.take {w wr w2 : World} {V : Value} {c i q q' : Nat} {ns : List Nat} {b : Bool} (h : LR w wr V c i q ns) (hi : i < c)
    (h2 : w2 = (wr.setCell ⟨w.heap.size + 1, 0, none⟩ (.int .i64 q')).setCell ⟨w.heap.size + 1 + 1, 0, none⟩ (.bool b)) (n : Nat) :
    w2.cell? ⟨w.heap.size + 1 + 1 + 1, i, none⟩ = some (.int .i64 0) ∧ w2.frozen? ⟨w.heap.size + 1 + 1 + 1, i, none⟩ = false ∧
      (w2.setCell ⟨w.heap.size + 1 + 1 + 1, i, none⟩ (.int .i64 n)).cell? ⟨w.heap.size + 1 + 1, 0, none⟩ = some (.bool b) ∧ Ext w (w2.setCell ⟨w.heap.size + 1 + 1 + 1, i, none⟩ (.int .i64 n)) ∧
      (b = true → LR w (w2.setCell ⟨w.heap.size + 1 + 1 + 1, i, none⟩ (.int .i64 n)) V c (i + 1) q' (ns ++ [n])) := by
  obtain ⟨own, len, b1, b2, b3, ext⟩ := h
  have o2 : w2.ownsRow w.heap.size 3 1 (.slice (some ⟨w.heap.size + 1 + 1 + 1, 0, none⟩) c c) c ((ns.map fun (n : Nat) => Value.int .i64 n) ++ List.replicate (c - i) (.int .i64 0)) := by
    subst h2
    exact ownsRow_setCell_other (ownsRow_setCell_other own (by intro e; simp only [Value.ownBlock, Option.some.injEq] at e; omega) _) (by intro e; simp only [Value.ownBlock, Option.some.injEq] at e; omega) _
  have k2 : Blk w2 (w.heap.size + 1) 3 #[.int .i64 q'] := by
    subst h2
    exact (b2.set_ 0 _).far (by simp) _
  have k3 : Blk w2 (w.heap.size + 1 + 1) 4 #[.bool b] := by
    subst h2
    exact (b3.far (by simp) _).set_ 0 _
  have k1 : Blk w2 w.heap.size 47 #[V] := by
    subst h2
    exact (b1.far (by show w.heap.size ≠ w.heap.size + 1; omega) _).far (by show w.heap.size ≠ w.heap.size + 1 + 1; omega) _
  have e2 : Ext w w2 := by
    subst h2
    exact (ext.setCell (by simp) _).setCell (by simp; omega) _
  have hx : ((ns.map fun (n : Nat) => Value.int .i64 n) ++ List.replicate (c - i) (.int .i64 0))[i]? = some (.int .i64 0) := by
    rw [List.getElem?_append_right (by simp [len]), List.length_map, len, Nat.sub_self, List.getElem?_replicate, if_pos (by omega)]
  refine ⟨(o2.cellAt i (by omega)).trans hx, o2.frozenAt i, (k3.far (by show w.heap.size + 1 + 1 ≠ w.heap.size + 1 + 1 + 1; omega) _).cell1, e2.setCell (by show w.heap.size ≤ w.heap.size + 1 + 1 + 1; omega) _, fun hb => ?_⟩
  subst hb
  refine ⟨?_, by simp [len], k1.far (by show w.heap.size ≠ w.heap.size + 1 + 1 + 1; omega) _, k2.far (by show w.heap.size + 1 ≠ w.heap.size + 1 + 1 + 1; omega) _, k3.far (by show w.heap.size + 1 + 1 ≠ w.heap.size + 1 + 1 + 1; omega) _, e2.setCell (by show w.heap.size ≤ w.heap.size + 1 + 1 + 1; omega) _⟩
  have := (o2.stored i (.int .i64 n)).1
  have e : (((ns.map fun (n : Nat) => Value.int .i64 n) ++ List.replicate (c - i) (Value.int .i64 0)).set i (Value.int .i64 n)) = ((ns ++ [n]).map fun (n : Nat) => Value.int .i64 n) ++ List.replicate (c - (i + 1)) (Value.int .i64 0) := by
    rw [List.set_append_right _ _ (by simp [len])]
    simp only [List.length_map, len, Nat.sub_self, List.map_append, List.map_cons, List.map_nil, List.append_assoc]
    rw [show c - i = (c - (i + 1)) + 1 by omega, List.replicate_succ]
    rfl
  rw [e] at this
  exact this

set_option maxRecDepth 100000 in
set_option maxHeartbeats 4000000 in
theorem GetList_at (bs : List UInt8) (v : Value) (p c j : Nat) (most : Int) (w : World) (hr : Rd w v (bs.map B)) (hp63 : p < 9223372036854775808) (h : getN (bs.drop p) = some (c, j)) (hc : (c : Int) ≤ most) (hcl : c ≤ bs.length - (p + j)) (hlen : bs.length ≤ 1099511627776) :
    Calls Tryd.prog 49 #[v, .int .i64 p, .int .i64 most] w (GLPost (readK c bs (p + j)) w) := by
  have hj := getN_le h
  rw [List.length_drop] at hj
  have H := Lib.hid h
  clear h
  have hmf : ∀ (fn : Fn) (first cap : Array Value) (w : World), (Instr.makeFunc fn first cap).run Tryd.prog w = .ok (.func fn first cap) w := fun _ _ _ _ => rfl
  have hlv : ∃ A cp, v = .slice A bs.length cp := by
    obtain ⟨A, cp, h, _⟩ := hr
    exact ⟨A, cp, by simpa using h⟩
  have hR := Lib.hid hr
  clear hr
  obtain ⟨A, cp, rfl⟩ := hlv
  obtain ⟨i0, hi, hz0, hz1, hz2⟩ := info_parts Tryd.infoInt
  go_enter Tryd.func49, Tryd.ntmps49
  go_wp2_with (first | (go_at_call 93; refine (GetNum_some bs _ p c j _ (hR.out.ext ((Below.refl _ _).alloc (Nat.le_refl _) _)) (by omega) H.out).mono ?_; rintro e w' ⟨rfl, rfl⟩) | (at_make; refine wpList_make_full _ rfl _ _ 64 rfl w.heap.size 3 i0 (.int .i64 0) 1 Tryd.underlying64 hi hz0 hz1 _ _ _ _ c rfl rfl rfl rfl (by rw [hz2]; omega) (by unfold maxLen; omega) (by simp; omega) ?_; intro w1 hown hgrow))
  have hL : LR w w1 (.slice A bs.length cp) c 0 (p + j) [] := LR.start (by simpa using hgrow) (by simpa using hown)
  clear hown hgrow hi hz0 hz1 hz2
  go_loopw [42] (fun i' wr => ∃ (i q : Nat) (ns : List Nat), i' = .int .i64 i ∧ i ≤ c ∧ q ≤ bs.length ∧ readK c bs (p + j) = (readK (c - i) bs q).map (fun r => (ns ++ r.1, r.2)) ∧ LR w wr (.slice A bs.length cp) c i q ns) (fun i' _ => c - (intOf i').toNat)
  case atStart => exact ⟨0, p + j, [], rfl, by omega, by omega, by simp, hL⟩
  case round =>
    obtain ⟨i, q, ns, rfl, hic, hq, hrd, hL⟩ := hrel
    have hR2 := hR.out.ext hL.ext
    by_cases hlt : i < c
    · rw [show c - i = (c - (i + 1)) + 1 by omega, readK] at hrd
      rcases hg : getN (bs.drop q) with _ | ⟨n, j2⟩
      · rw [hg] at hrd
        have HG := Lib.hid hg
        have HRD : Hid (readK c bs (p + j) = none) := by unfold Hid; simpa using hrd
        clear hg hrd
        go_wp2_with (first | (go_at_call 94; refine (take_none bs _ _ _ _ q true _ hL.b1 hL.b2 hL.b3 (by omega) hR2 (by omega) HG.out).mono ?_; rintro e w2 ⟨rfl, hw2⟩; obtain ⟨f1, f2, f3, f4, _⟩ := hL.take (q' := 0) hlt hw2 0; rw [show ((0 : Nat) : Int) = 0 from rfl] at f3 f4; clear hw2))
        refine bodyPost_ret (v := .tuple #[.slice none 0 0, .int .i64 0, .bool false]) (by simp [results, Tryd.results49, go_sem]) rfl ?_
        rw [HRD.out]
        exact ⟨rfl, f4⟩
      · rw [hg] at hrd
        have hj2 := getN_le hg
        rw [List.length_drop] at hj2
        have HG := Lib.hid hg
        have HRD : Hid (readK c bs (p + j) = Option.map (fun r => ((ns ++ [n]) ++ r.1, r.2)) (readK (c - (i + 1)) bs (q + j2))) := by
          unfold Hid
          rw [hrd]
          rcases h : readK (c - (i + 1)) bs (q + j2) with _ | ⟨a, b⟩ <;> simp [h]
        clear hg hrd
        go_wp2_with (first | (go_at_call 94; refine (take_some bs _ _ _ _ q n j2 true _ hL.b1 hL.b2 hL.b3 (by omega) hR2 (by omega) HG.out).mono ?_; rintro e w2 ⟨rfl, hw2⟩; obtain ⟨f1, f2, f3, f4, f5⟩ := hL.take (q' := q + j2) hlt hw2 n; have F5 := Lib.hid (f5 rfl); clear hw2 f5))
        go_roundw
        case rel => exact ⟨i + 1, q + j2, ns ++ [n], by go_num, by omega, by omega, HRD.out, F5.out⟩
        case measure => simp [intOf]; omega
    · obtain rfl : i = c := by omega
      have HRD := Lib.hid hrd
      have c2 := hL.b2.cell1
      clear hrd
      go_wp2
      go_quiet (fail)
      go_wp2
      refine bodyPost_ret (v := .tuple #[.slice (some ⟨w.heap.size + 1 + 1 + 1, 0, none⟩) i i, .int .i64 q, .bool true]) (by simp [results, Tryd.results49, go_sem]) rfl ?_
      rw [HRD.out, Nat.sub_self, readK]
      have hown := hL.own
      rw [Nat.sub_self, List.replicate_zero, List.append_nil] at hown
      refine ⟨_, rfl, ?_, Below.drewN' hL.ext _⟩
      simp only [List.append_nil, hL.len]
      exact hown

set_option maxRecDepth 100000 in
set_option maxHeartbeats 2000000 in
theorem GetList_long (bs : List UInt8) (v : Value) (p c j : Nat) (most : Int) (w : World) (hr : Rd w v (bs.map B)) (hp63 : p < 9223372036854775808) (h : getN (bs.drop p) = some (c, j)) (hc : (c : Int) ≤ most) (hcl : ¬ c ≤ bs.length - (p + j)) :
    Calls Tryd.prog 49 #[v, .int .i64 p, .int .i64 most] w fun e w' => e = .returned (.tuple #[.slice none 0 0, .int .i64 0, .bool false]) ∧ Ext w w' := by
  have hj := getN_le h
  rw [List.length_drop] at hj
  have H := Lib.hid h
  clear h
  have hlv : ∃ A cp, v = .slice A bs.length cp ∧ bs.length ≤ cp ∧ cp ≤ maxLen := by
    obtain ⟨A, cp, h, h2, h3, _⟩ := hr
    exact ⟨A, cp, by simpa using h, by simpa using h2, h3⟩
  have hR := Lib.hid hr
  clear hr
  obtain ⟨A, cp, rfl, h1, h2⟩ := hlv
  unfold maxLen at h2
  go_enter Tryd.func49, Tryd.ntmps49
  go_wp2_with (first | (go_at_call 93; refine (GetNum_some bs _ p c j _ (hR.out.ext ((Below.refl _ _).alloc (Nat.le_refl _) _)) (by omega) H.out).mono ?_; rintro e w' ⟨rfl, rfl⟩))
  exact bodyPost_ret (v := .tuple #[.slice none 0 0, .int .i64 0, .bool false]) (by simp [results, Tryd.results49, go_sem]) rfl ⟨rfl, ((((Below.refl _ _).alloc (Nat.le_refl _) _).alloc (by simp) _).alloc (by simp; omega) _)⟩

set_option maxRecDepth 100000 in
set_option maxHeartbeats 2000000 in
theorem GetList_many (bs : List UInt8) (v : Value) (p c j : Nat) (most : Int) (w : World) (hr : Rd w v (bs.map B)) (hp63 : p < 9223372036854775808) (h : getN (bs.drop p) = some (c, j)) (hc : ¬ (c : Int) ≤ most) :
    Calls Tryd.prog 49 #[v, .int .i64 p, .int .i64 most] w fun e w' => e = .returned (.tuple #[.slice none 0 0, .int .i64 0, .bool false]) ∧ Ext w w' := by
  have hj := getN_le h
  rw [List.length_drop] at hj
  have H := Lib.hid h
  clear h
  have hlv : ∃ A cp, v = .slice A bs.length cp ∧ bs.length ≤ cp ∧ cp ≤ maxLen := by
    obtain ⟨A, cp, h, h2, h3, _⟩ := hr
    exact ⟨A, cp, by simpa using h, by simpa using h2, h3⟩
  have hR := Lib.hid hr
  clear hr
  obtain ⟨A, cp, rfl, h1, h2⟩ := hlv
  unfold maxLen at h2
  go_enter Tryd.func49, Tryd.ntmps49
  go_wp2_with (first | (go_at_call 93; refine (GetNum_some bs _ p c j _ (hR.out.ext ((Below.refl _ _).alloc (Nat.le_refl _) _)) (by omega) H.out).mono ?_; rintro e w' ⟨rfl, rfl⟩))
  exact bodyPost_ret (v := .tuple #[.slice none 0 0, .int .i64 0, .bool false]) (by simp [results, Tryd.results49, go_sem]) rfl ⟨rfl, ((((Below.refl _ _).alloc (Nat.le_refl _) _).alloc (by simp) _).alloc (by simp; omega) _)⟩

set_option maxRecDepth 100000 in
set_option maxHeartbeats 2000000 in
theorem GetList_neg (bs : List UInt8) (v : Value) (p : Int) (most : Int) (w : World) (hr : Rd w v (bs.map B)) (hp : p < 0) :
    Calls Tryd.prog 49 #[v, .int .i64 p, .int .i64 most] w fun e w' => e = .returned (.tuple #[.slice none 0 0, .int .i64 0, .bool false]) ∧ Ext w w' := by
  have hlv : ∃ A cp, v = .slice A bs.length cp ∧ bs.length ≤ cp ∧ cp ≤ maxLen := by
    obtain ⟨A, cp, h, h2, h3, _⟩ := hr
    exact ⟨A, cp, by simpa using h, by simpa using h2, h3⟩
  clear hr
  obtain ⟨A, cp, rfl, h1, h2⟩ := hlv
  unfold maxLen at h2
  go_enter Tryd.func49, Tryd.ntmps49
  go_wp2_with (first | (go_at_call 93; refine (GetNum_neg _ p _ hp).mono ?_; rintro e w' ⟨rfl, rfl⟩))
  exact bodyPost_ret (v := .tuple #[.slice none 0 0, .int .i64 0, .bool false]) (by simp [results, Tryd.results49, go_sem]) rfl ⟨rfl, ((((Below.refl _ _).alloc (Nat.le_refl _) _).alloc (by simp) _).alloc (by simp; omega) _)⟩

theorem GetList_any (bs : List UInt8) (v : Value) (p : Nat) (most : Int) (w : World) (hr : Rd w v (bs.map B)) (hp63 : p < 9223372036854775808) (hlen : bs.length ≤ 1099511627776) :
    Calls Tryd.prog 49 #[v, .int .i64 p, .int .i64 most] w (GLPost (listAt bs p most) w) := by
  unfold listAt
  rcases h : getN (bs.drop p) with _ | ⟨c, j⟩
  · exact GetList_first bs v p most w hr hp63 h
  · by_cases hc : (c : Int) ≤ most
    · simp only [hc, if_true]
      by_cases hcl : c ≤ bs.length - (p + j)
      · exact GetList_at bs v p c j most w hr hp63 h hc hcl hlen
      · have hj := getN_le h
        rw [List.length_drop] at hj
        rcases hk : readK c bs (p + j) with _ | ⟨l, q⟩
        · exact GetList_long bs v p c j most w hr hp63 h hc hcl
        · have := readK_le c bs (p + j) l q (by omega) hk
          omega
    · simp only [hc, if_false]
      exact GetList_many bs v p c j most w hr hp63 h hc

end Go.Proofs.YtddhbokknbmdfaaDoor

/- Package image: read. -/
namespace Go.Proofs.YtddhbokknbmdfaaDoor
open Go.RowKit

theorem listAt_most {bs : List UInt8} {p : Nat} {most : Int} {l : List Nat} {q : Nat} (h : listAt bs p most = some (l, q)) : (l.length : Int) ≤ most := by
  unfold listAt at h
  rcases hg : getN (bs.drop p) with _ | ⟨c, j⟩
  · rw [hg] at h
    cases h
  · rw [hg] at h
    simp only at h
    split at h
    · rename_i hc
      have hj := getN_le hg
      rw [List.length_drop] at hj
      have := (readK_le c bs (p + j) l q (by omega) h).2.2.1
      omega
    · cases h

/-- What read answers. -/
def ReadPost (bs : List UInt8) (w : World) (e : Ending) (w' : World) : Prop :=
  (∃ l : List Nat, listAt bs 0 312 = some (l, bs.length) ∧ GoodL (l.map fun (n : Nat) => (n : Int)) ∧ ∃ vn vj, e = .returned (stV vn vj (stOf (l.map fun (n : Nat) => (n : Int)))) ∧ RdSt w' vn vj (stOf (l.map fun (n : Nat) => (n : Int))) ∧ (∀ k, vn.ownBlock = some k ∨ vj.ownBlock = some k → w.heap.size ≤ k) ∧ Ext w w') ∨
  (GaveUp e ∧ Ext w w' ∧ ¬ ∃ l : List Nat, listAt bs 0 312 = some (l, bs.length) ∧ GoodL (l.map fun (n : Nat) => (n : Int)))

set_option maxRecDepth 100000 in
set_option maxHeartbeats 8000000 in
theorem read_any (bs : List UInt8) (v : Value) (w : World) (hr : Rd w v (bs.map B)) (hlen : bs.length ≤ 100000) (hL : LaidI w) :
    Calls Tryd.prog 32 #[v] w (ReadPost bs w) := by
  obtain ⟨W1, hW1⟩ : ∃ W, W = w.alloc (.cells #[.slice none 0 0, .slice none 0 0, .int .i64 0, .int .i64 0, .int .i64 0, .int .i64 0] 30) := ⟨_, rfl⟩
  have hx1 : Ext w W1 := by rw [hW1]; exact (Below.refl _ _).alloc (Nat.le_refl _) _
  have HBA : Hid (Blk W1 w.heap.size 30 #[.slice none 0 0, .slice none 0 0, .int .i64 0, .int .i64 0, .int .i64 0, .int .i64 0]) := Lib.hid (by rw [hW1]; exact Blk.new _ _ _)
  have HGL := Lib.hid (GetList_any bs v 0 312 W1 (hr.ext hx1) (by omega) (by omega))
  have HL := Lib.hid hL
  have HX1 := Lib.hid hx1
  have HLN := Lib.hid hlen
  rw [show ((0 : Nat) : Int) = 0 from rfl] at HGL
  obtain ⟨A, cv, rfl, -, -, -⟩ := hr
  rw [List.length_map] at *
  clear hx1 hL hlen
  go_enter Tryd.func32, Tryd.ntmps32
  go_upto_region 1 with (fail)
  rw [← hW1]
  clear hW1
  go_wp2_with fail
  refine HGL.out.mono ?_
  intro e2 w2 hp
  cases hla : listAt bs 0 312 with
  | none =>
    rw [hla] at hp
    obtain ⟨rfl, hx2⟩ := hp
    have HNO : Hid (¬ ∃ l : List Nat, listAt bs 0 312 = some (l, bs.length) ∧ GoodL (l.map fun (n : Nat) => (n : Int))) := Lib.hid (by rintro ⟨l, h1, -⟩; rw [hla] at h1; cases h1)
    obtain ⟨W3, hW3⟩ : ∃ W, W = w2.alloc (.cells #[.slice none 0 0] 83) := ⟨_, rfl⟩
    have HX3 : Hid (Ext w W3) := Lib.hid ((HX1.out.trans hx2).trans (by rw [hW3]; exact (Below.refl _ _).alloc (Nat.le_refl _) _))
    clear hx2 hla HGL
    go_upto_region 3 with (fail)
    rw [← hW3]
    clear hW3
    go_wp2_with fail
    refine (need_no _ W3 (HL.out.ext HX3.out)).mono ?_
    rintro e4 w4 ⟨⟨T, pv, rfl⟩, rfl⟩
    go_wp2
    exact ⟨rfl, .inr ⟨⟨_, _, rfl⟩, HX3.out, HNO.out⟩⟩
  | some lq =>
    obtain ⟨l, q⟩ := lq
    rw [hla] at hp
    obtain ⟨v', rfl, hown, hx2⟩ := hp
    have hl312 := listAt_most hla
    have hvb : ∃ Bk, (∀ k, v'.ownBlock = some k → k = Bk) ∧ w.heap.size ≤ Bk ∧ Bk < w2.heap.size ∧ (v'.ownBlock = some Bk ∨ Bk = w.heap.size) := by
      cases ho : v'.ownBlock with
      | none => exact ⟨w.heap.size, (fun k hk => by cases hk), Nat.le_refl _, Nat.lt_of_lt_of_le HBA.out.lt hx2.size, .inr rfl⟩
      | some k => exact ⟨k, (fun k' hk => (Option.some.inj hk).symm), Nat.le_trans HX1.out.size (hown.lt k ho).1, (hown.lt k ho).2, .inl rfl⟩
    obtain ⟨Bk, hbk1, hbk2, hbk3, -⟩ := hvb
    obtain ⟨W3, hW3⟩ : ∃ W, W = w2.alloc (.cells #[v'] 83) := ⟨_, rfl⟩
    have hx3 : Ext w2 W3 := by rw [hW3]; exact (Below.refl _ _).alloc (Nat.le_refl _) _
    have hb3 : Blk W3 w2.heap.size 83 #[v'] := by rw [hW3]; exact Blk.new _ _ _
    obtain ⟨L, hL'⟩ : ∃ L : List Int, L = l.map fun (n : Nat) => (n : Int) := ⟨_, rfl⟩
    have hrl : Rd w2 v' (L.map I) := by have h := Rd.own hown; rw [hL', List.map_map]; exact h
    have HRR : Hid (Rr W3 w2.heap.size Bk L) := Lib.hid ⟨⟨v', hb3, hrl.ext hx3, hbk1, Nat.ne_of_lt hbk3, Nat.lt_of_lt_of_le hbk3 hx3.size⟩⟩
    have H0 : Hid (∀ x ∈ L, 0 ≤ x) := Lib.hid (by intro x hx; rw [hL'] at hx; obtain ⟨n, -, rfl⟩ := List.mem_map.1 hx; exact Int.natCast_nonneg n)
    have HLL : Hid (L.length ≤ 1000) := Lib.hid (by rw [hL', List.length_map]; omega)
    have HLA := Lib.hid hla
    have HLD := Lib.hid hL'
    have HX3 := Lib.hid ((HX1.out.trans hx2).trans hx3)
    have HBA3 := Lib.hid ((HBA.out.ext hx2).ext hx3)
    have HG2 : Hid (w.heap.size < w2.heap.size) := Lib.hid (Nat.lt_of_lt_of_le HBA.out.lt hx2.size)
    obtain ⟨A', c', rfl⟩ := own_slice hown
    have HBK := Lib.hid hbk2
    clear hla hown hx2 hx3 hb3 hrl hbk1 hbk2 hbk3 hL' hl312 HGL HBA
    go_upto_region 3 with (fail)
    rw [← hW3]
    clear hW3
    by_cases hq : q = bs.length
    · subst hq
      have d1 : ((bs.length : Int) == (bs.length : Int)) = true := by simp
      go_wp2_with fail
      refine (need_yes _ W3).mono ?_
      rintro e4 w4 ⟨rfl, rfl⟩
      have HST := Lib.hid (rstate_any w W3 w2.heap.size Bk L HL.out HX3.out (Nat.le_of_lt HG2.out) HRR.out H0.out HLL.out)
      generalize w2.heap.size = gr at *
      go_wp2_with fail
      refine HST.out.mono ?_
      intro e5 w5 hp
      rcases hp with ⟨hok, vn, vj, rfl, hrs, hrb, hrr, hc5⟩ | ⟨hno, ⟨T, pv, rfl⟩, hc5⟩
      · obtain ⟨s, hs⟩ : ∃ s, s = stOf L := ⟨_, rfl⟩
        rw [← hs] at hrs ⊢
        obtain ⟨An, cn, rfl, -, -⟩ := hrs.nodes.slice_
        obtain ⟨Aj, cj, rfl, -, -⟩ := hrs.jobs.slice_
        unfold stV
        obtain ⟨W6, hW6⟩ : ∃ W, W = w5.alloc (.cells #[.slice An s.nodes.length cn, .slice Aj s.jobs.length cj, .int .i64 s.goal, .int .i64 s.prior, .int .i64 s.mode, .int .i64 s.term] 30) := ⟨_, rfl⟩
        have hx6 : Ext w5 W6 := by rw [hW6]; exact (Below.refl _ _).alloc (Nat.le_refl _) _
        have hb6 : Blk W6 w5.heap.size 30 #[.slice An s.nodes.length cn, .slice Aj s.jobs.length cj, .int .i64 s.goal, .int .i64 s.prior, .int .i64 s.mode, .int .i64 s.term] := by rw [hW6]; exact Blk.new _ _ _
        obtain ⟨vr, hbr, hrd, -, -, -⟩ := (hrr.ext hx6).out
        obtain ⟨Ar, cr, rfl, -, -, -⟩ := hrd
        rw [List.length_map] at hbr
        have c0 := hbr.cell1
        have hxe : Ext w w5 := hc5.ext HX3.out (fun k hk => by have hk : k = gr := hk; have := HG2.out; omega)
        have HXE := Lib.hid (hxe.trans hx6)
        have HB6 := Lib.hid hb6
        have HBA6 : Hid (Blk W6 w.heap.size 30 #[.slice none 0 0, .slice none 0 0, .int .i64 0, .int .i64 0, .int .i64 0, .int .i64 0]) := Lib.hid ((show Blk w5 w.heap.size 30 #[.slice none 0 0, .slice none 0 0, .int .i64 0, .int .i64 0, .int .i64 0, .int .i64 0] from (hc5.block _ HBA3.out.lt (by have := HG2.out; intro h; have h : w.heap.size = gr := h; omega)).trans HBA3.out).ext hx6)
        have HRS : Hid (RdSt W6 (.slice An s.nodes.length cn) (.slice Aj s.jobs.length cj) s) := Lib.hid (hrs.ext hx6)
        have HOF : Hid (offG w.heap.size (.slice An s.nodes.length cn) s.nodes.length ∧ offG w.heap.size (.slice Aj s.jobs.length cj) s.jobs.length) := Lib.hid ⟨fun _ k h e => by have := hrb k (.inl h); have := HBA3.out.lt; omega, fun _ k h e => by have := hrb k (.inr h); have := HBA3.out.lt; omega⟩
        have HRB : Hid (∀ k, (Value.slice An s.nodes.length cn).ownBlock = some k ∨ (Value.slice Aj s.jobs.length cj).ownBlock = some k → w.heap.size ≤ k) := Lib.hid fun k h => by have := hrb k h; have := HBA3.out.lt; omega
        have HOK := Lib.hid hok
        have HSE := Lib.hid hs
        clear hok hrs hrb hrr hc5 hx6 hb6 hbr hxe hs HST HBA3
        go_upto_region 5 with (fail)
        rw [← hW6]
        clear hW6
        obtain ⟨R, hR⟩ : ∃ R, R = (L.drop (2 + 3 * nOf L + 12 * mOf L + 4)).length := ⟨_, rfl⟩
        rw [← hR] at c0
        have HRL := Lib.hid hR
        clear hR
        by_cases hR0 : R = 0
        · subst hR0
          have HGD : Hid (GoodL L) := Lib.hid ⟨by have h1 := HRL.out; rw [List.length_drop] at h1; have h2 := HOK.out.1; unfold endOf at h2; omega, HOK.out.2⟩
          go_wp2_with fail
          refine (need_yes _ W6).mono ?_
          rintro e7 w7 ⟨rfl, rfl⟩
          have c0_ : W6.cell? ⟨w5.heap.size, 0, none⟩ = some (.slice An s.nodes.length cn) := HB6.out.cell 0
          have z0 : W6.cell? ⟨w.heap.size, 0, none⟩ = some (.slice none 0 0) := HBA6.out.cell 0
          have f0 := HBA6.out.frozen 0
          have c1_ : W6.cell? ⟨w5.heap.size, 1, none⟩ = some (.slice Aj s.jobs.length cj) := HB6.out.cell 1
          have z1 : W6.cell? ⟨w.heap.size, 1, none⟩ = some (.slice none 0 0) := HBA6.out.cell 1
          have f1 := HBA6.out.frozen 1
          have c2_ : W6.cell? ⟨w5.heap.size, 2, none⟩ = some (.int .i64 s.goal) := HB6.out.cell 2
          have z2 : W6.cell? ⟨w.heap.size, 2, none⟩ = some (.int .i64 0) := HBA6.out.cell 2
          have f2 := HBA6.out.frozen 2
          have c3_ : W6.cell? ⟨w5.heap.size, 3, none⟩ = some (.int .i64 s.prior) := HB6.out.cell 3
          have z3 : W6.cell? ⟨w.heap.size, 3, none⟩ = some (.int .i64 0) := HBA6.out.cell 3
          have f3 := HBA6.out.frozen 3
          have c4_ : W6.cell? ⟨w5.heap.size, 4, none⟩ = some (.int .i64 s.mode) := HB6.out.cell 4
          have z4 : W6.cell? ⟨w.heap.size, 4, none⟩ = some (.int .i64 0) := HBA6.out.cell 4
          have f4 := HBA6.out.frozen 4
          have c5_ : W6.cell? ⟨w5.heap.size, 5, none⟩ = some (.int .i64 s.term) := HB6.out.cell 5
          have z5 : W6.cell? ⟨w.heap.size, 5, none⟩ = some (.int .i64 0) := HBA6.out.cell 5
          have f5 := HBA6.out.frozen 5
          go_wp2
          have hq := PB.start HBA6.out
          replace hq := hq.set 0 (.slice An s.nodes.length cn)
          replace hq := hq.set 1 (.slice Aj s.jobs.length cj)
          replace hq := hq.set 2 (.int .i64 s.goal)
          replace hq := hq.set 3 (.int .i64 s.prior)
          replace hq := hq.set 4 (.int .i64 s.mode)
          replace hq := hq.set 5 (.int .i64 s.term)
          simp only [List.setIfInBounds_toArray, List.set_cons_zero, List.set_cons_succ] at hq
          obtain ⟨wf, hwf⟩ : ∃ W, W = ((((((W6.setCell ⟨w.heap.size, 0, none⟩ (.slice An s.nodes.length cn)).setCell ⟨w.heap.size, 1, none⟩ (.slice Aj s.jobs.length cj)).setCell ⟨w.heap.size, 2, none⟩ (.int .i64 s.goal)).setCell ⟨w.heap.size, 3, none⟩ (.int .i64 s.prior)).setCell ⟨w.heap.size, 4, none⟩ (.int .i64 s.mode)).setCell ⟨w.heap.size, 5, none⟩ (.int .i64 s.term)) := ⟨_, rfl⟩
          rw [← hwf] at hq ⊢
          clear hwf
          have hsz : W6.heap.size ≤ wf.heap.size := by rw [hq.size]; exact Nat.le_refl _
          exact bodyPost_ret (results_cell_row rfl _ _ w.heap.size 30 _ (0, 0) _ rfl hq.blk rfl rfl (by kernel_rfl)) rfl (.inl ⟨l, HLA.out, by rw [← HLD.out]; exact HGD.out, _, _, by rw [← HLD.out, ← HSE.out]; rfl, by rw [← HLD.out, ← HSE.out]; exact ⟨HRS.out.nodes.off HOF.out.1 hsz hq.same, HRS.out.jobs.off HOF.out.2 hsz hq.same⟩, HRB.out, hq.below _ _ HXE.out (Nat.le_refl _)⟩)
        · have d2 : ((R : Int) == 0) = false := by rw [beq_eq_false_iff_ne]; omega
          have d2' : (R == 0) = false := by rw [beq_eq_false_iff_ne]; exact hR0
          have HNO : Hid (¬ ∃ l : List Nat, listAt bs 0 312 = some (l, bs.length) ∧ GoodL (l.map fun (n : Nat) => (n : Int))) := Lib.hid (by rintro ⟨l2, h1, h2⟩; rw [HLA.out] at h1; cases h1; rw [← HLD.out] at h2; have h3 := h2.len; have h4 := HRL.out; rw [List.length_drop] at h4; omega)
          clear hR0
          go_wp2_with fail
          refine (need_no _ W6 (HL.out.ext HXE.out)).mono ?_
          rintro e7 w7 ⟨⟨T, pv, rfl⟩, rfl⟩
          go_wp2
          exact ⟨rfl, .inr ⟨⟨_, _, rfl⟩, HXE.out, HNO.out⟩⟩
      · have HXE : Hid (Ext w w5) := Lib.hid (hc5.ext HX3.out (fun k hk => by have hk : k = gr := hk; have := HG2.out; omega))
        have HNO : Hid (¬ ∃ l : List Nat, listAt bs 0 312 = some (l, bs.length) ∧ GoodL (l.map fun (n : Nat) => (n : Int))) := Lib.hid (by rintro ⟨l2, h1, h2⟩; rw [HLA.out] at h1; cases h1; rw [← HLD.out] at h2; exact hno ⟨by have h3 := h2.len; unfold endOf; omega, h2.marks⟩)
        clear hno hc5 HST
        go_wp2
        exact ⟨rfl, .inr ⟨⟨_, _, rfl⟩, HXE.out, HNO.out⟩⟩
    · have d1 : ((q : Int) == (bs.length : Int)) = false := by rw [beq_eq_false_iff_ne]; omega
      have d1' : (q == bs.length) = false := by rw [beq_eq_false_iff_ne]; exact hq
      have HNO : Hid (¬ ∃ l : List Nat, listAt bs 0 312 = some (l, bs.length) ∧ GoodL (l.map fun (n : Nat) => (n : Int))) := Lib.hid (by rintro ⟨l2, h1, -⟩; rw [HLA.out] at h1; cases h1; exact hq rfl)
      clear hq
      go_wp2_with fail
      refine (need_no _ W3 (HL.out.ext HX3.out)).mono ?_
      rintro e4 w4 ⟨⟨T, pv, rfl⟩, rfl⟩
      go_wp2
      exact ⟨rfl, .inr ⟨⟨_, _, rfl⟩, HX3.out, HNO.out⟩⟩

end Go.Proofs.YtddhbokknbmdfaaDoor

/- Package image: the deferred function that catches the reader's panic. -/
namespace Go.Proofs.YtddhbokknbmdfaaDoor
open Go.RowKit

theorem catch_panicking (g4 g5 : Nat) (v0 v1 v2 v3 v4 v5 : Value) (b : Bool) (T : TypeId) (pv : Value) (w : World) (h4 : Blk w g4 30 #[v0, v1, v2, v3, v4, v5]) (h5 : Blk w g5 4 #[.bool b]) (_hne : g4 ≠ g5) :
    CallsD Tryd.prog 31 #[.pointer (some ⟨g4, 0, none⟩), .pointer (some ⟨g5, 0, none⟩)] (.panicking [{ v := .iface T pv, recovered := false }]) w fun e u' w' =>
      e = .returned (.tuple #[]) ∧ u' = .panicking [{ v := .iface T pv, recovered := true }] ∧ w' = ((((((w.setCell ⟨g4, 0, none⟩ (.slice none 0 0)).setCell ⟨g4, 1, none⟩ (.slice none 0 0)).setCell ⟨g4, 2, none⟩ (.int .i64 0)).setCell ⟨g4, 3, none⟩ (.int .i64 0)).setCell ⟨g4, 4, none⟩ (.int .i64 0)).setCell ⟨g4, 5, none⟩ (.int .i64 0)).setCell ⟨g5, 0, none⟩ (.bool false) := by
  have c0 : w.cell? ⟨g4, 0, none⟩ = some v0 := h4.cell 0
  have c1 : w.cell? ⟨g4, 1, none⟩ = some v1 := h4.cell 1
  have c2 : w.cell? ⟨g4, 2, none⟩ = some v2 := h4.cell 2
  have c3 : w.cell? ⟨g4, 3, none⟩ = some v3 := h4.cell 3
  have c4 : w.cell? ⟨g4, 4, none⟩ = some v4 := h4.cell 4
  have c5 : w.cell? ⟨g4, 5, none⟩ = some v5 := h4.cell 5
  have d0 := h5.cell1
  have f0 := h4.frozen 0
  have f1 := h4.frozen 1
  have f2 := h4.frozen 2
  have f3 := h4.frozen 3
  have f4 := h4.frozen 4
  have f5 := h4.frozen 5
  have e0 := h5.frozen 0
  refine callsD_of_wpS Tryd.func31 rfl fun c₀ cs hu => ?_
  apply wpS_seq
  apply wpS_region
  simp [wpOpsS, go_sem, recoverD, hu, Tryd.ntmps31, Exit.thenS]
  refine wpS_cond (t := true) (by simp [Act.eval, Array.replicate]) ?_
  simp only [if_true]
  apply wpS_region
  simp [wpOpsS, go_sem, c0, c1, c2, c3, c4, c5, d0, f0, f1, f2, f3, f4, f5, e0, bodyPostS, results, Tryd.results31]

theorem catch_idle (g4 g5 : Nat) (w : World) :
    CallsD Tryd.prog 31 #[.pointer (some ⟨g4, 0, none⟩), .pointer (some ⟨g5, 0, none⟩)] .returning w fun e u' w' => e = .returned (.tuple #[]) ∧ u' = .returning ∧ w' = w := by
  refine callsD_of_wpS Tryd.func31 rfl fun c₀ cs hu => ?_
  apply wpS_seq
  apply wpS_region
  simp [wpOpsS, go_sem, recoverD, hu, Tryd.ntmps31, Exit.thenS]
  refine wpS_cond (t := false) (by simp [Act.eval, Array.replicate]) ?_
  simp only [Bool.false_eq_true, if_false]
  refine wpS_of_wp (wp_skip ?_)
  cases c₀
  simp_all [bodyPostS, results, Tryd.results31]

end Go.Proofs.YtddhbokknbmdfaaDoor
