/- Texts that the proof of Y rests on, one behind the other. -/
import Derived.Test.YtddhbokknbmdfaaYQ3
import Derived.Deep.Slices
import Derived.Deep.Fields
import Derived.ChangeSame

/- Words for a slice of structs that came in: numbers, and bytes. No program is named here. -/
namespace Go.Proofs.Ytddhbokknbmdfaa
open Go.ChangeShapes Go.WideShapes Go.ChangeAt Go.RowKit Go.Deep

section
variable {H : Type} {enc : TypeId × Value → H} {P : Program} {w : World} {base : Nat} {held : Bool}
/-- The fields of a struct that lies in memory, each of one cell. -/
theorem struct_parts {e : TypeId} {fs : Array Field} {m : Nat} {cs : List Value} {x : DataW H × List MemPlace} (he : P.underlying e = some (.struct fs)) (hone : oneCellFields P fs = true) (hC : P.cellsOf e = fs.size)
    (h : DataW.trod enc P w base (fun _ => true) held m e cs = some x) : cs.length = fs.size ∧ ∀ (j : Nat) (f : Field), fs[j]? = some f → ∃ v n y, cs[j]? = some v ∧ DataW.trod enc P w base (fun _ => true) held n f.type [v] = some y := by
  obtain ⟨ys, n, _, _, hlen, hyl, hf⟩ := DataW.trod_struct he h
  refine ⟨hlen.trans hC, fun j f hj => ?_⟩
  obtain ⟨ho, hk⟩ := hone_of hone j f hj
  have hjf : j < fs.size := (Array.getElem?_eq_some_iff.1 hj).1
  have hjc : j < cs.length := by rw [hlen, hC]; exact hjf
  have hfj := hf j f hj
  rw [ho, hk, List.drop_eq_getElem_cons hjc] at hfj
  have hjy : j < ys.length := by rw [hyl]; exact hjf
  exact ⟨cs[j], n, ys[j], List.getElem?_eq_getElem hjc, by rw [List.getElem?_eq_getElem hjy] at hfj; exact hfj⟩

/-- A slice of structs of k one-cell fields: where it lies, and that each element's fields read. -/
theorem structs_at {t e : TypeId} {fs : Array Field} {r : Reach} {b0 : Nat} {v : Value} {d : DataW H} {ps : List MemPlace} (ht : P.underlying t = some (.slice e)) (he : P.underlying e = some (.struct fs)) (hone : oneCellFields P fs = true)
    (hC : P.cellsOf e = fs.size) (h0 : 0 < fs.size) (hval : Value.okWide P w r b0 t v) (hd : DataW.Trod enc P w base (fun _ => true) held t v d ps) :
    ∃ A n c, v = .slice A n c ∧ n ≤ c ∧ c ≤ maxLen ∧ (0 < n → ∃ b o, A = some ⟨b, o, none⟩ ∧ b < w.heap.size ∧
      ∀ i, i < n → ∀ (j : Nat) (f : Field), fs[j]? = some f → ∃ u k y, w.cell? ⟨b, o + (i * fs.size + j), none⟩ = some u ∧ DataW.trod enc P w base (fun _ => true) held k f.type [u] = some y) := by
  obtain ⟨a0, len, cap, rfl⟩ := okWide_slice ht hval
  obtain ⟨fuel, hf⟩ := hd
  rcases open_slice ht hf with ⟨hcs, _⟩ | ⟨a, len', cap', m, n, D, Pl, hcs, _, hl, hm, hmm, _, hx⟩
  · simp [Value.cells] at hcs
    obtain ⟨rfl, rfl, rfl⟩ := hcs
    exact ⟨none, 0, 0, rfl, Nat.le_refl _, Nat.zero_le _, fun h => absurd h (by omega)⟩
  · simp [Value.cells] at hcs
    obtain ⟨rfl, rfl, rfl⟩ := hcs
    simp only [if_true] at hmm
    subst hmm
    have hcell : ∀ i, i < m → ∀ (j : Nat) (f : Field), fs[j]? = some f → ∃ u k y, w.cell? (a.add (i * fs.size + j)) = some u ∧ DataW.trod enc P w base (fun _ => true) held k f.type [u] = some y := by
      intro i hi j f hj
      obtain ⟨cs', hc, htr⟩ := hx i hi
      obtain ⟨hlen, hparts⟩ := struct_parts he hone hC htr
      obtain ⟨u, k, y, hu, hy⟩ := hparts j f hj
      obtain ⟨_, hcl, hat⟩ := World.cells?_some hc
      have hjf : j < fs.size := (Array.getElem?_eq_some_iff.1 hj).1
      have h1 := hat j (by rw [hC]; exact hjf)
      rw [hC, add_of_add, hu] at h1
      exact ⟨u, k, y, h1, hy⟩
    refine ⟨some a, len, m, rfl, hl, hm, fun hn0 => ?_⟩
    obtain ⟨u, _, _, hu, _⟩ := hcell 0 (by omega) 0 fs[0] (Array.getElem?_eq_getElem h0)
    obtain ⟨b, o, spot⟩ := a
    have hspot : spot = none := by simpa [Addr.add] using World.cell?_spot hu
    subst hspot
    refine ⟨b, o, rfl, ?_, fun i hi j f hj => ?_⟩
    · have := World.block_lt_of_cell? w _ hu
      simpa [block_of_add] using this
    · obtain ⟨u, k, y, h1, h2⟩ := hcell i (by omega) j f hj
      rw [Addr.add_lit] at h1
      exact ⟨u, k, y, h1, h2⟩

/-- An act: two numbers and bytes. -/
def RdActs (w : World) (v : Value) (l : List (Int × Int × List UInt8)) : Prop :=
  ∃ A c, v = .slice A l.length c ∧ l.length ≤ c ∧ c ≤ maxLen ∧ (0 < l.length → ∃ b o, A = some ⟨b, o, none⟩ ∧ b < w.heap.size ∧
    ∀ j x, l[j]? = some x → w.cell? ⟨b, o + j * 3, none⟩ = some (I x.1) ∧ w.cell? ⟨b, o + (j * 3 + 1), none⟩ = some (I x.2.1) ∧ (-9223372036854775808 ≤ x.1 ∧ x.1 ≤ 9223372036854775807) ∧ (-9223372036854775808 ≤ x.2.1 ∧ x.2.1 ≤ 9223372036854775807) ∧
      ∃ u, w.cell? ⟨b, o + (j * 3 + 2), none⟩ = some u ∧ Rd w u (x.2.2.map B))

theorem RdActs.slice_ {w : World} {v : Value} {l : List (Int × Int × List UInt8)} (h : RdActs w v l) : ∃ A c, v = .slice A l.length c ∧ l.length ≤ c ∧ c ≤ 9223372036854775807 := by
  obtain ⟨A, c, e, h1, h2, _⟩ := h
  exact ⟨A, c, e, h1, by unfold maxLen at h2; omega⟩
theorem RdActs.get {w : World} {A : Option Addr} {n c : Nat} {l : List (Int × Int × List UInt8)} (h : RdActs w (.slice A n c) l) (hn : 0 < l.length) : ∃ b o, A = some ⟨b, o, none⟩ ∧ b < w.heap.size ∧
    ∀ j x, l[j]? = some x → w.cell? ⟨b, o + j * 3, none⟩ = some (I x.1) ∧ w.cell? ⟨b, o + (j * 3 + 1), none⟩ = some (I x.2.1) ∧ (-9223372036854775808 ≤ x.1 ∧ x.1 ≤ 9223372036854775807) ∧ (-9223372036854775808 ≤ x.2.1 ∧ x.2.1 ≤ 9223372036854775807) ∧
      ∃ u, w.cell? ⟨b, o + (j * 3 + 2), none⟩ = some u ∧ Rd w u (x.2.2.map B) := by
  obtain ⟨A', c', e, _, _, h3⟩ := h
  cases e
  exact h3 hn

theorem RdActs.ext {w w' : World} {v : Value} {l : List (Int × Int × List UInt8)} (h : RdActs w v l) (hx : Ext w w') : RdActs w' v l := by
  obtain ⟨A, c, e, h1, h2, h3⟩ := h
  refine ⟨A, c, e, h1, h2, fun hn => ?_⟩
  obtain ⟨b, o, a, hb, hc⟩ := h3 hn
  refine ⟨b, o, a, Nat.lt_of_lt_of_le hb hx.size, fun j x hj => ?_⟩
  obtain ⟨e1, e2, b1, b2, u, e3, hu⟩ := hc j x hj
  exact ⟨hx.cellOf e1 hb, hx.cellOf e2 hb, b1, b2, u, hx.cellOf e3 hb, hu.ext hx⟩

theorem dec_acts {t e tb : TypeId} {fs : Array Field} {f0 f1 f2 : Field} {ti tj : TypeId} {r : Reach} {b0 : Nat} {v : Value} {d : DataW H} {ps : List MemPlace} (ht : P.underlying t = some (.slice e)) (he : P.underlying e = some (.struct fs)) (hone : oneCellFields P fs = true)
    (hC : P.cellsOf e = 3) (hfs : fs = #[f0, f1, f2]) (h0 : f0.type = ti) (h1 : f1.type = tj) (h2 : f2.type = tb) (hi : P.underlying ti = some (.int .i64)) (hj : P.underlying tj = some (.int .i64)) {q : TypeId} (hb : P.underlying tb = some (.slice q)) (hq : P.underlying q = some (.int .u8)) (cq : P.cellsOf q = 1)
    (hval : Value.okWide P w r b0 t v) (hd : DataW.Trod enc P w base (fun _ => true) held t v d ps) : ∃ l, RdActs w v l := by
  subst hfs h0 h1 h2
  obtain ⟨A, n, c, rfl, hnc, hcm, hx⟩ := structs_at ht he hone (by rw [hC]; rfl) (by simp) hval hd
  have each : ∀ i, ∃ x : Int × Int × List UInt8, 0 < n → i < n → ∀ b o, A = some ⟨b, o, none⟩ → w.cell? ⟨b, o + i * 3, none⟩ = some (I x.1) ∧ w.cell? ⟨b, o + (i * 3 + 1), none⟩ = some (I x.2.1) ∧ (-9223372036854775808 ≤ x.1 ∧ x.1 ≤ 9223372036854775807) ∧ (-9223372036854775808 ≤ x.2.1 ∧ x.2.1 ≤ 9223372036854775807) ∧
      ∃ u, w.cell? ⟨b, o + (i * 3 + 2), none⟩ = some u ∧ Rd w u (x.2.2.map B) := by
    intro i
    by_cases hn : 0 < n ∧ i < n
    · obtain ⟨b, o, rfl, _, hcell⟩ := hx hn.1
      obtain ⟨u0, k0, y0, c0, t0⟩ := hcell i hn.2 0 f0 rfl
      obtain ⟨u1, k1, y1, c1, t1⟩ := hcell i hn.2 1 f1 rfl
      obtain ⟨u2, k2, y2, c2, t2⟩ := hcell i hn.2 2 f2 rfl
      obtain ⟨z0, hz0, _, w0⟩ := DataW.trod_int hi t0
      obtain ⟨z1, hz1, _, w1⟩ := DataW.trod_int hj t1
      obtain ⟨l2, hl2⟩ := rd_of_trod hb hq cq t2
      simp only [List.cons.injEq, and_true] at hz0 hz1
      subst hz0 hz1
      have m1 : IntKind.i64.min = -9223372036854775808 := rfl
      have m2 : IntKind.i64.max = 9223372036854775807 := rfl
      simp only [Lit.wf, Bool.and_eq_true, decide_eq_true_eq] at w0 w1
      refine ⟨(z0, z1, l2), fun _ _ b' o' e => ?_⟩
      cases e
      exact ⟨c0, c1, ⟨by simp only; omega, by simp only; omega⟩, ⟨by simp only; omega, by simp only; omega⟩, u2, c2, hl2⟩
    · exact ⟨(0, 0, []), fun h1 h2 => absurd ⟨h1, h2⟩ hn⟩
  obtain ⟨L, hL⟩ : ∃ L : Nat → Int × Int × List UInt8, ∀ i, 0 < n → i < n → ∀ b o, A = some ⟨b, o, none⟩ → w.cell? ⟨b, o + i * 3, none⟩ = some (I (L i).1) ∧ w.cell? ⟨b, o + (i * 3 + 1), none⟩ = some (I (L i).2.1) ∧ (-9223372036854775808 ≤ (L i).1 ∧ (L i).1 ≤ 9223372036854775807) ∧ (-9223372036854775808 ≤ (L i).2.1 ∧ (L i).2.1 ≤ 9223372036854775807) ∧
      ∃ u, w.cell? ⟨b, o + (i * 3 + 2), none⟩ = some u ∧ Rd w u ((L i).2.2.map B) := ⟨fun i => (each i).choose, fun i => (each i).choose_spec⟩
  refine ⟨(List.range n).map L, A, c, by simp, by simpa using hnc, hcm, fun hn => ?_⟩
  have hn' : 0 < n := by simpa using hn
  obtain ⟨b, o, hA, hb1, _⟩ := hx hn'
  refine ⟨b, o, hA, hb1, fun j x hj => ?_⟩
  rw [List.getElem?_map] at hj
  obtain ⟨i, hi1, rfl⟩ := Option.map_eq_some_iff.1 hj
  obtain ⟨hi2, hi3⟩ := List.getElem?_eq_some_iff.1 hi1
  simp at hi2 hi3
  subst hi3
  exact hL j hn' hi2 b o hA
end

end Go.Proofs.Ytddhbokknbmdfaa

/- A slice of structs of numbers that came in, a struct within a struct too. No program is named here. -/
namespace Go.Proofs.Ytddhbokknbmdfaa
open Go.ChangeShapes Go.WideShapes Go.ChangeAt Go.RowKit Go.Deep

/-- The slice value v reads as l: each element K numbers. -/
def RdI (K : Nat) (w : World) (v : Value) (l : List (List Int)) : Prop :=
  ∃ A c, v = .slice A l.length c ∧ l.length ≤ c ∧ c ≤ maxLen ∧ (0 < l.length → ∃ b o, A = some ⟨b, o, none⟩ ∧ b < w.heap.size ∧ ∀ j x i z, l[j]? = some x → x[i]? = some z → w.cell? ⟨b, o + j * K + i, none⟩ = some (.int .i64 z))
section
variable {K : Nat} {w w' : World} {v : Value} {l : List (List Int)}
theorem RdI.ext (h : RdI K w v l) (hx : Ext w w') : RdI K w' v l := by
  obtain ⟨A, c, e, h1, h2, h3⟩ := h
  refine ⟨A, c, e, h1, h2, fun hn => ?_⟩
  obtain ⟨b, o, a, hb, hc⟩ := h3 hn
  exact ⟨b, o, a, Nat.lt_of_lt_of_le hb hx.size, fun j x i z hj hi => (hx.cell (p := ⟨b, o + j * K + i, none⟩) hb).trans (hc j x i z hj hi)⟩
theorem RdI.slice_ (h : RdI K w v l) : ∃ A c, v = .slice A l.length c ∧ l.length ≤ c ∧ c ≤ 9223372036854775807 := by
  obtain ⟨A, c, e, h1, h2, _⟩ := h
  exact ⟨A, c, e, h1, by unfold maxLen at h2; omega⟩
theorem RdI.get {A : Option Addr} {n c : Nat} (h : RdI K w (.slice A n c) l) (hn : 0 < l.length) : ∃ b o, A = some ⟨b, o, none⟩ ∧ b < w.heap.size ∧ ∀ j x i z, l[j]? = some x → x[i]? = some z → w.cell? ⟨b, o + j * K + i, none⟩ = some (.int .i64 z) := by
  obtain ⟨A', c', e, _, _, h3⟩ := h
  cases e
  exact h3 hn
end

section
variable {H : Type} {enc : TypeId × Value → H} {P : Program} {w : World} {base : Nat} {held : Bool}
/-- p numbers, and a struct of K numbers behind them. -/
theorem nest_ints {e tm : TypeId} {fs fm : Array Field} {m : Nat} {cs : List Value} {x : DataW H × List MemPlace} (he : P.underlying e = some (.struct fs)) (p K : Nat) (hC : P.cellsOf e = p + K)
    (hlead : ∀ i, i < p → ∃ f, fs[i]? = some f ∧ f.offset = i ∧ P.cellsOf f.type = 1 ∧ P.underlying f.type = some (.int .i64)) (hlast : ∃ f, fs[p]? = some f ∧ f.offset = p ∧ f.type = tm)
    (hm : P.underlying tm = some (.struct fm)) (hone : oneCellFields P fm = true) (hCm : P.cellsOf tm = fm.size) (hK : fm.size = K) (hi : ∀ f ∈ fm, P.underlying f.type = some (.int .i64))
    (h : DataW.trod enc P w base (fun _ => true) held m e cs = some x) : ∀ j, j < p + K → ∃ z : Int, cs[j]? = some (.int .i64 z) := by
  obtain ⟨ys, n, _, _, hlen, hyl, hf⟩ := DataW.trod_struct he h
  rw [hC] at hlen
  intro j hj
  have hys : ∀ i f, fs[i]? = some f → ∃ y, ys[i]? = some y := fun i f hi => by
    have h1 := (Array.getElem?_eq_some_iff.1 hi).1
    exact ⟨ys[i], List.getElem?_eq_getElem (by rw [hyl]; exact h1)⟩
  by_cases hp : j < p
  · obtain ⟨f, q1, q2, q3, q4⟩ := hlead j hp
    have h1 := hf j f q1
    obtain ⟨y, hy⟩ := hys j f q1
    rw [q2, q3, hy, List.drop_eq_getElem_cons (by omega)] at h1
    obtain ⟨z, hz, _, _⟩ := DataW.trod_int q4 h1
    refine ⟨z, ?_⟩
    rw [List.getElem?_eq_getElem (by omega)]
    have hz2 : [cs[j]] = [.int .i64 z] := hz
    rw [(List.cons.inj hz2).1]
  · obtain ⟨f, q1, q2, rfl⟩ := hlast
    have h1 := hf p f q1
    obtain ⟨y, hy⟩ := hys p f q1
    rw [q2, hCm, hy] at h1
    obtain ⟨-, hp2⟩ := struct_parts hm hone hCm h1
    obtain ⟨g, hg⟩ : ∃ g, fm[j - p]? = some g := ⟨fm[j - p]'(by omega), Array.getElem?_eq_getElem (by omega)⟩
    obtain ⟨u, k, y', hu, hy'⟩ := hp2 (j - p) g hg
    obtain ⟨z, hz, _, _⟩ := DataW.trod_int (hi g (Array.mem_of_getElem? hg)) hy'
    simp only [List.cons.injEq, and_true] at hz
    refine ⟨z, ?_⟩
    rw [List.getElem?_take, if_pos (by omega), List.getElem?_drop] at hu
    rw [show p + (j - p) = j by omega] at hu
    rw [hu, hz]
/-- A slice whose elements' cells are all numbers. -/
theorem dec_rdI {t e : TypeId} {r : Reach} {b0 : Nat} {v : Value} {d : DataW H} {ps : List MemPlace} (ht : P.underlying t = some (.slice e)) (K : Nat) (hK : 0 < K) (hC : P.cellsOf e = K)
    (hel : ∀ (m : Nat) (cs : List Value) (x : DataW H × List MemPlace), DataW.trod enc P w base (fun _ => true) held m e cs = some x → ∀ j, j < K → ∃ z : Int, cs[j]? = some (.int .i64 z))
    (hval : Value.okWide P w r b0 t v) (hd : DataW.Trod enc P w base (fun _ => true) held t v d ps) : ∃ l : List (List Int), (∀ x ∈ l, x.length = K) ∧ RdI K w v l := by
  obtain ⟨a0, len, cap, rfl⟩ := okWide_slice ht hval
  obtain ⟨fuel, hf⟩ := hd
  rcases open_slice ht hf with ⟨hcs, _⟩ | ⟨a, len', cap', m, n, D, Pl, hcs, _, hl, hm, hmm, _, hx⟩
  · simp [Value.cells] at hcs
    obtain ⟨rfl, rfl, rfl⟩ := hcs
    exact ⟨[], by simp, none, 0, rfl, Nat.le_refl _, Nat.zero_le _, fun h => absurd h (by simp)⟩
  · simp [Value.cells] at hcs
    obtain ⟨rfl, rfl, rfl⟩ := hcs
    simp only [if_true] at hmm
    subst hmm
    have hcell : ∀ i, i < m → ∀ j, j < K → ∃ z : Int, w.cell? (a.add (i * K + j)) = some (.int .i64 z) := by
      intro i hi j hj
      obtain ⟨cs', hc, htr⟩ := hx i hi
      obtain ⟨_, hcl, hat⟩ := World.cells?_some hc
      obtain ⟨z, hz⟩ := hel _ _ _ htr j hj
      have h1 := hat j (by rw [hC]; exact hj)
      rw [hC, add_of_add, hz] at h1
      exact ⟨z, h1⟩
    have each : ∀ i, ∃ x : List Int, x.length = K ∧ (i < m → ∀ j z, x[j]? = some z → w.cell? (a.add (i * K + j)) = some (.int .i64 z)) := by
      intro i
      by_cases hi : i < m
      · have h2 : ∀ j : Nat, ∃ z : Int, j < K → w.cell? (a.add (i * K + j)) = some (.int .i64 z) := fun j => by
          by_cases hj : j < K
          · obtain ⟨z, hz⟩ := hcell i hi j hj
            exact ⟨z, fun _ => hz⟩
          · exact ⟨0, fun h => absurd h hj⟩
        obtain ⟨Z, hZ⟩ : ∃ Z : Nat → Int, ∀ j, j < K → w.cell? (a.add (i * K + j)) = some (.int .i64 (Z j)) := ⟨fun j => (h2 j).choose, fun j => (h2 j).choose_spec⟩
        refine ⟨(List.range K).map Z, by simp, fun _ j z hj => ?_⟩
        rw [List.getElem?_map] at hj
        by_cases hjk : j < K
        · rw [List.getElem?_range hjk] at hj
          simp only [Option.map_some, Option.some.injEq] at hj
          rw [← hj]
          exact hZ j hjk
        · rw [List.getElem?_eq_none (by simpa using hjk)] at hj
          cases hj
      · exact ⟨List.replicate K 0, by simp, fun h => absurd h hi⟩
    obtain ⟨L, hL⟩ : ∃ L : Nat → List Int, ∀ i, (L i).length = K ∧ (i < m → ∀ j z, (L i)[j]? = some z → w.cell? (a.add (i * K + j)) = some (.int .i64 z)) := ⟨fun i => (each i).choose, fun i => (each i).choose_spec⟩
    refine ⟨(List.range len).map L, fun x hxm => ?_, some a, m, by simp, by simpa using hl, hm, fun hn0 => ?_⟩
    · obtain ⟨i, -, rfl⟩ := List.mem_map.1 hxm
      exact (hL i).1
    · have hn0 : 0 < len := by simpa using hn0
      obtain ⟨z, hz⟩ := hcell 0 (by omega) 0 hK
      obtain ⟨b, o, spot⟩ := a
      have hspot : spot = none := by simpa [Addr.add] using World.cell?_spot hz
      subst hspot
      refine ⟨b, o, rfl, ?_, fun j x i z hj hi => ?_⟩
      · have := World.block_lt_of_cell? w _ hz
        simpa [block_of_add] using this
      · rw [List.getElem?_map] at hj
        by_cases hjl : j < len
        · rw [List.getElem?_range hjl] at hj
          simp only [Option.map_some, Option.some.injEq] at hj
          subst hj
          have h1 := (hL j).2 (by omega) i z hi
          rw [Addr.add_lit] at h1
          rw [Nat.add_assoc]
          exact h1
        · rw [List.getElem?_eq_none (by simpa using hjl)] at hj
          cases hj
end

end Go.Proofs.Ytddhbokknbmdfaa

/- Package store: a store, as the document speaks of it, in a block of its own. -/
namespace Go.Proofs.Ytddhbokknbmdfaa
open Go.RowKit

/-- A pair, and the slices that hold its bytes. -/
structure LpP where
  p : PrP
  vc : Value
  vs : Value
def LpP.cells (x : LpP) : List Value := [I x.p.c.ep, x.vc, I x.p.s.ep, x.vs]
/-- The bytes lie apart of the blocks that are written. -/
def LpP.rd (N : Fp) (w : World) (x : LpP) : Prop := RdF (fun k => ¬ N k) w x.vc (x.p.c.da.map B) ∧ RdF (fun k => ¬ N k) w x.vs (x.p.s.da.map B)
def zLp : LpP := ⟨zPr, .slice none 0 0, .slice none 0 0⟩
def soC (room term : Int) (lp : List LpP) (n : Int) : List Value := I room :: I term :: (lp.flatMap LpP.cells ++ [I n])
/-- The store in block g; N: the blocks that are written. -/
structure SoAt (N : Fp) (w : World) (g : Nat) (S : StoP) : Prop where
  out : ∃ lp, lp.map LpP.p = S.jobs ∧ Blk w g 103 (soC S.room S.term lp S.writes).toArray ∧ ∀ x ∈ lp, x.rd N w
  isIn : N.isIn w
  here : N g

theorem zLp_rd (N : Fp) (w : World) : zLp.rd N w :=
  ⟨⟨none, 0, rfl, Nat.le_refl _, Nat.zero_le _, fun h => absurd h (by decide)⟩, ⟨none, 0, rfl, Nat.le_refl _, Nat.zero_le _, fun h => absurd h (by decide)⟩⟩
theorem RdF.nilF (F : Fp) (w : World) : RdF F w (.slice none 0 0) [] := ⟨none, 0, rfl, Nat.le_refl _, Nat.zero_le _, fun h => absurd h (by decide)⟩
theorem LpP.rd.chg {N G : Fp} {w w' : World} {x : LpP} (h : x.rd N w) (hc : Chg G w w') (hg : ∀ k, G k → N k) : x.rd N w' :=
  ⟨h.1.chg hc (fun k hk hG => hk (hg k hG)), h.2.chg hc (fun k hk hG => hk (hg k hG))⟩
theorem flat_at4 : ∀ (lp : List LpP) (r : List Value) (k i : Nat), i < 4 → k < lp.length → (lp.flatMap LpP.cells ++ r)[4 * k + i]? = ((lp.getD k zLp).cells)[i]?
  | [], _, _, _, _, h => absurd h (by simp)
  | x :: lp, r, 0, i, hi, _ => by
    rw [List.flatMap_cons, List.append_assoc, Nat.mul_zero, Nat.zero_add, List.getElem?_append_left (by show i < 4; exact hi)]
    rfl
  | x :: lp, r, k + 1, i, hi, h => by
    rw [List.flatMap_cons, List.append_assoc, List.getElem?_append_right (by show 4 ≤ 4 * (k + 1) + i; omega), show 4 * (k + 1) + i - x.cells.length = 4 * k + i by show 4 * (k + 1) + i - 4 = _; omega]
    exact flat_at4 lp r k i hi (by simpa using h)
theorem flat4_len : ∀ lp : List LpP, (lp.flatMap LpP.cells).length = 4 * lp.length
  | [] => rfl
  | x :: lp => by rw [List.flatMap_cons, List.length_append, flat4_len lp, List.length_cons]; show 4 + 4 * lp.length = _; omega
theorem soC_at (room term : Int) (lp : List LpP) (n : Int) (k i : Nat) (hi : i < 4) (hk : k < lp.length) : (soC room term lp n)[2 + 4 * k + i]? = ((lp.getD k zLp).cells)[i]? := by
  rw [show 2 + 4 * k + i = (4 * k + i) + 1 + 1 by omega]
  show (lp.flatMap LpP.cells ++ [I n])[4 * k + i]? = _
  exact flat_at4 lp _ k i hi hk
theorem soC_last (room term : Int) (lp : List LpP) (n : Int) (hl : lp.length = 24) : (soC room term lp n)[98]? = some (I n) := by
  show (lp.flatMap LpP.cells ++ [I n])[96]? = _
  rw [List.getElem?_append_right (by rw [flat4_len]; omega), flat4_len, hl]
  rfl
theorem soC_len (room term : Int) (lp : List LpP) (n : Int) (hl : lp.length = 24) : (soC room term lp n).length = 99 := by
  show (lp.flatMap LpP.cells ++ [I n]).length + 1 + 1 = 99
  rw [List.length_append, flat4_len, hl]
  rfl
theorem flat_set4 : ∀ (lp : List LpP) (r : List Value) (k : Nat) (x : LpP), k < lp.length →
    ((((lp.flatMap LpP.cells ++ r).set (4 * k) (I x.p.c.ep)).set (4 * k + 1) x.vc).set (4 * k + 2) (I x.p.s.ep)).set (4 * k + 3) x.vs = (lp.set k x).flatMap LpP.cells ++ r
  | [], _, _, _, h => absurd h (by simp)
  | y :: lp, r, 0, x, _ => by
    rw [List.flatMap_cons, List.append_assoc]
    rfl
  | y :: lp, r, k + 1, x, h => by
    have ih := flat_set4 lp r k x (by simpa using h)
    rw [List.flatMap_cons, List.append_assoc, List.set_cons_succ, List.flatMap_cons, List.append_assoc, ← ih]
    rw [show 4 * (k + 1) = 4 * k + 1 + 1 + 1 + 1 by omega, show 4 * k + 1 + 1 + 1 + 1 + 1 = (4 * k + 1) + 1 + 1 + 1 + 1 by omega, show 4 * k + 1 + 1 + 1 + 1 + 2 = (4 * k + 2) + 1 + 1 + 1 + 1 by omega, show 4 * k + 1 + 1 + 1 + 1 + 3 = (4 * k + 3) + 1 + 1 + 1 + 1 by omega]
    rfl
theorem soC_set4 (room term : Int) (lp : List LpP) (n : Int) (k : Nat) (x : LpP) (hk : k < lp.length) :
    ((((soC room term lp n).set (2 + 4 * k) (I x.p.c.ep)).set (2 + 4 * k + 1) x.vc).set (2 + 4 * k + 2) (I x.p.s.ep)).set (2 + 4 * k + 3) x.vs = soC room term (lp.set k x) n := by
  rw [show 2 + 4 * k = 4 * k + 1 + 1 by omega, show 4 * k + 1 + 1 + 1 = (4 * k + 1) + 1 + 1 by omega, show 4 * k + 1 + 1 + 2 = (4 * k + 2) + 1 + 1 by omega, show 4 * k + 1 + 1 + 3 = (4 * k + 3) + 1 + 1 by omega]
  have h := flat_set4 lp [I n] k x hk
  show I room :: I term :: (((((lp.flatMap LpP.cells ++ [I n]).set (4 * k) (I x.p.c.ep)).set (4 * k + 1) x.vc).set (4 * k + 2) (I x.p.s.ep)).set (4 * k + 3) x.vs) = _
  rw [h]
  rfl
theorem soC_set2 (room term : Int) (lp : List LpP) (n : Int) (k : Nat) (e : Int) (d : List UInt8) (v : Value) (hk : k < lp.length) :
    ((soC room term lp n).set (2 + 4 * k + 2) (I e)).set (2 + 4 * k + 3) v = soC room term (lp.set k ⟨⟨(lp.getD k zLp).p.c, ⟨e, d⟩⟩, (lp.getD k zLp).vc, v⟩) n := by
  rw [← soC_set4 room term lp n k _ hk]
  have h0 := soC_at room term lp n k 0 (by omega) hk
  have h1 := soC_at room term lp n k 1 (by omega) hk
  have e0 : (soC room term lp n).set (2 + 4 * k) (I (lp.getD k zLp).p.c.ep) = soC room term lp n := by
    apply List.ext_getElem?
    intro i
    rw [List.getElem?_set]
    split
    next e => subst e; split; exact h0.symm; next hh => rw [List.getElem?_eq_none (by omega)]
    · rfl
  have e1 : (soC room term lp n).set (2 + 4 * k + 1) (lp.getD k zLp).vc = soC room term lp n := by
    apply List.ext_getElem?
    intro i
    rw [List.getElem?_set]
    split
    next e => subst e; split; exact h1.symm; next hh => rw [List.getElem?_eq_none (by omega)]
    · rfl
  rw [e0, e1]
theorem soC_setN (room term : Int) (lp : List LpP) (n m : Int) (hl : lp.length = 24) : (soC room term lp n).set 98 (I m) = soC room term lp m := by
  show I room :: I term :: ((lp.flatMap LpP.cells ++ [I n]).set 96 (I m)) = _
  rw [List.set_append_right _ _ (by rw [flat4_len]; omega), flat4_len, hl]
  rfl

section
variable {N G : Fp} {w w' : World} {g : Nat} {S : StoP}
theorem SoAt.chg (h : SoAt N w g S) (hc : Chg G w w') (hg : ∀ k, G k → N k) (hng : ¬ G g) : SoAt N w' g S := by
  obtain ⟨lp, h1, h2, h3⟩ := h.out
  exact ⟨⟨lp, h1, (hc.block g h2.lt hng).trans h2, fun x hx => (h3 x hx).chg hc hg⟩, h.isIn.chg hc, h.here⟩
theorem SoAt.ext (h : SoAt N w g S) (hx : Ext w w') : SoAt N w' g S := h.chg (G := fun _ => False) (Chg.of_ext hx) (fun _ h => h.elim) (fun h => h)
theorem SoAt.lt (h : SoAt N w g S) : g < w.heap.size := h.isIn g h.here
/-- The cells of a job's pair. -/
structure PairAt (N : Fp) (w : World) (b o : Nat) (p : PrP) : Prop where
  out : ∃ vc vs, (w.cell? ⟨b, o, none⟩ = some (I p.c.ep) ∧ w.cell? ⟨b, o + 1, none⟩ = some vc ∧ w.cell? ⟨b, o + 2, none⟩ = some (I p.s.ep) ∧ w.cell? ⟨b, o + 3, none⟩ = some vs) ∧ LpP.rd N w ⟨p, vc, vs⟩
  fr : ∀ i, w.frozen? ⟨b, i, none⟩ = false
  lt : b < w.heap.size
theorem PairAt.ext {b o : Nat} {p : PrP} (h : PairAt N w b o p) (hx : Ext w w') : PairAt N w' b o p := by
  obtain ⟨vc, vs, ⟨c0, c1, c2, c3⟩, hr⟩ := h.out
  exact ⟨⟨vc, vs, ⟨(hx.cell (p := ⟨b, o, none⟩) h.lt).trans c0, (hx.cell (p := ⟨b, o + 1, none⟩) h.lt).trans c1, (hx.cell (p := ⟨b, o + 2, none⟩) h.lt).trans c2, (hx.cell (p := ⟨b, o + 3, none⟩) h.lt).trans c3⟩, hr.chg (G := fun _ => False) (Chg.of_ext hx) (fun _ h => h.elim)⟩,
    fun i => (hx.frozen (p := ⟨b, i, none⟩) h.lt).trans (h.fr i), Nat.lt_of_lt_of_le h.lt hx.size⟩
theorem getD_map (lp : List LpP) (k : Nat) : (lp.map LpP.p).getD k zPr = (lp.getD k zLp).p := by
  rw [List.getD_eq_getElem?_getD, List.getD_eq_getElem?_getD, List.getElem?_map]
  cases lp[k]? <;> rfl
theorem SoAt.pair (h : SoAt N w g S) (hS : OkS S) {job : Int} (hj : isJ job = true) : PairAt N w g (2 + 4 * (job - 1).toNat) (ofJ S job) := by
  obtain ⟨lp, h1, h2, h3⟩ := h.out
  have hk : (job - 1).toNat < lp.length := by have := hS.idx hj; rw [← h1, List.length_map] at this; exact this
  have hp : (lp.getD (job - 1).toNat zLp).p = ofJ S job := by
    unfold ofJ
    rw [if_pos hj, ← h1, getD_map]
  have hm : lp.getD (job - 1).toNat zLp ∈ lp := by rw [List.getD_eq_getElem?_getD, List.getElem?_eq_getElem hk]; exact List.getElem_mem hk
  have hc : ∀ i, i < 4 → w.cell? ⟨g, 2 + 4 * (job - 1).toNat + i, none⟩ = ((lp.getD (job - 1).toNat zLp).cells)[i]? := fun i hi => by
    rw [h2.cell, List.getElem?_toArray, soC_at _ _ _ _ _ _ hi hk]
  refine ⟨⟨(lp.getD (job - 1).toNat zLp).vc, (lp.getD (job - 1).toNat zLp).vs, ⟨?_, ?_, ?_, ?_⟩, ?_⟩, fun i => h2.frozen i, h2.lt⟩
  · rw [← hp]; exact hc 0 (by omega)
  · exact hc 1 (by omega)
  · rw [← hp]; exact hc 2 (by omega)
  · exact hc 3 (by omega)
  · rw [← hp]; exact h3 _ hm
end

end Go.Proofs.Ytddhbokknbmdfaa

/- Plain mathematics of layer 13: what an agent may become. No program is named here. -/
namespace Go.Proofs.Ytddhbokknbmdfaa

/-- From a to b, by something of a kind (0 an order, 1 an act). -/
structure MayA (a b : Ag) (kind : Int) : Prop where
  ver : b.ver = a.ver ∨ (a.mode = 4 ∧ kind = 1)
  turn : b.mode = 4 → a.mode = 4 ∨ a.mode = 0
  work : b.mode = 2 → a.mode = 2 ∨ (a.mode = 1 ∧ a.job = b.job ∧ a.inc = b.inc)
  term : a.term ≤ b.term
  gen : b.term = a.term → a.gen ≤ b.gen
  up : b.mode ≠ 0 → b.up = true
/-- What always holds of an agent. -/
structure OkA (a : Ag) : Prop where
  up : a.mode ≠ 0 → a.up = true
  w0 : 0 ≤ a.worked
  w1 : a.worked ≤ 1000000
theorem okA_new : OkA newA := ⟨fun h => absurd rfl h, by decide, by decide⟩
theorem MayA.refl {a : Ag} (h : OkA a) (k : Int) : MayA a a k := ⟨.inl rfl, .inl, .inl, Int.le_refl _, fun _ => Int.le_refl _, h.up⟩
theorem isA_mode_ {a : Ag} {m : Ms} {k : Int} (h : isA a m k = true) : a.mode = k ∧ a.job = m.job ∧ a.inc = m.inc := by
  unfold isA at h
  simp only [Bool.and_eq_true, decide_eq_true_eq] at h
  exact ⟨h.1.1, h.1.2, h.2⟩
theorem goesA_iff {a : Ag} {m : Ms} (h : goesA a m = true) : a.up = true ∧ a.term ≤ m.term ∧ (m.term = a.term → a.gen ≤ m.gen) := by
  unfold goesA at h
  simp only [Bool.and_eq_true, Bool.not_eq_true'] at h
  obtain ⟨⟨⟨h1, -⟩, -⟩, h2⟩ := h
  unfold elderA at h2
  simp only [Bool.or_eq_false_iff, Bool.and_eq_false_iff, decide_eq_false_iff_not] at h2
  exact ⟨h1, by omega, fun e => by rcases h2.2 with h | h; exact absurd e h; omega⟩
theorem take_may {a : Ag} (m : Ms) (now : Int) (sv : Bool) (h : OkA a) (hw : 0 ≤ m.work ∧ m.work ≤ 1000000) : MayA a (takeA a m now sv) 0 ∧ OkA (takeA a m now sv) := by
  unfold takeA
  split
  · rename_i hg
    obtain ⟨g1, g2, g3⟩ := goesA_iff hg
    have hu := h.up
    have w0 := h.w0
    have w1 := h.w1
    have base : MayA a (toldA a m) 0 ∧ OkA (toldA a m) := ⟨⟨.inl rfl, .inl, .inl, g2, g3, fun _ => g1⟩, ⟨fun _ => g1, w0, w1⟩⟩
    have lng : MayA a (longA (toldA a m) m) 0 ∧ OkA (longA (toldA a m) m) := ⟨⟨.inl rfl, .inl, .inl, g2, g3, fun _ => g1⟩, ⟨fun _ => g1, w0, w1⟩⟩
    unfold doA
    split
    · split
      · exact base
      · exact ⟨⟨.inl rfl, fun h => (by cases h), fun h => (by cases h), g2, g3, fun h => absurd rfl h⟩, ⟨fun h => absurd rfl h, Int.le_refl 0, by show (0 : Int) ≤ 1000000; decide⟩⟩
    · split
      · split
        · rename_i hc
          exact ⟨⟨.inl rfl, fun h => (by cases h), fun h => (by cases h), g2, g3, fun _ => g1⟩, ⟨fun _ => g1, w0, w1⟩⟩
        · split
          · exact lng
          · exact base
      · split
        · split
          · rename_i hc
            have hm := isA_mode_ hc
            exact ⟨⟨.inl rfl, fun h => (by cases h), fun _ => .inr ⟨hm.1, rfl, rfl⟩, g2, g3, fun _ => g1⟩, ⟨fun _ => g1, hw.1, hw.2⟩⟩
          · split
            · exact lng
            · exact base
        · split
          · split
            · exact ⟨⟨.inl rfl, fun h => (by cases h), fun h => (by cases h), g2, g3, fun _ => g1⟩, ⟨fun _ => g1, w0, w1⟩⟩
            · exact base
          · split
            · rename_i hc
              exact ⟨⟨.inl rfl, fun _ => .inr hc.1, fun h => (by cases h), g2, g3, fun _ => g1⟩, ⟨fun _ => g1, w0, w1⟩⟩
            · exact base
  · exact ⟨MayA.refl h 0, h⟩
theorem act_may {a : Ag} (now : Int) (h : OkA a) : MayA a (actA a now) 1 ∧ OkA (actA a now) := by
  unfold actA
  split
  · exact ⟨MayA.refl h 1, h⟩
  · split
    · rename_i hm
      exact ⟨⟨.inr ⟨hm, rfl⟩, fun h => (by cases h), fun h => (by cases h), Int.le_refl _, fun _ => Int.le_refl _, fun h => absurd rfl h⟩, ⟨fun h => absurd rfl h, Int.le_refl 0, by show (0 : Int) ≤ 1000000; decide⟩⟩
    · split
      · exact ⟨⟨.inl rfl, fun h => (by cases h), fun h => (by cases h), Int.le_refl _, fun _ => Int.le_refl _, fun h => absurd rfl h⟩, ⟨fun h => absurd rfl h, Int.le_refl 0, by show (0 : Int) ≤ 1000000; decide⟩⟩
      · split
        · have w0 := h.w0
          exact ⟨⟨.inl rfl, .inl, .inl, Int.le_refl _, fun _ => Int.le_refl _, h.up⟩, ⟨h.up, by show 0 ≤ 1 + min a.worked 999; omega, by show 1 + min a.worked 999 ≤ 1000000; omega⟩⟩
        · exact ⟨MayA.refl h 1, h⟩
theorem fail_may {a : Ag} (_h : OkA a) : MayA a (failA a) 2 ∧ OkA (failA a) :=
  ⟨⟨.inl rfl, fun h => (by cases h), fun h => (by cases h), Int.le_refl _, fun _ => Int.le_refl _, fun h => absurd rfl h⟩, ⟨fun h => absurd rfl h, Int.le_refl 0, by show (0 : Int) ≤ 1000000; decide⟩⟩
theorem back_may {a : Ag} (h : OkA a) : MayA a (backA a) 3 ∧ OkA (backA a) :=
  ⟨⟨.inl rfl, .inl, .inl, Int.le_refl _, fun _ => Int.le_refl _, fun _ => rfl⟩, ⟨fun _ => rfl, h.w0, h.w1⟩⟩

end Go.Proofs.Ytddhbokknbmdfaa

/- A whole struct stored into a block, inside a statement whose order is open. No program is named here. -/
namespace Go.Proofs.Ytddhbokknbmdfaa
open Go.RowKit

theorem step_storeC {P : Program} {ops : Array Oper} {o : Oper} {a : Act} {w : World} {K : Act → World → Prop} {Q : Exit → Act → World → Prop} {E : Prop} (ty : TypeId) (x y : Operand) (ho : o.op = .store ty x y)
    (hw : Region.wanted o (yielded ops a.tmps) = true) (g : Nat) (cells : Array Value) (hx : a.eval x = .pointer (some ⟨g, 0, none⟩)) (hy : a.eval y = .agg cells)
    (t : TypeId) (old : Array Value) (hg : Blk w g t old) (hi : (P.info? ty).map (·.size) = some cells.size)
    (hold : old.size = cells.size) (h1 : cells.all (·.oneCell') = true)
    (h : ∀ w', Blk w' g t cells → Chg (fun k => k = g) w w' → K (a.put o.dst undef) w') : if Region.wanted o (yielded ops a.tmps) = true then Oper.wp P o a w K Q else E := by
  rw [if_pos hw]
  exact wp_store_row ty x y ho g cells hx hy t old hg hi hold h1 (h _ (setRow_heap w g old cells t (0, 0) hg) ⟨rfl, rfl, rfl, by simp [World.setRow], fun k _ hk => setRow_other w g k cells hk⟩)

end Go.Proofs.Ytddhbokknbmdfaa
