/- Texts that the proof of T rests on, one behind the other. -/
import Derived.Test.YtddhbokknbmdfabTQ2
import Derived.Deep.Slices
import Derived.Deep.Fields
import Derived.ChangeSame

/- Words for a slice of structs that came in: numbers, and bytes. No program is named here. -/
namespace Go.Proofs.Ytddhbokknbmdfab
open Go.ChangeShapes Go.WideShapes Go.ChangeAt Go.RowKit Go.Deep

section
variable {H : Type} {enc : TypeId × Value → H} {P : Program} {w : World} {base : Nat} {held : Bool}
/-- The fields of a struct that lies in memory, each of one cell. -/
theorem struct_parts {e : TypeId} {fs : Array Field} {m : Nat} {cs : List Value} {x : DataW H × List MemPlace} (he : P.underlying e = some (.struct fs)) (hone : oneCellFields P fs = true) (hC : P.cellsOf e = fs.size)
    (h : DataW.trod enc P w base (fun _ => true) held m e cs = some x) : cs.length = fs.size ∧ ∀ (j : Nat) (f : Field), fs[j]? = some f → ∃ v n y, cs[j]? = some v ∧ DataW.trod enc P w base (fun _ => true) held n f.type [v] = some y := by
  obtain ⟨ys, n, _, _, hlen, hyl, hf⟩ := DataW.trod_struct he h
  refine ⟨hlen.trans hC, fun j f hj => ?_⟩
  obtain ⟨ho, hk⟩ := hone_of hone j f hj
  have hjf : j < fs.size := (Array.getElem?_eq_some_iff.1 hj).1
  have hjc : j < cs.length := by rw [hlen, hC]; exact hjf
  have hfj := hf j f hj
  rw [ho, hk, List.drop_eq_getElem_cons hjc] at hfj
  have hjy : j < ys.length := by rw [hyl]; exact hjf
  exact ⟨cs[j], n, ys[j], List.getElem?_eq_getElem hjc, by rw [List.getElem?_eq_getElem hjy] at hfj; exact hfj⟩

/-- A slice of structs of k one-cell fields: where it lies, and that each element's fields read. -/
theorem structs_at {t e : TypeId} {fs : Array Field} {r : Reach} {b0 : Nat} {v : Value} {d : DataW H} {ps : List MemPlace} (ht : P.underlying t = some (.slice e)) (he : P.underlying e = some (.struct fs)) (hone : oneCellFields P fs = true)
    (hC : P.cellsOf e = fs.size) (h0 : 0 < fs.size) (hval : Value.okWide P w r b0 t v) (hd : DataW.Trod enc P w base (fun _ => true) held t v d ps) :
    ∃ A n c, v = .slice A n c ∧ n ≤ c ∧ c ≤ maxLen ∧ (0 < n → ∃ b o, A = some ⟨b, o, none⟩ ∧ b < w.heap.size ∧
      ∀ i, i < n → ∀ (j : Nat) (f : Field), fs[j]? = some f → ∃ u k y, w.cell? ⟨b, o + (i * fs.size + j), none⟩ = some u ∧ DataW.trod enc P w base (fun _ => true) held k f.type [u] = some y) := by
  obtain ⟨a0, len, cap, rfl⟩ := okWide_slice ht hval
  obtain ⟨fuel, hf⟩ := hd
  rcases open_slice ht hf with ⟨hcs, _⟩ | ⟨a, len', cap', m, n, D, Pl, hcs, _, hl, hm, hmm, _, hx⟩
  · simp [Value.cells] at hcs
    obtain ⟨rfl, rfl, rfl⟩ := hcs
    exact ⟨none, 0, 0, rfl, Nat.le_refl _, Nat.zero_le _, fun h => absurd h (by omega)⟩
  · simp [Value.cells] at hcs
    obtain ⟨rfl, rfl, rfl⟩ := hcs
    simp only [if_true] at hmm
    subst hmm
    have hcell : ∀ i, i < m → ∀ (j : Nat) (f : Field), fs[j]? = some f → ∃ u k y, w.cell? (a.add (i * fs.size + j)) = some u ∧ DataW.trod enc P w base (fun _ => true) held k f.type [u] = some y := by
      intro i hi j f hj
      obtain ⟨cs', hc, htr⟩ := hx i hi
      obtain ⟨hlen, hparts⟩ := struct_parts he hone hC htr
      obtain ⟨u, k, y, hu, hy⟩ := hparts j f hj
      obtain ⟨_, hcl, hat⟩ := World.cells?_some hc
      have hjf : j < fs.size := (Array.getElem?_eq_some_iff.1 hj).1
      have h1 := hat j (by rw [hC]; exact hjf)
      rw [hC, add_of_add, hu] at h1
      exact ⟨u, k, y, h1, hy⟩
    refine ⟨some a, len, m, rfl, hl, hm, fun hn0 => ?_⟩
    obtain ⟨u, _, _, hu, _⟩ := hcell 0 (by omega) 0 fs[0] (Array.getElem?_eq_getElem h0)
    obtain ⟨b, o, spot⟩ := a
    have hspot : spot = none := by simpa [Addr.add] using World.cell?_spot hu
    subst hspot
    refine ⟨b, o, rfl, ?_, fun i hi j f hj => ?_⟩
    · have := World.block_lt_of_cell? w _ hu
      simpa [block_of_add] using this
    · obtain ⟨u, k, y, h1, h2⟩ := hcell i (by omega) j f hj
      rw [Addr.add_lit] at h1
      exact ⟨u, k, y, h1, h2⟩

/-- An act: two numbers and bytes. -/
def RdActs (w : World) (v : Value) (l : List (Int × Int × List UInt8)) : Prop :=
  ∃ A c, v = .slice A l.length c ∧ l.length ≤ c ∧ c ≤ maxLen ∧ (0 < l.length → ∃ b o, A = some ⟨b, o, none⟩ ∧ b < w.heap.size ∧
    ∀ j x, l[j]? = some x → w.cell? ⟨b, o + j * 3, none⟩ = some (I x.1) ∧ w.cell? ⟨b, o + (j * 3 + 1), none⟩ = some (I x.2.1) ∧ (-9223372036854775808 ≤ x.1 ∧ x.1 ≤ 9223372036854775807) ∧ (-9223372036854775808 ≤ x.2.1 ∧ x.2.1 ≤ 9223372036854775807) ∧
      ∃ u, w.cell? ⟨b, o + (j * 3 + 2), none⟩ = some u ∧ Rd w u (x.2.2.map B))

theorem RdActs.slice_ {w : World} {v : Value} {l : List (Int × Int × List UInt8)} (h : RdActs w v l) : ∃ A c, v = .slice A l.length c ∧ l.length ≤ c ∧ c ≤ 9223372036854775807 := by
  obtain ⟨A, c, e, h1, h2, _⟩ := h
  exact ⟨A, c, e, h1, by unfold maxLen at h2; omega⟩
theorem RdActs.get {w : World} {A : Option Addr} {n c : Nat} {l : List (Int × Int × List UInt8)} (h : RdActs w (.slice A n c) l) (hn : 0 < l.length) : ∃ b o, A = some ⟨b, o, none⟩ ∧ b < w.heap.size ∧
    ∀ j x, l[j]? = some x → w.cell? ⟨b, o + j * 3, none⟩ = some (I x.1) ∧ w.cell? ⟨b, o + (j * 3 + 1), none⟩ = some (I x.2.1) ∧ (-9223372036854775808 ≤ x.1 ∧ x.1 ≤ 9223372036854775807) ∧ (-9223372036854775808 ≤ x.2.1 ∧ x.2.1 ≤ 9223372036854775807) ∧
      ∃ u, w.cell? ⟨b, o + (j * 3 + 2), none⟩ = some u ∧ Rd w u (x.2.2.map B) := by
  obtain ⟨A', c', e, _, _, h3⟩ := h
  cases e
  exact h3 hn

theorem RdActs.ext {w w' : World} {v : Value} {l : List (Int × Int × List UInt8)} (h : RdActs w v l) (hx : Ext w w') : RdActs w' v l := by
  obtain ⟨A, c, e, h1, h2, h3⟩ := h
  refine ⟨A, c, e, h1, h2, fun hn => ?_⟩
  obtain ⟨b, o, a, hb, hc⟩ := h3 hn
  refine ⟨b, o, a, Nat.lt_of_lt_of_le hb hx.size, fun j x hj => ?_⟩
  obtain ⟨e1, e2, b1, b2, u, e3, hu⟩ := hc j x hj
  exact ⟨hx.cellOf e1 hb, hx.cellOf e2 hb, b1, b2, u, hx.cellOf e3 hb, hu.ext hx⟩

theorem dec_acts {t e tb : TypeId} {fs : Array Field} {f0 f1 f2 : Field} {ti tj : TypeId} {r : Reach} {b0 : Nat} {v : Value} {d : DataW H} {ps : List MemPlace} (ht : P.underlying t = some (.slice e)) (he : P.underlying e = some (.struct fs)) (hone : oneCellFields P fs = true)
    (hC : P.cellsOf e = 3) (hfs : fs = #[f0, f1, f2]) (h0 : f0.type = ti) (h1 : f1.type = tj) (h2 : f2.type = tb) (hi : P.underlying ti = some (.int .i64)) (hj : P.underlying tj = some (.int .i64)) {q : TypeId} (hb : P.underlying tb = some (.slice q)) (hq : P.underlying q = some (.int .u8)) (cq : P.cellsOf q = 1)
    (hval : Value.okWide P w r b0 t v) (hd : DataW.Trod enc P w base (fun _ => true) held t v d ps) : ∃ l, RdActs w v l := by
  subst hfs h0 h1 h2
  obtain ⟨A, n, c, rfl, hnc, hcm, hx⟩ := structs_at ht he hone (by rw [hC]; rfl) (by simp) hval hd
  have each : ∀ i, ∃ x : Int × Int × List UInt8, 0 < n → i < n → ∀ b o, A = some ⟨b, o, none⟩ → w.cell? ⟨b, o + i * 3, none⟩ = some (I x.1) ∧ w.cell? ⟨b, o + (i * 3 + 1), none⟩ = some (I x.2.1) ∧ (-9223372036854775808 ≤ x.1 ∧ x.1 ≤ 9223372036854775807) ∧ (-9223372036854775808 ≤ x.2.1 ∧ x.2.1 ≤ 9223372036854775807) ∧
      ∃ u, w.cell? ⟨b, o + (i * 3 + 2), none⟩ = some u ∧ Rd w u (x.2.2.map B) := by
    intro i
    by_cases hn : 0 < n ∧ i < n
    · obtain ⟨b, o, rfl, _, hcell⟩ := hx hn.1
      obtain ⟨u0, k0, y0, c0, t0⟩ := hcell i hn.2 0 f0 rfl
      obtain ⟨u1, k1, y1, c1, t1⟩ := hcell i hn.2 1 f1 rfl
      obtain ⟨u2, k2, y2, c2, t2⟩ := hcell i hn.2 2 f2 rfl
      obtain ⟨z0, hz0, _, w0⟩ := DataW.trod_int hi t0
      obtain ⟨z1, hz1, _, w1⟩ := DataW.trod_int hj t1
      obtain ⟨l2, hl2⟩ := rd_of_trod hb hq cq t2
      simp only [List.cons.injEq, and_true] at hz0 hz1
      subst hz0 hz1
      have m1 : IntKind.i64.min = -9223372036854775808 := rfl
      have m2 : IntKind.i64.max = 9223372036854775807 := rfl
      simp only [Lit.wf, Bool.and_eq_true, decide_eq_true_eq] at w0 w1
      refine ⟨(z0, z1, l2), fun _ _ b' o' e => ?_⟩
      cases e
      exact ⟨c0, c1, ⟨by simp only; omega, by simp only; omega⟩, ⟨by simp only; omega, by simp only; omega⟩, u2, c2, hl2⟩
    · exact ⟨(0, 0, []), fun h1 h2 => absurd ⟨h1, h2⟩ hn⟩
  obtain ⟨L, hL⟩ : ∃ L : Nat → Int × Int × List UInt8, ∀ i, 0 < n → i < n → ∀ b o, A = some ⟨b, o, none⟩ → w.cell? ⟨b, o + i * 3, none⟩ = some (I (L i).1) ∧ w.cell? ⟨b, o + (i * 3 + 1), none⟩ = some (I (L i).2.1) ∧ (-9223372036854775808 ≤ (L i).1 ∧ (L i).1 ≤ 9223372036854775807) ∧ (-9223372036854775808 ≤ (L i).2.1 ∧ (L i).2.1 ≤ 9223372036854775807) ∧
      ∃ u, w.cell? ⟨b, o + (i * 3 + 2), none⟩ = some u ∧ Rd w u ((L i).2.2.map B) := ⟨fun i => (each i).choose, fun i => (each i).choose_spec⟩
  refine ⟨(List.range n).map L, A, c, by simp, by simpa using hnc, hcm, fun hn => ?_⟩
  have hn' : 0 < n := by simpa using hn
  obtain ⟨b, o, hA, hb1, _⟩ := hx hn'
  refine ⟨b, o, hA, hb1, fun j x hj => ?_⟩
  rw [List.getElem?_map] at hj
  obtain ⟨i, hi1, rfl⟩ := Option.map_eq_some_iff.1 hj
  obtain ⟨hi2, hi3⟩ := List.getElem?_eq_some_iff.1 hi1
  simp at hi2 hi3
  subst hi3
  exact hL j hn' hi2 b o hA
end

end Go.Proofs.Ytddhbokknbmdfab
