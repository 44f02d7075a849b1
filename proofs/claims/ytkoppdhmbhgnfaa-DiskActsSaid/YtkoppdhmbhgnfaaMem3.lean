/- Words for a slice of slices of bytes. No program is named here. -/
import Derived.Test.YtkoppdhmbhgnfaaMem2
import Derived.Test.YtkoppdhmbhgnfaaLift
import Derived.Deep.Matrix
namespace Go.Proofs.Ytkoppdhmbhgnfaa
open Go.ChangeShapes Go.WideShapes Go.ChangeAt Go.RowKit

/-- The slice value v reads in w as a list of lists of bytes. -/
def RdL (w : World) (v : Value) (ls : List (List UInt8)) : Prop :=
  ∃ vs : List Value, Rd w v vs ∧ vs.length = ls.length ∧ ∀ (i : Nat) u l, vs[i]? = some u → ls[i]? = some l → Rd w u (l.map B)

theorem RdL.ext {w w' : World} {v : Value} {ls : List (List UInt8)} (h : RdL w v ls) (hb : Ext w w') : RdL w' v ls := by
  obtain ⟨vs, h1, h2, h3⟩ := h
  exact ⟨vs, h1.ext hb, h2, fun i u l hu hl => (h3 i u l hu hl).ext hb⟩
theorem RdL.nil (w : World) : RdL w (.slice none 0 0) [] := ⟨[], Rd.nil w, rfl, fun i u l hu _ => by simp at hu⟩
theorem RdL.sliceN {w : World} {v : Value} {ls : List (List UInt8)} (h : RdL w v ls) {n : Nat} (hn : ls.length = n) : ∃ A c, v = .slice A n c ∧ n ≤ c ∧ c ≤ maxLen := by
  obtain ⟨vs, h1, h2, _⟩ := h
  exact h1.sliceN (by omega)
/-- The element at a place: a cell that holds a slice, which reads as the list there. -/
theorem RdL.at {w : World} {A : Option Addr} {N c : Nat} {ls : List (List UInt8)} (h : RdL w (.slice A N c) ls) (hn : 0 < ls.length) :
    ∃ b o, A = some ⟨b, o, none⟩ ∧ b < w.heap.size ∧ ∀ j l, ls[j]? = some l → ∃ u, w.cell? ⟨b, o + j, none⟩ = some u ∧ Rd w u (l.map B) := by
  obtain ⟨vs, h1, h2, h3⟩ := h
  obtain ⟨b, o, e, hb, hc⟩ := h1.get (by omega)
  refine ⟨b, o, e, hb, fun j l hl => ?_⟩
  have hj : j < vs.length := by have := (List.getElem?_eq_some_iff.1 hl).1; omega
  have hv : vs[j]? = some vs[j] := List.getElem?_eq_getElem hj
  exact ⟨vs[j], hc j _ hv, h3 j _ l hv hl⟩

section
variable {H : Type} {enc : TypeId × Value → H} {P : Program}
theorem rd_of_trod {w : World} {base : Nat} {held : Bool} {e q : TypeId} {V : Value} {n : Nat} {x : DataW H × List MemPlace} (he : P.underlying e = some (.slice q)) (hq : P.underlying q = some (.int .u8)) (cq : P.cellsOf q = 1)
    (h : DataW.trod enc P w base (fun _ => true) held n e [V] = some x) : ∃ l : List UInt8, Rd w V (l.map B) := by
  rcases open_ints he hq cq h with ⟨hcs, _⟩ | ⟨a, len, cap, zs, hcs, _, hl, hm, hz, _, hcell, hw⟩
  · simp at hcs
    subst hcs
    exact ⟨[], Rd.nil w⟩
  · simp at hcs
    subst hcs
    simp only [if_true] at hz
    refine ⟨(zs.take len).map fun n => UInt8.ofNat n.toNat, ?_⟩
    have e : ((zs.take len).map fun n => UInt8.ofNat n.toNat).map B = (zs.take len).map (Value.int .u8) := by
      rw [List.map_map]
      refine List.map_congr_left fun n hn => ?_
      simp only [Function.comp_apply, B]
      rw [← u8_of_wf (hw n (List.mem_of_mem_take hn))]
    rw [e]
    have hlen : (zs.take len).length = len := by rw [List.length_take]; omega
    refine ⟨some a, cap, by rw [List.length_map, hlen], by rw [List.length_map, hlen]; exact hl, hm, fun hn => ?_⟩
    rw [List.length_map, hlen] at hn
    have h0 := hcell 0 (by omega)
    obtain ⟨b, o, spot⟩ := a
    have hspot : spot = none := by simpa [Addr.add] using World.cell?_spot h0
    subst hspot
    refine ⟨b, o, rfl, ?_, fun j u hu => ?_⟩
    · have := World.block_lt_of_cell? w _ h0
      simpa [block_of_add] using this
    · rw [List.getElem?_map] at hu
      obtain ⟨n, hn2, rfl⟩ := Option.map_eq_some_iff.1 hu
      rw [List.getElem?_take] at hn2
      split at hn2
      · have hjz : j < zs.length := (List.getElem?_eq_some_iff.1 hn2).1
        have := hcell j hjz
        rw [Addr.add_lit] at this
        rw [this]
        simp [List.getD, hn2]
      · cases hn2

theorem dec_rows {w : World} {base : Nat} {held : Bool} {r : Reach} {b0 : Nat} {t e q : TypeId} {v : Value} {d : DataW H} {ps : List MemPlace} (ht : P.underlying t = some (.slice e)) (he : P.underlying e = some (.slice q))
    (hq : P.underlying q = some (.int .u8)) (ce : P.cellsOf e = 1) (cq : P.cellsOf q = 1) (hval : Value.okWide P w r b0 t v) (hd : DataW.Trod enc P w base (fun _ => true) held t v d ps) :
    ∃ ls : List (List UInt8), RdL w v ls := by
  obtain ⟨a0, len, cap, rfl⟩ := okWide_slice ht hval
  obtain ⟨fuel, hf⟩ := hd
  rcases Deep.open_slice1 ht ce hf with ⟨hcs, _⟩ | ⟨a, len', cap', m, n, V, D, Pl, hcs, _, hl, hm, hmm, _, hx⟩
  · simp [Value.cells] at hcs
    obtain ⟨rfl, rfl, rfl⟩ := hcs
    exact ⟨[], RdL.nil w⟩
  · simp [Value.cells] at hcs
    obtain ⟨rfl, rfl, rfl⟩ := hcs
    simp only [if_true] at hmm
    subst hmm
    have each : ∀ i, ∃ l : List UInt8, i < m → Rd w (V i) (l.map B) := by
      intro i
      by_cases hi : i < m
      · obtain ⟨l, hl⟩ := rd_of_trod he hq cq (hx i hi).2
        exact ⟨l, fun _ => hl⟩
      · exact ⟨[], fun h => absurd h hi⟩
    have hsome : ∃ L : Nat → List UInt8, ∀ i, i < m → Rd w (V i) ((L i).map B) := ⟨fun i => (each i).choose, fun i hi => (each i).choose_spec hi⟩
    obtain ⟨L, hL⟩ := hsome
    refine ⟨(List.range len).map L, (List.range len).map V, ?_, by simp, ?_⟩
    · refine ⟨some a, m, by simp, by simpa using hl, hm, fun hn => ?_⟩
      have hn' : 0 < len := by simpa using hn
      have h0 := (hx 0 (by omega)).1
      obtain ⟨b, o, spot⟩ := a
      have hspot : spot = none := by simpa [Addr.add] using World.cell?_spot h0
      subst hspot
      refine ⟨b, o, rfl, ?_, fun j u hu => ?_⟩
      · have := World.block_lt_of_cell? w _ h0
        simpa [block_of_add] using this
      · rw [List.getElem?_map] at hu
        obtain ⟨i, hi, rfl⟩ := Option.map_eq_some_iff.1 hu
        obtain ⟨hi2, hi3⟩ := List.getElem?_eq_some_iff.1 hi
        simp at hi2 hi3
        subst hi3
        have := (hx j (by omega)).1
        rwa [Addr.add_lit] at this
    · intro i u l hu hl2
      rw [List.getElem?_map] at hu hl2
      obtain ⟨j, hj, rfl⟩ := Option.map_eq_some_iff.1 hu
      obtain ⟨j', hj', rfl⟩ := Option.map_eq_some_iff.1 hl2
      rw [hj] at hj'
      cases hj'
      obtain ⟨hi2, hi3⟩ := List.getElem?_eq_some_iff.1 hj
      simp at hi2 hi3
      exact hL j (by omega)
end

end Go.Proofs.Ytkoppdhmbhgnfaa
