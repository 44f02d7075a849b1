/- Texts that the proof of JournalActs rests on, one behind the other. -/
import Derived.Test.YtdcmjmanalijfaaJournalActsQ3
import Derived.Deep.Slices
import Derived.Deep.Fields
import Derived.ChangeSame
import Derived.WalkKit
import Derived.Deep.RegionHeld3

/- Words for a slice of slices that the call itself appends to. No program is named here. -/
namespace Go.Proofs.Ytdcmjmanalijfaa
open Go.RowKit

/-- The blocks that were made since the block 'lo' and are not v's own. -/
def Off (lo : Nat) (v : Value) : Nat → Prop := fun b => lo ≤ b ∧ some b ≠ v.ownBlock
/-- The slice value v reads in w as xs, and lies in a block that may be. -/
def RdN (w : World) (row : Nat → Prop) (v : Value) (xs : List Value) : Prop :=
  ∃ A c, v = .slice A xs.length c ∧ xs.length ≤ c ∧ c ≤ maxLen ∧ (0 < xs.length → ∃ b o, A = some ⟨b, o, none⟩ ∧ b < w.heap.size ∧ row b ∧ ∀ j u, xs[j]? = some u → w.cell? ⟨b, o + j, none⟩ = some u)

theorem RdN.rd {w : World} {row : Nat → Prop} {v : Value} {xs : List Value} (h : RdN w row v xs) : Rd w v xs := by
  obtain ⟨A, c, e, h1, h2, h3⟩ := h
  refine ⟨A, c, e, h1, h2, fun hn => ?_⟩
  obtain ⟨b, o, a, hb, _, hc⟩ := h3 hn
  exact ⟨b, o, a, hb, hc⟩
theorem RdN.ext {w w' : World} {row : Nat → Prop} {v : Value} {xs : List Value} (h : RdN w row v xs) (hx : Ext w w') : RdN w' row v xs := by
  obtain ⟨A, c, e, h1, h2, h3⟩ := h
  refine ⟨A, c, e, h1, h2, fun hn => ?_⟩
  obtain ⟨b, o, a, hb, hr, hc⟩ := h3 hn
  exact ⟨b, o, a, Nat.lt_of_lt_of_le hb hx.size, hr, fun j u hu => (hx.cell (p := ⟨b, o + j, none⟩) hb).trans (hc j u hu)⟩
/-- The row grows: what lies elsewhere stays. -/
theorem RdN.grow {w w' : World} {lo base : Nat} {e : TypeId} {v0 v1 v : Value} {xs ys : List Value} (h : RdN w (Off lo v0) v xs) (hg : Grew base e v0 w ys v1 w') : RdN w' (Off lo v1) v xs := by
  obtain ⟨A, c, e, h1, h2, h3⟩ := h
  refine ⟨A, c, e, h1, h2, fun hn => ?_⟩
  obtain ⟨b, o, a, hb, hr, hc⟩ := h3 hn
  have hblk := hg.2.1.block b hb hr.2
  refine ⟨b, o, a, Nat.lt_of_lt_of_le hb hg.size, ⟨hr.1, ?_⟩, fun j u hu => ?_⟩
  · rcases hg.2.2 with h | h
    · rw [h]; exact hr.2
    · intro he
      have := h b he.symm
      omega
  · have := hc j u hu
    simp only [World.cell?] at this ⊢
    rw [hblk]
    exact this
/-- What was just made lies elsewhere. -/
theorem RdN.fresh {w w' : World} {e : TypeId} {v : Value} {xs : List Value} {lo : Nat} {r : Value} (h : Grew w.heap.size e (.slice none 0 0) w xs v w') (hlo : lo ≤ w.heap.size) (hr : ∀ k, r.ownBlock = some k → k < w.heap.size) : RdN w' (Off lo r) v xs := by
  have h1 := h.1
  rcases h1.2 with ⟨hv, h0⟩ | ⟨g, cap, cur, hv, hg, hh, hn, hcap, hs, ht⟩
  · rw [hv]
    exact ⟨none, 0, by rw [h0], by omega, Nat.zero_le _, fun hn => absurd hn (by omega)⟩
  · subst hv
    refine ⟨some ⟨g, 0, none⟩, cap, rfl, hn, hcap, fun _ => ⟨g, 0, rfl, (Array.getElem?_eq_some_iff.1 hh).1, ⟨Nat.le_trans hlo hg, fun he => ?_⟩, fun j u hu => ?_⟩⟩
    · have := hr g he.symm
      omega
    · have := h1.cells (g := g) rfl j u hu
      rwa [Addr.add_lit] at this

/-- The call's own row of slices, made since w0: they read as the lists ls, and lie behind 'lo'. -/
def OwnL (lo : Nat) (w0 : World) (e : TypeId) (v : Value) (w : World) (ls : List (List UInt8)) : Prop :=
  ∃ vs : List Value, Grew w0.heap.size e (.slice none 0 0) w0 vs v w ∧ vs.length = ls.length ∧ ∀ (i : Nat) u l, vs[i]? = some u → ls[i]? = some l → RdN w (Off lo v) u (l.map B)

theorem OwnL.nil (lo : Nat) (w : World) (e : TypeId) : OwnL lo w e (.slice none 0 0) w [] := ⟨[], Grew.nil w, rfl, fun i u l hu _ => by simp at hu⟩
theorem OwnL.rdl {lo : Nat} {w0 w : World} {e : TypeId} {v : Value} {ls : List (List UInt8)} (h : OwnL lo w0 e v w ls) : RdL w v ls := by
  obtain ⟨vs, h1, h2, h3⟩ := h
  exact ⟨vs, Rd.own h1.own, h2, fun i u l hu hl => (h3 i u l hu hl).rd⟩
theorem OwnL.ext {lo : Nat} {w0 w : World} {e : TypeId} {v : Value} {ls : List (List UInt8)} (h : OwnL lo w0 e v w ls) : Ext w0 w := by
  obtain ⟨vs, h1, _⟩ := h
  exact h1.ext
theorem OwnL.step {lo : Nat} {w0 w w' : World} {e : TypeId} {v : Value} {ls : List (List UInt8)} (h : OwnL lo w0 e v w ls) (hx : Ext w w') : OwnL lo w0 e v w' ls := by
  obtain ⟨vs, h1, h2, h3⟩ := h
  exact ⟨vs, h1.step hx, h2, fun i u l hu hl => (h3 i u l hu hl).ext hx⟩
theorem OwnL.block {lo : Nat} {w0 w : World} {e : TypeId} {v : Value} {ls : List (List UInt8)} (h : OwnL lo w0 e v w ls) : ∀ k, v.ownBlock = some k → k < w.heap.size := by
  obtain ⟨vs, h1, _⟩ := h
  exact fun k hk => (h1.1.lt k hk).2
/-- One list more. -/
theorem OwnL.snoc {lo : Nat} {w0 w w' : World} {e : TypeId} {v v' u : Value} {ls : List (List UInt8)} {l : List UInt8} (h : OwnL lo w0 e v w ls) (hu : RdN w (Off lo v) u (l.map B)) {vs : List Value} (hvs : Grew w0.heap.size e (.slice none 0 0) w0 vs v w)
    (hg : Grew w0.heap.size e v w (vs ++ [u]) v' w') : OwnL lo w0 e v' w' (ls ++ [l]) := by
  obtain ⟨vs', h1, h2, h3⟩ := h
  have hsame : vs' = vs := by
    have a := h1.own
    have b := hvs.own
    have e1 : vs'.length = vs.length := by
      obtain ⟨A, c, e, _⟩ := Rd.own a
      obtain ⟨A', c', e', _⟩ := Rd.own b
      rw [e] at e'
      injection e'
    have hra := Rd.own a
    have hrb := Rd.own b
    obtain ⟨A, c, ev, _, _, hc⟩ := hra
    obtain ⟨A', c', ev', _, _, hc'⟩ := hrb
    rw [ev] at ev'
    injection ev' with eA _ _
    subst eA
    apply List.ext_getElem e1
    intro i hi hi'
    obtain ⟨b1, o1, hA, _, hcell⟩ := hc (by omega)
    obtain ⟨b2, o2, hA', _, hcell'⟩ := hc' (by omega)
    rw [hA] at hA'
    cases hA'
    have x1 := hcell i _ (List.getElem?_eq_getElem hi)
    have x2 := hcell' i _ (List.getElem?_eq_getElem hi')
    rw [x1] at x2
    exact Option.some.inj x2
  subst hsame
  refine ⟨vs' ++ [u], h1.trans hg, by rw [List.length_append, List.length_append, h2]; rfl, fun i x y hx hy => ?_⟩
  by_cases hi : i < vs'.length
  · rw [List.getElem?_append_left hi] at hx
    rw [List.getElem?_append_left (by omega)] at hy
    exact (h3 i x y hx hy).grow hg
  · have hi2 : i = vs'.length := by
      have := (List.getElem?_eq_some_iff.1 hx).1
      rw [List.length_append, List.length_singleton] at this
      omega
    subst hi2
    rw [List.getElem?_append_right (Nat.le_refl _), Nat.sub_self] at hx
    rw [h2, List.getElem?_append_right (Nat.le_refl _), Nat.sub_self] at hy
    simp only [List.getElem?_cons_zero, Option.some.injEq] at hx hy
    subst hx hy
    exact hu.grow hg
theorem OwnL.vs {lo : Nat} {w0 w : World} {e : TypeId} {v : Value} {ls : List (List UInt8)} (h : OwnL lo w0 e v w ls) : ∃ vs : List Value, Grew w0.heap.size e (.slice none 0 0) w0 vs v w ∧ vs.length = ls.length := by
  obtain ⟨vs, h1, h2, _⟩ := h
  exact ⟨vs, h1, h2⟩

end Go.Proofs.Ytdcmjmanalijfaa

/- Words for a slice of slices of bytes, and for where it lies. No program is named here. -/
namespace Go.Proofs.Ytdcmjmanalijfaa
open Go.RowKit

/-- The slice value v reads in w as a list of lists of bytes; all of it lies in the set. -/
def RdLF (F : Fp) (w : World) (v : Value) (ls : List (List UInt8)) : Prop :=
  ∃ vs : List Value, RdF F w v vs ∧ vs.length = ls.length ∧ ∀ (i : Nat) u l, vs[i]? = some u → ls[i]? = some l → RdF F w u (l.map B)

section
variable {F G : Fp} {w w' : World} {v : Value} {ls : List (List UInt8)}
theorem RdLF.rdl (h : RdLF F w v ls) : RdL w v ls := by
  obtain ⟨vs, h1, h2, h3⟩ := h
  exact ⟨vs, h1.rd, h2, fun i u l hu hl => (h3 i u l hu hl).rd⟩
theorem RdLF.chg (h : RdLF F w v ls) (hc : Chg G w w') (ha : F.apart G) : RdLF F w' v ls := by
  obtain ⟨vs, h1, h2, h3⟩ := h
  exact ⟨vs, h1.chg hc ha, h2, fun i u l hu hl => (h3 i u l hu hl).chg hc ha⟩
theorem RdLF.ext (h : RdLF F w v ls) (hx : Ext w w') : RdLF F w' v ls := h.chg (G := fun _ => False) (Chg.of_ext hx) (fun _ _ h => h)
theorem RdLF.mono (h : RdLF F w v ls) (hf : ∀ k, F k → G k) : RdLF G w v ls := by
  obtain ⟨vs, h1, h2, h3⟩ := h
  exact ⟨vs, h1.mono hf, h2, fun i u l hu hl => (h3 i u l hu hl).mono hf⟩
theorem RdLF.nil (F : Fp) (w : World) : RdLF F w (.slice none 0 0) [] := ⟨[], ⟨none, 0, rfl, Nat.le_refl _, Nat.zero_le _, fun h => absurd h (by simp)⟩, rfl, fun i u l hu _ => by simp at hu⟩
/-- What came in lies below the call. -/
theorem RdL.old (h : RdL w v ls) : RdLF (fun k => k < w.heap.size) w v ls := by
  obtain ⟨vs, h1, h2, h3⟩ := h
  exact ⟨vs, h1.old, h2, fun i u l hu hl => (h3 i u l hu hl).old⟩
theorem RdN.rdF {R : Nat → Prop} {xs : List Value} (h : RdN w R v xs) (hf : ∀ k, k < w.heap.size → R k → F k) : RdF F w v xs := by
  obtain ⟨A, c, e, h1, h2, h3⟩ := h
  refine ⟨A, c, e, h1, h2, fun hn => ?_⟩
  obtain ⟨b, o, a, hb, hr, hc⟩ := h3 hn
  exact ⟨b, o, a, hb, hf b hb hr, hc⟩
/-- The call's own row of slices lies in new memory, all of it. -/
theorem OwnL.rdlF {lo : Nat} {w0 : World} {e : TypeId} (h : OwnL lo w0 e v w ls) (hlo : lo ≤ w0.heap.size) : RdLF (fun k => lo ≤ k ∧ k < w.heap.size) w v ls := by
  obtain ⟨vs, h1, h2, h3⟩ := h
  refine ⟨vs, (RowF.made h1).rdF.mono fun k hk => ⟨Nat.le_trans hlo hk.1, hk.2⟩, h2, fun i u l hu hl => (h3 i u l hu hl).rdF fun k hk hr => ⟨hr.1, hk⟩⟩
end

end Go.Proofs.Ytdcmjmanalijfaa

/- Words for several objects that a call makes and turns: a colour for each block tells whose it is. No program is named here. -/
namespace Go.Proofs.Ytdcmjmanalijfaa
open Go.RowKit

/-- Since w0 all that was there stands; each block of a colour was made since. (Colour 0: nobody's.) -/
structure Cols (w0 w : World) (col : Nat → Nat) : Prop where
  low : ∀ k, col k ≠ 0 → w0.heap.size ≤ k
  isIn : ∀ k, col k ≠ 0 → k < w.heap.size
  ext : Ext w0 w

/-- The blocks of a colour. -/
abbrev Fp.of (col : Nat → Nat) (i : Nat) : Fp := fun k => col k = i
/-- What was made since has colour i. -/
def Cols.next (col : Nat → Nat) (w w' : World) (i : Nat) : Nat → Nat := fun k => if w.heap.size ≤ k ∧ k < w'.heap.size then i else col k

section
variable {w0 w w' : World} {col : Nat → Nat} {i j : Nat}
theorem Cols.first (w : World) : Cols w w (fun _ => 0) := ⟨fun _ h => absurd rfl h, fun _ h => absurd rfl h, Ext.refl w⟩
theorem Cols.old_in (h : Cols w0 w col) : Fp.isIn (fun k => k < w0.heap.size) w := fun _ hk => Nat.lt_of_lt_of_le hk h.ext.size
theorem Cols.old_apart (h : Cols w0 w col) (hi : i ≠ 0) : Fp.apart (fun k => k < w0.heap.size) (Fp.of col i) := fun k hk hc => by
  have := h.low k (by rw [hc]; exact hi)
  omega
theorem Cols.old (h : Cols w0 w col) {v : Value} {xs : List Value} (hr : Rd w0 v xs) : RdF (fun k => k < w0.heap.size) w v xs :=
  hr.old.chg (G := fun _ => False) (Chg.of_ext h.ext) (fun _ _ h => h)
theorem Cols.of_in (h : Cols w0 w col) (hi : i ≠ 0) : (Fp.of col i).isIn w := fun k hk => h.isIn k (by rw [hk]; exact hi)
theorem Cols.apart (h : i ≠ j) : (Fp.of col i).apart (Fp.of col j) := fun _ hi hj => h (hi.symm.trans hj)
theorem Cols.step (h : Cols w0 w col) (hi : i ≠ 0) (hc : Chg (Fp.of col i) w w') : Cols w0 w' (Cols.next col w w' i) := by
  refine ⟨fun k hk => ?_, fun k hk => ?_, hc.ext h.ext fun k hk => h.low k (by rw [hk]; exact hi)⟩
  · unfold Cols.next at hk
    split at hk
    · rename_i hn
      exact Nat.le_trans h.ext.size hn.1
    · exact h.low k hk
  · unfold Cols.next at hk
    split at hk
    · rename_i hn
      exact hn.2
    · exact Nat.lt_of_lt_of_le (h.isIn k hk) hc.size
theorem Cols.stepE (h : Cols w0 w col) (hi : i ≠ 0) (hx : Ext w w') : Cols w0 w' (Cols.next col w w' i) := h.step hi (Chg.of_ext hx)
/-- Memory was made that nobody keeps. -/
theorem Cols.stepN (h : Cols w0 w col) (hx : Ext w w') : Cols w0 w' col := ⟨h.low, fun k hk => Nat.lt_of_lt_of_le (h.isIn k hk) hx.size, Below.trans h.ext (hx.mono h.ext.size)⟩
theorem Cols.next_own (h : Cols w0 w col) (hi : i ≠ 0) : ∀ k, (Fp.since (Fp.of col i) w w') k → Fp.of (Cols.next col w w' i) i k := fun k hk => by
  show Cols.next col w w' i k = i
  unfold Cols.next
  rcases hk with hk | hk
  · have := h.isIn k (by rw [show col k = i from hk]; exact hi)
    rw [if_neg (by omega)]
    exact hk
  · rw [if_pos hk]
theorem Cols.next_new (h : Cols w0 w col) (hi : i ≠ 0) : ∀ k, (w.heap.size ≤ k ∧ k < w'.heap.size) → Fp.of (Cols.next col w w' i) i k := fun k hk => h.next_own hi k (.inr hk)
theorem Cols.next_other (h : Cols w0 w col) (hj : j ≠ 0) : ∀ k, Fp.of col j k → Fp.of (Cols.next col w w' i) j k := fun k hk => by
  show Cols.next col w w' i k = j
  have := h.isIn k (by rw [show col k = j from hk]; exact hj)
  unfold Cols.next
  rw [if_neg (by omega)]
  exact hk
/-- Another one's thing stands. -/
theorem Cols.keep {X : Fp → World → Prop} (chg : ∀ {F G : Fp} {w w' : World}, X F w → Chg G w w' → F.apart G → X F w') (mono : ∀ {F G : Fp} {w : World}, X F w → (∀ k, F k → G k) → G.isIn w → X G w)
    (h : Cols w0 w col) (hi : i ≠ 0) (hj : j ≠ 0) (hij : j ≠ i) (hc : Chg (Fp.of col i) w w') (x : X (Fp.of col j) w) : X (Fp.of (Cols.next col w w' i) j) w' :=
  mono (chg x hc (Cols.apart hij)) (h.next_other hj) ((h.step hi hc).of_in hj)
theorem Cols.own {X : Fp → World → Prop} (mono : ∀ {F G : Fp} {w : World}, X F w → (∀ k, F k → G k) → G.isIn w → X G w)
    (h : Cols w0 w col) (hi : i ≠ 0) (hc : Chg (Fp.of col i) w w') (x : X (Fp.since (Fp.of col i) w w') w') : X (Fp.of (Cols.next col w w' i) i) w' :=
  mono x (h.next_own hi) ((h.step hi hc).of_in hi)
theorem Cols.own' {X : Fp → World → Prop} (mono : ∀ {F G : Fp} {w : World}, X F w → (∀ k, F k → G k) → G.isIn w → X G w)
    (h : Cols w0 w col) (hi : i ≠ 0) (hc : Chg (Fp.of col i) w w') (x : X (Fp.of col i) w') : X (Fp.of (Cols.next col w w' i) i) w' :=
  mono x (fun k hk => h.next_own hi k (.inl hk)) ((h.step hi hc).of_in hi)
theorem Cols.made {X : Fp → World → Prop} (mono : ∀ {F G : Fp} {w : World}, X F w → (∀ k, F k → G k) → G.isIn w → X G w)
    (h : Cols w0 w col) (hi : i ≠ 0) (hx : Ext w w') (x : X (fun k => w.heap.size ≤ k ∧ k < w'.heap.size) w') : X (Fp.of (Cols.next col w w' i) i) w' :=
  mono x (h.next_new hi) ((h.stepE hi hx).of_in hi)

theorem RdF.monoI {F G : Fp} {w : World} {v : Value} {xs : List Value} (h : RdF F w v xs) (hf : ∀ k, F k → G k) (_ : G.isIn w) : RdF G w v xs := h.mono hf
theorem RdF.ext {F : Fp} {v : Value} {xs : List Value} (h : RdF F w v xs) (hx : Ext w w') : RdF F w' v xs := h.chg (G := fun _ => False) (Chg.of_ext hx) (fun _ _ h => h)
/-- What a call made by itself. -/
theorem RdF.made {e : TypeId} {v : Value} {xs : List Value} (h : Grew w.heap.size e (.slice none 0 0) w xs v w') : RdF (fun k => w.heap.size ≤ k ∧ k < w'.heap.size) w' v xs := (RowF.made h).rdF
theorem RdF.litB (w : World) (l : List UInt8) (cs : Array Value) (e : TypeId) (n g : Nat) (h : l.length ≤ 4096) (hc : cs = (l.map B).toArray) (hn : n = l.length) (hg : g = w.heap.size) :
    RdF (fun k => w.heap.size ≤ k ∧ k < (w.alloc (.cells cs e)).heap.size) (w.alloc (.cells cs e)) (.slice (some ⟨g, 0, none⟩) n n) (l.map B) := by
  have h1 := Rd.litB w l cs e n g h hc hn hg
  subst hg
  obtain ⟨A, c, he, h2, h3, h4⟩ := h1
  refine ⟨A, c, he, h2, h3, fun hp => ?_⟩
  obtain ⟨b, o, ha, hb, hcell⟩ := h4 hp
  injection he with e1
  rw [ha] at e1
  cases e1
  exact ⟨w.heap.size, 0, ha, hb, ⟨Nat.le_refl _, by simp⟩, hcell⟩
end

end Go.Proofs.Ytdcmjmanalijfaa

/- Words for a slice of structs that came in: numbers, and bytes. No program is named here. -/
namespace Go.Proofs.Ytdcmjmanalijfaa
open Go.ChangeShapes Go.WideShapes Go.ChangeAt Go.RowKit Go.Deep

section
variable {H : Type} {enc : TypeId × Value → H} {P : Program} {w : World} {base : Nat} {held : Bool}
/-- The fields of a struct that lies in memory, each of one cell. -/
theorem struct_parts {e : TypeId} {fs : Array Field} {m : Nat} {cs : List Value} {x : DataW H × List MemPlace} (he : P.underlying e = some (.struct fs)) (hone : oneCellFields P fs = true) (hC : P.cellsOf e = fs.size)
    (h : DataW.trod enc P w base (fun _ => true) held m e cs = some x) : cs.length = fs.size ∧ ∀ (j : Nat) (f : Field), fs[j]? = some f → ∃ v n y, cs[j]? = some v ∧ DataW.trod enc P w base (fun _ => true) held n f.type [v] = some y := by
  obtain ⟨ys, n, _, _, hlen, hyl, hf⟩ := DataW.trod_struct he h
  refine ⟨hlen.trans hC, fun j f hj => ?_⟩
  obtain ⟨ho, hk⟩ := hone_of hone j f hj
  have hjf : j < fs.size := (Array.getElem?_eq_some_iff.1 hj).1
  have hjc : j < cs.length := by rw [hlen, hC]; exact hjf
  have hfj := hf j f hj
  rw [ho, hk, List.drop_eq_getElem_cons hjc] at hfj
  have hjy : j < ys.length := by rw [hyl]; exact hjf
  exact ⟨cs[j], n, ys[j], List.getElem?_eq_getElem hjc, by rw [List.getElem?_eq_getElem hjy] at hfj; exact hfj⟩

/-- A slice of structs of k one-cell fields: where it lies, and that each element's fields read. -/
theorem structs_at {t e : TypeId} {fs : Array Field} {r : Reach} {b0 : Nat} {v : Value} {d : DataW H} {ps : List MemPlace} (ht : P.underlying t = some (.slice e)) (he : P.underlying e = some (.struct fs)) (hone : oneCellFields P fs = true)
    (hC : P.cellsOf e = fs.size) (h0 : 0 < fs.size) (hval : Value.okWide P w r b0 t v) (hd : DataW.Trod enc P w base (fun _ => true) held t v d ps) :
    ∃ A n c, v = .slice A n c ∧ n ≤ c ∧ c ≤ maxLen ∧ (0 < n → ∃ b o, A = some ⟨b, o, none⟩ ∧ b < w.heap.size ∧
      ∀ i, i < n → ∀ (j : Nat) (f : Field), fs[j]? = some f → ∃ u k y, w.cell? ⟨b, o + (i * fs.size + j), none⟩ = some u ∧ DataW.trod enc P w base (fun _ => true) held k f.type [u] = some y) := by
  obtain ⟨a0, len, cap, rfl⟩ := okWide_slice ht hval
  obtain ⟨fuel, hf⟩ := hd
  rcases open_slice ht hf with ⟨hcs, _⟩ | ⟨a, len', cap', m, n, D, Pl, hcs, _, hl, hm, hmm, _, hx⟩
  · simp [Value.cells] at hcs
    obtain ⟨rfl, rfl, rfl⟩ := hcs
    exact ⟨none, 0, 0, rfl, Nat.le_refl _, Nat.zero_le _, fun h => absurd h (by omega)⟩
  · simp [Value.cells] at hcs
    obtain ⟨rfl, rfl, rfl⟩ := hcs
    simp only [if_true] at hmm
    subst hmm
    have hcell : ∀ i, i < m → ∀ (j : Nat) (f : Field), fs[j]? = some f → ∃ u k y, w.cell? (a.add (i * fs.size + j)) = some u ∧ DataW.trod enc P w base (fun _ => true) held k f.type [u] = some y := by
      intro i hi j f hj
      obtain ⟨cs', hc, htr⟩ := hx i hi
      obtain ⟨hlen, hparts⟩ := struct_parts he hone hC htr
      obtain ⟨u, k, y, hu, hy⟩ := hparts j f hj
      obtain ⟨_, hcl, hat⟩ := World.cells?_some hc
      have hjf : j < fs.size := (Array.getElem?_eq_some_iff.1 hj).1
      have h1 := hat j (by rw [hC]; exact hjf)
      rw [hC, add_of_add, hu] at h1
      exact ⟨u, k, y, h1, hy⟩
    refine ⟨some a, len, m, rfl, hl, hm, fun hn0 => ?_⟩
    obtain ⟨u, _, _, hu, _⟩ := hcell 0 (by omega) 0 fs[0] (Array.getElem?_eq_getElem h0)
    obtain ⟨b, o, spot⟩ := a
    have hspot : spot = none := by simpa [Addr.add] using World.cell?_spot hu
    subst hspot
    refine ⟨b, o, rfl, ?_, fun i hi j f hj => ?_⟩
    · have := World.block_lt_of_cell? w _ hu
      simpa [block_of_add] using this
    · obtain ⟨u, k, y, h1, h2⟩ := hcell i (by omega) j f hj
      rw [Addr.add_lit] at h1
      exact ⟨u, k, y, h1, h2⟩

/-- An act: two numbers and bytes. -/
def RdActs (w : World) (v : Value) (l : List (Int × Int × List UInt8)) : Prop :=
  ∃ A c, v = .slice A l.length c ∧ l.length ≤ c ∧ c ≤ maxLen ∧ (0 < l.length → ∃ b o, A = some ⟨b, o, none⟩ ∧ b < w.heap.size ∧
    ∀ j x, l[j]? = some x → w.cell? ⟨b, o + j * 3, none⟩ = some (I x.1) ∧ w.cell? ⟨b, o + (j * 3 + 1), none⟩ = some (I x.2.1) ∧ (-9223372036854775808 ≤ x.1 ∧ x.1 ≤ 9223372036854775807) ∧ (-9223372036854775808 ≤ x.2.1 ∧ x.2.1 ≤ 9223372036854775807) ∧
      ∃ u, w.cell? ⟨b, o + (j * 3 + 2), none⟩ = some u ∧ Rd w u (x.2.2.map B))

theorem RdActs.slice_ {w : World} {v : Value} {l : List (Int × Int × List UInt8)} (h : RdActs w v l) : ∃ A c, v = .slice A l.length c ∧ l.length ≤ c ∧ c ≤ 9223372036854775807 := by
  obtain ⟨A, c, e, h1, h2, _⟩ := h
  exact ⟨A, c, e, h1, by unfold maxLen at h2; omega⟩
theorem RdActs.get {w : World} {A : Option Addr} {n c : Nat} {l : List (Int × Int × List UInt8)} (h : RdActs w (.slice A n c) l) (hn : 0 < l.length) : ∃ b o, A = some ⟨b, o, none⟩ ∧ b < w.heap.size ∧
    ∀ j x, l[j]? = some x → w.cell? ⟨b, o + j * 3, none⟩ = some (I x.1) ∧ w.cell? ⟨b, o + (j * 3 + 1), none⟩ = some (I x.2.1) ∧ (-9223372036854775808 ≤ x.1 ∧ x.1 ≤ 9223372036854775807) ∧ (-9223372036854775808 ≤ x.2.1 ∧ x.2.1 ≤ 9223372036854775807) ∧
      ∃ u, w.cell? ⟨b, o + (j * 3 + 2), none⟩ = some u ∧ Rd w u (x.2.2.map B) := by
  obtain ⟨A', c', e, _, _, h3⟩ := h
  cases e
  exact h3 hn

theorem RdActs.ext {w w' : World} {v : Value} {l : List (Int × Int × List UInt8)} (h : RdActs w v l) (hx : Ext w w') : RdActs w' v l := by
  obtain ⟨A, c, e, h1, h2, h3⟩ := h
  refine ⟨A, c, e, h1, h2, fun hn => ?_⟩
  obtain ⟨b, o, a, hb, hc⟩ := h3 hn
  refine ⟨b, o, a, Nat.lt_of_lt_of_le hb hx.size, fun j x hj => ?_⟩
  obtain ⟨e1, e2, b1, b2, u, e3, hu⟩ := hc j x hj
  exact ⟨hx.cellOf e1 hb, hx.cellOf e2 hb, b1, b2, u, hx.cellOf e3 hb, hu.ext hx⟩

theorem dec_acts {t e tb : TypeId} {fs : Array Field} {f0 f1 f2 : Field} {ti tj : TypeId} {r : Reach} {b0 : Nat} {v : Value} {d : DataW H} {ps : List MemPlace} (ht : P.underlying t = some (.slice e)) (he : P.underlying e = some (.struct fs)) (hone : oneCellFields P fs = true)
    (hC : P.cellsOf e = 3) (hfs : fs = #[f0, f1, f2]) (h0 : f0.type = ti) (h1 : f1.type = tj) (h2 : f2.type = tb) (hi : P.underlying ti = some (.int .i64)) (hj : P.underlying tj = some (.int .i64)) {q : TypeId} (hb : P.underlying tb = some (.slice q)) (hq : P.underlying q = some (.int .u8)) (cq : P.cellsOf q = 1)
    (hval : Value.okWide P w r b0 t v) (hd : DataW.Trod enc P w base (fun _ => true) held t v d ps) : ∃ l, RdActs w v l := by
  subst hfs h0 h1 h2
  obtain ⟨A, n, c, rfl, hnc, hcm, hx⟩ := structs_at ht he hone (by rw [hC]; rfl) (by simp) hval hd
  have each : ∀ i, ∃ x : Int × Int × List UInt8, 0 < n → i < n → ∀ b o, A = some ⟨b, o, none⟩ → w.cell? ⟨b, o + i * 3, none⟩ = some (I x.1) ∧ w.cell? ⟨b, o + (i * 3 + 1), none⟩ = some (I x.2.1) ∧ (-9223372036854775808 ≤ x.1 ∧ x.1 ≤ 9223372036854775807) ∧ (-9223372036854775808 ≤ x.2.1 ∧ x.2.1 ≤ 9223372036854775807) ∧
      ∃ u, w.cell? ⟨b, o + (i * 3 + 2), none⟩ = some u ∧ Rd w u (x.2.2.map B) := by
    intro i
    by_cases hn : 0 < n ∧ i < n
    · obtain ⟨b, o, rfl, _, hcell⟩ := hx hn.1
      obtain ⟨u0, k0, y0, c0, t0⟩ := hcell i hn.2 0 f0 rfl
      obtain ⟨u1, k1, y1, c1, t1⟩ := hcell i hn.2 1 f1 rfl
      obtain ⟨u2, k2, y2, c2, t2⟩ := hcell i hn.2 2 f2 rfl
      obtain ⟨z0, hz0, _, w0⟩ := DataW.trod_int hi t0
      obtain ⟨z1, hz1, _, w1⟩ := DataW.trod_int hj t1
      obtain ⟨l2, hl2⟩ := rd_of_trod hb hq cq t2
      simp only [List.cons.injEq, and_true] at hz0 hz1
      subst hz0 hz1
      have m1 : IntKind.i64.min = -9223372036854775808 := rfl
      have m2 : IntKind.i64.max = 9223372036854775807 := rfl
      simp only [Lit.wf, Bool.and_eq_true, decide_eq_true_eq] at w0 w1
      refine ⟨(z0, z1, l2), fun _ _ b' o' e => ?_⟩
      cases e
      exact ⟨c0, c1, ⟨by simp only; omega, by simp only; omega⟩, ⟨by simp only; omega, by simp only; omega⟩, u2, c2, hl2⟩
    · exact ⟨(0, 0, []), fun h1 h2 => absurd ⟨h1, h2⟩ hn⟩
  obtain ⟨L, hL⟩ : ∃ L : Nat → Int × Int × List UInt8, ∀ i, 0 < n → i < n → ∀ b o, A = some ⟨b, o, none⟩ → w.cell? ⟨b, o + i * 3, none⟩ = some (I (L i).1) ∧ w.cell? ⟨b, o + (i * 3 + 1), none⟩ = some (I (L i).2.1) ∧ (-9223372036854775808 ≤ (L i).1 ∧ (L i).1 ≤ 9223372036854775807) ∧ (-9223372036854775808 ≤ (L i).2.1 ∧ (L i).2.1 ≤ 9223372036854775807) ∧
      ∃ u, w.cell? ⟨b, o + (i * 3 + 2), none⟩ = some u ∧ Rd w u ((L i).2.2.map B) := ⟨fun i => (each i).choose, fun i => (each i).choose_spec⟩
  refine ⟨(List.range n).map L, A, c, by simp, by simpa using hnc, hcm, fun hn => ?_⟩
  have hn' : 0 < n := by simpa using hn
  obtain ⟨b, o, hA, hb1, _⟩ := hx hn'
  refine ⟨b, o, hA, hb1, fun j x hj => ?_⟩
  rw [List.getElem?_map] at hj
  obtain ⟨i, hi1, rfl⟩ := Option.map_eq_some_iff.1 hj
  obtain ⟨hi2, hi3⟩ := List.getElem?_eq_some_iff.1 hi1
  simp at hi2 hi3
  subst hi3
  exact hL j hn' hi2 b o hA
end

end Go.Proofs.Ytdcmjmanalijfaa

/- A statement whose order is open, walked step by step: what is said of the world may grow on the way (the tactics of the kit say one thing all along). No program is named here. -/
namespace Go.Proofs.Ytdcmjmanalijfaa
open Go.RowKit

section
variable {P : Program} {l : List Oper} {Q : Exit → Act → World → Prop} {md : Region.Mode} {S S' : World → Prop}

theorem held_begin {id : Nat} {a : Act} {w : World} (hm : P.follows .mixedOrders = true)
    (h : wpAnyH P .any l.toArray (NoPanic Q) (fun _ => True) l.toArray.size (Array.replicate l.toArray.size false) a w.drew) : (Code.region id l.toArray true).wp P Q a w :=
  wp_region_noPanic (wp_region_any hm (wpAny_of_held _ _ _ _ h))

/-- One operation, that yields its value in every world of which S holds, is taken first. -/
theorem held_take {i : Nat} {oi : Oper} {v : Value} {fuel : Nat} {listed : Array Bool} {a : Act} {w : World} (hi : l[i]? = some oi) (hs : Region.noSelect l.toArray = true) (hf : Region.free md l.toArray listed i = true)
    (hr : (Region.ready md l.toArray listed).contains i = true) (hw : Region.wanted oi (yielded l.toArray a.tmps) = true) (hS : S w) (hy : ∀ w, S w → (execOp a.eval oi).run P w = .ok (.value v) w)
    (h : wpAnyH P md l.toArray (NoPanic Q) S fuel (listed.setIfInBounds i true) (a.put oi.dst v) w) : wpAnyH P md l.toArray (NoPanic Q) S (fuel + 1) listed a w :=
  wpAnyH_take (oi := oi) (v := v) (by simpa using hi) hs hf hr (fun _ _ _ h => h) (.inl ⟨hw, hy⟩) hS h

/-- One operation that is not wanted (its guard says so) is passed by. -/
theorem held_skip {i : Nat} {oi : Oper} {fuel : Nat} {listed : Array Bool} {a : Act} {w : World} (hi : l[i]? = some oi) (hs : Region.noSelect l.toArray = true) (hf : Region.free md l.toArray listed i = true)
    (hr : (Region.ready md l.toArray listed).contains i = true) (hw : Region.wanted oi (yielded l.toArray a.tmps) = false) (hS : S w)
    (h : wpAnyH P md l.toArray (NoPanic Q) S fuel (listed.setIfInBounds i true) (a.put oi.dst undef) w) : wpAnyH P md l.toArray (NoPanic Q) S (fuel + 1) listed a w :=
  wpAnyH_take (oi := oi) (v := undef) (by simpa using hi) hs hf hr (fun _ _ _ h => h) (.inr ⟨hw, rfl⟩) hS h

/-- One operation is carried out, where no other may come up. -/
theorem held_op {i : Nat} {o : Oper} {fuel : Nat} {listed : Array Bool} {a : Act} {w : World} (hr : Region.ready md l.toArray listed = [i]) (hi : l[i]? = some o)
    (h : ∀ K : Act → World → Prop, (∀ a' w', S w' → (S w' → wpAnyH P md l.toArray (NoPanic Q) S fuel (listed.setIfInBounds i true) a' w') → K a' w') →
      if Region.wanted o (yielded l.toArray a.tmps) = true then Oper.wp P o a w K (NoPanic Q) else K (a.put o.dst undef) w) : wpAnyH P md l.toArray (NoPanic Q) S (fuel + 1) listed a w := by
  refine wpAnyH_all hr (by simp) (fun j hj => ?_)
  rw [List.mem_singleton] at hj
  subst hj
  have e : l.toArray[j]? = some o := by simpa using hi
  exact wpOp_step e (fun K hK => h K (fun a' w' h1 h2 => hK a' w' ⟨h1, h2 h1⟩))

/-- More is said of the world from here on. -/
theorem held_more (hSS : ∀ w, S' w → S w) : ∀ {fuel : Nat} {listed : Array Bool} {a : Act} {w : World}, wpAnyH P md l.toArray Q S' fuel listed a w → wpAnyH P md l.toArray Q S fuel listed a w
  | 0, _, _, _, h => h
  | _ + 1, _, _, _, h => ⟨h.1, fun i hi => wpOp_mono (fun _ _ h' => ⟨hSS _ h'.1, held_more hSS h'.2⟩) (h.2 i hi)⟩
end

end Go.Proofs.Ytdcmjmanalijfaa

/- Words for a slice of slices of bytes that a call appends to while it turns other things. No program is named here. -/
namespace Go.Proofs.Ytdcmjmanalijfaa
open Go.RowKit

/-- The slice value v is an own row of slices; they read as the lists ls, and lie elsewhere than the row; all of it in the set. -/
def OwnG (G : Fp) (w : World) (e : TypeId) (v : Value) (ls : List (List UInt8)) : Prop :=
  ∃ vs : List Value, RowF G w e v vs ∧ vs.length = ls.length ∧ ∀ (i : Nat) u l, vs[i]? = some u → ls[i]? = some l → RdF (fun k => G k ∧ some k ≠ v.ownBlock) w u (l.map B)

section
variable {F G : Fp} {w w' : World} {e : TypeId} {v : Value} {ls : List (List UInt8)}
theorem OwnG.nil (G : Fp) (w : World) (e : TypeId) : OwnG G w e (.slice none 0 0) [] := ⟨[], RowF.nil G w e, rfl, fun i u l hu _ => by simp at hu⟩
theorem OwnG.chg (h : OwnG G w e v ls) (hc : Chg F w w') (ha : G.apart F) : OwnG G w' e v ls := by
  obtain ⟨vs, h1, h2, h3⟩ := h
  exact ⟨vs, h1.chg hc ha, h2, fun i u l hu hl => (h3 i u l hu hl).chg hc fun k hk => ha k hk.1⟩
theorem OwnG.ext (h : OwnG G w e v ls) (hx : Ext w w') : OwnG G w' e v ls := h.chg (F := fun _ => False) (Chg.of_ext hx) (fun _ _ h => h)
theorem OwnG.mono (h : OwnG G w e v ls) (hf : ∀ k, G k → F k) : OwnG F w e v ls := by
  obtain ⟨vs, h1, h2, h3⟩ := h
  exact ⟨vs, h1.mono hf, h2, fun i u l hu hl => (h3 i u l hu hl).mono fun k hk => ⟨hf k hk.1, hk.2⟩⟩
theorem OwnG.rdlF (h : OwnG G w e v ls) : RdLF G w v ls := by
  obtain ⟨vs, h1, h2, h3⟩ := h
  exact ⟨vs, h1.rdF, h2, fun i u l hu hl => (h3 i u l hu hl).mono fun k hk => hk.1⟩
theorem OwnG.row (h : OwnG G w e v ls) : ∃ vs : List Value, w.ownsRow 0 e 1 v vs.length vs ∧ vs.length = ls.length ∧ RowF G w e v vs ∧ ∀ (i : Nat) u l, vs[i]? = some u → ls[i]? = some l → RdF (fun k => G k ∧ some k ≠ v.ownBlock) w u (l.map B) := by
  obtain ⟨vs, h1, h2, h3⟩ := h
  exact ⟨vs, h1.1, h2, h1, h3⟩
/-- One list more. -/
theorem OwnG.snoc {vs : List Value} {v' u : Value} {l : List UInt8} {U : Fp} (h1 : RowF G w e v vs) (h2 : vs.length = ls.length) (h3 : ∀ (i : Nat) u l, vs[i]? = some u → ls[i]? = some l → RdF (fun k => G k ∧ some k ≠ v.ownBlock) w u (l.map B))
    (hu : RdF U w u (l.map B)) (hU : ∀ k, U k → G k ∧ k < w.heap.size ∧ some k ≠ v.ownBlock) (hi : G.isIn w) (hg : Grew 0 e v w (vs ++ [u]) v' w') : OwnG (G.since w w') w' e v' (ls ++ [l]) ∧ Chg (fun k => v.ownBlock = some k) w w' := by
  obtain ⟨g1, g2⟩ := h1.grew hg
  refine ⟨⟨vs ++ [u], g1, by rw [List.length_append, List.length_append, h2]; rfl, fun i x y hx hy => ?_⟩, g2⟩
  have key : ∀ (x : Value) (y : List UInt8), RdF (fun k => G k ∧ some k ≠ v.ownBlock) w x (y.map B) → RdF (fun k => G.since w w' k ∧ some k ≠ v'.ownBlock) w' x (y.map B) := by
    intro x y hr
    refine (hr.chg g2 fun k hk e' => hk.2 e'.symm).mono fun k hk => ⟨.inl hk.1, fun he => ?_⟩
    rcases hg.2.2 with hq | hq
    · rw [hq] at he
      exact hk.2 he
    · have := hq k he.symm
      have := hi k hk.1
      omega
  by_cases hlt : i < vs.length
  · rw [List.getElem?_append_left hlt] at hx
    rw [List.getElem?_append_left (by omega)] at hy
    exact key x y (h3 i x y hx hy)
  · have hi2 : i = vs.length := by
      have := (List.getElem?_eq_some_iff.1 hx).1
      rw [List.length_append, List.length_singleton] at this
      omega
    subst hi2
    rw [List.getElem?_append_right (Nat.le_refl _), Nat.sub_self] at hx
    rw [h2, List.getElem?_append_right (Nat.le_refl _), Nat.sub_self] at hy
    simp only [List.getElem?_cons_zero, Option.some.injEq] at hx hy
    subst hx hy
    exact key u l (hu.mono fun k hk => ⟨(hU k hk).1, (hU k hk).2.2⟩)
end

end Go.Proofs.Ytdcmjmanalijfaa
