/- Texts that the proof of JournalPast rests on, one behind the other. -/
import Derived.Test.YtdcmjmanalijfaaJournalPastQ3

/- Words for a slice of slices that the call itself appends to. No program is named here. -/
namespace Go.Proofs.Ytdcmjmanalijfaa
open Go.RowKit

/-- The blocks that were made since the block 'lo' and are not v's own. -/
def Off (lo : Nat) (v : Value) : Nat → Prop := fun b => lo ≤ b ∧ some b ≠ v.ownBlock
/-- The slice value v reads in w as xs, and lies in a block that may be. -/
def RdN (w : World) (row : Nat → Prop) (v : Value) (xs : List Value) : Prop :=
  ∃ A c, v = .slice A xs.length c ∧ xs.length ≤ c ∧ c ≤ maxLen ∧ (0 < xs.length → ∃ b o, A = some ⟨b, o, none⟩ ∧ b < w.heap.size ∧ row b ∧ ∀ j u, xs[j]? = some u → w.cell? ⟨b, o + j, none⟩ = some u)

theorem RdN.rd {w : World} {row : Nat → Prop} {v : Value} {xs : List Value} (h : RdN w row v xs) : Rd w v xs := by
  obtain ⟨A, c, e, h1, h2, h3⟩ := h
  refine ⟨A, c, e, h1, h2, fun hn => ?_⟩
  obtain ⟨b, o, a, hb, _, hc⟩ := h3 hn
  exact ⟨b, o, a, hb, hc⟩
theorem RdN.ext {w w' : World} {row : Nat → Prop} {v : Value} {xs : List Value} (h : RdN w row v xs) (hx : Ext w w') : RdN w' row v xs := by
  obtain ⟨A, c, e, h1, h2, h3⟩ := h
  refine ⟨A, c, e, h1, h2, fun hn => ?_⟩
  obtain ⟨b, o, a, hb, hr, hc⟩ := h3 hn
  exact ⟨b, o, a, Nat.lt_of_lt_of_le hb hx.size, hr, fun j u hu => (hx.cell (p := ⟨b, o + j, none⟩) hb).trans (hc j u hu)⟩
/-- The row grows: what lies elsewhere stays. -/
theorem RdN.grow {w w' : World} {lo base : Nat} {e : TypeId} {v0 v1 v : Value} {xs ys : List Value} (h : RdN w (Off lo v0) v xs) (hg : Grew base e v0 w ys v1 w') : RdN w' (Off lo v1) v xs := by
  obtain ⟨A, c, e, h1, h2, h3⟩ := h
  refine ⟨A, c, e, h1, h2, fun hn => ?_⟩
  obtain ⟨b, o, a, hb, hr, hc⟩ := h3 hn
  have hblk := hg.2.1.block b hb hr.2
  refine ⟨b, o, a, Nat.lt_of_lt_of_le hb hg.size, ⟨hr.1, ?_⟩, fun j u hu => ?_⟩
  · rcases hg.2.2 with h | h
    · rw [h]; exact hr.2
    · intro he
      have := h b he.symm
      omega
  · have := hc j u hu
    simp only [World.cell?] at this ⊢
    rw [hblk]
    exact this
/-- What was just made lies elsewhere. -/
theorem RdN.fresh {w w' : World} {e : TypeId} {v : Value} {xs : List Value} {lo : Nat} {r : Value} (h : Grew w.heap.size e (.slice none 0 0) w xs v w') (hlo : lo ≤ w.heap.size) (hr : ∀ k, r.ownBlock = some k → k < w.heap.size) : RdN w' (Off lo r) v xs := by
  have h1 := h.1
  rcases h1.2 with ⟨hv, h0⟩ | ⟨g, cap, cur, hv, hg, hh, hn, hcap, hs, ht⟩
  · rw [hv]
    exact ⟨none, 0, by rw [h0], by omega, Nat.zero_le _, fun hn => absurd hn (by omega)⟩
  · subst hv
    refine ⟨some ⟨g, 0, none⟩, cap, rfl, hn, hcap, fun _ => ⟨g, 0, rfl, (Array.getElem?_eq_some_iff.1 hh).1, ⟨Nat.le_trans hlo hg, fun he => ?_⟩, fun j u hu => ?_⟩⟩
    · have := hr g he.symm
      omega
    · have := h1.cells (g := g) rfl j u hu
      rwa [Addr.add_lit] at this

/-- The call's own row of slices, made since w0: they read as the lists ls, and lie behind 'lo'. -/
def OwnL (lo : Nat) (w0 : World) (e : TypeId) (v : Value) (w : World) (ls : List (List UInt8)) : Prop :=
  ∃ vs : List Value, Grew w0.heap.size e (.slice none 0 0) w0 vs v w ∧ vs.length = ls.length ∧ ∀ (i : Nat) u l, vs[i]? = some u → ls[i]? = some l → RdN w (Off lo v) u (l.map B)

theorem OwnL.nil (lo : Nat) (w : World) (e : TypeId) : OwnL lo w e (.slice none 0 0) w [] := ⟨[], Grew.nil w, rfl, fun i u l hu _ => by simp at hu⟩
theorem OwnL.rdl {lo : Nat} {w0 w : World} {e : TypeId} {v : Value} {ls : List (List UInt8)} (h : OwnL lo w0 e v w ls) : RdL w v ls := by
  obtain ⟨vs, h1, h2, h3⟩ := h
  exact ⟨vs, Rd.own h1.own, h2, fun i u l hu hl => (h3 i u l hu hl).rd⟩
theorem OwnL.ext {lo : Nat} {w0 w : World} {e : TypeId} {v : Value} {ls : List (List UInt8)} (h : OwnL lo w0 e v w ls) : Ext w0 w := by
  obtain ⟨vs, h1, _⟩ := h
  exact h1.ext
theorem OwnL.step {lo : Nat} {w0 w w' : World} {e : TypeId} {v : Value} {ls : List (List UInt8)} (h : OwnL lo w0 e v w ls) (hx : Ext w w') : OwnL lo w0 e v w' ls := by
  obtain ⟨vs, h1, h2, h3⟩ := h
  exact ⟨vs, h1.step hx, h2, fun i u l hu hl => (h3 i u l hu hl).ext hx⟩
theorem OwnL.block {lo : Nat} {w0 w : World} {e : TypeId} {v : Value} {ls : List (List UInt8)} (h : OwnL lo w0 e v w ls) : ∀ k, v.ownBlock = some k → k < w.heap.size := by
  obtain ⟨vs, h1, _⟩ := h
  exact fun k hk => (h1.1.lt k hk).2
/-- One list more. -/
theorem OwnL.snoc {lo : Nat} {w0 w w' : World} {e : TypeId} {v v' u : Value} {ls : List (List UInt8)} {l : List UInt8} (h : OwnL lo w0 e v w ls) (hu : RdN w (Off lo v) u (l.map B)) {vs : List Value} (hvs : Grew w0.heap.size e (.slice none 0 0) w0 vs v w)
    (hg : Grew w0.heap.size e v w (vs ++ [u]) v' w') : OwnL lo w0 e v' w' (ls ++ [l]) := by
  obtain ⟨vs', h1, h2, h3⟩ := h
  have hsame : vs' = vs := by
    have a := h1.own
    have b := hvs.own
    have e1 : vs'.length = vs.length := by
      obtain ⟨A, c, e, _⟩ := Rd.own a
      obtain ⟨A', c', e', _⟩ := Rd.own b
      rw [e] at e'
      injection e'
    have hra := Rd.own a
    have hrb := Rd.own b
    obtain ⟨A, c, ev, _, _, hc⟩ := hra
    obtain ⟨A', c', ev', _, _, hc'⟩ := hrb
    rw [ev] at ev'
    injection ev' with eA _ _
    subst eA
    apply List.ext_getElem e1
    intro i hi hi'
    obtain ⟨b1, o1, hA, _, hcell⟩ := hc (by omega)
    obtain ⟨b2, o2, hA', _, hcell'⟩ := hc' (by omega)
    rw [hA] at hA'
    cases hA'
    have x1 := hcell i _ (List.getElem?_eq_getElem hi)
    have x2 := hcell' i _ (List.getElem?_eq_getElem hi')
    rw [x1] at x2
    exact Option.some.inj x2
  subst hsame
  refine ⟨vs' ++ [u], h1.trans hg, by rw [List.length_append, List.length_append, h2]; rfl, fun i x y hx hy => ?_⟩
  by_cases hi : i < vs'.length
  · rw [List.getElem?_append_left hi] at hx
    rw [List.getElem?_append_left (by omega)] at hy
    exact (h3 i x y hx hy).grow hg
  · have hi2 : i = vs'.length := by
      have := (List.getElem?_eq_some_iff.1 hx).1
      rw [List.length_append, List.length_singleton] at this
      omega
    subst hi2
    rw [List.getElem?_append_right (Nat.le_refl _), Nat.sub_self] at hx
    rw [h2, List.getElem?_append_right (Nat.le_refl _), Nat.sub_self] at hy
    simp only [List.getElem?_cons_zero, Option.some.injEq] at hx hy
    subst hx hy
    exact hu.grow hg
theorem OwnL.vs {lo : Nat} {w0 w : World} {e : TypeId} {v : Value} {ls : List (List UInt8)} (h : OwnL lo w0 e v w ls) : ∃ vs : List Value, Grew w0.heap.size e (.slice none 0 0) w0 vs v w ∧ vs.length = ls.length := by
  obtain ⟨vs, h1, h2, _⟩ := h
  exact ⟨vs, h1, h2⟩

end Go.Proofs.Ytdcmjmanalijfaa

/- Words for a slice of slices of bytes, and for where it lies. No program is named here. -/
namespace Go.Proofs.Ytdcmjmanalijfaa
open Go.RowKit

/-- The slice value v reads in w as a list of lists of bytes; all of it lies in the set. -/
def RdLF (F : Fp) (w : World) (v : Value) (ls : List (List UInt8)) : Prop :=
  ∃ vs : List Value, RdF F w v vs ∧ vs.length = ls.length ∧ ∀ (i : Nat) u l, vs[i]? = some u → ls[i]? = some l → RdF F w u (l.map B)

section
variable {F G : Fp} {w w' : World} {v : Value} {ls : List (List UInt8)}
theorem RdLF.rdl (h : RdLF F w v ls) : RdL w v ls := by
  obtain ⟨vs, h1, h2, h3⟩ := h
  exact ⟨vs, h1.rd, h2, fun i u l hu hl => (h3 i u l hu hl).rd⟩
theorem RdLF.chg (h : RdLF F w v ls) (hc : Chg G w w') (ha : F.apart G) : RdLF F w' v ls := by
  obtain ⟨vs, h1, h2, h3⟩ := h
  exact ⟨vs, h1.chg hc ha, h2, fun i u l hu hl => (h3 i u l hu hl).chg hc ha⟩
theorem RdLF.ext (h : RdLF F w v ls) (hx : Ext w w') : RdLF F w' v ls := h.chg (G := fun _ => False) (Chg.of_ext hx) (fun _ _ h => h)
theorem RdLF.mono (h : RdLF F w v ls) (hf : ∀ k, F k → G k) : RdLF G w v ls := by
  obtain ⟨vs, h1, h2, h3⟩ := h
  exact ⟨vs, h1.mono hf, h2, fun i u l hu hl => (h3 i u l hu hl).mono hf⟩
theorem RdLF.nil (F : Fp) (w : World) : RdLF F w (.slice none 0 0) [] := ⟨[], ⟨none, 0, rfl, Nat.le_refl _, Nat.zero_le _, fun h => absurd h (by simp)⟩, rfl, fun i u l hu _ => by simp at hu⟩
/-- What came in lies below the call. -/
theorem RdL.old (h : RdL w v ls) : RdLF (fun k => k < w.heap.size) w v ls := by
  obtain ⟨vs, h1, h2, h3⟩ := h
  exact ⟨vs, h1.old, h2, fun i u l hu hl => (h3 i u l hu hl).old⟩
theorem RdN.rdF {R : Nat → Prop} {xs : List Value} (h : RdN w R v xs) (hf : ∀ k, k < w.heap.size → R k → F k) : RdF F w v xs := by
  obtain ⟨A, c, e, h1, h2, h3⟩ := h
  refine ⟨A, c, e, h1, h2, fun hn => ?_⟩
  obtain ⟨b, o, a, hb, hr, hc⟩ := h3 hn
  exact ⟨b, o, a, hb, hf b hb hr, hc⟩
/-- The call's own row of slices lies in new memory, all of it. -/
theorem OwnL.rdlF {lo : Nat} {w0 : World} {e : TypeId} (h : OwnL lo w0 e v w ls) (hlo : lo ≤ w0.heap.size) : RdLF (fun k => lo ≤ k ∧ k < w.heap.size) w v ls := by
  obtain ⟨vs, h1, h2, h3⟩ := h
  refine ⟨vs, (RowF.made h1).rdF.mono fun k hk => ⟨Nat.le_trans hlo hk.1, hk.2⟩, h2, fun i u l hu hl => (h3 i u l hu hl).rdF fun k hk hr => ⟨hr.1, hk⟩⟩
end

end Go.Proofs.Ytdcmjmanalijfaa

/- Words for several objects that a call makes and turns: a colour for each block tells whose it is. No program is named here. -/
namespace Go.Proofs.Ytdcmjmanalijfaa
open Go.RowKit

/-- Since w0 all that was there stands; each block of a colour was made since. (Colour 0: nobody's.) -/
structure Cols (w0 w : World) (col : Nat → Nat) : Prop where
  low : ∀ k, col k ≠ 0 → w0.heap.size ≤ k
  isIn : ∀ k, col k ≠ 0 → k < w.heap.size
  ext : Ext w0 w

/-- The blocks of a colour. -/
abbrev Fp.of (col : Nat → Nat) (i : Nat) : Fp := fun k => col k = i
/-- What was made since has colour i. -/
def Cols.next (col : Nat → Nat) (w w' : World) (i : Nat) : Nat → Nat := fun k => if w.heap.size ≤ k ∧ k < w'.heap.size then i else col k

section
variable {w0 w w' : World} {col : Nat → Nat} {i j : Nat}
theorem Cols.first (w : World) : Cols w w (fun _ => 0) := ⟨fun _ h => absurd rfl h, fun _ h => absurd rfl h, Ext.refl w⟩
theorem Cols.old_in (h : Cols w0 w col) : Fp.isIn (fun k => k < w0.heap.size) w := fun _ hk => Nat.lt_of_lt_of_le hk h.ext.size
theorem Cols.old_apart (h : Cols w0 w col) (hi : i ≠ 0) : Fp.apart (fun k => k < w0.heap.size) (Fp.of col i) := fun k hk hc => by
  have := h.low k (by rw [hc]; exact hi)
  omega
theorem Cols.old (h : Cols w0 w col) {v : Value} {xs : List Value} (hr : Rd w0 v xs) : RdF (fun k => k < w0.heap.size) w v xs :=
  hr.old.chg (G := fun _ => False) (Chg.of_ext h.ext) (fun _ _ h => h)
theorem Cols.of_in (h : Cols w0 w col) (hi : i ≠ 0) : (Fp.of col i).isIn w := fun k hk => h.isIn k (by rw [hk]; exact hi)
theorem Cols.apart (h : i ≠ j) : (Fp.of col i).apart (Fp.of col j) := fun _ hi hj => h (hi.symm.trans hj)
theorem Cols.step (h : Cols w0 w col) (hi : i ≠ 0) (hc : Chg (Fp.of col i) w w') : Cols w0 w' (Cols.next col w w' i) := by
  refine ⟨fun k hk => ?_, fun k hk => ?_, hc.ext h.ext fun k hk => h.low k (by rw [hk]; exact hi)⟩
  · unfold Cols.next at hk
    split at hk
    · rename_i hn
      exact Nat.le_trans h.ext.size hn.1
    · exact h.low k hk
  · unfold Cols.next at hk
    split at hk
    · rename_i hn
      exact hn.2
    · exact Nat.lt_of_lt_of_le (h.isIn k hk) hc.size
theorem Cols.stepE (h : Cols w0 w col) (hi : i ≠ 0) (hx : Ext w w') : Cols w0 w' (Cols.next col w w' i) := h.step hi (Chg.of_ext hx)
/-- Memory was made that nobody keeps. -/
theorem Cols.stepN (h : Cols w0 w col) (hx : Ext w w') : Cols w0 w' col := ⟨h.low, fun k hk => Nat.lt_of_lt_of_le (h.isIn k hk) hx.size, Below.trans h.ext (hx.mono h.ext.size)⟩
theorem Cols.next_own (h : Cols w0 w col) (hi : i ≠ 0) : ∀ k, (Fp.since (Fp.of col i) w w') k → Fp.of (Cols.next col w w' i) i k := fun k hk => by
  show Cols.next col w w' i k = i
  unfold Cols.next
  rcases hk with hk | hk
  · have := h.isIn k (by rw [show col k = i from hk]; exact hi)
    rw [if_neg (by omega)]
    exact hk
  · rw [if_pos hk]
theorem Cols.next_new (h : Cols w0 w col) (hi : i ≠ 0) : ∀ k, (w.heap.size ≤ k ∧ k < w'.heap.size) → Fp.of (Cols.next col w w' i) i k := fun k hk => h.next_own hi k (.inr hk)
theorem Cols.next_other (h : Cols w0 w col) (hj : j ≠ 0) : ∀ k, Fp.of col j k → Fp.of (Cols.next col w w' i) j k := fun k hk => by
  show Cols.next col w w' i k = j
  have := h.isIn k (by rw [show col k = j from hk]; exact hj)
  unfold Cols.next
  rw [if_neg (by omega)]
  exact hk
/-- Another one's thing stands. -/
theorem Cols.keep {X : Fp → World → Prop} (chg : ∀ {F G : Fp} {w w' : World}, X F w → Chg G w w' → F.apart G → X F w') (mono : ∀ {F G : Fp} {w : World}, X F w → (∀ k, F k → G k) → G.isIn w → X G w)
    (h : Cols w0 w col) (hi : i ≠ 0) (hj : j ≠ 0) (hij : j ≠ i) (hc : Chg (Fp.of col i) w w') (x : X (Fp.of col j) w) : X (Fp.of (Cols.next col w w' i) j) w' :=
  mono (chg x hc (Cols.apart hij)) (h.next_other hj) ((h.step hi hc).of_in hj)
theorem Cols.own {X : Fp → World → Prop} (mono : ∀ {F G : Fp} {w : World}, X F w → (∀ k, F k → G k) → G.isIn w → X G w)
    (h : Cols w0 w col) (hi : i ≠ 0) (hc : Chg (Fp.of col i) w w') (x : X (Fp.since (Fp.of col i) w w') w') : X (Fp.of (Cols.next col w w' i) i) w' :=
  mono x (h.next_own hi) ((h.step hi hc).of_in hi)
theorem Cols.own' {X : Fp → World → Prop} (mono : ∀ {F G : Fp} {w : World}, X F w → (∀ k, F k → G k) → G.isIn w → X G w)
    (h : Cols w0 w col) (hi : i ≠ 0) (hc : Chg (Fp.of col i) w w') (x : X (Fp.of col i) w') : X (Fp.of (Cols.next col w w' i) i) w' :=
  mono x (fun k hk => h.next_own hi k (.inl hk)) ((h.step hi hc).of_in hi)
theorem Cols.made {X : Fp → World → Prop} (mono : ∀ {F G : Fp} {w : World}, X F w → (∀ k, F k → G k) → G.isIn w → X G w)
    (h : Cols w0 w col) (hi : i ≠ 0) (hx : Ext w w') (x : X (fun k => w.heap.size ≤ k ∧ k < w'.heap.size) w') : X (Fp.of (Cols.next col w w' i) i) w' :=
  mono x (h.next_new hi) ((h.stepE hi hx).of_in hi)

theorem RdF.monoI {F G : Fp} {w : World} {v : Value} {xs : List Value} (h : RdF F w v xs) (hf : ∀ k, F k → G k) (_ : G.isIn w) : RdF G w v xs := h.mono hf
theorem RdF.ext {F : Fp} {v : Value} {xs : List Value} (h : RdF F w v xs) (hx : Ext w w') : RdF F w' v xs := h.chg (G := fun _ => False) (Chg.of_ext hx) (fun _ _ h => h)
/-- What a call made by itself. -/
theorem RdF.made {e : TypeId} {v : Value} {xs : List Value} (h : Grew w.heap.size e (.slice none 0 0) w xs v w') : RdF (fun k => w.heap.size ≤ k ∧ k < w'.heap.size) w' v xs := (RowF.made h).rdF
theorem RdF.litB (w : World) (l : List UInt8) (cs : Array Value) (e : TypeId) (n g : Nat) (h : l.length ≤ 4096) (hc : cs = (l.map B).toArray) (hn : n = l.length) (hg : g = w.heap.size) :
    RdF (fun k => w.heap.size ≤ k ∧ k < (w.alloc (.cells cs e)).heap.size) (w.alloc (.cells cs e)) (.slice (some ⟨g, 0, none⟩) n n) (l.map B) := by
  have h1 := Rd.litB w l cs e n g h hc hn hg
  subst hg
  obtain ⟨A, c, he, h2, h3, h4⟩ := h1
  refine ⟨A, c, he, h2, h3, fun hp => ?_⟩
  obtain ⟨b, o, ha, hb, hcell⟩ := h4 hp
  injection he with e1
  rw [ha] at e1
  cases e1
  exact ⟨w.heap.size, 0, ha, hb, ⟨Nat.le_refl _, by simp⟩, hcell⟩
end

end Go.Proofs.Ytdcmjmanalijfaa
