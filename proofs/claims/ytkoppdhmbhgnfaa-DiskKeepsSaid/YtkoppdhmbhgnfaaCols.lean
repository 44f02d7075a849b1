/- Words for several objects that a call makes and turns: a colour for each block tells whose it is. No program is named here. -/
import Derived.Test.YtkoppdhmbhgnfaaObj
namespace Go.Proofs.Ytkoppdhmbhgnfaa
open Go.RowKit

/-- Since w0 all that was there stands; each block of a colour was made since. (Colour 0: nobody's.) -/
structure Cols (w0 w : World) (col : Nat → Nat) : Prop where
  low : ∀ k, col k ≠ 0 → w0.heap.size ≤ k
  isIn : ∀ k, col k ≠ 0 → k < w.heap.size
  ext : Ext w0 w

/-- The blocks of a colour. -/
abbrev Fp.of (col : Nat → Nat) (i : Nat) : Fp := fun k => col k = i
/-- What was made since has colour i. -/
def Cols.next (col : Nat → Nat) (w w' : World) (i : Nat) : Nat → Nat := fun k => if w.heap.size ≤ k ∧ k < w'.heap.size then i else col k

section
variable {w0 w w' : World} {col : Nat → Nat} {i j : Nat}
theorem Cols.first (w : World) : Cols w w (fun _ => 0) := ⟨fun _ h => absurd rfl h, fun _ h => absurd rfl h, Ext.refl w⟩
theorem Cols.old_in (h : Cols w0 w col) : Fp.isIn (fun k => k < w0.heap.size) w := fun k hk => Nat.lt_of_lt_of_le hk h.ext.size
theorem Cols.old_apart (h : Cols w0 w col) (hi : i ≠ 0) : Fp.apart (fun k => k < w0.heap.size) (Fp.of col i) := fun k hk hc => by
  have := h.low k (by rw [hc]; exact hi)
  omega
theorem Cols.old (h : Cols w0 w col) {v : Value} {xs : List Value} (hr : Rd w0 v xs) : RdF (fun k => k < w0.heap.size) w v xs :=
  hr.old.chg (G := fun _ => False) (Chg.of_ext h.ext) (fun _ _ h => h)
theorem Cols.of_in (h : Cols w0 w col) (hi : i ≠ 0) : (Fp.of col i).isIn w := fun k hk => h.isIn k (by rw [hk]; exact hi)
theorem Cols.apart (h : i ≠ j) : (Fp.of col i).apart (Fp.of col j) := fun k hi hj => h (hi.symm.trans hj)
theorem Cols.step (h : Cols w0 w col) (hi : i ≠ 0) (hc : Chg (Fp.of col i) w w') : Cols w0 w' (Cols.next col w w' i) := by
  refine ⟨fun k hk => ?_, fun k hk => ?_, hc.ext h.ext fun k hk => h.low k (by rw [hk]; exact hi)⟩
  · unfold Cols.next at hk
    split at hk
    · rename_i hn
      exact Nat.le_trans h.ext.size hn.1
    · exact h.low k hk
  · unfold Cols.next at hk
    split at hk
    · rename_i hn
      exact hn.2
    · exact Nat.lt_of_lt_of_le (h.isIn k hk) hc.size
theorem Cols.stepE (h : Cols w0 w col) (hi : i ≠ 0) (hx : Ext w w') : Cols w0 w' (Cols.next col w w' i) := h.step hi (Chg.of_ext hx)
/-- Memory was made that nobody keeps. -/
theorem Cols.stepN (h : Cols w0 w col) (hx : Ext w w') : Cols w0 w' col := ⟨h.low, fun k hk => Nat.lt_of_lt_of_le (h.isIn k hk) hx.size, Below.trans h.ext (hx.mono h.ext.size)⟩
theorem Cols.next_own (h : Cols w0 w col) (hi : i ≠ 0) : ∀ k, (Fp.since (Fp.of col i) w w') k → Fp.of (Cols.next col w w' i) i k := fun k hk => by
  show Cols.next col w w' i k = i
  unfold Cols.next
  rcases hk with hk | hk
  · have := h.isIn k (by rw [show col k = i from hk]; exact hi)
    rw [if_neg (by omega)]
    exact hk
  · rw [if_pos hk]
theorem Cols.next_new (h : Cols w0 w col) (hi : i ≠ 0) : ∀ k, (w.heap.size ≤ k ∧ k < w'.heap.size) → Fp.of (Cols.next col w w' i) i k := fun k hk => h.next_own hi k (.inr hk)
theorem Cols.next_other (h : Cols w0 w col) (hj : j ≠ 0) : ∀ k, Fp.of col j k → Fp.of (Cols.next col w w' i) j k := fun k hk => by
  show Cols.next col w w' i k = j
  have := h.isIn k (by rw [show col k = j from hk]; exact hj)
  unfold Cols.next
  rw [if_neg (by omega)]
  exact hk
/-- Another one's thing stands. -/
theorem Cols.keep {X : Fp → World → Prop} (chg : ∀ {F G : Fp} {w w' : World}, X F w → Chg G w w' → F.apart G → X F w') (mono : ∀ {F G : Fp} {w : World}, X F w → (∀ k, F k → G k) → G.isIn w → X G w)
    (h : Cols w0 w col) (hi : i ≠ 0) (hj : j ≠ 0) (hij : j ≠ i) (hc : Chg (Fp.of col i) w w') (x : X (Fp.of col j) w) : X (Fp.of (Cols.next col w w' i) j) w' :=
  mono (chg x hc (Cols.apart hij)) (h.next_other hj) ((h.step hi hc).of_in hj)
theorem Cols.own {X : Fp → World → Prop} (mono : ∀ {F G : Fp} {w : World}, X F w → (∀ k, F k → G k) → G.isIn w → X G w)
    (h : Cols w0 w col) (hi : i ≠ 0) (hc : Chg (Fp.of col i) w w') (x : X (Fp.since (Fp.of col i) w w') w') : X (Fp.of (Cols.next col w w' i) i) w' :=
  mono x (h.next_own hi) ((h.step hi hc).of_in hi)
theorem Cols.own' {X : Fp → World → Prop} (mono : ∀ {F G : Fp} {w : World}, X F w → (∀ k, F k → G k) → G.isIn w → X G w)
    (h : Cols w0 w col) (hi : i ≠ 0) (hc : Chg (Fp.of col i) w w') (x : X (Fp.of col i) w') : X (Fp.of (Cols.next col w w' i) i) w' :=
  mono x (fun k hk => h.next_own hi k (.inl hk)) ((h.step hi hc).of_in hi)
theorem Cols.made {X : Fp → World → Prop} (mono : ∀ {F G : Fp} {w : World}, X F w → (∀ k, F k → G k) → G.isIn w → X G w)
    (h : Cols w0 w col) (hi : i ≠ 0) (hx : Ext w w') (x : X (fun k => w.heap.size ≤ k ∧ k < w'.heap.size) w') : X (Fp.of (Cols.next col w w' i) i) w' :=
  mono x (h.next_new hi) ((h.stepE hi hx).of_in hi)

theorem RdF.monoI {F G : Fp} {w : World} {v : Value} {xs : List Value} (h : RdF F w v xs) (hf : ∀ k, F k → G k) (_ : G.isIn w) : RdF G w v xs := h.mono hf
theorem RdF.ext {F : Fp} {v : Value} {xs : List Value} (h : RdF F w v xs) (hx : Ext w w') : RdF F w' v xs := h.chg (G := fun _ => False) (Chg.of_ext hx) (fun _ _ h => h)
/-- What a call made by itself. -/
theorem RdF.made {e : TypeId} {v : Value} {xs : List Value} (h : Grew w.heap.size e (.slice none 0 0) w xs v w') : RdF (fun k => w.heap.size ≤ k ∧ k < w'.heap.size) w' v xs := (RowF.made h).rdF
theorem RdF.litB (w : World) (l : List UInt8) (cs : Array Value) (e : TypeId) (n g : Nat) (h : l.length ≤ 4096) (hc : cs = (l.map B).toArray) (hn : n = l.length) (hg : g = w.heap.size) :
    RdF (fun k => w.heap.size ≤ k ∧ k < (w.alloc (.cells cs e)).heap.size) (w.alloc (.cells cs e)) (.slice (some ⟨g, 0, none⟩) n n) (l.map B) := by
  have h1 := Rd.litB w l cs e n g h hc hn hg
  subst hg
  obtain ⟨A, c, he, h2, h3, h4⟩ := h1
  refine ⟨A, c, he, h2, h3, fun hp => ?_⟩
  obtain ⟨b, o, ha, hb, hcell⟩ := h4 hp
  injection he with e1
  rw [ha] at e1
  cases e1
  exact ⟨w.heap.size, 0, ha, hb, ⟨Nat.le_refl _, by simp⟩, hcell⟩
end

end Go.Proofs.Ytkoppdhmbhgnfaa
