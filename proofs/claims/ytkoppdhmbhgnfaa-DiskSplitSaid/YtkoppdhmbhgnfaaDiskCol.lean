/- Layer 4: the calls of both disks, in colours. -/
import Derived.Test.YtkoppdhmbhgnfaaDiskCon
import Derived.Test.YtkoppdhmbhgnfaaCols
namespace Go.Proofs.Ytkoppdhmbhgnfaa
open Go.RowKit

theorem Dk.chgC {g : Nat} {s : DkS} : ∀ {F G : Fp} {w w' : World}, Dk F w g s → Chg G w w' → F.apart G → Dk F w' g s := fun h hc ha => Dk.chg h hc ha
theorem Dk.monoC {g : Nat} {s : DkS} : ∀ {F G : Fp} {w : World}, Dk F w g s → (∀ k, F k → G k) → G.isIn w → Dk G w g s := fun h hf hi => Dk.mono h hf hi
theorem Rk.chgC {g : Nat} {s : DkS} : ∀ {F G : Fp} {w w' : World}, Rk F w g s → Chg G w w' → F.apart G → Rk F w' g s := fun h hc ha => Rk.chg h hc ha
theorem Rk.monoC {g : Nat} {s : DkS} : ∀ {F G : Fp} {w : World}, Rk F w g s → (∀ k, F k → G k) → G.isIn w → Rk G w g s := fun h hf hi => Rk.mono h hf hi
theorem RdF.chgC {v : Value} {xs : List Value} : ∀ {F G : Fp} {w w' : World}, RdF F w v xs → Chg G w w' → F.apart G → RdF F w' v xs := fun h hc ha => h.chg hc ha
theorem RdF.monoC {v : Value} {xs : List Value} : ∀ {F G : Fp} {w : World}, RdF F w v xs → (∀ k, F k → G k) → G.isIn w → RdF G w v xs := fun h hf _ => h.mono hf

/-- What a turning call leaves of the colours, and of what it turned. -/
def Turned (X : Fp → World → Prop) (w0 w : World) (col : Nat → Nat) (i : Nat) (w' : World) : Prop :=
  Cols w0 w' (Cols.next col w w' i) ∧ X (Fp.of (Cols.next col w w' i) i) w' ∧ Chg (Fp.of col i) w w'

section
variable {w0 w : World} {col : Nat → Nat} {i : Nat} {g : Nat} {s : DkS}
theorem DkNewC (C : Cols w0 w col) (hi : i ≠ 0) (n : Nat) (h1 : 1 ≤ n) (h2 : n ≤ 65536) : Calls Try.prog 9 #[.int .i64 (n : Int)] w fun e w' =>
    ∃ g, e = .returned (.pointer (some ⟨g, 0, none⟩)) ∧ Turned (fun F w => Dk F w g (List.replicate n 0, [], 0)) w0 w col i w' ∧ Ext w w' :=
  (DkNew_yes n w h1 h2).mono fun _ _ ⟨g, he, hd, hx⟩ => ⟨g, he, ⟨C.stepE hi hx, Cols.made (X := fun F w => Dk F w g _) Dk.monoC C hi hx hd, Chg.of_ext hx⟩, hx⟩
theorem DkWriteC (C : Cols w0 w col) (hi : i ≠ 0) (hd : Dk (Fp.of col i) w g s) {H : Fp} {a : Int} {v : Value} {l : List UInt8} (hr : RdF H w v (l.map B)) (ha : H.apart (Fp.of col i)) (hH : H.isIn w)
    (h0 : -9223372036854775808 ≤ a) (h1 : a ≤ 9223372036854775807) (hw : s.2.1.length ≤ 1000000000) :
    Calls Try.prog 12 #[.pointer (some ⟨g, 0, none⟩), .int .i64 a, v] w fun e w' => e = .returned (.int .i64 (wrE s.1.length a l.length)) ∧ Turned (fun F w => Dk F w g (wrD s a l)) w0 w col i w' :=
  (DkWrite _ H g s a v l w hd hr ha hH h0 h1 hw).mono fun _ _ ⟨he, hd, hc⟩ => ⟨he, C.step hi hc, Cols.own (X := fun F w => Dk F w g _) Dk.monoC C hi hc hd, hc⟩
theorem DkSyncC (C : Cols w0 w col) (hi : i ≠ 0) (hd : Dk (Fp.of col i) w g s) (hw : s.2.1.length ≤ 1000000000) (hn0 : 0 ≤ s.2.2) (hn1 : s.2.2 ≤ 1000000000) :
    Calls Try.prog 10 #[.pointer (some ⟨g, 0, none⟩)] w fun e w' => e = .returned (.tuple #[]) ∧ Turned (fun F w => Dk F w g (syD s)) w0 w col i w' :=
  (DkSync _ g s w hd hw hn0 hn1).mono fun _ _ ⟨he, hd, hc⟩ => ⟨he, C.step hi hc, Cols.own (X := fun F w => Dk F w g _) Dk.monoC C hi hc hd, hc⟩
theorem DkCrashC (C : Cols w0 w col) (hi : i ≠ 0) (hd : Dk (Fp.of col i) w g s) (k : Int) (h0 : -9223372036854775808 ≤ k) (h1 : k ≤ 9223372036854775807) (hw : s.2.1.length ≤ 1000000000) :
    Calls Try.prog 11 #[.pointer (some ⟨g, 0, none⟩), .int .i64 k] w fun e w' => e = .returned (.tuple #[]) ∧ Turned (fun F w => Dk F w g (crD s k)) w0 w col i w' :=
  (DkCrash _ g s k w hd h0 h1 hw).mono fun _ _ ⟨he, hd, hc⟩ => ⟨he, C.step hi hc, Cols.own (X := fun F w => Dk F w g _) Dk.monoC C hi hc hd, hc⟩

theorem RkNewC (C : Cols w0 w col) (hi : i ≠ 0) (n : Nat) (h2 : n ≤ 65536) : Calls Try.prog 17 #[.int .i64 (n : Int)] w fun e w' =>
    ∃ g, e = .returned (.pointer (some ⟨g, 0, none⟩)) ∧ Turned (fun F w => Rk F w g (List.replicate n 0, [], 0)) w0 w col i w' ∧ Ext w w' :=
  (RkNew n w h2).mono fun _ _ ⟨g, he, hd, hx⟩ => ⟨g, he, ⟨C.stepE hi hx, Cols.made (X := fun F w => Rk F w g _) Rk.monoC C hi hx hd, Chg.of_ext hx⟩, hx⟩
theorem RkWriteC (C : Cols w0 w col) (hi : i ≠ 0) (hd : Rk (Fp.of col i) w g s) {H : Fp} {a : Int} {v : Value} {l : List UInt8} (hr : RdF H w v (l.map B)) (ha : H.apart (Fp.of col i)) (hH : H.isIn w)
    (hb : s.1.length ≤ 65536) (hw : s.2.1.length ≤ 1000000000) :
    Calls Try.prog 26 #[.pointer (some ⟨g, 0, none⟩), .int .i64 a, v] w fun e w' => e = .returned (.int .i64 (wrE s.1.length a l.length)) ∧ Turned (fun F w => Rk F w g (wrD s a l)) w0 w col i w' :=
  (RkWrite _ H g s a v l w hd hr ha hH hb hw).mono fun _ _ ⟨he, hd, hc⟩ => ⟨he, C.step hi hc, Cols.own (X := fun F w => Rk F w g _) Rk.monoC C hi hc hd, hc⟩
theorem RkSyncC (C : Cols w0 w col) (hi : i ≠ 0) (hd : Rk (Fp.of col i) w g s) (hw : s.2.1.length ≤ 1000000000) (hn0 : 0 ≤ s.2.2) (hn1 : s.2.2 ≤ 1000000000) :
    Calls Try.prog 27 #[.pointer (some ⟨g, 0, none⟩)] w fun e w' => e = .returned (.tuple #[]) ∧ Turned (fun F w => Rk F w g (syD s)) w0 w col i w' :=
  (RkSync _ g s w hd hw hn0 hn1).mono fun _ _ ⟨he, hd, hc⟩ => ⟨he, C.step hi hc, Cols.own' (X := fun F w => Rk F w g _) Rk.monoC C hi hc hd, hc⟩
theorem RkCrashC (C : Cols w0 w col) (hi : i ≠ 0) (hd : Rk (Fp.of col i) w g s) (k : Int) (hw : s.2.1.length ≤ 1000000000) :
    Calls Try.prog 28 #[.pointer (some ⟨g, 0, none⟩), .int .i64 k] w fun e w' => e = .returned (.tuple #[]) ∧ Turned (fun F w => Rk F w g (crD s k)) w0 w col i w' :=
  (RkCrash _ g s k w hd hw).mono fun _ _ ⟨he, hd, hc⟩ => ⟨he, C.step hi hc, Cols.own' (X := fun F w => Rk F w g _) Rk.monoC C hi hc hd, hc⟩

/-- What only made memory leaves a disk as it was. -/
theorem Dk.ext {F : Fp} {w w' : World} (h : Dk F w g s) (hx : Ext w w') : Dk F w' g s := Dk.chg (G := fun _ => False) h (Chg.of_ext hx) (fun _ _ h => h)
theorem Rk.ext {F : Fp} {w w' : World} (h : Rk F w g s) (hx : Ext w w') : Rk F w' g s := Rk.chg (G := fun _ => False) h (Chg.of_ext hx) (fun _ _ h => h)
/-- What is newer than the colours is nobody's. -/
theorem Cols.new_apart (C : Cols w0 w col) (hi : i ≠ 0) {w' : World} : Fp.apart (fun k => w.heap.size ≤ k ∧ k < w'.heap.size) (Fp.of col i) := fun k hk hc => by
  have := C.isIn k (by rw [show col k = i from hc]; exact hi)
  omega
theorem new_in {w w' : World} : Fp.isIn (fun k => w.heap.size ≤ k ∧ k < w'.heap.size) w' := fun _ hk => hk.2
end

end Go.Proofs.Ytkoppdhmbhgnfaa
