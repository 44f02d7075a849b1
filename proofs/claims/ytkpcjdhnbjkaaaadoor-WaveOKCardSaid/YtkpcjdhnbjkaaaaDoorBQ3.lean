/- Texts that the proof of B rests on, one behind the other. -/
import Derived.Test.YtkpcjdhnbjkaaaaDoorBQ1
import Derived.WalkKit
import Derived.Deep.AppendLies
import Derived.Deep.Draws
import Derived.Maps.AppendAt
import Derived.Lib.Hide
import Derived.Lib.AppendStr
import Derived.ProofKit
import Derived.OpenShut
import Derived.SizedLaws
import Derived.Carry
import Derived.ChangeMaps5
import Derived.Deep.Matrix
import Derived.Deep.Slices
import Derived.Deep.Fields
import Derived.ChangeSame
import Derived.Laws.Tables
import Derived.Laws.CopyOwn

/- Words for memory that all of this family's texts use: a byte as a cell, a slice of bytes or numbers that the call owns, a slice that reads as a list. No program is named here. -/
namespace Go.Proofs.YtkpcjdhnbjkaaaaDoor
open Go.RowKit

/-- A byte as a cell; a number as a cell. -/
abbrev B (u : UInt8) : Value := .int .u8 (u.toNat : Int)
abbrev I (n : Int) : Value := .int .i64 n

theorem B_eq {n : Int} {u : UInt8} (h : n = (u.toNat : Int)) : Value.int .u8 n = B u := by rw [h]

theorem bytes_oneCell (l : List UInt8) : ∀ u ∈ l.map B, u.oneCell' = true := by
  intro u hu
  obtain ⟨_, _, rfl⟩ := List.mem_map.1 hu
  rfl

theorem one_oneCell_u8 (n : Int) : ∀ u ∈ [Value.int .u8 n], u.oneCell' = true := by simp [Value.oneCell']
theorem one_oneCell_i64 (n : Int) : ∀ u ∈ [Value.int .i64 n], u.oneCell' = true := by simp [Value.oneCell']

/-- 'Ext w w'': all blocks that w has stand in w' as they were. -/
abbrev Ext (w w' : World) : Prop := Below w.heap.size w w'

theorem Ext.refl (w : World) : Ext w w := Below.refl _ _
theorem Ext.trans {a b c : World} (h : Ext a b) (k : Ext b c) : Ext a c := Below.trans h (k.mono h.size)

theorem Below.drewN' {B : Nat} {a w : World} (h : Below B a w) (n : Nat) : Below B a (w.drewN n) := ⟨h.os, h.tape, h.output, h.size, h.block⟩

theorem bcell {W w1 : World} (hb : Below W.heap.size W w1) : (∀ b o, b < W.heap.size → w1.cell? ⟨b, o, none⟩ = W.cell? ⟨b, o, none⟩) ∧ (∀ b o, b < W.heap.size → w1.frozen? ⟨b, o, none⟩ = W.frozen? ⟨b, o, none⟩) :=
  ⟨fun b o h => hb.cell (p := ⟨b, o, none⟩) h, fun b o h => hb.frozen (p := ⟨b, o, none⟩) h⟩

/-! ### A slice that reads as a list -/
theorem block_of_add (a : Addr) (n : Nat) : (a.add n).block = a.block := by unfold Addr.add; split <;> rfl
theorem add_of_add (a : Addr) (i j : Nat) : (a.add i).add j = a.add (i + j) := by
  unfold Addr.add
  by_cases hi : i = 0 <;> by_cases hj : j = 0 <;> simp [hi, hj, Nat.add_assoc]

/-- The slice value v reads in w as the cells xs (one cell each), below block w.heap.size. -/
def Rd (w : World) (v : Value) (xs : List Value) : Prop :=
  ∃ A c, v = .slice A xs.length c ∧ xs.length ≤ c ∧ c ≤ maxLen ∧ (0 < xs.length → ∃ b o, A = some ⟨b, o, none⟩ ∧ b < w.heap.size ∧ ∀ j u, xs[j]? = some u → w.cell? ⟨b, o + j, none⟩ = some u)

section
variable {w w' : World} {v : Value} {xs : List Value}
theorem Rd.nil (w : World) : Rd w (.slice none 0 0) [] := ⟨none, 0, rfl, Nat.le_refl _, Nat.zero_le _, fun h => absurd h (by simp)⟩
theorem Rd.ext (h : Rd w v xs) (hb : Ext w w') : Rd w' v xs := by
  obtain ⟨A, c, e, h1, h2, h3⟩ := h
  refine ⟨A, c, e, h1, h2, fun hn => ?_⟩
  obtain ⟨b, o, hA, hlt, hc⟩ := h3 hn
  exact ⟨b, o, hA, Nat.lt_of_lt_of_le hlt hb.size, fun j u hu => (hb.cell (p := ⟨b, o + j, none⟩) hlt).trans (hc j u hu)⟩
theorem Rd.own {base : Nat} {e : TypeId} {n : Nat} (h : w.ownsRow base e 1 v n xs) : Rd w v xs := by
  have hl : xs.length = n := by simpa using h.1
  subst hl
  rcases h.2 with ⟨rfl, h0⟩ | ⟨g, cap, cur, rfl, hg, hh, hn, hcap, hs, ht⟩
  · exact ⟨none, 0, by rw [h0], by omega, Nat.zero_le _, fun hn => absurd hn (by omega)⟩
  · refine ⟨some ⟨g, 0, none⟩, cap, rfl, hn, hcap, fun _ => ⟨g, 0, rfl, (Array.getElem?_eq_some_iff.1 hh).1, fun j u hu => ?_⟩⟩
    have := h.cells (g := g) rfl j u hu
    rwa [Addr.add_lit] at this
end

/-! ### Appending one value to a row of the call's own -/
/-- What an append to a row of the call's own leaves: the row holds xs; of what was there nothing else has turned. -/
def Grew (base : Nat) (e : TypeId) (v : Value) (w : World) (xs : List Value) (v' : Value) (w' : World) : Prop :=
  w'.ownsRow base e 1 v' xs.length xs ∧ w.grownBy w' v.ownBlock ∧ (v'.ownBlock = v.ownBlock ∨ ∀ k, v'.ownBlock = some k → w.heap.size ≤ k)

section
variable {base : Nat} {e : TypeId} {v v' v'' : Value} {w w' w'' : World} {xs ys : List Value}
theorem Grew.start {n : Nat} (h : w.ownsRow base e 1 v n xs) : Grew base e v w xs v w := by
  have hl : xs.length = n := by simpa using h.1
  subst hl
  exact ⟨h, World.grownBy.refl _ _, .inl rfl⟩
theorem Grew.nil (w : World) : Grew base e (.slice none 0 0) w [] (.slice none 0 0) w := Grew.start (World.ownsRow_nil w base e 1)
theorem Grew.size (h : Grew base e v w xs v' w') : w.heap.size ≤ w'.heap.size := h.2.1.size
theorem Grew.trans (h : Grew base e v w xs v' w') (k : Grew base e v' w' ys v'' w'') : Grew base e v w ys v'' w'' := by
  obtain ⟨h1, h2, h3⟩ := h
  obtain ⟨k1, k2, k3⟩ := k
  refine ⟨k1, ⟨k2.os.trans h2.os, k2.tape.trans h2.tape, k2.output.trans h2.output, Nat.le_trans h2.size k2.size, fun j hj hne => ?_⟩, ?_⟩
  · refine (k2.block j (Nat.lt_of_lt_of_le hj h2.size) ?_).trans (h2.block j hj hne)
    rcases h3 with h3 | h3
    · rw [h3]; exact hne
    · intro he; have := h3 j he.symm; omega
  · rcases k3 with k3 | k3
    · rcases h3 with h3 | h3
      · exact .inl (k3.trans h3)
      · exact .inr fun j hj => h3 j (by rw [← k3]; exact hj)
    · exact .inr fun j hj => Nat.le_trans h2.size (k3 j hj)
theorem Grew.below (h : Grew base e v w xs v' w') (hb : base ≤ w.heap.size) (hv : ∀ k, v.ownBlock = some k → base ≤ k) : Below base w w' := (Below.refl _ _).grown h.2.1 hb hv
theorem Grew.own (h : Grew base e v w xs v' w') : w'.ownsRow base e 1 v' xs.length xs := h.1
/-- The block was made by the call itself: nil ahead, so all that was there stands. -/
theorem Grew.ext (h : Grew base e (.slice none 0 0) w xs v' w') : Ext w w' := (Below.refl _ _).grown h.2.1 (Nat.le_refl _) (fun k hk => by cases hk)
theorem Grew.rebase (h : Grew base e (.slice none 0 0) w xs v' w') : w'.ownsRow w.heap.size e 1 v' xs.length xs := by
  refine ⟨h.1.1, ?_⟩
  rcases h.1.2 with hn | ⟨g, cap, cur, rfl, hg, r⟩
  · exact .inl hn
  · refine .inr ⟨g, cap, cur, rfl, ?_, r⟩
    rcases h.2.2 with h3 | h3
    · cases h3
    · exact h3 g rfl
end

theorem wpList_push {P : Program} {w : World} {ops : Array Oper} {rest : List Oper} {o : Oper} {a : Act} {Q : Exit → Act → World → Prop} (hgd : o.guard = none) (s x : Operand) (t : TypeId)
    (ho : o.op = .call { callee := .builtin .append, args := #[s, x], argTypes := #[t, t] })
    (base : Nat) (e : TypeId) (z : Value) (bytes : Nat) (ht : P.underlying t = some (.slice e)) (hinfo : (P.info? e).map (fun i => (i.zero, i.size, i.bytes)) = some (some z, 1, bytes)) (hzs : z.cells.size = 1)
    (v : Value) (xs : List Value) (hs : a.eval s = v) (hown : w.ownsRow base e 1 v xs.length xs) (u : Value) (h1 : u.oneCell' = true)
    (hx : a.eval x = .slice (some ⟨w.heap.size, 0, none⟩) 1 1) (h63 : xs.length + 1 ≤ maxLen) (hbytes : (xs.length + 1) * bytes ≤ 140737488355328) (hbase : base ≤ w.heap.size)
    (h : ∀ v' w', Grew base e v w (xs ++ [u]) v' w' → wpList P ops Q rest (a.put o.dst v') w') : wpList P ops Q (o :: rest) a (w.alloc (.cells #[u] e)) := by
  obtain ⟨i0, hi, hz0, hz1, hz2⟩ := info_parts hinfo
  refine wpList_append_own_at _ hgd s x t ho base e i0 z 1 bytes ht hi hz0 hz1 hz2 hzs (by omega) v xs.length xs hs (hown.alloc _) ⟨w.heap.size, 0, none⟩ 1 1 [u] hx rfl (cell_one_new _ _ _) (by simpa using h1) h63 hbytes (by simp; omega) ?_
  intro v' w' hown' hgr _ hblk
  refine h v' w' ⟨by simpa using hown', ?_, ?_⟩
  · exact (World.grownBy_alloc w _ _).trans hgr
  · rcases hblk with h | h
    · exact .inl h
    · refine .inr fun k hk => ?_
      rw [h] at hk
      cases hk
      simp

/-! ### Appending a string, and what reads as a list -/
theorem strCells_B (s : ByteArray) : Lib.strCells s = s.data.toList.map B := rfl

theorem run_append_str {P : Program} (w : World) (base : Nat) (t u ty e : TypeId) (i : TypeInfo) (ht : P.underlying t = some (.slice e)) (hu : P.underlying u = some .string) (hi : P.info? e = some i) (hz : i.zero = some (.int .u8 0))
    (hsize : i.size = 1) (hby : i.bytes = 1) (v : Value) (xs : List Value) (hown : w.ownsRow base e 1 v xs.length xs) (s : ByteArray)
    (hbytes : xs.length + s.size ≤ 140737488355328) (hbase : base ≤ w.heap.size) :
    ∃ v' w', (Builtin.append_ #[t, u] ty #[v, .string s]).run P w = .ok v' w' ∧ Grew base e v w (xs ++ s.data.toList.map B) v' w' := by
  have h63 : xs.length + s.size ≤ maxLen := by unfold maxLen; omega
  obtain ⟨v', w', hr, h1, h2, _⟩ := Lib.run_append_own_string (P := P) w base t u ty e i ht hu hi hz hsize hby v _ xs hown s h63 hbytes hbase
  have hl : (xs ++ s.data.toList.map B).length = xs.length + s.size := by rw [List.length_append, List.length_map, Array.length_toList]; rfl
  refine ⟨v', w', hr, by rw [hl]; exact h1, h2, ?_⟩
  rcases hown.2 with ⟨rfl, h0⟩ | ⟨g, cap, cur, rfl, hbg, hg, hnc, hcm, hcs, htake⟩
  · have hx : xs = [] := List.eq_nil_of_length_eq_zero h0
    subst hx
    obtain ⟨v2, w2, hr2, h12, _, _⟩ := Lib.run_append_own_string (P := P) w w.heap.size t u ty e i ht hu hi hz hsize hby (.slice none 0 0) 0 [] (World.ownsRow_nil _ _ _ _) s (by unfold maxLen; simp only [List.length_nil] at hbytes; omega) (by simp only [List.length_nil] at hbytes; omega) (Nat.le_refl _)
    rw [hr2] at hr
    injection hr with e1 e2
    subst e1 e2
    exact .inr fun k hk => (h12.lt k hk).1
  · by_cases hroom : xs.length + s.size ≤ cap
    · have hr2 := Lib.run_append_room_string (P := P) w t u ty e i ht hu hi hsize g xs.length cap cur hg s hroom (by omega)
      rw [hr2] at hr
      injection hr with e1 e2
      subst e1
      exact .inl rfl
    · have holds : ∀ j u, xs[j]? = some u → w.cell? ((⟨g, 0, none⟩ : Addr).add j) = some u := hown.cells (g := g) rfl
      have hr2 := Lib.run_append_grow_string (P := P) w t u ty e i (.int .u8 0) ht hu hi hz ⟨g, 0, none⟩ xs.length cap xs (by rw [hsize]; omega) holds s (by omega) (by omega) (by rw [hby]; exact growslice_fits (by omega) (by omega))
      rw [hr2] at hr
      injection hr with e1 e2
      subst e1
      refine .inr fun k hk => ?_
      simp only [Value.ownBlock] at hk
      cases hk
      exact Nat.le_refl _

theorem wpList_appendStr {P : Program} {w : World} {ops : Array Oper} {rest : List Oper} {o : Oper} {a : Act} {Q : Exit → Act → World → Prop} (hgd : o.guard = none) (sl x : Operand) (t u : TypeId)
    (ho : o.op = .call { callee := .builtin .append, args := #[sl, x], argTypes := #[t, u] })
    (base : Nat) (e : TypeId) (ht : P.underlying t = some (.slice e)) (hu : P.underlying u = some .string) (hinfo : (P.info? e).map (fun i => (i.zero, i.size, i.bytes)) = some (some (.int .u8 0), 1, 1))
    (v : Value) (xs : List Value) (hs : a.eval sl = v) (hown : w.ownsRow base e 1 v xs.length xs) (s : ByteArray) (hx : a.eval x = .string s)
    (hbytes : xs.length + s.size ≤ 140737488355328) (hbase : base ≤ w.heap.size)
    (h : ∀ v' w', Grew base e v w (xs ++ s.data.toList.map B) v' w' → wpList P ops Q rest (a.put o.dst v') w') : wpList P ops Q (o :: rest) a w := by
  refine wpList_plain hgd fun K hK => ?_
  obtain ⟨i0, hi, hz0, hz1, hz2⟩ := info_parts hinfo
  obtain ⟨v', w', hr, h2⟩ := run_append_str (P := P) w base t u o.type e i0 ht hu hi hz0 hz1 hz2 v xs hown s hbytes hbase
  unfold Oper.wp execOp
  simp only [ho, resolve, invoke, builtin, Sem.run_bind, Sem.run_pure, Result.andThen_ok, List.map_toArray, List.map_cons, List.map_nil, hs, hx, hr]
  exact hK _ _ (h v' w' h2)

theorem run_append_nothing {P : Program} (w : World) (base : Nat) (t ty e : TypeId) (i : TypeInfo) (ht : P.underlying t = some (.slice e)) (hi : P.info? e = some i)
    (v : Value) (xs : List Value) (hown : w.ownsRow base e 1 v xs.length xs) (c : Nat) : (Builtin.append_ #[t, t] ty #[v, .slice none 0 c]).run P w = .ok v w := by
  rcases hown.2 with ⟨rfl, h0⟩ | ⟨g, cap, cur, rfl, _, _, hnc, _⟩
  · simp [Builtin.append_, run_underlying ht, sizeOf, typeInfo, hi, Builtin.lenOf, Builtin.firstCells]
  · simp [Builtin.append_, run_underlying ht, sizeOf, typeInfo, hi, Builtin.lenOf, Builtin.firstCells, hnc, storeCells]

theorem run_append_rd {P : Program} (w : World) (base : Nat) (t ty e : TypeId) (i : TypeInfo) (z : Value) (bytes : Nat) (ht : P.underlying t = some (.slice e)) (hi : P.info? e = some i) (hz : i.zero = some z)
    (hsize : i.size = 1) (hby : i.bytes = bytes) (hzs : z.cells.size = 1) (v : Value) (xs : List Value) (hown : w.ownsRow base e 1 v xs.length xs) (u : Value) (ys : List Value) (hr : Rd w u ys)
    (h1 : ∀ y ∈ ys, y.oneCell' = true) (h63 : xs.length + ys.length ≤ maxLen) (hbytes : (xs.length + ys.length) * bytes ≤ 140737488355328) (hbase : base ≤ w.heap.size) :
    ∃ v' w', (Builtin.append_ #[t, t] ty #[v, u]).run P w = .ok v' w' ∧ Grew base e v w (xs ++ ys) v' w' := by
  obtain ⟨A, c, rfl, hlc, hcm, hcell⟩ := hr
  rcases A with _ | ad
  · have h0 : ys = [] := by
      rcases Nat.eq_zero_or_pos ys.length with h | h
      · exact List.eq_nil_of_length_eq_zero h
      · obtain ⟨b, o, h, _⟩ := hcell h
        cases h
    subst h0
    exact ⟨v, w, run_append_nothing w base t ty e i ht hi v xs hown c, by simpa using Grew.start hown⟩
  · have hnews : ∀ j u, ys[j]? = some u → w.cell? (ad.add j) = some u := by
      intro j u hu
      have hp : 0 < ys.length := by
        rcases Nat.eq_zero_or_pos ys.length with h | h
        · rw [List.eq_nil_of_length_eq_zero h] at hu
          simp at hu
        · exact h
      obtain ⟨b, o, h, _, hc⟩ := hcell hp
      cases h
      rw [Addr.add_lit]
      exact hc j u hu
    obtain ⟨v', w', hrun, h2, h3, _, h5⟩ := run_append_own_at (P := P) w base t ty e i z 1 bytes ht hi hz hsize hby hzs (by omega) v _ xs hown ad ys.length c ys (by omega) hnews h1 h63 hbytes hbase
    refine ⟨v', w', hrun, by simpa using h2, h3, ?_⟩
    rcases h5 with h5 | h5
    · exact .inl h5
    · refine .inr fun k hk => ?_
      rw [h5] at hk
      cases hk
      exact Nat.le_refl _

theorem wpList_appendRd {P : Program} {w : World} {ops : Array Oper} {rest : List Oper} {o : Oper} {a : Act} {Q : Exit → Act → World → Prop} (hgd : o.guard = none) (s x : Operand) (t : TypeId)
    (ho : o.op = .call { callee := .builtin .append, args := #[s, x], argTypes := #[t, t] })
    (base : Nat) (e : TypeId) (z : Value) (bytes : Nat) (ht : P.underlying t = some (.slice e)) (hinfo : (P.info? e).map (fun i => (i.zero, i.size, i.bytes)) = some (some z, 1, bytes)) (hzs : z.cells.size = 1)
    (v : Value) (xs : List Value) (hs : a.eval s = v) (hown : w.ownsRow base e 1 v xs.length xs) (u : Value) (ys : List Value) (hx : a.eval x = u) (hr : Rd w u ys) (h1 : ∀ y ∈ ys, y.oneCell' = true)
    (h63 : xs.length + ys.length ≤ maxLen) (hbytes : (xs.length + ys.length) * bytes ≤ 140737488355328) (hbase : base ≤ w.heap.size)
    (h : ∀ v' w', Grew base e v w (xs ++ ys) v' w' → wpList P ops Q rest (a.put o.dst v') w') : wpList P ops Q (o :: rest) a w := by
  refine wpList_plain hgd fun K hK => ?_
  obtain ⟨i0, hi, hz0, hz1, hz2⟩ := info_parts hinfo
  obtain ⟨v', w', hrun, h2⟩ := run_append_rd (P := P) w base t o.type e i0 z bytes ht hi hz0 hz1 hz2 hzs v xs hown u ys hr h1 h63 hbytes hbase
  unfold Oper.wp execOp
  simp only [ho, resolve, invoke, builtin, Sem.run_bind, Sem.run_pure, Result.andThen_ok, List.map_toArray, List.map_cons, List.map_nil, hs, hx, hrun]
  exact hK _ _ (h v' w' h2)

theorem Rd.lit (w : World) (cs : Array Value) (e : TypeId) (h : cs.size ≤ maxLen) : Rd (w.alloc (.cells cs e)) (.slice (some ⟨w.heap.size, 0, none⟩) cs.size cs.size) cs.toList :=
  ⟨some ⟨w.heap.size, 0, none⟩, cs.size, by simp, by simp, by simpa using h, fun _ => ⟨w.heap.size, 0, rfl, by simp, fun j u hu => by
    rw [Nat.zero_add, cell_of_row _ _ _ cs e (0, 0) (heap_alloc_new w _)]
    simpa using hu⟩⟩
theorem Rd.litB (w : World) (l : List UInt8) (cs : Array Value) (e : TypeId) (n g : Nat) (h : l.length ≤ 4096) (hc : cs = (l.map B).toArray) (hn : n = l.length) (hg : g = w.heap.size) : Rd (w.alloc (.cells cs e)) (.slice (some ⟨g, 0, none⟩) n n) (l.map B) := by
  subst hc hn hg
  have := Rd.lit w (l.map B).toArray e (by unfold maxLen; simp; omega)
  simpa using this

theorem Rd.litI (w : World) (l : List Int) (cs : Array Value) (e : TypeId) (n g : Nat) (h : l.length ≤ 4096) (hc : cs = (l.map I).toArray) (hn : n = l.length) (hg : g = w.heap.size) : Rd (w.alloc (.cells cs e)) (.slice (some ⟨g, 0, none⟩) n n) (l.map I) := by
  subst hc hn hg
  have := Rd.lit w (l.map I).toArray e (by unfold maxLen; simp; omega)
  simpa using this

theorem own_slice {w : World} {base : Nat} {e : TypeId} {size : Nat} {v : Value} {n : Nat} {xs : List Value} (h : w.ownsRow base e size v n xs) : ∃ A c, v = .slice A n c := by
  rcases h.2 with ⟨rfl, h0⟩ | ⟨g, cap, cur, rfl, _⟩
  · exact ⟨none, 0, by rw [h0]⟩
  · exact ⟨_, _, rfl⟩
theorem Rd.slice_ {w : World} {v : Value} {xs : List Value} (h : Rd w v xs) : ∃ A c, v = .slice A xs.length c ∧ xs.length ≤ 9223372036854775807 := by
  obtain ⟨A, c, e, h1, h2, _⟩ := h
  exact ⟨A, c, e, by unfold maxLen at h2; omega⟩

/-! ### A part of what reads as a list; bytes made into a string -/
theorem Rd.cut {w : World} {A : Option Addr} {N c : Nat} {xs : List Value} (h : Rd w (.slice A N c) xs) (lo n : Nat) (hle : lo + n ≤ xs.length) :
    Rd w (.slice (if c = lo then A else A.map (fun x => x.add lo)) n (c - lo)) ((xs.drop lo).take n) := by
  obtain ⟨A', c', e, h1, h2, h3⟩ := h
  cases e
  have hl : ((xs.drop lo).take n).length = n := by rw [List.length_take, List.length_drop]; omega
  refine ⟨_, _, by rw [hl], by omega, by omega, fun hn => ?_⟩
  obtain ⟨b, o, rfl, hb, hc⟩ := h3 (by omega)
  rw [if_neg (by omega)]
  refine ⟨b, o + lo, by simp [Addr.add_lit], hb, fun j u hu => ?_⟩
  rw [List.getElem?_take] at hu
  split at hu
  · rw [List.getElem?_drop] at hu
    rw [Nat.add_assoc]
    exact hc _ u hu
  · cases hu

theorem run_conv_rd {P : Program} (w : World) (src dst e : TypeId) (hs : P.underlying src = some (.slice e)) (he : P.underlying e = some (.int .u8)) (hd : P.underlying dst = some .string)
    (u : Value) (ys : List UInt8) (hr : Rd w u (ys.map B)) : (convert src dst u).run P w = .ok (.string ⟨ys.toArray⟩) w := by
  obtain ⟨A, c, rfl, hlc, hcm, hcell⟩ := hr
  rcases A with _ | ad
  · have h0 : ys = [] := by
      rcases Nat.eq_zero_or_pos ys.length with h | h
      · exact List.eq_nil_of_length_eq_zero h
      · obtain ⟨b, o, h, _⟩ := hcell (by simpa using h)
        cases h
    subst h0
    exact run_convert_bytes_nil w src e hs he _ _ dst hd
  · rcases Nat.eq_zero_or_pos ys.length with h | h
    · have h0 := List.eq_nil_of_length_eq_zero h
      subst h0
      rw [run_convert_bytes_string w src dst e _ _ c hs he hd, run_bytesToString w _ _ c [] rfl]
      rfl
    · obtain ⟨b, o, h, hb, hc⟩ := hcell (by simpa using h)
      cases h
      have := run_convert_bytes_arg (P := P) w src e hs he b o ys.length c (ys.map fun b => (b.toNat : Int)) (by simp) (fun i hi => by
        rw [hc i (B ys[i]) (by simp [hi])]
        simp [B, List.getD, hi]) dst hd
      rw [List.length_map, this]
      have e : strOfNums (ys.map fun b => (b.toNat : Int)) = ⟨ys.toArray⟩ := by
        simp [strOfNums, Function.comp_def]
      rw [e]

theorem wpList_conv {P : Program} {w : World} {ops : Array Oper} {rest : List Oper} {o : Oper} {a : Act} {Q : Exit → Act → World → Prop} (hgd : o.guard = none) (x : Operand) (src dst e : TypeId)
    (ho : o.op = .convert src dst x) (hs : P.underlying src = some (.slice e)) (he : P.underlying e = some (.int .u8)) (hd : P.underlying dst = some .string)
    (u : Value) (ys : List UInt8) (hx : a.eval x = u) (hr : Rd w u (ys.map B))
    (h : wpList P ops Q rest (a.put o.dst (.string ⟨ys.toArray⟩)) w) : wpList P ops Q (o :: rest) a w := by
  refine wpList_plain hgd fun K hK => ?_
  have hrun := run_conv_rd (P := P) w src dst e hs he hd u ys hr
  unfold Oper.wp execOp
  simp only [ho, hx, Sem.run_bind, Sem.run_pure, Result.andThen_ok, hrun]
  exact hK _ _ h

/-! ### A block that is known whole -/
def Blk (w : World) (g : Nat) (t : TypeId) (cs : Array Value) : Prop := w.heap[g]? = some (.cells cs t (0, 0))

section
variable {w w' : World} {g : Nat} {t : TypeId} {cs : Array Value}
theorem Blk.lt (h : Blk w g t cs) : g < w.heap.size := lt_of_block h
theorem Blk.cell (h : Blk w g t cs) (i : Nat) : w.cell? ⟨g, i, none⟩ = cs[i]? := cell_of_row w g i cs t (0, 0) h
theorem Blk.frozen (h : Blk w g t cs) (i : Nat) : w.frozen? ⟨g, i, none⟩ = false := by
  unfold Blk at h
  simp [World.frozen?, h]
theorem Blk.cell1 {v : Value} (h : Blk w g t #[v]) : w.cell? ⟨g, 0, none⟩ = some v := h.cell 0
theorem Blk.new (w : World) (t : TypeId) (cs : Array Value) : Blk (w.alloc (.cells cs t)) w.heap.size t cs := heap_alloc_new w _
theorem Blk.alloc (h : Blk w g t cs) (o : Obj) : Blk (w.alloc o) g t cs := (Below.heap_alloc w o g h.lt).trans h
theorem Blk.set_ (h : Blk w g t cs) (i : Nat) (u : Value) : Blk (w.setCell ⟨g, i, none⟩ u) g t (cs.setIfInBounds i u) := by
  unfold Blk at h ⊢
  simp [World.setCell, Array.getElem?_modify, h]
theorem Blk.far (h : Blk w g t cs) {p : Addr} (hp : g ≠ p.block) (u : Value) : Blk (w.setCell p u) g t cs := (Below.heap_setCell w p u g hp).trans h
theorem Blk.below {B : Nat} (h : Blk w g t cs) (hb : Below B w w') (hg : g < B) : Blk w' g t cs := (hb.block g hg).trans h
theorem Blk.ext (h : Blk w g t cs) (hb : Ext w w') : Blk w' g t cs := h.below hb h.lt
theorem Blk.grown {row : Option Nat} (h : Blk w g t cs) (hb : w.grownBy w' row) (hg : some g ≠ row) : Blk w' g t cs := (hb.block g h.lt hg).trans h
end

end Go.Proofs.YtkpcjdhnbjkaaaaDoor

/- More words for memory: a cell of an owned row is written. No program is named here. -/
namespace Go.Proofs.YtkpcjdhnbjkaaaaDoor
open Go.RowKit

section
variable {base : Nat} {e : TypeId} {v : Value} {w w' : World} {xs : List Value}
theorem Grew.form {v' : Value} (h : Grew base e v w xs v' w') (hn : 0 < xs.length) : ∃ g cap, v' = .slice (some ⟨g, 0, none⟩) xs.length cap ∧ xs.length ≤ cap ∧ base ≤ g ∧ g < w'.heap.size := by
  rcases h.1.2 with ⟨_, h0⟩ | ⟨g, cap, cur, hv, hg, hh, hnc, _⟩
  · omega
  · exact ⟨g, cap, hv, hnc, hg, (Array.getElem?_eq_some_iff.1 hh).1⟩
theorem Grew.cellAt {g n cap : Nat} (h : Grew base e v w xs (.slice (some ⟨g, 0, none⟩) n cap) w') (j : Nat) (hj : j < xs.length) : w'.cell? ⟨g, j, none⟩ = xs[j]? := by
  have h1 := h.1
  have hl : n = xs.length := by
    rcases h1.2 with ⟨h', _⟩ | ⟨g', cap', cur, h', _⟩
    · cases h'
    · cases h'
      rfl
  subst hl
  exact h1.cellAt j (by omega)
theorem Grew.frozenAt {g n cap : Nat} (h : Grew base e v w xs (.slice (some ⟨g, 0, none⟩) n cap) w') (j : Nat) : w'.frozen? ⟨g, j, none⟩ = false := by
  have h1 := h.1
  have hl : n = xs.length := by
    rcases h1.2 with ⟨h', _⟩ | ⟨g', cap', cur, h', _⟩
    · cases h'
    · cases h'
      rfl
  subst hl
  exact h1.frozenAt j
theorem Grew.set {g n cap : Nat} (h : Grew base e v w xs (.slice (some ⟨g, 0, none⟩) n cap) w') (j : Nat) (u : Value) : Grew base e v w (xs.set j u) (.slice (some ⟨g, 0, none⟩) n cap) (w'.setCell ⟨g, j, none⟩ u) := by
  obtain ⟨h1, h2, h3⟩ := h
  have hl : n = xs.length := by
    rcases h1.2 with ⟨h', _⟩ | ⟨g', cap', cur, h', _⟩
    · cases h'
    · cases h'
      rfl
  subst hl
  have hs := h1.stored j u
  refine ⟨by rw [List.length_set]; exact hs.1, ⟨h2.os, h2.tape, h2.output, by simpa using h2.size, fun k hk hne => ?_⟩, h3⟩
  refine (hs.2.block k (Nat.lt_of_lt_of_le hk h2.size) ?_).trans (h2.block k hk hne)
  intro e
  rcases h3 with h3 | h3
  · exact hne (by rw [← h3, e]; rfl)
  · have := h3 g rfl
    cases e
    omega
end

theorem Rd.get {w : World} {A : Option Addr} {N c : Nat} {xs : List Value} (h : Rd w (.slice A N c) xs) (hn : 0 < xs.length) :
    ∃ b o, A = some ⟨b, o, none⟩ ∧ b < w.heap.size ∧ ∀ j u, xs[j]? = some u → w.cell? ⟨b, o + j, none⟩ = some u := by
  obtain ⟨A', c', e, _, _, h3⟩ := h
  cases e
  exact h3 hn
theorem Rd.sliceN {w : World} {v : Value} {xs : List Value} (h : Rd w v xs) {n : Nat} (hn : xs.length = n) : ∃ A c, v = .slice A n c ∧ n ≤ c ∧ c ≤ maxLen := by
  subst hn
  obtain ⟨A, c, e, h1, h2, _⟩ := h
  exact ⟨A, c, e, h1, h2⟩
theorem Ext.cellOf {w w' : World} (h : Ext w w') {b o : Nat} {u : Value} (hc : w.cell? ⟨b, o, none⟩ = some u) (hb : b < w.heap.size) : w'.cell? ⟨b, o, none⟩ = some u :=
  (h.cell (p := ⟨b, o, none⟩) hb).trans hc

/-- An append to what reads as a list, and has too little room: a new row. -/
theorem run_append_rd_grows {P : Program} (w : World) (t ty e : TypeId) (i : TypeInfo) (z : Value) (ht : P.underlying t = some (.slice e)) (hi : P.info? e = some i) (hz : i.zero = some z)
    (hsize : i.size = 1) (hby : i.bytes = 1) (hzs : z.cells.size = 1) (b o n c : Nat) (xs : List Value) (hv : Rd w (.slice (some ⟨b, o, none⟩) n c) xs) (u : Value) (ys : List Value) (hr : Rd w u ys)
    (hroom : c < n + ys.length) (hbytes : xs.length + ys.length ≤ 140737488355328) :
    ∃ v' w', (Builtin.append_ #[t, t] ty #[.slice (some ⟨b, o, none⟩) n c, u]).run P w = .ok v' w' ∧ Grew w.heap.size e (.slice none 0 0) w (xs ++ ys) v' w' := by
  obtain ⟨A, c1, he, hn, hcm, hcx⟩ := hv
  cases he
  obtain ⟨A', c', rfl, hlc, hcm', hcell⟩ := hr
  obtain ⟨b', o', rfl, _, hc⟩ := hcell (by omega)
  have h63 : xs.length + ys.length ≤ maxLen := by unfold maxLen; omega
  have holds : ∀ j u, xs[j]? = some u → w.cell? ((⟨b, o, none⟩ : Addr).add j) = some u := by
    intro j u hu
    obtain ⟨b2, o2, h, _, hcx2⟩ := hcx (by rcases Nat.eq_zero_or_pos xs.length with h | h; (rw [List.eq_nil_of_length_eq_zero h] at hu; simp at hu); exact h)
    cases h
    rw [Addr.add_lit]
    exact hcx2 j u hu
  have hnews : ∀ j u, ys[j]? = some u → w.cell? ((⟨b', o', none⟩ : Addr).add j) = some u := by
    intro j u hu
    rw [Addr.add_lit]
    exact hc j u hu
  have hrun := run_append_grow (P := P) w t ty e i z ht hi hz ⟨b, o, none⟩ xs.length c xs (by rw [hsize]; omega) holds ⟨b', o', none⟩ ys.length c' ys (by rw [hsize]; omega) hnews hroom (by omega) (by rw [hby]; exact growslice_fits (by omega) (by omega))
  refine ⟨_, _, hrun, ⟨?_, ⟨rfl, rfl, rfl, by simp, fun k hk _ => heap_alloc_old w.drew _ hk⟩, .inr fun k hk => ?_⟩⟩
  · have hge := grownCap_ge w (xs.length + ys.length) c e
    have hcm2 : grownCap w (xs.length + ys.length) c e ≤ maxLen := grownCap_le_maxLen w (xs.length + ys.length) c e h63
    refine ⟨by rw [List.length_append]; omega, .inr ⟨w.heap.size, grownCap w (xs.length + ys.length) c e, _, by rw [List.length_append], Nat.le_refl _, heap_alloc_new w.drew _, by rw [List.length_append]; exact hge, hcm2, ?_, ?_⟩⟩
    · simp only [Array.size_append, List.size_toArray, size_zeroCells, hzs]
      omega
    · simp only [Array.toList_append, List.append_assoc]
      rw [← List.append_assoc, Nat.mul_one]
      exact List.take_left
  · simp only [Value.ownBlock] at hk
    cases hk
    exact Nat.le_refl _

theorem wpList_appendGrows {P : Program} {w : World} {ops : Array Oper} {rest : List Oper} {op : Oper} {a : Act} {Q : Exit → Act → World → Prop} (hgd : op.guard = none) (s x : Operand) (t : TypeId)
    (ho : op.op = .call { callee := .builtin .append, args := #[s, x], argTypes := #[t, t] })
    (e : TypeId) (z : Value) (ht : P.underlying t = some (.slice e)) (hinfo : (P.info? e).map (fun i => (i.zero, i.size, i.bytes)) = some (some z, 1, 1)) (hzs : z.cells.size = 1)
    (b o n c : Nat) (xs : List Value) (hs : a.eval s = .slice (some ⟨b, o, none⟩) n c) (hv : Rd w (.slice (some ⟨b, o, none⟩) n c) xs) (u : Value) (ys : List Value) (hx : a.eval x = u) (hr : Rd w u ys)
    (hroom : c < n + ys.length) (hbytes : xs.length + ys.length ≤ 140737488355328)
    (h : ∀ v' w', Grew w.heap.size e (.slice none 0 0) w (xs ++ ys) v' w' → wpList P ops Q rest (a.put op.dst v') w') : wpList P ops Q (op :: rest) a w := by
  refine wpList_plain hgd fun K hK => ?_
  obtain ⟨i0, hi, hz0, hz1, hz2⟩ := info_parts hinfo
  obtain ⟨v', w', hrun, h2⟩ := run_append_rd_grows (P := P) w t op.type e i0 z ht hi hz0 hz1 hz2 hzs b o n c xs hv u ys hr hroom hbytes
  unfold Oper.wp execOp
  simp only [ho, resolve, invoke, builtin, Sem.run_bind, Sem.run_pure, Result.andThen_ok, List.map_toArray, List.map_cons, List.map_nil, hs, hx, hrun]
  exact hK _ _ (h v' w' h2)

/-- A row that was made later is one of the call's own all the same. -/
theorem Grew.from_ext {w w1 w' : World} {e : TypeId} {xs : List Value} {v' : Value} (hx : Ext w w1) (h : Grew w1.heap.size e (.slice none 0 0) w1 xs v' w') : Grew w.heap.size e (.slice none 0 0) w xs v' w' := by
  obtain ⟨h1, h2, h3⟩ := h
  refine ⟨⟨h1.1, ?_⟩, ⟨h2.os.trans hx.os, h2.tape.trans hx.tape, h2.output.trans hx.output, Nat.le_trans hx.size h2.size, fun k hk hne => ?_⟩, .inr fun k hk => ?_⟩
  · rcases h1.2 with h | ⟨g, cap, cur, hv, hg, r⟩
    · exact .inl h
    · exact .inr ⟨g, cap, cur, hv, Nat.le_trans hx.size hg, r⟩
  · exact (h2.block k (Nat.lt_of_lt_of_le hk hx.size) hne).trans (hx.block k hk)
  · rcases h3 with h3 | h3
    · rw [h3] at hk
      cases hk
    · exact Nat.le_trans hx.size (h3 k hk)

/-! ### '[]T{}', and what is appended to it -/
theorem own_none (w : World) (e : TypeId) (g : Nat) (hg : g = w.heap.size) : (w.alloc (.cells #[] e)).ownsRow w.heap.size e 1 (.slice (some ⟨g, 0, none⟩) 0 0) ([] : List Value).length [] := by
  subst hg
  exact World.ownsRow_lit w #[] 0 (Nat.le_refl _) (by unfold maxLen; omega) rfl
theorem Grew.from_empty {w w' : World} {e : TypeId} {xs : List Value} {v' : Value} {g : Nat} (hg : g = w.heap.size) (h : Grew w.heap.size e (.slice (some ⟨g, 0, none⟩) 0 0) (w.alloc (.cells #[] e)) xs v' w') : Grew w.heap.size e (.slice none 0 0) w xs v' w' := by
  subst hg
  obtain ⟨h1, h2, h3⟩ := h
  have hx : Ext w (w.alloc (.cells #[] e)) := (Below.refl _ _).alloc (Nat.le_refl _) _
  refine ⟨h1, ⟨h2.os.trans hx.os, h2.tape.trans hx.tape, h2.output.trans hx.output, Nat.le_trans hx.size h2.size, fun k hk _ => ?_⟩, .inr fun k hk => ?_⟩
  · exact (h2.block k (Nat.lt_of_lt_of_le hk hx.size) (by simp only [Value.ownBlock]; intro e; cases e; omega)).trans (hx.block k hk)
  · rcases h3 with h3 | h3
    · rw [h3] at hk
      simp only [Value.ownBlock] at hk
      cases hk
      exact Nat.le_refl _
    · exact Nat.le_trans hx.size (h3 k hk)

end Go.Proofs.YtkpcjdhnbjkaaaaDoor

/- Words for objects that are written: which blocks a thing lies in, and which a call may have turned. No program is named here. -/
namespace Go.Proofs.YtkpcjdhnbjkaaaaDoor
open Go.RowKit

/-- A set of blocks. -/
abbrev Fp : Type := Nat → Prop
/-- Two sets that share no block. -/
def Fp.apart (F G : Fp) : Prop := ∀ k, F k → ¬ G k
/-- All blocks of the set are there. -/
def Fp.isIn (F : Fp) (w : World) : Prop := ∀ k, F k → k < w.heap.size
/-- The set, and the blocks that were made since. -/
def Fp.since (F : Fp) (w w' : World) : Fp := fun k => F k ∨ (w.heap.size ≤ k ∧ k < w'.heap.size)

/-- 'Chg F w w'': of the blocks that w has, those of F alone may have turned. -/
structure Chg (F : Fp) (w w' : World) : Prop where
  os : w'.os = w.os
  tape : w'.tape = w.tape
  output : w'.output = w.output
  size : w.heap.size ≤ w'.heap.size
  block : ∀ k, k < w.heap.size → ¬ F k → w'.heap[k]? = w.heap[k]?

section
variable {F G H : Fp} {w w' w'' : World}
theorem Fp.apart.symm (h : F.apart G) : G.apart F := fun k hg hf => h k hf hg
theorem Fp.apart.mono {F' G' : Fp} (h : F.apart G) (hf : ∀ k, F' k → F k) (hg : ∀ k, G' k → G k) : F'.apart G' := fun k h1 h2 => h k (hf k h1) (hg k h2)
theorem Fp.isIn.chg (h : F.isIn w) (hc : Chg G w w') : F.isIn w' := fun k hk => Nat.lt_of_lt_of_le (h k hk) hc.size
theorem Fp.isIn.ext (h : F.isIn w) (hc : Ext w w') : F.isIn w' := fun k hk => Nat.lt_of_lt_of_le (h k hk) hc.size
theorem Fp.isIn.since (h : F.isIn w) (hs : w.heap.size ≤ w'.heap.size) : (F.since w w').isIn w' := fun k hk => by
  rcases hk with hk | hk
  · exact Nat.lt_of_lt_of_le (h k hk) hs
  · exact hk.2
/-- What was there, and apart, stays apart of what was made since. -/
theorem Fp.apart.since (h : F.apart G) (hg : G.isIn w) : (F.since w w').apart G := fun k hk hgk => by
  rcases hk with hk | hk
  · exact h k hk hgk
  · have := hg k hgk
    omega

theorem Chg.refl (F : Fp) (w : World) : Chg F w w := ⟨rfl, rfl, rfl, Nat.le_refl _, fun _ _ _ => rfl⟩
theorem Chg.mono (h : Chg F w w') (hf : ∀ k, k < w.heap.size → F k → G k) : Chg G w w' := ⟨h.os, h.tape, h.output, h.size, fun k hk hg => h.block k hk (fun hF => hg (hf k hk hF))⟩
theorem Chg.trans (h : Chg F w w') (k : Chg G w' w'') (hg : ∀ x, x < w.heap.size → G x → F x) : Chg F w w'' :=
  ⟨k.os.trans h.os, k.tape.trans h.tape, k.output.trans h.output, Nat.le_trans h.size k.size, fun x hx hF => (k.block x (Nat.lt_of_lt_of_le hx h.size) (fun hG => hF (hg x hx hG))).trans (h.block x hx hF)⟩
theorem Chg.of_ext (h : Ext w w') : Chg F w w' := ⟨h.os, h.tape, h.output, h.size, fun k hk _ => h.block k hk⟩
/-- Only what is newer than w0 was turned: all that w0 has stands. -/
theorem Chg.ext {w0 : World} (h : Chg F w w') (hx : Ext w0 w) (hf : ∀ k, F k → w0.heap.size ≤ k) : Ext w0 w' :=
  ⟨h.os.trans hx.os, h.tape.trans hx.tape, h.output.trans hx.output, Nat.le_trans hx.size h.size, fun k hk => (h.block k (Nat.lt_of_lt_of_le hk hx.size) (fun hF => by have := hf k hF; omega)).trans (hx.block k hk)⟩
theorem Chg.of_grown {row : Option Nat} (h : w.grownBy w' row) (hr : ∀ k, row = some k → F k) : Chg F w w' :=
  ⟨h.os, h.tape, h.output, h.size, fun k hk hF => h.block k hk (fun e => hF (hr k e.symm))⟩
theorem Chg.drewN (h : Chg F w w') (n : Nat) : Chg F w (w'.drewN n) := ⟨h.os, h.tape, h.output, h.size, h.block⟩
theorem Chg.drew (h : Chg F w w') : Chg F w w'.drew := ⟨h.os, h.tape, h.output, h.size, h.block⟩
theorem Chg.alloc (h : Chg F w w') (o : Obj) : Chg F w (w'.alloc o) :=
  h.trans (G := fun _ => False) (Chg.of_ext ((Below.refl _ _).alloc (Nat.le_refl _) _)) (fun _ _ h => h.elim)
theorem Chg.setCell (h : Chg F w w') {p : Addr} {v : Value} (hp : p.block < w.heap.size → F p.block) : Chg F w (w'.setCell p v) := by
  refine ⟨h.os, h.tape, h.output, by simpa using h.size, fun k hk hF => ?_⟩
  have hne : k ≠ p.block := fun e => hF (by rw [e]; exact hp (by rw [← e]; exact hk))
  exact (Below.heap_setCell w' p v k hne).trans (h.block k hk hF)

theorem Fp.since_since {a b c : World} (h1 : a.heap.size ≤ b.heap.size) (h2 : b.heap.size ≤ c.heap.size) : ∀ k, ((F.since a b).since b c) k → F.since a c k := fun k hk => by
  rcases hk with (hk | hk) | hk
  · exact .inl hk
  · exact .inr ⟨hk.1, Nat.lt_of_lt_of_le hk.2 h2⟩
  · exact .inr ⟨Nat.le_trans h1 hk.1, hk.2⟩
theorem Chg.step (h : Chg F w w') (k : Chg (F.since w w') w' w'') : Chg F w w'' := h.trans k (fun x hx hF => by
  rcases hF with hF | hF
  · exact hF
  · omega)
theorem Fp.since_grow {a b c : World} (h2 : b.heap.size ≤ c.heap.size) : ∀ k, (F.since a b) k → F.since a c k := fun k hk => by
  rcases hk with hk | hk
  · exact .inl hk
  · exact .inr ⟨hk.1, Nat.lt_of_lt_of_le hk.2 h2⟩

/-- A slice that reads as xs and lies in the set. -/
def RdF (F : Fp) (w : World) (v : Value) (xs : List Value) : Prop :=
  ∃ A c, v = .slice A xs.length c ∧ xs.length ≤ c ∧ c ≤ maxLen ∧ (0 < xs.length → ∃ b o, A = some ⟨b, o, none⟩ ∧ b < w.heap.size ∧ F b ∧ ∀ j u, xs[j]? = some u → w.cell? ⟨b, o + j, none⟩ = some u)

theorem RdF.rd {v : Value} {xs : List Value} (h : RdF F w v xs) : Rd w v xs := by
  obtain ⟨A, c, e, h1, h2, h3⟩ := h
  refine ⟨A, c, e, h1, h2, fun hn => ?_⟩
  obtain ⟨b, o, a, hb, _, hc⟩ := h3 hn
  exact ⟨b, o, a, hb, hc⟩
/-- What lies apart of what may have turned reads as ever. -/
theorem RdF.chg {v : Value} {xs : List Value} (h : RdF F w v xs) (hc : Chg G w w') (ha : F.apart G) : RdF F w' v xs := by
  obtain ⟨A, c, e, h1, h2, h3⟩ := h
  refine ⟨A, c, e, h1, h2, fun hn => ?_⟩
  obtain ⟨b, o, a, hb, hF, hcell⟩ := h3 hn
  refine ⟨b, o, a, Nat.lt_of_lt_of_le hb hc.size, hF, fun j u hu => ?_⟩
  have h4 := hcell j u hu
  simp only [World.cell?] at h4 ⊢
  rw [hc.block b hb (ha b hF)]
  exact h4
theorem RdF.get {A : Option Addr} {N c : Nat} {xs : List Value} (h : RdF F w (.slice A N c) xs) (hn : 0 < xs.length) :
    ∃ b o, A = some ⟨b, o, none⟩ ∧ b < w.heap.size ∧ F b ∧ ∀ j u, xs[j]? = some u → w.cell? ⟨b, o + j, none⟩ = some u := by
  obtain ⟨A', c', e, _, _, h3⟩ := h
  cases e
  exact h3 hn
/-- What came in lies below the call. -/
theorem Rd.old {v : Value} {xs : List Value} (h : Rd w v xs) : RdF (fun k => k < w.heap.size) w v xs := by
  obtain ⟨A, c, e, h1, h2, h3⟩ := h
  refine ⟨A, c, e, h1, h2, fun hn => ?_⟩
  obtain ⟨b, o, a, hb, hc⟩ := h3 hn
  exact ⟨b, o, a, hb, hb, hc⟩
theorem RdF.mono {v : Value} {xs : List Value} (h : RdF F w v xs) (hf : ∀ k, F k → G k) : RdF G w v xs := by
  obtain ⟨A, c, e, h1, h2, h3⟩ := h
  refine ⟨A, c, e, h1, h2, fun hn => ?_⟩
  obtain ⟨b, o, a, hb, hF, hc⟩ := h3 hn
  exact ⟨b, o, a, hb, hf b hF, hc⟩

/-! ### Rows of an object's own: which block they lie in -/
/-- The slice v is an own row of the cells xs; it lies in the set. -/
def RowF (F : Fp) (w : World) (e : TypeId) (v : Value) (xs : List Value) : Prop := w.ownsRow 0 e 1 v xs.length xs ∧ ∀ k, v.ownBlock = some k → F k

theorem RowF.rd {e : TypeId} {v : Value} {xs : List Value} (h : RowF F w e v xs) : Rd w v xs := Rd.own h.1
theorem RowF.rdF {e : TypeId} {v : Value} {xs : List Value} (h : RowF F w e v xs) : RdF F w v xs := by
  rcases h.1.2 with ⟨hv, h0⟩ | ⟨g, cap, cur, hv, hg, hh, hn, hcap, hs, ht⟩
  · rw [hv]
    exact ⟨none, 0, by rw [h0], by omega, Nat.zero_le _, fun hn => absurd hn (by omega)⟩
  · have hF := h.2 g (by rw [hv]; rfl)
    have hr := Rd.own h.1
    obtain ⟨A, c, e1, h1, h2, h3⟩ := hr
    refine ⟨A, c, e1, h1, h2, fun hn => ?_⟩
    obtain ⟨b, o, a, hb, hc⟩ := h3 hn
    refine ⟨b, o, a, hb, ?_, hc⟩
    rw [hv] at e1
    injection e1 with eA
    rw [a] at eA
    cases eA
    exact hF
theorem RowF.mono {e : TypeId} {v : Value} {xs : List Value} (h : RowF F w e v xs) (hf : ∀ k, F k → G k) : RowF G w e v xs := ⟨h.1, fun k hk => hf k (h.2 k hk)⟩
theorem RowF.chg {e : TypeId} {v : Value} {xs : List Value} (h : RowF F w e v xs) (hc : Chg G w w') (ha : F.apart G) : RowF F w' e v xs := by
  refine ⟨⟨h.1.1, ?_⟩, h.2⟩
  rcases h.1.2 with hv | ⟨g, cap, cur, hv, hg, hh, r⟩
  · exact .inl hv
  · have hF := h.2 g (by rw [hv]; rfl)
    exact .inr ⟨g, cap, cur, hv, hg, by rw [hc.block g (Array.getElem?_eq_some_iff.1 hh).1 (ha g hF)]; exact hh, r⟩
theorem RowF.nil (F : Fp) (w : World) (e : TypeId) : RowF F w e (.slice none 0 0) [] := ⟨World.ownsRow_nil w 0 e 1, fun k hk => by cases hk⟩
/-- What a call made by itself is its own row, in the blocks made since. -/
theorem RowF.made {e : TypeId} {v : Value} {xs : List Value} (h : Grew w.heap.size e (.slice none 0 0) w xs v w') : RowF (fun k => w.heap.size ≤ k ∧ k < w'.heap.size) w' e v xs := by
  refine ⟨⟨h.1.1, ?_⟩, fun k hk => h.1.lt k hk⟩
  rcases h.1.2 with hv | ⟨g, cap, cur, hv, hg, r⟩
  · exact .inl hv
  · exact .inr ⟨g, cap, cur, hv, Nat.zero_le _, r⟩
theorem RowF.lt {e : TypeId} {v : Value} {xs : List Value} (h : RowF F w e v xs) : ∀ k, v.ownBlock = some k → k < w.heap.size := fun k hk => (h.1.lt k hk).2
/-- The row has grown by an append, or was written. -/
theorem RowF.grew {e : TypeId} {v v' : Value} {xs ys : List Value} (h : RowF F w e v xs) (hg : Grew 0 e v w ys v' w') : RowF (F.since w w') w' e v' ys ∧ Chg (fun k => v.ownBlock = some k) w w' := by
  refine ⟨⟨hg.1, fun k hk => ?_⟩, Chg.of_grown hg.2.1 (fun k hk => hk)⟩
  rcases hg.2.2 with h2 | h2
  · rw [h2] at hk
    exact .inl (h.2 k hk)
  · exact .inr ⟨h2 k hk, (hg.1.lt k hk).2⟩
end

end Go.Proofs.YtkpcjdhnbjkaaaaDoor

/- Words for an object: a block of cells, some of which hold rows of its own. No program is named here. -/
namespace Go.Proofs.YtkpcjdhnbjkaaaaDoor
open Go.RowKit

/-- A row: its elements' type and cells, its value, how many elements, the cells. -/
structure RowS where
  e : TypeId
  size : Nat
  v : Value
  n : Nat
  xs : List Value

def RowS.ok (r : RowS) (F : Fp) (w : World) : Prop := w.ownsRow 0 r.e r.size r.v r.n r.xs ∧ ∀ k, r.v.ownBlock = some k → F k

/-- Two rows share no block. -/
def RowS.apart (r s : RowS) : Prop := ∀ k, r.v.ownBlock = some k → s.v.ownBlock ≠ some k

/-- The object: block g with the cells cs; its rows; all within F. -/
structure ObjF (F : Fp) (w : World) (g : Nat) (T : TypeId) (cs : Array Value) (rows : List RowS) : Prop where
  blk : Blk w g T cs
  here : F g
  isIn : F.isIn w
  ok : ∀ r ∈ rows, r.ok F w
  off : ∀ r ∈ rows, r.v.ownBlock ≠ some g
  apart : rows.Pairwise RowS.apart

theorem RowS.apart.symm {r s : RowS} (h : r.apart s) : s.apart r := fun k hs hr => h k hr hs

section
variable {F G : Fp} {w w' : World} {g : Nat} {T : TypeId} {cs : Array Value} {rows : List RowS}

theorem RowS.ok.lt {r : RowS} (h : r.ok F w) : ∀ k, r.v.ownBlock = some k → k < w.heap.size := fun k hk => (h.1.lt k hk).2
theorem RowS.ok.chg {r : RowS} (h : r.ok F w) (hc : Chg G w w') (ha : ∀ k, r.v.ownBlock = some k → ¬ G k) : r.ok F w' := by
  refine ⟨⟨h.1.1, ?_⟩, h.2⟩
  rcases h.1.2 with hv | ⟨b, cap, cur, hv, hg, hh, x⟩
  · exact .inl hv
  · exact .inr ⟨b, cap, cur, hv, hg, by rw [hc.block b (Array.getElem?_eq_some_iff.1 hh).1 (ha b (by rw [hv]; rfl))]; exact hh, x⟩
theorem RowS.ok.mono {r : RowS} (h : r.ok F w) (hf : ∀ k, F k → G k) : r.ok G w := ⟨h.1, fun k hk => hf k (h.2 k hk)⟩

/-- What turned lies apart: the object stands. -/
theorem ObjF.chg (h : ObjF F w g T cs rows) (hc : Chg G w w') (ha : F.apart G) : ObjF F w' g T cs rows :=
  ⟨(hc.block g h.blk.lt (ha g h.here)).trans h.blk, h.here, h.isIn.chg hc, fun r hr => (h.ok r hr).chg hc (fun k hk => ha k ((h.ok r hr).2 k hk)), h.off, h.apart⟩
theorem ObjF.ext (h : ObjF F w g T cs rows) (hx : Ext w w') : ObjF F w' g T cs rows := h.chg (G := fun _ => False) (Chg.of_ext hx) (fun _ _ h => h)
theorem ObjF.mono (h : ObjF F w g T cs rows) (hf : ∀ k, F k → G k) (hi : G.isIn w) : ObjF G w g T cs rows :=
  ⟨h.blk, hf g h.here, hi, fun r hr => (h.ok r hr).mono hf, h.off, h.apart⟩
theorem ObjF.drew (h : ObjF F w g T cs rows) : ObjF F w.drew g T cs rows := ⟨h.blk, h.here, h.isIn, h.ok, h.off, h.apart⟩
/-- A field that holds no row is written. -/
theorem ObjF.setCell (h : ObjF F w g T cs rows) (j : Nat) (u : Value) : ObjF F (w.setCell ⟨g, j, none⟩ u) g T (cs.setIfInBounds j u) rows ∧ Chg F w (w.setCell ⟨g, j, none⟩ u) := by
  have hc : Chg (fun k => k = g) w (w.setCell ⟨g, j, none⟩ u) := (Chg.refl _ w).setCell (fun _ => rfl)
  refine ⟨⟨h.blk.set_ j u, h.here, h.isIn.chg hc, fun r hr => (h.ok r hr).chg hc (fun k hk e => h.off r hr (by rw [hk, e])), h.off, h.apart⟩, hc.mono fun k _ e => by rw [e]; exact h.here⟩

theorem pairwise_set {α : Type} {R : α → α → Prop} (hs : ∀ a b, R a b → R b a) {l : List α} (h : l.Pairwise R) (i : Nat) (x : α) (hx : ∀ j (hj : j < l.length), j ≠ i → R x l[j]) : (l.set i x).Pairwise R := by
  rw [List.pairwise_iff_getElem] at h ⊢
  intro a b ha hb hab
  rw [List.length_set] at ha hb
  rw [List.getElem_set, List.getElem_set]
  by_cases h1 : i = a
  · rw [if_pos h1, if_neg (by omega)]
    exact hx b hb (by omega)
  · rw [if_neg h1]
    by_cases h2 : i = b
    · rw [if_pos h2]
      exact hs _ _ (hx a ha (by omega))
    · rw [if_neg h2]
      exact h a b ha hb hab

theorem mem_set_cases {α : Type} {l : List α} {i : Nat} {x y : α} (h : y ∈ l.set i x) : y = x ∨ ∃ j, ∃ hj : j < l.length, j ≠ i ∧ y = l[j] := by
  obtain ⟨j, hj, e⟩ := List.getElem_of_mem h
  rw [List.length_set] at hj
  rw [List.getElem_set] at e
  by_cases hji : i = j
  · rw [if_pos hji] at e
    exact .inl e.symm
  · rw [if_neg hji] at e
    exact .inr ⟨j, hj, fun e => hji e.symm, e.symm⟩

/-- One row has another content, in its own block or in one made since; all else stands. -/
theorem ObjF.turn (h : ObjF F w g T cs rows) (i : Nat) (hi : i < rows.length) (r' : RowS) (hr : w'.ownsRow 0 r'.e r'.size r'.v r'.n r'.xs) (hc : Chg (fun k => (rows[i]).v.ownBlock = some k) w w')
    (hb : ∀ k, r'.v.ownBlock = some k → (rows[i]).v.ownBlock = some k ∨ w.heap.size ≤ k) : ObjF (F.since w w') w' g T cs (rows.set i r') ∧ Chg F w w' := by
  have hri := List.getElem_mem hi
  have hcF : Chg F w w' := hc.mono fun k _ hk => (h.ok _ hri).2 k hk
  have hp := h.apart
  rw [List.pairwise_iff_getElem] at hp
  have hne : ∀ j (hj : j < rows.length), j ≠ i → (rows[i]).apart rows[j] := by
    intro j hj hji
    rcases Nat.lt_or_ge j i with h1 | h1
    · exact (hp j i hj hi h1).symm
    · exact hp i j hi hj (by omega)
  have hlt : ∀ k, r'.v.ownBlock = some k → k < w'.heap.size := fun k hk => (hr.lt k hk).2
  refine ⟨⟨?_, .inl h.here, h.isIn.since hc.size, fun r hm => ?_, fun r hm => ?_, ?_⟩, hcF⟩
  · exact (hc.block g h.blk.lt (h.off _ hri)).trans h.blk
  · rcases mem_set_cases hm with rfl | ⟨j, hj, hji, rfl⟩
    · refine ⟨hr, fun k hk => ?_⟩
      rcases hb k hk with h1 | h1
      · exact .inl ((h.ok _ hri).2 k h1)
      · exact .inr ⟨h1, hlt k hk⟩
    · have hjm := List.getElem_mem hj
      exact ((h.ok _ hjm).chg hc (fun k hk => (hne j hj hji).symm k hk)).mono (fun k hk => .inl hk)
  · rcases mem_set_cases hm with rfl | ⟨j, hj, hji, rfl⟩
    · intro e
      rcases hb g e with h1 | h1
      · exact h.off _ hri h1
      · have := h.blk.lt
        omega
    · exact h.off _ (List.getElem_mem hj)
  · refine pairwise_set (fun a b hab => hab.symm) h.apart i r' (fun j hj hji k hk => ?_)
    rcases hb k hk with h1 | h1
    · exact hne j hj hji k h1
    · intro e
      have := (h.ok _ (List.getElem_mem hj)).lt k e
      omega

/-- A row has grown, or was written, by what the append laws leave. -/
theorem ObjF.grew (h : ObjF F w g T cs rows) (i : Nat) (hi : i < rows.length) {e : TypeId} {v v' : Value} {ys : List Value} (hv : (rows[i]).v = v) (hg : Grew 0 e v w ys v' w') :
    ObjF (F.since w w') w' g T cs (rows.set i ⟨e, 1, v', ys.length, ys⟩) ∧ Chg F w w' := by
  subst hv
  exact h.turn i hi ⟨e, 1, v', ys.length, ys⟩ hg.1 (Chg.of_grown hg.2.1 fun k hk => hk) (fun k hk => by
    rcases hg.2.2 with h2 | h2
    · exact .inl (by rw [← h2]; exact hk)
    · exact .inr (h2 k hk))
/-- Its field too. -/
theorem ObjF.push (h : ObjF F w g T cs rows) (i j : Nat) (hi : i < rows.length) {e : TypeId} {v v' : Value} {ys : List Value} (hv : (rows[i]).v = v) (hg : Grew 0 e v w ys v' w') :
    ObjF (F.since w w') (w'.setCell ⟨g, j, none⟩ v') g T (cs.setIfInBounds j v') (rows.set i ⟨e, 1, v', ys.length, ys⟩) ∧ Chg F w (w'.setCell ⟨g, j, none⟩ v') := by
  obtain ⟨h1, h2⟩ := h.grew i hi hv hg
  obtain ⟨h3, h4⟩ := h1.setCell j v'
  exact ⟨h3, h2.trans h4 (fun x hx hF => by
    rcases hF with hF | hF
    · exact hF
    · omega)⟩
/-- A row is given up: nil. -/
theorem ObjF.drop (h : ObjF F w g T cs rows) (i j : Nat) (_hi : i < rows.length) (e : TypeId) (size : Nat) :
    ObjF F (w.setCell ⟨g, j, none⟩ (.slice none 0 0)) g T (cs.setIfInBounds j (.slice none 0 0)) (rows.set i ⟨e, size, .slice none 0 0, 0, []⟩) ∧ Chg F w (w.setCell ⟨g, j, none⟩ (.slice none 0 0)) := by
  obtain ⟨h3, h4⟩ := h.setCell j (.slice none 0 0)
  refine ⟨⟨h3.blk, h3.here, h3.isIn, fun r hm => ?_, fun r hm => ?_, ?_⟩, h4⟩
  · rcases mem_set_cases hm with rfl | ⟨j, hj, _, rfl⟩
    · exact ⟨World.ownsRow_nil _ 0 e size, fun k hk => by cases hk⟩
    · exact h3.ok _ (List.getElem_mem hj)
  · rcases mem_set_cases hm with rfl | ⟨j, hj, _, rfl⟩
    · intro e; cases e
    · exact h3.off _ (List.getElem_mem hj)
  · exact pairwise_set (fun a b hab => hab.symm) h3.apart i _ (fun j hj hji k hk => by cases hk)
/-- A new object, over rows that were made since w0. -/
theorem ObjF.new {w0 : World} (hx : w0.heap.size ≤ w.heap.size) (cs : Array Value) (T : TypeId) (hok : ∀ r ∈ rows, r.ok (fun k => w0.heap.size ≤ k ∧ k < w.heap.size) w) (hap : rows.Pairwise RowS.apart) :
    ObjF (fun k => w0.heap.size ≤ k ∧ k < w.heap.size + 1) (w.alloc (.cells cs T)) w.heap.size T cs rows := by
  have hc : Chg (fun _ => False) w (w.alloc (.cells cs T)) := Chg.of_ext ((Below.refl _ _).alloc (Nat.le_refl _) _)
  refine ⟨Blk.new w T cs, ⟨hx, by omega⟩, fun k hk => by simp; omega, fun r hr => ?_, fun r hr e => ?_, hap⟩
  · exact ((hok r hr).chg hc (fun _ _ h => h)).mono (fun k hk => ⟨hk.1, by omega⟩)
  · have := (hok r hr).lt _ e
    omega
/-- The same object, in a later count of its blocks. -/
theorem ObjF.later {w0 : World} (h : ObjF ((F.since w0 w).since w w') w' g T cs rows) (hi : F.isIn w0) (h1 : w0.heap.size ≤ w.heap.size) (h2 : w.heap.size ≤ w'.heap.size) : ObjF (F.since w0 w') w' g T cs rows :=
  h.mono (Fp.since_since h1 h2) (hi.since (Nat.le_trans h1 h2))
/-- The same, counted from the beginning of a call. -/
theorem ObjF.pushS {w0 : World} (h : ObjF (F.since w0 w) w g T cs rows) (h0 : F.isIn w0) (hc : Chg F w0 w) (i j : Nat) (hi : i < rows.length) {e : TypeId} {v v' : Value} {ys : List Value} (hv : (rows[i]).v = v) (hg : Grew 0 e v w ys v' w') :
    ObjF (F.since w0 (w'.setCell ⟨g, j, none⟩ v')) (w'.setCell ⟨g, j, none⟩ v') g T (cs.setIfInBounds j v') (rows.set i ⟨e, 1, v', ys.length, ys⟩) ∧ Chg F w0 (w'.setCell ⟨g, j, none⟩ v') := by
  obtain ⟨h1, h2⟩ := h.push i j hi hv hg
  have hs : (w'.setCell ⟨g, j, none⟩ v').heap.size = w'.heap.size := by simp
  refine ⟨h1.mono (fun k hk => ?_) (h0.since (Nat.le_trans hc.size h2.size)), hc.step h2⟩
  rcases Fp.since_since hc.size hg.size k hk with hk | hk
  · exact .inl hk
  · exact .inr ⟨hk.1, by rw [hs]; exact hk.2⟩
end

end Go.Proofs.YtkpcjdhnbjkaaaaDoor

/- From a contract 'it returns true, and leaves all that was there' to the row of a law; and what the arguments read as. No function of the program is named here. -/
namespace Go.Proofs.YtkpcjdhnbjkaaaaDoor
open Go.ChangeShapes Go.WideShapes Go.ChangeAt Go.RowKit

theorem Grew.slice_ {base : Nat} {e : TypeId} {v v' : Value} {w w' : World} {xs : List Value} (h : Grew base e v w xs v' w') {n : Nat} (hn : xs.length = n) : ∃ A c, v' = .slice A n c := by
  subst hn
  exact own_slice h.1

/-- The first of what reads as a list. -/
theorem Rd.prefix_ {w : World} {A : Option Addr} {N c : Nat} {xs : List Value} (h : Rd w (.slice A N c) xs) (n : Nat) (hle : n ≤ xs.length) : Rd w (.slice A n c) (xs.take n) := by
  obtain ⟨A', c', e, h1, h2, h3⟩ := h
  cases e
  have hl : (xs.take n).length = n := by rw [List.length_take]; omega
  refine ⟨_, _, by rw [hl], by omega, h2, fun hn => ?_⟩
  obtain ⟨b, o, rfl, hb, hc⟩ := h3 (by omega)
  refine ⟨b, o, rfl, hb, fun j u hu => ?_⟩
  rw [List.getElem?_take] at hu
  split at hu
  · exact hc _ u hu
  · cases hu

/-- What is owned stays so while other memory is made. -/
theorem Grew.step {base : Nat} {e : TypeId} {v v' : Value} {w w' w'' : World} {xs : List Value} (h : Grew base e v w xs v' w') (hx : Ext w' w'') : Grew base e v w xs v' w'' := by
  obtain ⟨h1, h2, h3⟩ := h
  refine ⟨?_, ⟨hx.os.trans h2.os, hx.tape.trans h2.tape, hx.output.trans h2.output, Nat.le_trans h2.size hx.size, fun k hk hne => (hx.block k (Nat.lt_of_lt_of_le hk h2.size)).trans (h2.block k hk hne)⟩, h3⟩
  refine ⟨h1.1, ?_⟩
  rcases h1.2 with h | ⟨g, cap, cur, hv, hg, hh, r⟩
  · exact .inl h
  · exact .inr ⟨g, cap, cur, hv, hg, by rw [hx.block g (Array.getElem?_eq_some_iff.1 hh).1]; exact hh, r⟩

section
variable {H : Type} {enc : TypeId × Value → H} {P : Program}

theorem trodAll_stays {W W' : World} (hl : laidOutB P = true) (hb : Below W.heap.size W W') : ∀ (ts : List TypeId) (vs : List Value) (ds : List (DataW H)) (ps : List MemPlace),
    (ts.all fun t => P.readableRec t && decide (t < P.types.size)) = true → DataW.TrodAll enc P W 0 (fun _ => true) true ts vs ds ps → (∀ x ∈ ps, x.block < W.heap.size) →
    DataW.TrodAll enc P W' 0 (fun b => decide (b < W.heap.size)) true ts vs ds ps
  | [], [], [], ps, _, h, _ => h
  | t :: ts, v :: vs, d :: ds, ps, hr, ⟨p, q, h1, h2, e⟩, hlt => by
    subst e
    simp only [List.all_cons, Bool.and_eq_true, decide_eq_true_eq] at hr
    exact ⟨p, q, Below.trod hl hr.1.1 hr.1.2 h1 hb (fun x hx => hlt x (List.mem_append.2 (.inl hx))), trodAll_stays hl hb ts vs ds q hr.2 h2 (fun x hx => hlt x (List.mem_append.2 (.inr hx))), rfl⟩
  | [], _ :: _, _, _, _, h, _ => h.elim
  | [], [], _ :: _, _, _, h, _ => h.elim
  | _ :: _, [], _, _, _, h, _ => h.elim
  | _ :: _, _ :: _, [], _, _, h, _ => h.elim

theorem trodAll_len {w : World} {base : Nat} {sp : Nat → Bool} {held : Bool} : ∀ (ts : List TypeId) (vs : List Value) (ds : List (DataW H)) (ps : List MemPlace), DataW.TrodAll enc P w base sp held ts vs ds ps → ds.length = ts.length
  | [], [], [], _, _ => rfl
  | _ :: ts, _ :: vs, _ :: ds, _, ⟨_, q, _, h2, _⟩ => by rw [List.length_cons, List.length_cons, trodAll_len ts vs ds q h2]
  | [], _ :: _, _, _, h => h.elim
  | [], [], _ :: _, _, h => h.elim
  | _ :: _, [], _, _, h => h.elim
  | _ :: _, _ :: _, [], _, h => h.elim

theorem post_true {f : Func} {s : ChangeSpec} {W W' : World} {args : Array Value} {ds : List (DataW H)} {before : List MemPlace} {tb : TypeId} (hl : laidOutB P = true)
    (hp : (f.params.toList.all fun t => P.readableRec t && decide (t < P.types.size)) = true) (hres : f.resultTypes = #[tb]) (htb : P.underlying tb = some .bool) (hv : s.vars = [])
    (hW : DataW.Whole enc P f.params.toList s.vars false W args.toList ds [] before) (hs : s.fn H ds = { results := [.lit (.bool true)], args := ds }) (hx : Below W.heap.size W W') :
    s.post enc P f false true false false W args (.bool true) W' := by
  have hlt : ∀ p ∈ before, p.block < W.heap.size := fun p hp => hW.lt p hp
  have hW' := hW
  obtain ⟨p, q, hA, hV, e, _, _⟩ := hW
  have hq : q = [] := by
    rw [hv] at hV
    exact hV
  subst hq
  rw [List.append_nil] at e
  subst e
  refine ⟨ds, [], before, [] ++ [], before, [], hW', ?_, ?_, ?_, hx.frame _, fun h => by cases h⟩
  · rw [List.append_nil, hs, hres]
    exact ⟨[], [], shut_bool htb true, rfl, rfl⟩
  · rw [List.append_nil, hs]
    exact trodAll_stays hl hx _ _ _ _ hp hA hlt
  · rw [List.append_nil, hs, hv]
    rfl

/-! ### What the arguments read as -/
theorem dec_int {w : World} {base : Nat} {sp : Nat → Bool} {held : Bool} {r : Reach} {b0 : Nat} {t : TypeId} {v : Value} {d : DataW H} {ps : List MemPlace} (ht : P.underlying t = some (.int .i64)) (hval : Value.okWide P w r b0 t v) (hd : DataW.Trod enc P w base sp held t v d ps) :
    ∃ n : Int, v = .int .i64 n ∧ -9223372036854775808 ≤ n ∧ n ≤ 9223372036854775807 := by
  obtain ⟨n, rfl, _, _, hw⟩ := open_int ht hval hd
  have h1 : IntKind.i64.min = -9223372036854775808 := rfl
  have h2 : IntKind.i64.max = 9223372036854775807 := rfl
  simp only [Lit.wf, Bool.and_eq_true, decide_eq_true_eq] at hw
  exact ⟨n, rfl, by omega, by omega⟩

theorem dec_str {w : World} {base : Nat} {sp : Nat → Bool} {held : Bool} {r : Reach} {b0 : Nat} {ts : List TypeId} {ds : List (DataW H)} {j : Nat} {t : TypeId} {v : Value} {d : DataW H} {ps : List MemPlace} (ht : P.underlying t = some .string) (hval : Value.okWide P w r b0 t v)
    (hd : DataW.Trod enc P w base sp held t v d ps) (hsz : (DataW.weightsEach P ts ds).all (· ≤ reachBytes) = true) (hj : ts[j]? = some t) (hk : ds[j]? = some d) : ∃ s : ByteArray, v = .string s ∧ s.size ≤ 140737488351232 := by
  obtain ⟨s, rfl, rfl, _, _⟩ := _root_.Go.ChangeMaps.open_string ht hval hd
  have := sized_string hsz hj hk
  have e : s.data.toList.length = s.size := by rw [Array.length_toList]; rfl
  rw [e] at this
  exact ⟨s, rfl, by unfold reachBytes at this; omega⟩

theorem dec_ints {w : World} {base : Nat} {held : Bool} {r : Reach} {b0 : Nat} {ts : List TypeId} {ds : List (DataW H)} {j : Nat} {t e : TypeId} {k : IntKind} {by_ : Nat} {v : Value} {d : DataW H} {ps : List MemPlace} (ht : P.underlying t = some (.slice e)) (he : P.underlying e = some (.int k))
    (hc : P.cellsOf e = 1) (hby : P.bytesOf e = by_) (hval : Value.okWide P w r b0 t v) (hd : DataW.Trod enc P w base (fun _ => true) held t v d ps) (hsz : (DataW.weightsEach P ts ds).all (· ≤ reachBytes) = true) (hj : ts[j]? = some t) (hk : ds[j]? = some d) :
    ∃ l : List Int, Rd w v (l.map (Value.int k)) ∧ l.length * by_ ≤ 140737488351232 ∧ ∀ n ∈ l, (Lit.int k n).wf = true := by
  obtain ⟨a0, len, cap, rfl⟩ := okWide_slice ht hval
  obtain ⟨fuel, hf⟩ := hd
  rcases open_ints ht he hc hf with ⟨hcs, hx⟩ | ⟨a, len', cap', zs, hcs, _, hl, hm, hz, hx, hcell, hw⟩
  · simp [Value.cells] at hcs
    obtain ⟨rfl, rfl, rfl⟩ := hcs
    exact ⟨[], Rd.nil w, by simp, by simp⟩
  · simp [Value.cells] at hcs
    obtain ⟨rfl, rfl, rfl⟩ := hcs
    simp only [Prod.mk.injEq] at hx
    obtain ⟨rfl, rfl⟩ := hx
    simp only [if_true] at hz
    have hlen : (zs.take len).length = len := by rw [List.length_take]; omega
    refine ⟨zs.take len, ⟨some a, cap, by rw [List.length_map, hlen], by rw [List.length_map, hlen]; exact hl, hm, fun hn => ?_⟩, ?_, fun n hn => hw n (List.mem_of_mem_take hn)⟩
    · rw [List.length_map, hlen] at hn
      have h0 := hcell 0 (by omega)
      obtain ⟨b, o, spot⟩ := a
      have hspot : spot = none := by simpa [Addr.add] using World.cell?_spot h0
      subst hspot
      refine ⟨b, o, rfl, ?_, fun j u hu => ?_⟩
      · have := World.block_lt_of_cell? w _ h0
        simpa [block_of_add] using this
      · rw [List.getElem?_map] at hu
        obtain ⟨n, hn2, rfl⟩ := Option.map_eq_some_iff.1 hu
        rw [List.getElem?_take] at hn2
        split at hn2
        · have hjz : j < zs.length := (List.getElem?_eq_some_iff.1 hn2).1
          have := hcell j hjz
          rw [Addr.add_lit] at this
          rw [this]
          simp [List.getD, hn2]
        · cases hn2
    · have := sized_slice hsz hj hk ht
      rw [hby] at this
      simp only [lits, List.length_map, List.length_take, List.length_drop, reachBytes] at this
      rw [hlen]
      have hle : len ≤ min len zs.length + (zs.length - len) := by omega
      exact Nat.le_trans (Nat.mul_le_mul_right _ hle) (by omega)

theorem u8_of_wf {n : Int} (h : (Lit.int .u8 n).wf = true) : n = ((UInt8.ofNat n.toNat).toNat : Int) := by
  have h1 : IntKind.u8.min = 0 := rfl
  have h2 : IntKind.u8.max = 255 := rfl
  simp only [Lit.wf, Bool.and_eq_true, decide_eq_true_eq] at h
  simp
  omega

theorem dec_u8 {w : World} {base : Nat} {sp : Nat → Bool} {held : Bool} {r : Reach} {b0 : Nat} {t : TypeId} {v : Value} {d : DataW H} {ps : List MemPlace} (ht : P.underlying t = some (.int .u8)) (hval : Value.okWide P w r b0 t v) (hd : DataW.Trod enc P w base sp held t v d ps) :
    ∃ u : UInt8, v = B u := by
  obtain ⟨n, rfl, _, _, hw⟩ := open_int ht hval hd
  exact ⟨UInt8.ofNat n.toNat, by rw [B, ← u8_of_wf hw]⟩

theorem dec_bytes {w : World} {base : Nat} {held : Bool} {r : Reach} {b0 : Nat} {ts : List TypeId} {ds : List (DataW H)} {j : Nat} {t e : TypeId} {v : Value} {d : DataW H} {ps : List MemPlace} (ht : P.underlying t = some (.slice e)) (he : P.underlying e = some (.int .u8))
    (hc : P.cellsOf e = 1) (hby : P.bytesOf e = 1) (hval : Value.okWide P w r b0 t v) (hd : DataW.Trod enc P w base (fun _ => true) held t v d ps) (hsz : (DataW.weightsEach P ts ds).all (· ≤ reachBytes) = true) (hj : ts[j]? = some t) (hk : ds[j]? = some d) :
    ∃ l : List UInt8, Rd w v (l.map B) ∧ l.length ≤ 140737488351232 := by
  obtain ⟨l, h1, h2, h3⟩ := dec_ints ht he hc hby hval hd hsz hj hk
  refine ⟨l.map fun n => UInt8.ofNat n.toNat, ?_, by simpa using h2⟩
  have e : (l.map fun n => UInt8.ofNat n.toNat).map B = l.map (Value.int .u8) := by
    rw [List.map_map]
    refine List.map_congr_left fun n hn => ?_
    simp only [Function.comp_apply, B]
    rw [← u8_of_wf (h3 n hn)]
  rw [e]
  exact h1
end

/-- THE LAW's ROW, out of its contract. -/
theorem law_lift {C : Checked} {os : Os} {f : FuncId} {fn : Func} {s : ChangeSpec} {tb : TypeId} {H : Type} {enc : TypeId × Value → H} (own : ownKnob C.prog.godebug = none) (started : os.Started) (noInit : C.prog.inits.idxOf? f = none) (hfn : C.prog.funcs[f]? = some fn)
    (hl : laidOutB C.prog = true) (hp : (fn.params.toList.all fun t => C.prog.readableRec t && decide (t < C.prog.types.size)) = true) (hres : fn.resultTypes = #[tb]) (htb : C.prog.underlying tb = some .bool) (hv : s.vars = []) (hpv : s.plain.varTypes C.prog = [])
    (hs : ∀ ds : List (DataW H), ds.length = fn.params.toList.length → s.fn H ds = { results := [.lit (.bool true)], args := ds })
    (witness : ∃ (w : World) (tape : Tape) (i : Input), w.os = os ∧ (w.forCall tape i).Shaped C.prog ∧ i.vars = [] ∧ Input.okWide C.prog (w.forCall tape i) .any w.heap.size f i ∧
      s.pre6 enc C.prog fn [] false (w.forCall tape i).memory i.args ∧ ({} : Assume).holds C.prog (lone (Frame.enter C.prog f i.args .normal) [] (w.forCall tape i)))
    (contract : ∀ (W : World) (base : Nat) (args : Array Value) (ds : List (DataW H)) (p : List MemPlace), (∀ (j : Nat) t v, fn.params[j]? = some t → args[j]? = some v → Value.okWide C.prog W .any base t v) →
      DataW.TrodAll enc C.prog W 0 (fun _ => true) true fn.params.toList args.toList ds p → (DataW.weightsEach C.prog fn.params.toList ds).all (· ≤ reachBytes) = true →
      Calls C.prog f args W fun e W' => e = .returned (.bool true) ∧ Ext W W') :
    ReturnsInHanded {} C os f .any (s.pre6 enc C.prog fn [] false) (s.post enc C.prog fn false true false false) := by
  refine returnsInHanded_of_change_sized (C := C) own started noInit hfn witness ?_
  intro W base args ds gs before hval hW _ hsz _
  have hg : gs = [] := by
    obtain ⟨_, _, _, hV, _⟩ := hW
    rw [hv] at hV
    cases gs with
    | nil => rfl
    | cons _ _ => exact hV.elim
  subst hg
  rw [hpv, List.append_nil, List.append_nil] at hsz
  have hW' := hW
  obtain ⟨p, q, hA, _, _, _, _⟩ := hW
  have hlen := trodAll_len _ _ _ _ hA
  refine (contract W base args ds p hval hA hsz).mono fun e W' ⟨he, hx⟩ => ⟨_, he, ?_⟩
  exact post_true hl hp hres htb hv hW' (hs ds hlen) hx

end Go.Proofs.YtkpcjdhnbjkaaaaDoor

/- Words for a slice of slices of bytes. No program is named here. -/
namespace Go.Proofs.YtkpcjdhnbjkaaaaDoor
open Go.ChangeShapes Go.WideShapes Go.ChangeAt Go.RowKit

/-- The slice value v reads in w as a list of lists of bytes. -/
def RdL (w : World) (v : Value) (ls : List (List UInt8)) : Prop :=
  ∃ vs : List Value, Rd w v vs ∧ vs.length = ls.length ∧ ∀ (i : Nat) u l, vs[i]? = some u → ls[i]? = some l → Rd w u (l.map B)

theorem RdL.ext {w w' : World} {v : Value} {ls : List (List UInt8)} (h : RdL w v ls) (hb : Ext w w') : RdL w' v ls := by
  obtain ⟨vs, h1, h2, h3⟩ := h
  exact ⟨vs, h1.ext hb, h2, fun i u l hu hl => (h3 i u l hu hl).ext hb⟩
theorem RdL.nil (w : World) : RdL w (.slice none 0 0) [] := ⟨[], Rd.nil w, rfl, fun i u l hu _ => by simp at hu⟩
theorem RdL.sliceN {w : World} {v : Value} {ls : List (List UInt8)} (h : RdL w v ls) {n : Nat} (hn : ls.length = n) : ∃ A c, v = .slice A n c ∧ n ≤ c ∧ c ≤ maxLen := by
  obtain ⟨vs, h1, h2, _⟩ := h
  exact h1.sliceN (by omega)
/-- The element at a place: a cell that holds a slice, which reads as the list there. -/
theorem RdL.at {w : World} {A : Option Addr} {N c : Nat} {ls : List (List UInt8)} (h : RdL w (.slice A N c) ls) (hn : 0 < ls.length) :
    ∃ b o, A = some ⟨b, o, none⟩ ∧ b < w.heap.size ∧ ∀ j l, ls[j]? = some l → ∃ u, w.cell? ⟨b, o + j, none⟩ = some u ∧ Rd w u (l.map B) := by
  obtain ⟨vs, h1, h2, h3⟩ := h
  obtain ⟨b, o, e, hb, hc⟩ := h1.get (by omega)
  refine ⟨b, o, e, hb, fun j l hl => ?_⟩
  have hj : j < vs.length := by have := (List.getElem?_eq_some_iff.1 hl).1; omega
  have hv : vs[j]? = some vs[j] := List.getElem?_eq_getElem hj
  exact ⟨vs[j], hc j _ hv, h3 j _ l hv hl⟩

section
variable {H : Type} {enc : TypeId × Value → H} {P : Program}
theorem rd_of_trod {w : World} {base : Nat} {held : Bool} {e q : TypeId} {V : Value} {n : Nat} {x : DataW H × List MemPlace} (he : P.underlying e = some (.slice q)) (hq : P.underlying q = some (.int .u8)) (cq : P.cellsOf q = 1)
    (h : DataW.trod enc P w base (fun _ => true) held n e [V] = some x) : ∃ l : List UInt8, Rd w V (l.map B) := by
  rcases open_ints he hq cq h with ⟨hcs, _⟩ | ⟨a, len, cap, zs, hcs, _, hl, hm, hz, _, hcell, hw⟩
  · simp at hcs
    subst hcs
    exact ⟨[], Rd.nil w⟩
  · simp at hcs
    subst hcs
    simp only [if_true] at hz
    refine ⟨(zs.take len).map fun n => UInt8.ofNat n.toNat, ?_⟩
    have e : ((zs.take len).map fun n => UInt8.ofNat n.toNat).map B = (zs.take len).map (Value.int .u8) := by
      rw [List.map_map]
      refine List.map_congr_left fun n hn => ?_
      simp only [Function.comp_apply, B]
      rw [← u8_of_wf (hw n (List.mem_of_mem_take hn))]
    rw [e]
    have hlen : (zs.take len).length = len := by rw [List.length_take]; omega
    refine ⟨some a, cap, by rw [List.length_map, hlen], by rw [List.length_map, hlen]; exact hl, hm, fun hn => ?_⟩
    rw [List.length_map, hlen] at hn
    have h0 := hcell 0 (by omega)
    obtain ⟨b, o, spot⟩ := a
    have hspot : spot = none := by simpa [Addr.add] using World.cell?_spot h0
    subst hspot
    refine ⟨b, o, rfl, ?_, fun j u hu => ?_⟩
    · have := World.block_lt_of_cell? w _ h0
      simpa [block_of_add] using this
    · rw [List.getElem?_map] at hu
      obtain ⟨n, hn2, rfl⟩ := Option.map_eq_some_iff.1 hu
      rw [List.getElem?_take] at hn2
      split at hn2
      · have hjz : j < zs.length := (List.getElem?_eq_some_iff.1 hn2).1
        have := hcell j hjz
        rw [Addr.add_lit] at this
        rw [this]
        simp [List.getD, hn2]
      · cases hn2

theorem dec_rows {w : World} {base : Nat} {held : Bool} {r : Reach} {b0 : Nat} {t e q : TypeId} {v : Value} {d : DataW H} {ps : List MemPlace} (ht : P.underlying t = some (.slice e)) (he : P.underlying e = some (.slice q))
    (hq : P.underlying q = some (.int .u8)) (ce : P.cellsOf e = 1) (cq : P.cellsOf q = 1) (hval : Value.okWide P w r b0 t v) (hd : DataW.Trod enc P w base (fun _ => true) held t v d ps) :
    ∃ ls : List (List UInt8), RdL w v ls := by
  obtain ⟨a0, len, cap, rfl⟩ := okWide_slice ht hval
  obtain ⟨fuel, hf⟩ := hd
  rcases Deep.open_slice1 ht ce hf with ⟨hcs, _⟩ | ⟨a, len', cap', m, n, V, D, Pl, hcs, _, hl, hm, hmm, _, hx⟩
  · simp [Value.cells] at hcs
    obtain ⟨rfl, rfl, rfl⟩ := hcs
    exact ⟨[], RdL.nil w⟩
  · simp [Value.cells] at hcs
    obtain ⟨rfl, rfl, rfl⟩ := hcs
    simp only [if_true] at hmm
    subst hmm
    have each : ∀ i, ∃ l : List UInt8, i < m → Rd w (V i) (l.map B) := by
      intro i
      by_cases hi : i < m
      · obtain ⟨l, hl⟩ := rd_of_trod he hq cq (hx i hi).2
        exact ⟨l, fun _ => hl⟩
      · exact ⟨[], fun h => absurd h hi⟩
    have hsome : ∃ L : Nat → List UInt8, ∀ i, i < m → Rd w (V i) ((L i).map B) := ⟨fun i => (each i).choose, fun i hi => (each i).choose_spec hi⟩
    obtain ⟨L, hL⟩ := hsome
    refine ⟨(List.range len).map L, (List.range len).map V, ?_, by simp, ?_⟩
    · refine ⟨some a, m, by simp, by simpa using hl, hm, fun hn => ?_⟩
      have hn' : 0 < len := by simpa using hn
      have h0 := (hx 0 (by omega)).1
      obtain ⟨b, o, spot⟩ := a
      have hspot : spot = none := by simpa [Addr.add] using World.cell?_spot h0
      subst hspot
      refine ⟨b, o, rfl, ?_, fun j u hu => ?_⟩
      · have := World.block_lt_of_cell? w _ h0
        simpa [block_of_add] using this
      · rw [List.getElem?_map] at hu
        obtain ⟨i, hi, rfl⟩ := Option.map_eq_some_iff.1 hu
        obtain ⟨hi2, hi3⟩ := List.getElem?_eq_some_iff.1 hi
        simp at hi2 hi3
        subst hi3
        have := (hx j (by omega)).1
        rwa [Addr.add_lit] at this
    · intro i u l hu hl2
      rw [List.getElem?_map] at hu hl2
      obtain ⟨j, hj, rfl⟩ := Option.map_eq_some_iff.1 hu
      obtain ⟨j', hj', rfl⟩ := Option.map_eq_some_iff.1 hl2
      rw [hj] at hj'
      cases hj'
      obtain ⟨hi2, hi3⟩ := List.getElem?_eq_some_iff.1 hj
      simp at hi2 hi3
      exact hL j (by omega)
end

end Go.Proofs.YtkpcjdhnbjkaaaaDoor

/- Words for a slice of structs that came in: numbers, and bytes. No program is named here. -/
namespace Go.Proofs.YtkpcjdhnbjkaaaaDoor
open Go.ChangeShapes Go.WideShapes Go.ChangeAt Go.RowKit Go.Deep

section
variable {H : Type} {enc : TypeId × Value → H} {P : Program} {w : World} {base : Nat} {held : Bool}
/-- The fields of a struct that lies in memory, each of one cell. -/
theorem struct_parts {e : TypeId} {fs : Array Field} {m : Nat} {cs : List Value} {x : DataW H × List MemPlace} (he : P.underlying e = some (.struct fs)) (hone : oneCellFields P fs = true) (hC : P.cellsOf e = fs.size)
    (h : DataW.trod enc P w base (fun _ => true) held m e cs = some x) : cs.length = fs.size ∧ ∀ (j : Nat) (f : Field), fs[j]? = some f → ∃ v n y, cs[j]? = some v ∧ DataW.trod enc P w base (fun _ => true) held n f.type [v] = some y := by
  obtain ⟨ys, n, _, _, hlen, hyl, hf⟩ := DataW.trod_struct he h
  refine ⟨hlen.trans hC, fun j f hj => ?_⟩
  obtain ⟨ho, hk⟩ := hone_of hone j f hj
  have hjf : j < fs.size := (Array.getElem?_eq_some_iff.1 hj).1
  have hjc : j < cs.length := by rw [hlen, hC]; exact hjf
  have hfj := hf j f hj
  rw [ho, hk, List.drop_eq_getElem_cons hjc] at hfj
  have hjy : j < ys.length := by rw [hyl]; exact hjf
  exact ⟨cs[j], n, ys[j], List.getElem?_eq_getElem hjc, by rw [List.getElem?_eq_getElem hjy] at hfj; exact hfj⟩

/-- A slice of structs of k one-cell fields: where it lies, and that each element's fields read. -/
theorem structs_at {t e : TypeId} {fs : Array Field} {r : Reach} {b0 : Nat} {v : Value} {d : DataW H} {ps : List MemPlace} (ht : P.underlying t = some (.slice e)) (he : P.underlying e = some (.struct fs)) (hone : oneCellFields P fs = true)
    (hC : P.cellsOf e = fs.size) (h0 : 0 < fs.size) (hval : Value.okWide P w r b0 t v) (hd : DataW.Trod enc P w base (fun _ => true) held t v d ps) :
    ∃ A n c, v = .slice A n c ∧ n ≤ c ∧ c ≤ maxLen ∧ (0 < n → ∃ b o, A = some ⟨b, o, none⟩ ∧ b < w.heap.size ∧
      ∀ i, i < n → ∀ (j : Nat) (f : Field), fs[j]? = some f → ∃ u k y, w.cell? ⟨b, o + (i * fs.size + j), none⟩ = some u ∧ DataW.trod enc P w base (fun _ => true) held k f.type [u] = some y) := by
  obtain ⟨a0, len, cap, rfl⟩ := okWide_slice ht hval
  obtain ⟨fuel, hf⟩ := hd
  rcases open_slice ht hf with ⟨hcs, _⟩ | ⟨a, len', cap', m, n, D, Pl, hcs, _, hl, hm, hmm, _, hx⟩
  · simp [Value.cells] at hcs
    obtain ⟨rfl, rfl, rfl⟩ := hcs
    exact ⟨none, 0, 0, rfl, Nat.le_refl _, Nat.zero_le _, fun h => absurd h (by omega)⟩
  · simp [Value.cells] at hcs
    obtain ⟨rfl, rfl, rfl⟩ := hcs
    simp only [if_true] at hmm
    subst hmm
    have hcell : ∀ i, i < m → ∀ (j : Nat) (f : Field), fs[j]? = some f → ∃ u k y, w.cell? (a.add (i * fs.size + j)) = some u ∧ DataW.trod enc P w base (fun _ => true) held k f.type [u] = some y := by
      intro i hi j f hj
      obtain ⟨cs', hc, htr⟩ := hx i hi
      obtain ⟨hlen, hparts⟩ := struct_parts he hone hC htr
      obtain ⟨u, k, y, hu, hy⟩ := hparts j f hj
      obtain ⟨_, hcl, hat⟩ := World.cells?_some hc
      have hjf : j < fs.size := (Array.getElem?_eq_some_iff.1 hj).1
      have h1 := hat j (by rw [hC]; exact hjf)
      rw [hC, add_of_add, hu] at h1
      exact ⟨u, k, y, h1, hy⟩
    refine ⟨some a, len, m, rfl, hl, hm, fun hn0 => ?_⟩
    obtain ⟨u, _, _, hu, _⟩ := hcell 0 (by omega) 0 fs[0] (Array.getElem?_eq_getElem h0)
    obtain ⟨b, o, spot⟩ := a
    have hspot : spot = none := by simpa [Addr.add] using World.cell?_spot hu
    subst hspot
    refine ⟨b, o, rfl, ?_, fun i hi j f hj => ?_⟩
    · have := World.block_lt_of_cell? w _ hu
      simpa [block_of_add] using this
    · obtain ⟨u, k, y, h1, h2⟩ := hcell i (by omega) j f hj
      rw [Addr.add_lit] at h1
      exact ⟨u, k, y, h1, h2⟩

/-- An act: two numbers and bytes. -/
def RdActs (w : World) (v : Value) (l : List (Int × Int × List UInt8)) : Prop :=
  ∃ A c, v = .slice A l.length c ∧ l.length ≤ c ∧ c ≤ maxLen ∧ (0 < l.length → ∃ b o, A = some ⟨b, o, none⟩ ∧ b < w.heap.size ∧
    ∀ j x, l[j]? = some x → w.cell? ⟨b, o + j * 3, none⟩ = some (I x.1) ∧ w.cell? ⟨b, o + (j * 3 + 1), none⟩ = some (I x.2.1) ∧ (-9223372036854775808 ≤ x.1 ∧ x.1 ≤ 9223372036854775807) ∧ (-9223372036854775808 ≤ x.2.1 ∧ x.2.1 ≤ 9223372036854775807) ∧
      ∃ u, w.cell? ⟨b, o + (j * 3 + 2), none⟩ = some u ∧ Rd w u (x.2.2.map B))

theorem RdActs.slice_ {w : World} {v : Value} {l : List (Int × Int × List UInt8)} (h : RdActs w v l) : ∃ A c, v = .slice A l.length c ∧ l.length ≤ c ∧ c ≤ 9223372036854775807 := by
  obtain ⟨A, c, e, h1, h2, _⟩ := h
  exact ⟨A, c, e, h1, by unfold maxLen at h2; omega⟩
theorem RdActs.get {w : World} {A : Option Addr} {n c : Nat} {l : List (Int × Int × List UInt8)} (h : RdActs w (.slice A n c) l) (hn : 0 < l.length) : ∃ b o, A = some ⟨b, o, none⟩ ∧ b < w.heap.size ∧
    ∀ j x, l[j]? = some x → w.cell? ⟨b, o + j * 3, none⟩ = some (I x.1) ∧ w.cell? ⟨b, o + (j * 3 + 1), none⟩ = some (I x.2.1) ∧ (-9223372036854775808 ≤ x.1 ∧ x.1 ≤ 9223372036854775807) ∧ (-9223372036854775808 ≤ x.2.1 ∧ x.2.1 ≤ 9223372036854775807) ∧
      ∃ u, w.cell? ⟨b, o + (j * 3 + 2), none⟩ = some u ∧ Rd w u (x.2.2.map B) := by
  obtain ⟨A', c', e, _, _, h3⟩ := h
  cases e
  exact h3 hn

theorem RdActs.ext {w w' : World} {v : Value} {l : List (Int × Int × List UInt8)} (h : RdActs w v l) (hx : Ext w w') : RdActs w' v l := by
  obtain ⟨A, c, e, h1, h2, h3⟩ := h
  refine ⟨A, c, e, h1, h2, fun hn => ?_⟩
  obtain ⟨b, o, a, hb, hc⟩ := h3 hn
  refine ⟨b, o, a, Nat.lt_of_lt_of_le hb hx.size, fun j x hj => ?_⟩
  obtain ⟨e1, e2, b1, b2, u, e3, hu⟩ := hc j x hj
  exact ⟨hx.cellOf e1 hb, hx.cellOf e2 hb, b1, b2, u, hx.cellOf e3 hb, hu.ext hx⟩

theorem dec_acts {t e tb : TypeId} {fs : Array Field} {f0 f1 f2 : Field} {ti tj : TypeId} {r : Reach} {b0 : Nat} {v : Value} {d : DataW H} {ps : List MemPlace} (ht : P.underlying t = some (.slice e)) (he : P.underlying e = some (.struct fs)) (hone : oneCellFields P fs = true)
    (hC : P.cellsOf e = 3) (hfs : fs = #[f0, f1, f2]) (h0 : f0.type = ti) (h1 : f1.type = tj) (h2 : f2.type = tb) (hi : P.underlying ti = some (.int .i64)) (hj : P.underlying tj = some (.int .i64)) {q : TypeId} (hb : P.underlying tb = some (.slice q)) (hq : P.underlying q = some (.int .u8)) (cq : P.cellsOf q = 1)
    (hval : Value.okWide P w r b0 t v) (hd : DataW.Trod enc P w base (fun _ => true) held t v d ps) : ∃ l, RdActs w v l := by
  subst hfs h0 h1 h2
  obtain ⟨A, n, c, rfl, hnc, hcm, hx⟩ := structs_at ht he hone (by rw [hC]; rfl) (by simp) hval hd
  have each : ∀ i, ∃ x : Int × Int × List UInt8, 0 < n → i < n → ∀ b o, A = some ⟨b, o, none⟩ → w.cell? ⟨b, o + i * 3, none⟩ = some (I x.1) ∧ w.cell? ⟨b, o + (i * 3 + 1), none⟩ = some (I x.2.1) ∧ (-9223372036854775808 ≤ x.1 ∧ x.1 ≤ 9223372036854775807) ∧ (-9223372036854775808 ≤ x.2.1 ∧ x.2.1 ≤ 9223372036854775807) ∧
      ∃ u, w.cell? ⟨b, o + (i * 3 + 2), none⟩ = some u ∧ Rd w u (x.2.2.map B) := by
    intro i
    by_cases hn : 0 < n ∧ i < n
    · obtain ⟨b, o, rfl, _, hcell⟩ := hx hn.1
      obtain ⟨u0, k0, y0, c0, t0⟩ := hcell i hn.2 0 f0 rfl
      obtain ⟨u1, k1, y1, c1, t1⟩ := hcell i hn.2 1 f1 rfl
      obtain ⟨u2, k2, y2, c2, t2⟩ := hcell i hn.2 2 f2 rfl
      obtain ⟨z0, hz0, _, w0⟩ := DataW.trod_int hi t0
      obtain ⟨z1, hz1, _, w1⟩ := DataW.trod_int hj t1
      obtain ⟨l2, hl2⟩ := rd_of_trod hb hq cq t2
      simp only [List.cons.injEq, and_true] at hz0 hz1
      subst hz0 hz1
      have m1 : IntKind.i64.min = -9223372036854775808 := rfl
      have m2 : IntKind.i64.max = 9223372036854775807 := rfl
      simp only [Lit.wf, Bool.and_eq_true, decide_eq_true_eq] at w0 w1
      refine ⟨(z0, z1, l2), fun _ _ b' o' e => ?_⟩
      cases e
      exact ⟨c0, c1, ⟨by simp only; omega, by simp only; omega⟩, ⟨by simp only; omega, by simp only; omega⟩, u2, c2, hl2⟩
    · exact ⟨(0, 0, []), fun h1 h2 => absurd ⟨h1, h2⟩ hn⟩
  obtain ⟨L, hL⟩ : ∃ L : Nat → Int × Int × List UInt8, ∀ i, 0 < n → i < n → ∀ b o, A = some ⟨b, o, none⟩ → w.cell? ⟨b, o + i * 3, none⟩ = some (I (L i).1) ∧ w.cell? ⟨b, o + (i * 3 + 1), none⟩ = some (I (L i).2.1) ∧ (-9223372036854775808 ≤ (L i).1 ∧ (L i).1 ≤ 9223372036854775807) ∧ (-9223372036854775808 ≤ (L i).2.1 ∧ (L i).2.1 ≤ 9223372036854775807) ∧
      ∃ u, w.cell? ⟨b, o + (i * 3 + 2), none⟩ = some u ∧ Rd w u ((L i).2.2.map B) := ⟨fun i => (each i).choose, fun i => (each i).choose_spec⟩
  refine ⟨(List.range n).map L, A, c, by simp, by simpa using hnc, hcm, fun hn => ?_⟩
  have hn' : 0 < n := by simpa using hn
  obtain ⟨b, o, hA, hb1, _⟩ := hx hn'
  refine ⟨b, o, hA, hb1, fun j x hj => ?_⟩
  rw [List.getElem?_map] at hj
  obtain ⟨i, hi1, rfl⟩ := Option.map_eq_some_iff.1 hj
  obtain ⟨hi2, hi3⟩ := List.getElem?_eq_some_iff.1 hi1
  simp at hi2 hi3
  subst hi3
  exact hL j hn' hi2 b o hA
end

end Go.Proofs.YtkpcjdhnbjkaaaaDoor

/- Words for a state in memory: two slices of structs, and numbers. No program is named here. -/
namespace Go.Proofs.YtkpcjdhnbjkaaaaDoor
open Go.ChangeShapes Go.WideShapes Go.ChangeAt Go.RowKit Go.Deep

def Nd.cells (n : Nd) : List Value := [.bool n.up, .bool n.cordon, .bool n.moving, .int .i64 n.version, .int .i64 n.job]
def Jb.cells (j : Jb) : List Value := [.int .i64 j.queue, .int .i64 j.prio, .int .i64 j.least, .int .i64 j.most, .int .i64 j.work, .int .i64 j.pin, .int .i64 j.phase, .int .i64 j.inc, .int .i64 j.nodes, .int .i64 j.since, .int .i64 j.til, .int .i64 j.epoch]
def nodesC (l : List Nd) : List Value := l.flatMap Nd.cells
def jobsC (l : List Jb) : List Value := l.flatMap Jb.cells

section
variable {α : Type} {f : α → List Value} {K : Nat}
theorem flat_len (hf : ∀ x, (f x).length = K) (l : List α) : (l.flatMap f).length = l.length * K := by
  induction l with
  | nil => simp
  | cons x l ih => rw [List.flatMap_cons, List.length_append, hf, ih, List.length_cons, Nat.succ_mul]; omega
theorem flat_get (hf : ∀ x, (f x).length = K) {l : List α} {i : Nat} {x : α} (h : l[i]? = some x) (j : Nat) (hj : j < K) : (l.flatMap f)[i * K + j]? = (f x)[j]? := by
  induction l generalizing i with
  | nil => simp at h
  | cons y l ih =>
    rw [List.flatMap_cons]
    cases i with
    | zero =>
      simp only [List.getElem?_cons_zero, Option.some.injEq] at h
      subst h
      rw [Nat.zero_mul, Nat.zero_add, List.getElem?_append_left (by rw [hf]; exact hj)]
    | succ i =>
      rw [List.getElem?_cons_succ] at h
      rw [List.getElem?_append_right (by rw [hf, Nat.succ_mul]; omega), hf, ← ih h]
      congr 1
      rw [Nat.succ_mul]
      omega
theorem flat_set (hf : ∀ x, (f x).length = K) {l : List α} {i : Nat} {x y : α} (h : l[i]? = some x) (j : Nat) (hj : j < K) (u : Value) (hy : f y = (f x).set j u) : (l.set i y).flatMap f = (l.flatMap f).set (i * K + j) u := by
  induction l generalizing i with
  | nil => simp at h
  | cons z l ih =>
    cases i with
    | zero =>
      simp only [List.getElem?_cons_zero, Option.some.injEq] at h
      subst h
      rw [List.set_cons_zero, List.flatMap_cons, List.flatMap_cons, hy, Nat.zero_mul, Nat.zero_add, List.set_append_left _ _ (by rw [hf]; exact hj)]
    | succ i =>
      rw [List.getElem?_cons_succ] at h
      rw [List.set_cons_succ, List.flatMap_cons, List.flatMap_cons, ih h, List.set_append_right _ _ (by rw [hf, Nat.succ_mul]; omega), hf]
      congr 2
      rw [Nat.succ_mul]
      omega
end

theorem Nd.len (n : Nd) : n.cells.length = 5 := rfl
theorem Jb.len (j : Jb) : j.cells.length = 12 := rfl

/-- The slice v of n elements of K cells reads as the cells xs. -/
def RdS (K : Nat) (w : World) (v : Value) (n : Nat) (xs : List Value) : Prop :=
  xs.length = n * K ∧ ∃ A c, v = .slice A n c ∧ n ≤ c ∧ c ≤ maxLen ∧ (0 < n → ∃ b o, A = some ⟨b, o, none⟩ ∧ b < w.heap.size ∧ ∀ j u, xs[j]? = some u → w.cell? ⟨b, o + j, none⟩ = some u)

section
variable {K : Nat} {w w' : World} {v : Value} {n : Nat} {xs : List Value}
theorem RdS.ext (h : RdS K w v n xs) (hx : Ext w w') : RdS K w' v n xs := by
  obtain ⟨h0, A, c, e, h1, h2, h3⟩ := h
  refine ⟨h0, A, c, e, h1, h2, fun hn => ?_⟩
  obtain ⟨b, o, hA, hlt, hc⟩ := h3 hn
  exact ⟨b, o, hA, Nat.lt_of_lt_of_le hlt hx.size, fun j u hu => (hx.cell (p := ⟨b, o + j, none⟩) hlt).trans (hc j u hu)⟩
theorem RdS.slice_ (h : RdS K w v n xs) : ∃ A c, v = .slice A n c ∧ n ≤ c ∧ c ≤ 9223372036854775807 := by
  obtain ⟨_, A, c, e, h1, h2, _⟩ := h
  exact ⟨A, c, e, h1, by unfold maxLen at h2; omega⟩
theorem RdS.get {A : Option Addr} {c : Nat} (h : RdS K w (.slice A n c) n xs) (hn : 0 < n) : ∃ b o, A = some ⟨b, o, none⟩ ∧ b < w.heap.size ∧ ∀ j u, xs[j]? = some u → w.cell? ⟨b, o + j, none⟩ = some u := by
  obtain ⟨_, A', c', e, _, _, h3⟩ := h
  cases e
  exact h3 hn
theorem RdS.own {base : Nat} {e : TypeId} (h : w.ownsRow base e K v n xs) : RdS K w v n xs := by
  refine ⟨h.1, ?_⟩
  rcases h.2 with ⟨rfl, h0⟩ | ⟨g, cap, cur, rfl, hg, hh, hn, hcap, hs, ht⟩
  · exact ⟨none, 0, by rw [h0], by omega, Nat.zero_le _, fun hn => absurd hn (by omega)⟩
  · refine ⟨some ⟨g, 0, none⟩, cap, rfl, hn, hcap, fun _ => ⟨g, 0, rfl, (Array.getElem?_eq_some_iff.1 hh).1, fun j u hu => ?_⟩⟩
    have := h.cells (g := g) rfl j u hu
    rwa [Addr.add_lit] at this
end

abbrev RdNd (w : World) (v : Value) (l : List Nd) : Prop := RdS 5 w v l.length (nodesC l)
abbrev RdJb (w : World) (v : Value) (l : List Jb) : Prop := RdS 12 w v l.length (jobsC l)
/-- The cells of a node, and of a job, in memory. -/
structure NdAt (w : World) (b q : Nat) (n : Nd) : Prop where
  c0 : w.cell? ⟨b, q, none⟩ = some (.bool n.up)
  c1 : w.cell? ⟨b, q + 1, none⟩ = some (.bool n.cordon)
  c2 : w.cell? ⟨b, q + 2, none⟩ = some (.bool n.moving)
  c3 : w.cell? ⟨b, q + 3, none⟩ = some (.int .i64 n.version)
  c4 : w.cell? ⟨b, q + 4, none⟩ = some (.int .i64 n.job)
structure JbAt (w : World) (b q : Nat) (j : Jb) : Prop where
  c0 : w.cell? ⟨b, q, none⟩ = some (.int .i64 j.queue)
  c1 : w.cell? ⟨b, q + 1, none⟩ = some (.int .i64 j.prio)
  c2 : w.cell? ⟨b, q + 2, none⟩ = some (.int .i64 j.least)
  c3 : w.cell? ⟨b, q + 3, none⟩ = some (.int .i64 j.most)
  c4 : w.cell? ⟨b, q + 4, none⟩ = some (.int .i64 j.work)
  c5 : w.cell? ⟨b, q + 5, none⟩ = some (.int .i64 j.pin)
  c6 : w.cell? ⟨b, q + 6, none⟩ = some (.int .i64 j.phase)
  c7 : w.cell? ⟨b, q + 7, none⟩ = some (.int .i64 j.inc)
  c8 : w.cell? ⟨b, q + 8, none⟩ = some (.int .i64 j.nodes)
  c9 : w.cell? ⟨b, q + 9, none⟩ = some (.int .i64 j.since)
  c10 : w.cell? ⟨b, q + 10, none⟩ = some (.int .i64 j.til)
  c11 : w.cell? ⟨b, q + 11, none⟩ = some (.int .i64 j.epoch)

section
variable {w w' : World} {v : Value}
theorem NdAt.of {b q : Nat} {n : Nd} (h : ∀ j u, n.cells[j]? = some u → w.cell? ⟨b, q + j, none⟩ = some u) : NdAt w b q n := ⟨h 0 _ rfl, h 1 _ rfl, h 2 _ rfl, h 3 _ rfl, h 4 _ rfl⟩
theorem JbAt.of {b q : Nat} {n : Jb} (h : ∀ j u, n.cells[j]? = some u → w.cell? ⟨b, q + j, none⟩ = some u) : JbAt w b q n := ⟨h 0 _ rfl, h 1 _ rfl, h 2 _ rfl, h 3 _ rfl, h 4 _ rfl, h 5 _ rfl, h 6 _ rfl, h 7 _ rfl, h 8 _ rfl, h 9 _ rfl, h 10 _ rfl, h 11 _ rfl⟩
theorem NdAt.ext {b q : Nat} {n : Nd} (h : NdAt w b q n) (hx : Ext w w') (hb : b < w.heap.size) : NdAt w' b q n := ⟨hx.cellOf h.c0 hb, hx.cellOf h.c1 hb, hx.cellOf h.c2 hb, hx.cellOf h.c3 hb, hx.cellOf h.c4 hb⟩
theorem JbAt.ext {b q : Nat} {n : Jb} (h : JbAt w b q n) (hx : Ext w w') (hb : b < w.heap.size) : JbAt w' b q n :=
  ⟨hx.cellOf h.c0 hb, hx.cellOf h.c1 hb, hx.cellOf h.c2 hb, hx.cellOf h.c3 hb, hx.cellOf h.c4 hb, hx.cellOf h.c5 hb, hx.cellOf h.c6 hb, hx.cellOf h.c7 hb, hx.cellOf h.c8 hb, hx.cellOf h.c9 hb, hx.cellOf h.c10 hb, hx.cellOf h.c11 hb⟩
theorem RdNd.at {b o : Nat} {l : List Nd} (h : ∀ j u, (nodesC l)[j]? = some u → w.cell? ⟨b, o + j, none⟩ = some u) {i : Nat} {n : Nd} (hi : l[i]? = some n) : NdAt w b (o + i * 5) n :=
  NdAt.of fun j u hu => by
    have hj : j < 5 := (List.getElem?_eq_some_iff.1 hu).1
    rw [Nat.add_assoc]
    exact h _ _ ((flat_get Nd.len hi j hj).trans hu)
theorem RdJb.at {b o : Nat} {l : List Jb} (h : ∀ j u, (jobsC l)[j]? = some u → w.cell? ⟨b, o + j, none⟩ = some u) {i : Nat} {n : Jb} (hi : l[i]? = some n) : JbAt w b (o + i * 12) n :=
  JbAt.of fun j u hu => by
    have hj : j < 12 := (List.getElem?_eq_some_iff.1 hu).1
    rw [Nat.add_assoc]
    exact h _ _ ((flat_get Jb.len hi j hj).trans hu)
end

/-- A state as a value: its slices' values, its numbers. -/
def stV (vn vj : Value) (s : St) : Value := .agg #[vn, vj, .int .i64 s.goal, .int .i64 s.prior, .int .i64 s.mode, .int .i64 s.term]
def stC (vn vj : Value) (s : St) : Array Value := #[vn, vj, .int .i64 s.goal, .int .i64 s.prior, .int .i64 s.mode, .int .i64 s.term]
/-- Its slices read so. -/
structure RdSt (w : World) (vn vj : Value) (s : St) : Prop where
  nodes : RdNd w vn s.nodes
  jobs : RdJb w vj s.jobs
theorem RdSt.ext {w w' : World} {vn vj : Value} {s : St} (h : RdSt w vn vj s) (hx : Ext w w') : RdSt w' vn vj s := ⟨h.nodes.ext hx, h.jobs.ext hx⟩
def cfV (c : Cf) : Value := .agg #[.int .i64 c.nodes, .int .i64 c.queues, .int .i64 c.quota, .int .i64 c.wave, .int .i64 c.lease, .int .i64 c.retry, .int .i64 c.deadline, .int .i64 c.room, .int .i64 c.disk]
def jbV (j : Jb) : Value := .agg #[.int .i64 j.queue, .int .i64 j.prio, .int .i64 j.least, .int .i64 j.most, .int .i64 j.work, .int .i64 j.pin, .int .i64 j.phase, .int .i64 j.inc, .int .i64 j.nodes, .int .i64 j.since, .int .i64 j.til, .int .i64 j.epoch]
def ndV (n : Nd) : Value := .agg #[.bool n.up, .bool n.cordon, .bool n.moving, .int .i64 n.version, .int .i64 n.job]

/-- A state that the call made itself: rows of its own. -/
structure OwnSt (base : Nat) (tn tj : TypeId) (w : World) (vn vj : Value) (s : St) : Prop where
  nodes : w.ownsRow base tn 5 vn s.nodes.length (nodesC s.nodes)
  jobs : w.ownsRow base tj 12 vj s.jobs.length (jobsC s.jobs)
  off : ∀ k, vn.ownBlock = some k → vj.ownBlock ≠ some k
theorem OwnSt.rd {base : Nat} {tn tj : TypeId} {w : World} {vn vj : Value} {s : St} (h : OwnSt base tn tj w vn vj s) : RdSt w vn vj s := ⟨RdS.own h.nodes, RdS.own h.jobs⟩

end Go.Proofs.YtkpcjdhnbjkaaaaDoor

/- A whole struct stored into a block. No program is named here. -/
namespace Go.Proofs.YtkpcjdhnbjkaaaaDoor
open Go.RowKit

theorem wpList_storeB {P : Program} {ops : Array Oper} {rest : List Oper} {o : Oper} {a : Act} {w : World} {Q : Exit → Act → World → Prop} (hgd : o.guard = none) (ty : TypeId) (x y : Operand) (ho : o.op = .store ty x y)
    (g : Nat) (cells : Array Value) (hx : a.eval x = .pointer (some ⟨g, 0, none⟩)) (hy : a.eval y = .agg cells)
    (t : TypeId) (old : Array Value) (hg : Blk w g t old) (hi : (P.info? ty).map (·.size) = some cells.size)
    (hold : old.size = cells.size) (h1 : cells.all (·.oneCell') = true) (B : Nat) (w0 : World) (hb : Below B w0 w) (hB : B ≤ g)
    (h : ∀ w', Blk w' g t cells → Below B w0 w' → wpList P ops Q rest (a.put o.dst undef) w') : wpList P ops Q (o :: rest) a w :=
  wpList_store_row hgd ty x y ho g cells hx hy t old hg hi hold h1 (h _ (setRow_heap w g old cells t (0, 0) hg) (below_setRow hb hB cells))

end Go.Proofs.YtkpcjdhnbjkaaaaDoor
