/- Texts that the proof of OpsW rests on, one behind the other. -/
import Derived.Test.YtngenbolpnckhaaDoorOpsWQ1
import Derived.WalkKit
import Derived.Deep.AppendLies
import Derived.Deep.Draws
import Derived.Maps.AppendAt
import Derived.Lib.Hide
import Derived.Lib.AppendStr
import Derived.ProofKit
import Derived.OpenShut
import Derived.SizedLaws
import Derived.Carry
import Derived.ChangeMaps5
import Derived.Laws.PanicsMore
import Derived.Lib.Split
import Derived.Lib.AtoiTie
import Derived.Laws.Tables
import Derived.Laws.CopyOwn

/- Words for memory that all of this family's texts use: a byte as a cell, a slice of bytes or numbers that the call owns, a slice that reads as a list. No program is named here. -/
namespace Go.Proofs.YtngenbolpnckhaaDoor
open Go.RowKit

/-- A byte as a cell; a number as a cell. -/
abbrev B (u : UInt8) : Value := .int .u8 (u.toNat : Int)
abbrev I (n : Int) : Value := .int .i64 n

theorem B_eq {n : Int} {u : UInt8} (h : n = (u.toNat : Int)) : Value.int .u8 n = B u := by rw [h]

theorem bytes_oneCell (l : List UInt8) : ∀ u ∈ l.map B, u.oneCell' = true := by
  intro u hu
  obtain ⟨_, _, rfl⟩ := List.mem_map.1 hu
  rfl

theorem one_oneCell_u8 (n : Int) : ∀ u ∈ [Value.int .u8 n], u.oneCell' = true := by simp [Value.oneCell']
theorem one_oneCell_i64 (n : Int) : ∀ u ∈ [Value.int .i64 n], u.oneCell' = true := by simp [Value.oneCell']

/-- 'Ext w w'': all blocks that w has stand in w' as they were. -/
abbrev Ext (w w' : World) : Prop := Below w.heap.size w w'

theorem Ext.refl (w : World) : Ext w w := Below.refl _ _
theorem Ext.trans {a b c : World} (h : Ext a b) (k : Ext b c) : Ext a c := Below.trans h (k.mono h.size)

theorem Below.drewN' {B : Nat} {a w : World} (h : Below B a w) (n : Nat) : Below B a (w.drewN n) := ⟨h.os, h.tape, h.output, h.size, h.block⟩

theorem bcell {W w1 : World} (hb : Below W.heap.size W w1) : (∀ b o, b < W.heap.size → w1.cell? ⟨b, o, none⟩ = W.cell? ⟨b, o, none⟩) ∧ (∀ b o, b < W.heap.size → w1.frozen? ⟨b, o, none⟩ = W.frozen? ⟨b, o, none⟩) :=
  ⟨fun b o h => hb.cell (p := ⟨b, o, none⟩) h, fun b o h => hb.frozen (p := ⟨b, o, none⟩) h⟩

/-! ### A slice that reads as a list -/
theorem block_of_add (a : Addr) (n : Nat) : (a.add n).block = a.block := by unfold Addr.add; split <;> rfl
theorem add_of_add (a : Addr) (i j : Nat) : (a.add i).add j = a.add (i + j) := by
  unfold Addr.add
  by_cases hi : i = 0 <;> by_cases hj : j = 0 <;> simp [hi, hj, Nat.add_assoc]

/-- The slice value v reads in w as the cells xs (one cell each), below block w.heap.size. -/
def Rd (w : World) (v : Value) (xs : List Value) : Prop :=
  ∃ A c, v = .slice A xs.length c ∧ xs.length ≤ c ∧ c ≤ maxLen ∧ (0 < xs.length → ∃ b o, A = some ⟨b, o, none⟩ ∧ b < w.heap.size ∧ ∀ j u, xs[j]? = some u → w.cell? ⟨b, o + j, none⟩ = some u)

section
variable {w w' : World} {v : Value} {xs : List Value}
theorem Rd.nil (w : World) : Rd w (.slice none 0 0) [] := ⟨none, 0, rfl, Nat.le_refl _, Nat.zero_le _, fun h => absurd h (by simp)⟩
theorem Rd.ext (h : Rd w v xs) (hb : Ext w w') : Rd w' v xs := by
  obtain ⟨A, c, e, h1, h2, h3⟩ := h
  refine ⟨A, c, e, h1, h2, fun hn => ?_⟩
  obtain ⟨b, o, hA, hlt, hc⟩ := h3 hn
  exact ⟨b, o, hA, Nat.lt_of_lt_of_le hlt hb.size, fun j u hu => (hb.cell (p := ⟨b, o + j, none⟩) hlt).trans (hc j u hu)⟩
theorem Rd.own {base : Nat} {e : TypeId} {n : Nat} (h : w.ownsRow base e 1 v n xs) : Rd w v xs := by
  have hl : xs.length = n := by simpa using h.1
  subst hl
  rcases h.2 with ⟨rfl, h0⟩ | ⟨g, cap, cur, rfl, hg, hh, hn, hcap, hs, ht⟩
  · exact ⟨none, 0, by rw [h0], by omega, Nat.zero_le _, fun hn => absurd hn (by omega)⟩
  · refine ⟨some ⟨g, 0, none⟩, cap, rfl, hn, hcap, fun _ => ⟨g, 0, rfl, (Array.getElem?_eq_some_iff.1 hh).1, fun j u hu => ?_⟩⟩
    have := h.cells (g := g) rfl j u hu
    rwa [Addr.add_lit] at this
end

/-! ### Appending one value to a row of the call's own -/
/-- What an append to a row of the call's own leaves: the row holds xs; of what was there nothing else has turned. -/
def Grew (base : Nat) (e : TypeId) (v : Value) (w : World) (xs : List Value) (v' : Value) (w' : World) : Prop :=
  w'.ownsRow base e 1 v' xs.length xs ∧ w.grownBy w' v.ownBlock ∧ (v'.ownBlock = v.ownBlock ∨ ∀ k, v'.ownBlock = some k → w.heap.size ≤ k)

section
variable {base : Nat} {e : TypeId} {v v' v'' : Value} {w w' w'' : World} {xs ys : List Value}
theorem Grew.start {n : Nat} (h : w.ownsRow base e 1 v n xs) : Grew base e v w xs v w := by
  have hl : xs.length = n := by simpa using h.1
  subst hl
  exact ⟨h, World.grownBy.refl _ _, .inl rfl⟩
theorem Grew.nil (w : World) : Grew base e (.slice none 0 0) w [] (.slice none 0 0) w := Grew.start (World.ownsRow_nil w base e 1)
theorem Grew.size (h : Grew base e v w xs v' w') : w.heap.size ≤ w'.heap.size := h.2.1.size
theorem Grew.trans (h : Grew base e v w xs v' w') (k : Grew base e v' w' ys v'' w'') : Grew base e v w ys v'' w'' := by
  obtain ⟨h1, h2, h3⟩ := h
  obtain ⟨k1, k2, k3⟩ := k
  refine ⟨k1, ⟨k2.os.trans h2.os, k2.tape.trans h2.tape, k2.output.trans h2.output, Nat.le_trans h2.size k2.size, fun j hj hne => ?_⟩, ?_⟩
  · refine (k2.block j (Nat.lt_of_lt_of_le hj h2.size) ?_).trans (h2.block j hj hne)
    rcases h3 with h3 | h3
    · rw [h3]; exact hne
    · intro he; have := h3 j he.symm; omega
  · rcases k3 with k3 | k3
    · rcases h3 with h3 | h3
      · exact .inl (k3.trans h3)
      · exact .inr fun j hj => h3 j (by rw [← k3]; exact hj)
    · exact .inr fun j hj => Nat.le_trans h2.size (k3 j hj)
theorem Grew.below (h : Grew base e v w xs v' w') (hb : base ≤ w.heap.size) (hv : ∀ k, v.ownBlock = some k → base ≤ k) : Below base w w' := (Below.refl _ _).grown h.2.1 hb hv
theorem Grew.own (h : Grew base e v w xs v' w') : w'.ownsRow base e 1 v' xs.length xs := h.1
/-- The block was made by the call itself: nil ahead, so all that was there stands. -/
theorem Grew.ext (h : Grew base e (.slice none 0 0) w xs v' w') : Ext w w' := (Below.refl _ _).grown h.2.1 (Nat.le_refl _) (fun k hk => by cases hk)
theorem Grew.rebase (h : Grew base e (.slice none 0 0) w xs v' w') : w'.ownsRow w.heap.size e 1 v' xs.length xs := by
  refine ⟨h.1.1, ?_⟩
  rcases h.1.2 with hn | ⟨g, cap, cur, rfl, hg, r⟩
  · exact .inl hn
  · refine .inr ⟨g, cap, cur, rfl, ?_, r⟩
    rcases h.2.2 with h3 | h3
    · cases h3
    · exact h3 g rfl
end

theorem wpList_push {P : Program} {w : World} {ops : Array Oper} {rest : List Oper} {o : Oper} {a : Act} {Q : Exit → Act → World → Prop} (hgd : o.guard = none) (s x : Operand) (t : TypeId)
    (ho : o.op = .call { callee := .builtin .append, args := #[s, x], argTypes := #[t, t] })
    (base : Nat) (e : TypeId) (z : Value) (bytes : Nat) (ht : P.underlying t = some (.slice e)) (hinfo : (P.info? e).map (fun i => (i.zero, i.size, i.bytes)) = some (some z, 1, bytes)) (hzs : z.cells.size = 1)
    (v : Value) (xs : List Value) (hs : a.eval s = v) (hown : w.ownsRow base e 1 v xs.length xs) (u : Value) (h1 : u.oneCell' = true)
    (hx : a.eval x = .slice (some ⟨w.heap.size, 0, none⟩) 1 1) (h63 : xs.length + 1 ≤ maxLen) (hbytes : (xs.length + 1) * bytes ≤ 140737488355328) (hbase : base ≤ w.heap.size)
    (h : ∀ v' w', Grew base e v w (xs ++ [u]) v' w' → wpList P ops Q rest (a.put o.dst v') w') : wpList P ops Q (o :: rest) a (w.alloc (.cells #[u] e)) := by
  obtain ⟨i0, hi, hz0, hz1, hz2⟩ := info_parts hinfo
  refine wpList_append_own_at _ hgd s x t ho base e i0 z 1 bytes ht hi hz0 hz1 hz2 hzs (by omega) v xs.length xs hs (hown.alloc _) ⟨w.heap.size, 0, none⟩ 1 1 [u] hx rfl (cell_one_new _ _ _) (by simpa using h1) h63 hbytes (by simp; omega) ?_
  intro v' w' hown' hgr _ hblk
  refine h v' w' ⟨by simpa using hown', ?_, ?_⟩
  · exact (World.grownBy_alloc w _ _).trans hgr
  · rcases hblk with h | h
    · exact .inl h
    · refine .inr fun k hk => ?_
      rw [h] at hk
      cases hk
      simp

/-! ### Appending a string, and what reads as a list -/
theorem strCells_B (s : ByteArray) : Lib.strCells s = s.data.toList.map B := rfl

theorem run_append_str {P : Program} (w : World) (base : Nat) (t u ty e : TypeId) (i : TypeInfo) (ht : P.underlying t = some (.slice e)) (hu : P.underlying u = some .string) (hi : P.info? e = some i) (hz : i.zero = some (.int .u8 0))
    (hsize : i.size = 1) (hby : i.bytes = 1) (v : Value) (xs : List Value) (hown : w.ownsRow base e 1 v xs.length xs) (s : ByteArray)
    (hbytes : xs.length + s.size ≤ 140737488355328) (hbase : base ≤ w.heap.size) :
    ∃ v' w', (Builtin.append_ #[t, u] ty #[v, .string s]).run P w = .ok v' w' ∧ Grew base e v w (xs ++ s.data.toList.map B) v' w' := by
  have h63 : xs.length + s.size ≤ maxLen := by unfold maxLen; omega
  obtain ⟨v', w', hr, h1, h2, _⟩ := Lib.run_append_own_string (P := P) w base t u ty e i ht hu hi hz hsize hby v _ xs hown s h63 hbytes hbase
  have hl : (xs ++ s.data.toList.map B).length = xs.length + s.size := by rw [List.length_append, List.length_map, Array.length_toList]; rfl
  refine ⟨v', w', hr, by rw [hl]; exact h1, h2, ?_⟩
  rcases hown.2 with ⟨rfl, h0⟩ | ⟨g, cap, cur, rfl, hbg, hg, hnc, hcm, hcs, htake⟩
  · have hx : xs = [] := List.eq_nil_of_length_eq_zero h0
    subst hx
    obtain ⟨v2, w2, hr2, h12, _, _⟩ := Lib.run_append_own_string (P := P) w w.heap.size t u ty e i ht hu hi hz hsize hby (.slice none 0 0) 0 [] (World.ownsRow_nil _ _ _ _) s (by unfold maxLen; simp only [List.length_nil] at hbytes; omega) (by simp only [List.length_nil] at hbytes; omega) (Nat.le_refl _)
    rw [hr2] at hr
    injection hr with e1 e2
    subst e1 e2
    exact .inr fun k hk => (h12.lt k hk).1
  · by_cases hroom : xs.length + s.size ≤ cap
    · have hr2 := Lib.run_append_room_string (P := P) w t u ty e i ht hu hi hsize g xs.length cap cur hg s hroom (by omega)
      rw [hr2] at hr
      injection hr with e1 e2
      subst e1
      exact .inl rfl
    · have holds : ∀ j u, xs[j]? = some u → w.cell? ((⟨g, 0, none⟩ : Addr).add j) = some u := hown.cells (g := g) rfl
      have hr2 := Lib.run_append_grow_string (P := P) w t u ty e i (.int .u8 0) ht hu hi hz ⟨g, 0, none⟩ xs.length cap xs (by rw [hsize]; omega) holds s (by omega) (by omega) (by rw [hby]; exact growslice_fits (by omega) (by omega))
      rw [hr2] at hr
      injection hr with e1 e2
      subst e1
      refine .inr fun k hk => ?_
      simp only [Value.ownBlock] at hk
      cases hk
      exact Nat.le_refl _

theorem wpList_appendStr {P : Program} {w : World} {ops : Array Oper} {rest : List Oper} {o : Oper} {a : Act} {Q : Exit → Act → World → Prop} (hgd : o.guard = none) (sl x : Operand) (t u : TypeId)
    (ho : o.op = .call { callee := .builtin .append, args := #[sl, x], argTypes := #[t, u] })
    (base : Nat) (e : TypeId) (ht : P.underlying t = some (.slice e)) (hu : P.underlying u = some .string) (hinfo : (P.info? e).map (fun i => (i.zero, i.size, i.bytes)) = some (some (.int .u8 0), 1, 1))
    (v : Value) (xs : List Value) (hs : a.eval sl = v) (hown : w.ownsRow base e 1 v xs.length xs) (s : ByteArray) (hx : a.eval x = .string s)
    (hbytes : xs.length + s.size ≤ 140737488355328) (hbase : base ≤ w.heap.size)
    (h : ∀ v' w', Grew base e v w (xs ++ s.data.toList.map B) v' w' → wpList P ops Q rest (a.put o.dst v') w') : wpList P ops Q (o :: rest) a w := by
  refine wpList_plain hgd fun K hK => ?_
  obtain ⟨i0, hi, hz0, hz1, hz2⟩ := info_parts hinfo
  obtain ⟨v', w', hr, h2⟩ := run_append_str (P := P) w base t u o.type e i0 ht hu hi hz0 hz1 hz2 v xs hown s hbytes hbase
  unfold Oper.wp execOp
  simp only [ho, resolve, invoke, builtin, Sem.run_bind, Sem.run_pure, Result.andThen_ok, List.map_toArray, List.map_cons, List.map_nil, hs, hx, hr]
  exact hK _ _ (h v' w' h2)

theorem run_append_nothing {P : Program} (w : World) (base : Nat) (t ty e : TypeId) (i : TypeInfo) (ht : P.underlying t = some (.slice e)) (hi : P.info? e = some i)
    (v : Value) (xs : List Value) (hown : w.ownsRow base e 1 v xs.length xs) (c : Nat) : (Builtin.append_ #[t, t] ty #[v, .slice none 0 c]).run P w = .ok v w := by
  rcases hown.2 with ⟨rfl, h0⟩ | ⟨g, cap, cur, rfl, _, _, hnc, _⟩
  · simp [Builtin.append_, run_underlying ht, sizeOf, typeInfo, hi, Builtin.lenOf, Builtin.firstCells]
  · simp [Builtin.append_, run_underlying ht, sizeOf, typeInfo, hi, Builtin.lenOf, Builtin.firstCells, hnc, storeCells]

theorem run_append_rd {P : Program} (w : World) (base : Nat) (t ty e : TypeId) (i : TypeInfo) (z : Value) (bytes : Nat) (ht : P.underlying t = some (.slice e)) (hi : P.info? e = some i) (hz : i.zero = some z)
    (hsize : i.size = 1) (hby : i.bytes = bytes) (hzs : z.cells.size = 1) (v : Value) (xs : List Value) (hown : w.ownsRow base e 1 v xs.length xs) (u : Value) (ys : List Value) (hr : Rd w u ys)
    (h1 : ∀ y ∈ ys, y.oneCell' = true) (h63 : xs.length + ys.length ≤ maxLen) (hbytes : (xs.length + ys.length) * bytes ≤ 140737488355328) (hbase : base ≤ w.heap.size) :
    ∃ v' w', (Builtin.append_ #[t, t] ty #[v, u]).run P w = .ok v' w' ∧ Grew base e v w (xs ++ ys) v' w' := by
  obtain ⟨A, c, rfl, hlc, hcm, hcell⟩ := hr
  rcases A with _ | ad
  · have h0 : ys = [] := by
      rcases Nat.eq_zero_or_pos ys.length with h | h
      · exact List.eq_nil_of_length_eq_zero h
      · obtain ⟨b, o, h, _⟩ := hcell h
        cases h
    subst h0
    exact ⟨v, w, run_append_nothing w base t ty e i ht hi v xs hown c, by simpa using Grew.start hown⟩
  · have hnews : ∀ j u, ys[j]? = some u → w.cell? (ad.add j) = some u := by
      intro j u hu
      have hp : 0 < ys.length := by
        rcases Nat.eq_zero_or_pos ys.length with h | h
        · rw [List.eq_nil_of_length_eq_zero h] at hu
          simp at hu
        · exact h
      obtain ⟨b, o, h, _, hc⟩ := hcell hp
      cases h
      rw [Addr.add_lit]
      exact hc j u hu
    obtain ⟨v', w', hrun, h2, h3, _, h5⟩ := run_append_own_at (P := P) w base t ty e i z 1 bytes ht hi hz hsize hby hzs (by omega) v _ xs hown ad ys.length c ys (by omega) hnews h1 h63 hbytes hbase
    refine ⟨v', w', hrun, by simpa using h2, h3, ?_⟩
    rcases h5 with h5 | h5
    · exact .inl h5
    · refine .inr fun k hk => ?_
      rw [h5] at hk
      cases hk
      exact Nat.le_refl _

theorem wpList_appendRd {P : Program} {w : World} {ops : Array Oper} {rest : List Oper} {o : Oper} {a : Act} {Q : Exit → Act → World → Prop} (hgd : o.guard = none) (s x : Operand) (t : TypeId)
    (ho : o.op = .call { callee := .builtin .append, args := #[s, x], argTypes := #[t, t] })
    (base : Nat) (e : TypeId) (z : Value) (bytes : Nat) (ht : P.underlying t = some (.slice e)) (hinfo : (P.info? e).map (fun i => (i.zero, i.size, i.bytes)) = some (some z, 1, bytes)) (hzs : z.cells.size = 1)
    (v : Value) (xs : List Value) (hs : a.eval s = v) (hown : w.ownsRow base e 1 v xs.length xs) (u : Value) (ys : List Value) (hx : a.eval x = u) (hr : Rd w u ys) (h1 : ∀ y ∈ ys, y.oneCell' = true)
    (h63 : xs.length + ys.length ≤ maxLen) (hbytes : (xs.length + ys.length) * bytes ≤ 140737488355328) (hbase : base ≤ w.heap.size)
    (h : ∀ v' w', Grew base e v w (xs ++ ys) v' w' → wpList P ops Q rest (a.put o.dst v') w') : wpList P ops Q (o :: rest) a w := by
  refine wpList_plain hgd fun K hK => ?_
  obtain ⟨i0, hi, hz0, hz1, hz2⟩ := info_parts hinfo
  obtain ⟨v', w', hrun, h2⟩ := run_append_rd (P := P) w base t o.type e i0 z bytes ht hi hz0 hz1 hz2 hzs v xs hown u ys hr h1 h63 hbytes hbase
  unfold Oper.wp execOp
  simp only [ho, resolve, invoke, builtin, Sem.run_bind, Sem.run_pure, Result.andThen_ok, List.map_toArray, List.map_cons, List.map_nil, hs, hx, hrun]
  exact hK _ _ (h v' w' h2)

theorem Rd.lit (w : World) (cs : Array Value) (e : TypeId) (h : cs.size ≤ maxLen) : Rd (w.alloc (.cells cs e)) (.slice (some ⟨w.heap.size, 0, none⟩) cs.size cs.size) cs.toList :=
  ⟨some ⟨w.heap.size, 0, none⟩, cs.size, by simp, by simp, by simpa using h, fun _ => ⟨w.heap.size, 0, rfl, by simp, fun j u hu => by
    rw [Nat.zero_add, cell_of_row _ _ _ cs e (0, 0) (heap_alloc_new w _)]
    simpa using hu⟩⟩
theorem Rd.litB (w : World) (l : List UInt8) (cs : Array Value) (e : TypeId) (n g : Nat) (h : l.length ≤ 4096) (hc : cs = (l.map B).toArray) (hn : n = l.length) (hg : g = w.heap.size) : Rd (w.alloc (.cells cs e)) (.slice (some ⟨g, 0, none⟩) n n) (l.map B) := by
  subst hc hn hg
  have := Rd.lit w (l.map B).toArray e (by unfold maxLen; simp; omega)
  simpa using this

theorem Rd.litI (w : World) (l : List Int) (cs : Array Value) (e : TypeId) (n g : Nat) (h : l.length ≤ 4096) (hc : cs = (l.map I).toArray) (hn : n = l.length) (hg : g = w.heap.size) : Rd (w.alloc (.cells cs e)) (.slice (some ⟨g, 0, none⟩) n n) (l.map I) := by
  subst hc hn hg
  have := Rd.lit w (l.map I).toArray e (by unfold maxLen; simp; omega)
  simpa using this

theorem own_slice {w : World} {base : Nat} {e : TypeId} {size : Nat} {v : Value} {n : Nat} {xs : List Value} (h : w.ownsRow base e size v n xs) : ∃ A c, v = .slice A n c := by
  rcases h.2 with ⟨rfl, h0⟩ | ⟨g, cap, cur, rfl, _⟩
  · exact ⟨none, 0, by rw [h0]⟩
  · exact ⟨_, _, rfl⟩
theorem Rd.slice_ {w : World} {v : Value} {xs : List Value} (h : Rd w v xs) : ∃ A c, v = .slice A xs.length c ∧ xs.length ≤ 9223372036854775807 := by
  obtain ⟨A, c, e, h1, h2, _⟩ := h
  exact ⟨A, c, e, by unfold maxLen at h2; omega⟩

/-! ### A part of what reads as a list; bytes made into a string -/
theorem Rd.cut {w : World} {A : Option Addr} {N c : Nat} {xs : List Value} (h : Rd w (.slice A N c) xs) (lo n : Nat) (hle : lo + n ≤ xs.length) :
    Rd w (.slice (if c = lo then A else A.map (fun x => x.add lo)) n (c - lo)) ((xs.drop lo).take n) := by
  obtain ⟨A', c', e, h1, h2, h3⟩ := h
  cases e
  have hl : ((xs.drop lo).take n).length = n := by rw [List.length_take, List.length_drop]; omega
  refine ⟨_, _, by rw [hl], by omega, by omega, fun hn => ?_⟩
  obtain ⟨b, o, rfl, hb, hc⟩ := h3 (by omega)
  rw [if_neg (by omega)]
  refine ⟨b, o + lo, by simp [Addr.add_lit], hb, fun j u hu => ?_⟩
  rw [List.getElem?_take] at hu
  split at hu
  · rw [List.getElem?_drop] at hu
    rw [Nat.add_assoc]
    exact hc _ u hu
  · cases hu

theorem run_conv_rd {P : Program} (w : World) (src dst e : TypeId) (hs : P.underlying src = some (.slice e)) (he : P.underlying e = some (.int .u8)) (hd : P.underlying dst = some .string)
    (u : Value) (ys : List UInt8) (hr : Rd w u (ys.map B)) : (convert src dst u).run P w = .ok (.string ⟨ys.toArray⟩) w := by
  obtain ⟨A, c, rfl, hlc, hcm, hcell⟩ := hr
  rcases A with _ | ad
  · have h0 : ys = [] := by
      rcases Nat.eq_zero_or_pos ys.length with h | h
      · exact List.eq_nil_of_length_eq_zero h
      · obtain ⟨b, o, h, _⟩ := hcell (by simpa using h)
        cases h
    subst h0
    exact run_convert_bytes_nil w src e hs he _ _ dst hd
  · rcases Nat.eq_zero_or_pos ys.length with h | h
    · have h0 := List.eq_nil_of_length_eq_zero h
      subst h0
      rw [run_convert_bytes_string w src dst e _ _ c hs he hd, run_bytesToString w _ _ c [] rfl]
      rfl
    · obtain ⟨b, o, h, hb, hc⟩ := hcell (by simpa using h)
      cases h
      have := run_convert_bytes_arg (P := P) w src e hs he b o ys.length c (ys.map fun b => (b.toNat : Int)) (by simp) (fun i hi => by
        rw [hc i (B ys[i]) (by simp [hi])]
        simp [B, List.getD, hi]) dst hd
      rw [List.length_map, this]
      have e : strOfNums (ys.map fun b => (b.toNat : Int)) = ⟨ys.toArray⟩ := by
        simp [strOfNums, Function.comp_def]
      rw [e]

theorem wpList_conv {P : Program} {w : World} {ops : Array Oper} {rest : List Oper} {o : Oper} {a : Act} {Q : Exit → Act → World → Prop} (hgd : o.guard = none) (x : Operand) (src dst e : TypeId)
    (ho : o.op = .convert src dst x) (hs : P.underlying src = some (.slice e)) (he : P.underlying e = some (.int .u8)) (hd : P.underlying dst = some .string)
    (u : Value) (ys : List UInt8) (hx : a.eval x = u) (hr : Rd w u (ys.map B))
    (h : wpList P ops Q rest (a.put o.dst (.string ⟨ys.toArray⟩)) w) : wpList P ops Q (o :: rest) a w := by
  refine wpList_plain hgd fun K hK => ?_
  have hrun := run_conv_rd (P := P) w src dst e hs he hd u ys hr
  unfold Oper.wp execOp
  simp only [ho, hx, Sem.run_bind, Sem.run_pure, Result.andThen_ok, hrun]
  exact hK _ _ h

/-! ### A block that is known whole -/
def Blk (w : World) (g : Nat) (t : TypeId) (cs : Array Value) : Prop := w.heap[g]? = some (.cells cs t (0, 0))

section
variable {w w' : World} {g : Nat} {t : TypeId} {cs : Array Value}
theorem Blk.lt (h : Blk w g t cs) : g < w.heap.size := lt_of_block h
theorem Blk.cell (h : Blk w g t cs) (i : Nat) : w.cell? ⟨g, i, none⟩ = cs[i]? := cell_of_row w g i cs t (0, 0) h
theorem Blk.frozen (h : Blk w g t cs) (i : Nat) : w.frozen? ⟨g, i, none⟩ = false := by
  unfold Blk at h
  simp [World.frozen?, h]
theorem Blk.cell1 {v : Value} (h : Blk w g t #[v]) : w.cell? ⟨g, 0, none⟩ = some v := h.cell 0
theorem Blk.new (w : World) (t : TypeId) (cs : Array Value) : Blk (w.alloc (.cells cs t)) w.heap.size t cs := heap_alloc_new w _
theorem Blk.alloc (h : Blk w g t cs) (o : Obj) : Blk (w.alloc o) g t cs := (Below.heap_alloc w o g h.lt).trans h
theorem Blk.set_ (h : Blk w g t cs) (i : Nat) (u : Value) : Blk (w.setCell ⟨g, i, none⟩ u) g t (cs.setIfInBounds i u) := by
  unfold Blk at h ⊢
  simp [World.setCell, Array.getElem?_modify, h]
theorem Blk.far (h : Blk w g t cs) {p : Addr} (hp : g ≠ p.block) (u : Value) : Blk (w.setCell p u) g t cs := (Below.heap_setCell w p u g hp).trans h
theorem Blk.below {B : Nat} (h : Blk w g t cs) (hb : Below B w w') (hg : g < B) : Blk w' g t cs := (hb.block g hg).trans h
theorem Blk.ext (h : Blk w g t cs) (hb : Ext w w') : Blk w' g t cs := h.below hb h.lt
theorem Blk.grown {row : Option Nat} (h : Blk w g t cs) (hb : w.grownBy w' row) (hg : some g ≠ row) : Blk w' g t cs := (hb.block g h.lt hg).trans h
end

end Go.Proofs.YtngenbolpnckhaaDoor

/- More words for memory: a cell of an owned row is written. No program is named here. -/
namespace Go.Proofs.YtngenbolpnckhaaDoor
open Go.RowKit

section
variable {base : Nat} {e : TypeId} {v : Value} {w w' : World} {xs : List Value}
theorem Grew.form {v' : Value} (h : Grew base e v w xs v' w') (hn : 0 < xs.length) : ∃ g cap, v' = .slice (some ⟨g, 0, none⟩) xs.length cap ∧ xs.length ≤ cap ∧ base ≤ g ∧ g < w'.heap.size := by
  rcases h.1.2 with ⟨_, h0⟩ | ⟨g, cap, cur, hv, hg, hh, hnc, _⟩
  · omega
  · exact ⟨g, cap, hv, hnc, hg, (Array.getElem?_eq_some_iff.1 hh).1⟩
theorem Grew.cellAt {g n cap : Nat} (h : Grew base e v w xs (.slice (some ⟨g, 0, none⟩) n cap) w') (j : Nat) (hj : j < xs.length) : w'.cell? ⟨g, j, none⟩ = xs[j]? := by
  have h1 := h.1
  have hl : n = xs.length := by
    rcases h1.2 with ⟨h', _⟩ | ⟨g', cap', cur, h', _⟩
    · cases h'
    · cases h'
      rfl
  subst hl
  exact h1.cellAt j (by omega)
theorem Grew.frozenAt {g n cap : Nat} (h : Grew base e v w xs (.slice (some ⟨g, 0, none⟩) n cap) w') (j : Nat) : w'.frozen? ⟨g, j, none⟩ = false := by
  have h1 := h.1
  have hl : n = xs.length := by
    rcases h1.2 with ⟨h', _⟩ | ⟨g', cap', cur, h', _⟩
    · cases h'
    · cases h'
      rfl
  subst hl
  exact h1.frozenAt j
theorem Grew.set {g n cap : Nat} (h : Grew base e v w xs (.slice (some ⟨g, 0, none⟩) n cap) w') (j : Nat) (u : Value) : Grew base e v w (xs.set j u) (.slice (some ⟨g, 0, none⟩) n cap) (w'.setCell ⟨g, j, none⟩ u) := by
  obtain ⟨h1, h2, h3⟩ := h
  have hl : n = xs.length := by
    rcases h1.2 with ⟨h', _⟩ | ⟨g', cap', cur, h', _⟩
    · cases h'
    · cases h'
      rfl
  subst hl
  have hs := h1.stored j u
  refine ⟨by rw [List.length_set]; exact hs.1, ⟨h2.os, h2.tape, h2.output, by simpa using h2.size, fun k hk hne => ?_⟩, h3⟩
  refine (hs.2.block k (Nat.lt_of_lt_of_le hk h2.size) ?_).trans (h2.block k hk hne)
  intro e
  rcases h3 with h3 | h3
  · exact hne (by rw [← h3, e]; rfl)
  · have := h3 g rfl
    cases e
    omega
end

theorem Rd.get {w : World} {A : Option Addr} {N c : Nat} {xs : List Value} (h : Rd w (.slice A N c) xs) (hn : 0 < xs.length) :
    ∃ b o, A = some ⟨b, o, none⟩ ∧ b < w.heap.size ∧ ∀ j u, xs[j]? = some u → w.cell? ⟨b, o + j, none⟩ = some u := by
  obtain ⟨A', c', e, _, _, h3⟩ := h
  cases e
  exact h3 hn
theorem Rd.sliceN {w : World} {v : Value} {xs : List Value} (h : Rd w v xs) {n : Nat} (hn : xs.length = n) : ∃ A c, v = .slice A n c ∧ n ≤ c ∧ c ≤ maxLen := by
  subst hn
  obtain ⟨A, c, e, h1, h2, _⟩ := h
  exact ⟨A, c, e, h1, h2⟩
theorem Ext.cellOf {w w' : World} (h : Ext w w') {b o : Nat} {u : Value} (hc : w.cell? ⟨b, o, none⟩ = some u) (hb : b < w.heap.size) : w'.cell? ⟨b, o, none⟩ = some u :=
  (h.cell (p := ⟨b, o, none⟩) hb).trans hc

/-- An append to what reads as a list, and has too little room: a new row. -/
theorem run_append_rd_grows {P : Program} (w : World) (t ty e : TypeId) (i : TypeInfo) (z : Value) (ht : P.underlying t = some (.slice e)) (hi : P.info? e = some i) (hz : i.zero = some z)
    (hsize : i.size = 1) (hby : i.bytes = 1) (hzs : z.cells.size = 1) (b o n c : Nat) (xs : List Value) (hv : Rd w (.slice (some ⟨b, o, none⟩) n c) xs) (u : Value) (ys : List Value) (hr : Rd w u ys)
    (hroom : c < n + ys.length) (hbytes : xs.length + ys.length ≤ 140737488355328) :
    ∃ v' w', (Builtin.append_ #[t, t] ty #[.slice (some ⟨b, o, none⟩) n c, u]).run P w = .ok v' w' ∧ Grew w.heap.size e (.slice none 0 0) w (xs ++ ys) v' w' := by
  obtain ⟨A, c1, he, hn, hcm, hcx⟩ := hv
  cases he
  obtain ⟨A', c', rfl, hlc, hcm', hcell⟩ := hr
  obtain ⟨b', o', rfl, _, hc⟩ := hcell (by omega)
  have h63 : xs.length + ys.length ≤ maxLen := by unfold maxLen; omega
  have holds : ∀ j u, xs[j]? = some u → w.cell? ((⟨b, o, none⟩ : Addr).add j) = some u := by
    intro j u hu
    obtain ⟨b2, o2, h, _, hcx2⟩ := hcx (by rcases Nat.eq_zero_or_pos xs.length with h | h; (rw [List.eq_nil_of_length_eq_zero h] at hu; simp at hu); exact h)
    cases h
    rw [Addr.add_lit]
    exact hcx2 j u hu
  have hnews : ∀ j u, ys[j]? = some u → w.cell? ((⟨b', o', none⟩ : Addr).add j) = some u := by
    intro j u hu
    rw [Addr.add_lit]
    exact hc j u hu
  have hrun := run_append_grow (P := P) w t ty e i z ht hi hz ⟨b, o, none⟩ xs.length c xs (by rw [hsize]; omega) holds ⟨b', o', none⟩ ys.length c' ys (by rw [hsize]; omega) hnews hroom (by omega) (by rw [hby]; exact growslice_fits (by omega) (by omega))
  refine ⟨_, _, hrun, ⟨?_, ⟨rfl, rfl, rfl, by simp, fun k hk _ => heap_alloc_old w.drew _ hk⟩, .inr fun k hk => ?_⟩⟩
  · have hge := grownCap_ge w (xs.length + ys.length) c e
    have hcm2 : grownCap w (xs.length + ys.length) c e ≤ maxLen := grownCap_le_maxLen w (xs.length + ys.length) c e h63
    refine ⟨by rw [List.length_append]; omega, .inr ⟨w.heap.size, grownCap w (xs.length + ys.length) c e, _, by rw [List.length_append], Nat.le_refl _, heap_alloc_new w.drew _, by rw [List.length_append]; exact hge, hcm2, ?_, ?_⟩⟩
    · simp only [Array.size_append, List.size_toArray, size_zeroCells, hzs]
      omega
    · simp only [Array.toList_append, List.append_assoc]
      rw [← List.append_assoc, Nat.mul_one]
      exact List.take_left
  · simp only [Value.ownBlock] at hk
    cases hk
    exact Nat.le_refl _

theorem wpList_appendGrows {P : Program} {w : World} {ops : Array Oper} {rest : List Oper} {op : Oper} {a : Act} {Q : Exit → Act → World → Prop} (hgd : op.guard = none) (s x : Operand) (t : TypeId)
    (ho : op.op = .call { callee := .builtin .append, args := #[s, x], argTypes := #[t, t] })
    (e : TypeId) (z : Value) (ht : P.underlying t = some (.slice e)) (hinfo : (P.info? e).map (fun i => (i.zero, i.size, i.bytes)) = some (some z, 1, 1)) (hzs : z.cells.size = 1)
    (b o n c : Nat) (xs : List Value) (hs : a.eval s = .slice (some ⟨b, o, none⟩) n c) (hv : Rd w (.slice (some ⟨b, o, none⟩) n c) xs) (u : Value) (ys : List Value) (hx : a.eval x = u) (hr : Rd w u ys)
    (hroom : c < n + ys.length) (hbytes : xs.length + ys.length ≤ 140737488355328)
    (h : ∀ v' w', Grew w.heap.size e (.slice none 0 0) w (xs ++ ys) v' w' → wpList P ops Q rest (a.put op.dst v') w') : wpList P ops Q (op :: rest) a w := by
  refine wpList_plain hgd fun K hK => ?_
  obtain ⟨i0, hi, hz0, hz1, hz2⟩ := info_parts hinfo
  obtain ⟨v', w', hrun, h2⟩ := run_append_rd_grows (P := P) w t op.type e i0 z ht hi hz0 hz1 hz2 hzs b o n c xs hv u ys hr hroom hbytes
  unfold Oper.wp execOp
  simp only [ho, resolve, invoke, builtin, Sem.run_bind, Sem.run_pure, Result.andThen_ok, List.map_toArray, List.map_cons, List.map_nil, hs, hx, hrun]
  exact hK _ _ (h v' w' h2)

/-- A row that was made later is one of the call's own all the same. -/
theorem Grew.from_ext {w w1 w' : World} {e : TypeId} {xs : List Value} {v' : Value} (hx : Ext w w1) (h : Grew w1.heap.size e (.slice none 0 0) w1 xs v' w') : Grew w.heap.size e (.slice none 0 0) w xs v' w' := by
  obtain ⟨h1, h2, h3⟩ := h
  refine ⟨⟨h1.1, ?_⟩, ⟨h2.os.trans hx.os, h2.tape.trans hx.tape, h2.output.trans hx.output, Nat.le_trans hx.size h2.size, fun k hk hne => ?_⟩, .inr fun k hk => ?_⟩
  · rcases h1.2 with h | ⟨g, cap, cur, hv, hg, r⟩
    · exact .inl h
    · exact .inr ⟨g, cap, cur, hv, Nat.le_trans hx.size hg, r⟩
  · exact (h2.block k (Nat.lt_of_lt_of_le hk hx.size) hne).trans (hx.block k hk)
  · rcases h3 with h3 | h3
    · rw [h3] at hk
      cases hk
    · exact Nat.le_trans hx.size (h3 k hk)

/-! ### '[]T{}', and what is appended to it -/
theorem own_none (w : World) (e : TypeId) (g : Nat) (hg : g = w.heap.size) : (w.alloc (.cells #[] e)).ownsRow w.heap.size e 1 (.slice (some ⟨g, 0, none⟩) 0 0) ([] : List Value).length [] := by
  subst hg
  exact World.ownsRow_lit w #[] 0 (Nat.le_refl _) (by unfold maxLen; omega) rfl
theorem Grew.from_empty {w w' : World} {e : TypeId} {xs : List Value} {v' : Value} {g : Nat} (hg : g = w.heap.size) (h : Grew w.heap.size e (.slice (some ⟨g, 0, none⟩) 0 0) (w.alloc (.cells #[] e)) xs v' w') : Grew w.heap.size e (.slice none 0 0) w xs v' w' := by
  subst hg
  obtain ⟨h1, h2, h3⟩ := h
  have hx : Ext w (w.alloc (.cells #[] e)) := (Below.refl _ _).alloc (Nat.le_refl _) _
  refine ⟨h1, ⟨h2.os.trans hx.os, h2.tape.trans hx.tape, h2.output.trans hx.output, Nat.le_trans hx.size h2.size, fun k hk _ => ?_⟩, .inr fun k hk => ?_⟩
  · exact (h2.block k (Nat.lt_of_lt_of_le hk hx.size) (by simp only [Value.ownBlock]; intro e; cases e; omega)).trans (hx.block k hk)
  · rcases h3 with h3 | h3
    · rw [h3] at hk
      simp only [Value.ownBlock] at hk
      cases hk
      exact Nat.le_refl _
    · exact Nat.le_trans hx.size (h3 k hk)

end Go.Proofs.YtngenbolpnckhaaDoor

/- From a contract 'it returns true, and leaves all that was there' to the row of a law; and what the arguments read as. No function of the program is named here. -/
namespace Go.Proofs.YtngenbolpnckhaaDoor
open Go.ChangeShapes Go.WideShapes Go.ChangeAt Go.RowKit

theorem Grew.slice_ {base : Nat} {e : TypeId} {v v' : Value} {w w' : World} {xs : List Value} (h : Grew base e v w xs v' w') {n : Nat} (hn : xs.length = n) : ∃ A c, v' = .slice A n c := by
  subst hn
  exact own_slice h.1

/-- The first of what reads as a list. -/
theorem Rd.prefix_ {w : World} {A : Option Addr} {N c : Nat} {xs : List Value} (h : Rd w (.slice A N c) xs) (n : Nat) (hle : n ≤ xs.length) : Rd w (.slice A n c) (xs.take n) := by
  obtain ⟨A', c', e, h1, h2, h3⟩ := h
  cases e
  have hl : (xs.take n).length = n := by rw [List.length_take]; omega
  refine ⟨_, _, by rw [hl], by omega, h2, fun hn => ?_⟩
  obtain ⟨b, o, rfl, hb, hc⟩ := h3 (by omega)
  refine ⟨b, o, rfl, hb, fun j u hu => ?_⟩
  rw [List.getElem?_take] at hu
  split at hu
  · exact hc _ u hu
  · cases hu

/-- What is owned stays so while other memory is made. -/
theorem Grew.step {base : Nat} {e : TypeId} {v v' : Value} {w w' w'' : World} {xs : List Value} (h : Grew base e v w xs v' w') (hx : Ext w' w'') : Grew base e v w xs v' w'' := by
  obtain ⟨h1, h2, h3⟩ := h
  refine ⟨?_, ⟨hx.os.trans h2.os, hx.tape.trans h2.tape, hx.output.trans h2.output, Nat.le_trans h2.size hx.size, fun k hk hne => (hx.block k (Nat.lt_of_lt_of_le hk h2.size)).trans (h2.block k hk hne)⟩, h3⟩
  refine ⟨h1.1, ?_⟩
  rcases h1.2 with h | ⟨g, cap, cur, hv, hg, hh, r⟩
  · exact .inl h
  · exact .inr ⟨g, cap, cur, hv, hg, by rw [hx.block g (Array.getElem?_eq_some_iff.1 hh).1]; exact hh, r⟩

section
variable {H : Type} {enc : TypeId × Value → H} {P : Program}

theorem trodAll_stays {W W' : World} (hl : laidOutB P = true) (hb : Below W.heap.size W W') : ∀ (ts : List TypeId) (vs : List Value) (ds : List (DataW H)) (ps : List MemPlace),
    (ts.all fun t => P.readableRec t && decide (t < P.types.size)) = true → DataW.TrodAll enc P W 0 (fun _ => true) true ts vs ds ps → (∀ x ∈ ps, x.block < W.heap.size) →
    DataW.TrodAll enc P W' 0 (fun b => decide (b < W.heap.size)) true ts vs ds ps
  | [], [], [], ps, _, h, _ => h
  | t :: ts, v :: vs, d :: ds, ps, hr, ⟨p, q, h1, h2, e⟩, hlt => by
    subst e
    simp only [List.all_cons, Bool.and_eq_true, decide_eq_true_eq] at hr
    exact ⟨p, q, Below.trod hl hr.1.1 hr.1.2 h1 hb (fun x hx => hlt x (List.mem_append.2 (.inl hx))), trodAll_stays hl hb ts vs ds q hr.2 h2 (fun x hx => hlt x (List.mem_append.2 (.inr hx))), rfl⟩
  | [], _ :: _, _, _, _, h, _ => h.elim
  | [], [], _ :: _, _, _, h, _ => h.elim
  | _ :: _, [], _, _, _, h, _ => h.elim
  | _ :: _, _ :: _, [], _, _, h, _ => h.elim

theorem trodAll_len {w : World} {base : Nat} {sp : Nat → Bool} {held : Bool} : ∀ (ts : List TypeId) (vs : List Value) (ds : List (DataW H)) (ps : List MemPlace), DataW.TrodAll enc P w base sp held ts vs ds ps → ds.length = ts.length
  | [], [], [], _, _ => rfl
  | _ :: ts, _ :: vs, _ :: ds, _, ⟨_, q, _, h2, _⟩ => by rw [List.length_cons, List.length_cons, trodAll_len ts vs ds q h2]
  | [], _ :: _, _, _, h => h.elim
  | [], [], _ :: _, _, h => h.elim
  | _ :: _, [], _, _, h => h.elim
  | _ :: _, _ :: _, [], _, h => h.elim

theorem post_true {f : Func} {s : ChangeSpec} {W W' : World} {args : Array Value} {ds : List (DataW H)} {before : List MemPlace} {tb : TypeId} (hl : laidOutB P = true)
    (hp : (f.params.toList.all fun t => P.readableRec t && decide (t < P.types.size)) = true) (hres : f.resultTypes = #[tb]) (htb : P.underlying tb = some .bool) (hv : s.vars = [])
    (hW : DataW.Whole enc P f.params.toList s.vars false W args.toList ds [] before) (hs : s.fn H ds = { results := [.lit (.bool true)], args := ds }) (hx : Below W.heap.size W W') :
    s.post enc P f false true false false W args (.bool true) W' := by
  have hlt : ∀ p ∈ before, p.block < W.heap.size := fun p hp => hW.lt p hp
  have hW' := hW
  obtain ⟨p, q, hA, hV, e, _, _⟩ := hW
  have hq : q = [] := by
    rw [hv] at hV
    exact hV
  subst hq
  rw [List.append_nil] at e
  subst e
  refine ⟨ds, [], before, [] ++ [], before, [], hW', ?_, ?_, ?_, hx.frame _, fun h => by cases h⟩
  · rw [List.append_nil, hs, hres]
    exact ⟨[], [], shut_bool htb true, rfl, rfl⟩
  · rw [List.append_nil, hs]
    exact trodAll_stays hl hx _ _ _ _ hp hA hlt
  · rw [List.append_nil, hs, hv]
    rfl

/-! ### What the arguments read as -/
theorem dec_int {w : World} {base : Nat} {sp : Nat → Bool} {held : Bool} {r : Reach} {b0 : Nat} {t : TypeId} {v : Value} {d : DataW H} {ps : List MemPlace} (ht : P.underlying t = some (.int .i64)) (hval : Value.okWide P w r b0 t v) (hd : DataW.Trod enc P w base sp held t v d ps) :
    ∃ n : Int, v = .int .i64 n ∧ -9223372036854775808 ≤ n ∧ n ≤ 9223372036854775807 := by
  obtain ⟨n, rfl, _, _, hw⟩ := open_int ht hval hd
  have h1 : IntKind.i64.min = -9223372036854775808 := rfl
  have h2 : IntKind.i64.max = 9223372036854775807 := rfl
  simp only [Lit.wf, Bool.and_eq_true, decide_eq_true_eq] at hw
  exact ⟨n, rfl, by omega, by omega⟩

theorem dec_str {w : World} {base : Nat} {sp : Nat → Bool} {held : Bool} {r : Reach} {b0 : Nat} {ts : List TypeId} {ds : List (DataW H)} {j : Nat} {t : TypeId} {v : Value} {d : DataW H} {ps : List MemPlace} (ht : P.underlying t = some .string) (hval : Value.okWide P w r b0 t v)
    (hd : DataW.Trod enc P w base sp held t v d ps) (hsz : (DataW.weightsEach P ts ds).all (· ≤ reachBytes) = true) (hj : ts[j]? = some t) (hk : ds[j]? = some d) : ∃ s : ByteArray, v = .string s ∧ s.size ≤ 140737488351232 := by
  obtain ⟨s, rfl, rfl, _, _⟩ := _root_.Go.ChangeMaps.open_string ht hval hd
  have := sized_string hsz hj hk
  have e : s.data.toList.length = s.size := by rw [Array.length_toList]; rfl
  rw [e] at this
  exact ⟨s, rfl, by unfold reachBytes at this; omega⟩

theorem dec_ints {w : World} {base : Nat} {held : Bool} {r : Reach} {b0 : Nat} {ts : List TypeId} {ds : List (DataW H)} {j : Nat} {t e : TypeId} {k : IntKind} {by_ : Nat} {v : Value} {d : DataW H} {ps : List MemPlace} (ht : P.underlying t = some (.slice e)) (he : P.underlying e = some (.int k))
    (hc : P.cellsOf e = 1) (hby : P.bytesOf e = by_) (hval : Value.okWide P w r b0 t v) (hd : DataW.Trod enc P w base (fun _ => true) held t v d ps) (hsz : (DataW.weightsEach P ts ds).all (· ≤ reachBytes) = true) (hj : ts[j]? = some t) (hk : ds[j]? = some d) :
    ∃ l : List Int, Rd w v (l.map (Value.int k)) ∧ l.length * by_ ≤ 140737488351232 ∧ ∀ n ∈ l, (Lit.int k n).wf = true := by
  obtain ⟨a0, len, cap, rfl⟩ := okWide_slice ht hval
  obtain ⟨fuel, hf⟩ := hd
  rcases open_ints ht he hc hf with ⟨hcs, hx⟩ | ⟨a, len', cap', zs, hcs, _, hl, hm, hz, hx, hcell, hw⟩
  · simp [Value.cells] at hcs
    obtain ⟨rfl, rfl, rfl⟩ := hcs
    exact ⟨[], Rd.nil w, by simp, by simp⟩
  · simp [Value.cells] at hcs
    obtain ⟨rfl, rfl, rfl⟩ := hcs
    simp only [Prod.mk.injEq] at hx
    obtain ⟨rfl, rfl⟩ := hx
    simp only [if_true] at hz
    have hlen : (zs.take len).length = len := by rw [List.length_take]; omega
    refine ⟨zs.take len, ⟨some a, cap, by rw [List.length_map, hlen], by rw [List.length_map, hlen]; exact hl, hm, fun hn => ?_⟩, ?_, fun n hn => hw n (List.mem_of_mem_take hn)⟩
    · rw [List.length_map, hlen] at hn
      have h0 := hcell 0 (by omega)
      obtain ⟨b, o, spot⟩ := a
      have hspot : spot = none := by simpa [Addr.add] using World.cell?_spot h0
      subst hspot
      refine ⟨b, o, rfl, ?_, fun j u hu => ?_⟩
      · have := World.block_lt_of_cell? w _ h0
        simpa [block_of_add] using this
      · rw [List.getElem?_map] at hu
        obtain ⟨n, hn2, rfl⟩ := Option.map_eq_some_iff.1 hu
        rw [List.getElem?_take] at hn2
        split at hn2
        · have hjz : j < zs.length := (List.getElem?_eq_some_iff.1 hn2).1
          have := hcell j hjz
          rw [Addr.add_lit] at this
          rw [this]
          simp [List.getD, hn2]
        · cases hn2
    · have := sized_slice hsz hj hk ht
      rw [hby] at this
      simp only [lits, List.length_map, List.length_take, List.length_drop, reachBytes] at this
      rw [hlen]
      have hle : len ≤ min len zs.length + (zs.length - len) := by omega
      exact Nat.le_trans (Nat.mul_le_mul_right _ hle) (by omega)

theorem u8_of_wf {n : Int} (h : (Lit.int .u8 n).wf = true) : n = ((UInt8.ofNat n.toNat).toNat : Int) := by
  have h1 : IntKind.u8.min = 0 := rfl
  have h2 : IntKind.u8.max = 255 := rfl
  simp only [Lit.wf, Bool.and_eq_true, decide_eq_true_eq] at h
  simp
  omega

theorem dec_u8 {w : World} {base : Nat} {sp : Nat → Bool} {held : Bool} {r : Reach} {b0 : Nat} {t : TypeId} {v : Value} {d : DataW H} {ps : List MemPlace} (ht : P.underlying t = some (.int .u8)) (hval : Value.okWide P w r b0 t v) (hd : DataW.Trod enc P w base sp held t v d ps) :
    ∃ u : UInt8, v = B u := by
  obtain ⟨n, rfl, _, _, hw⟩ := open_int ht hval hd
  exact ⟨UInt8.ofNat n.toNat, by rw [B, ← u8_of_wf hw]⟩

theorem dec_bytes {w : World} {base : Nat} {held : Bool} {r : Reach} {b0 : Nat} {ts : List TypeId} {ds : List (DataW H)} {j : Nat} {t e : TypeId} {v : Value} {d : DataW H} {ps : List MemPlace} (ht : P.underlying t = some (.slice e)) (he : P.underlying e = some (.int .u8))
    (hc : P.cellsOf e = 1) (hby : P.bytesOf e = 1) (hval : Value.okWide P w r b0 t v) (hd : DataW.Trod enc P w base (fun _ => true) held t v d ps) (hsz : (DataW.weightsEach P ts ds).all (· ≤ reachBytes) = true) (hj : ts[j]? = some t) (hk : ds[j]? = some d) :
    ∃ l : List UInt8, Rd w v (l.map B) ∧ l.length ≤ 140737488351232 := by
  obtain ⟨l, h1, h2, h3⟩ := dec_ints ht he hc hby hval hd hsz hj hk
  refine ⟨l.map fun n => UInt8.ofNat n.toNat, ?_, by simpa using h2⟩
  have e : (l.map fun n => UInt8.ofNat n.toNat).map B = l.map (Value.int .u8) := by
    rw [List.map_map]
    refine List.map_congr_left fun n hn => ?_
    simp only [Function.comp_apply, B]
    rw [← u8_of_wf (h3 n hn)]
  rw [e]
  exact h1
end

/-- THE LAW's ROW, out of its contract. -/
theorem law_lift {C : Checked} {os : Os} {f : FuncId} {fn : Func} {s : ChangeSpec} {tb : TypeId} {H : Type} {enc : TypeId × Value → H} (own : ownKnob C.prog.godebug = none) (started : os.Started) (noInit : C.prog.inits.idxOf? f = none) (hfn : C.prog.funcs[f]? = some fn)
    (hl : laidOutB C.prog = true) (hp : (fn.params.toList.all fun t => C.prog.readableRec t && decide (t < C.prog.types.size)) = true) (hres : fn.resultTypes = #[tb]) (htb : C.prog.underlying tb = some .bool) (hv : s.vars = []) (hpv : s.plain.varTypes C.prog = [])
    (hs : ∀ ds : List (DataW H), ds.length = fn.params.toList.length → s.fn H ds = { results := [.lit (.bool true)], args := ds })
    (witness : ∃ (w : World) (tape : Tape) (i : Input), w.os = os ∧ (w.forCall tape i).Shaped C.prog ∧ i.vars = [] ∧ Input.okWide C.prog (w.forCall tape i) .any w.heap.size f i ∧
      s.pre6 enc C.prog fn [] false (w.forCall tape i).memory i.args ∧ ({} : Assume).holds C.prog (lone (Frame.enter C.prog f i.args .normal) [] (w.forCall tape i)))
    (contract : ∀ (W : World) (base : Nat) (args : Array Value) (ds : List (DataW H)) (p : List MemPlace), (∀ (j : Nat) t v, fn.params[j]? = some t → args[j]? = some v → Value.okWide C.prog W .any base t v) →
      DataW.TrodAll enc C.prog W 0 (fun _ => true) true fn.params.toList args.toList ds p → (DataW.weightsEach C.prog fn.params.toList ds).all (· ≤ reachBytes) = true →
      Calls C.prog f args W fun e W' => e = .returned (.bool true) ∧ Ext W W') :
    ReturnsInHanded {} C os f .any (s.pre6 enc C.prog fn [] false) (s.post enc C.prog fn false true false false) := by
  refine returnsInHanded_of_change_sized (C := C) own started noInit hfn witness ?_
  intro W base args ds gs before hval hW _ hsz _
  have hg : gs = [] := by
    obtain ⟨_, _, _, hV, _⟩ := hW
    rw [hv] at hV
    cases gs with
    | nil => rfl
    | cons _ _ => exact hV.elim
  subst hg
  rw [hpv, List.append_nil, List.append_nil] at hsz
  have hW' := hW
  obtain ⟨p, q, hA, _, _, _, _⟩ := hW
  have hlen := trodAll_len _ _ _ _ hA
  refine (contract W base args ds p hval hA hsz).mono fun e W' ⟨he, hx⟩ => ⟨_, he, ?_⟩
  exact post_true hl hp hres htb hv hW' (hs ds hlen) hx

end Go.Proofs.YtngenbolpnckhaaDoor

/- An element of an array that is a value. -/
namespace Go.Proofs.YtngenbolpnckhaaDoor
open Go.RowKit

theorem run_index_arr {P : Program} {w : World} (t e : TypeId) (n : Nat) (cs : Array Value) (k : IntKind) (i : Nat) (v : Value) (h : P.underlying t = some (.array n e)) (hs : (sizeOf e).run P w = .ok 1 w) (ha : (isAgg e).run P w = .ok false w) (hi : i < n) (hv : cs[i]? = some v) :
    (Instr.index t (.agg cs) (.int k i)).run P w = .ok v w := by
  have hn : (0 ≤ (i : Int) ∧ (i : Int) < (n : Int)) := by omega
  simp [Instr.index, run_underlying h, asIntOf, go_sem, hi, hs, ha, hv]

end Go.Proofs.YtngenbolpnckhaaDoor

/- Layer 8, plain mathematics: a text that is split into words, and read again. -/
namespace Go.Proofs.YtngenbolpnckhaaDoor

/-- A name and the numbers behind it, as a list of words. -/
def wordsL (o : OpN) (n : Nat) : List (List UInt8) := nameK o.1 :: ((argsO o).take n).map fun m => digB m.toNat
theorem wordsL_step {o : OpN} {n : Nat} {x : Int} (h : (argsO o)[n]? = some x) : wordsL o (n + 1) = wordsL o n ++ [digB x.toNat] := by
  rw [wordsL, wordsL, List.take_add_one, h]
  simp
theorem wordsL_len {o : OpN} {n : Nat} (h : n ≤ (argsO o).length) : (wordsL o n).length = n + 1 := by
  rw [wordsL, List.length_cons, List.length_map, List.length_take]
  omega

theorem index_at : ∀ (a r : List UInt8), (∀ c ∈ a, c ≠ 32) → Lib.index (a ++ 32 :: r) [32] = (a.length : Int)
  | [], r, _ => by
    rw [List.nil_append, Lib.index]
    simp [List.isPrefixOf]
  | b :: a, r, h => by
    have hb : b ≠ 32 := h b List.mem_cons_self
    have ih := index_at a r (fun c hc => h c (List.mem_cons_of_mem _ hc))
    have h0 : ([32] : List UInt8).isPrefixOf (b :: (a ++ 32 :: r)) = false := by simp [List.isPrefixOf, Ne.symm hb]
    rw [List.cons_append, Lib.index, h0, ih]
    have : ((a.length : Int) == -1) = false := by rw [beq_eq_false_iff_ne]; omega
    simp [this]
theorem index_no : ∀ (a : List UInt8), (∀ c ∈ a, c ≠ 32) → Lib.index a [32] = -1
  | [], _ => rfl
  | b :: a, h => by
    have hb : b ≠ 32 := h b List.mem_cons_self
    have ih := index_no a (fun c hc => h c (List.mem_cons_of_mem _ hc))
    have h0 : ([32] : List UInt8).isPrefixOf (b :: a) = false := by simp [List.isPrefixOf, Ne.symm hb]
    rw [Lib.index, h0, ih]
    rfl

theorem digB_digits (n : Nat) : ∀ c ∈ digB n, 48 ≤ c.toNat ∧ c.toNat ≤ 57 := by
  induction n using Nat.strongRecOn with
  | _ n ih =>
    intro c hc
    by_cases h : n < 10
    · rw [digB_lo h, List.mem_singleton] at hc
      rw [hc, dig_toNat h]
      omega
    · rw [digB_hi h, List.mem_append, List.mem_singleton] at hc
      rcases hc with hc | hc
      · exact ih (n / 10) (by omega) c hc
      · rw [hc, dig_toNat (by omega)]
        omega
theorem digB_blank (n : Nat) : ∀ c ∈ digB n, c ≠ 32 := fun c hc e => by
  have := digB_digits n c hc
  rw [e] at this
  exact absurd this.1 (by decide)
theorem digB_ne (n : Nat) : digB n ≠ [] := by
  rw [digB]
  split <;> simp
theorem digB_short : ∀ (k n : Nat), n < 10 ^ (k + 1) → (digB n).length ≤ k + 1
  | 0, n, h => by
    rw [digB_lo (by simpa using h)]
    simp
  | k + 1, n, h => by
    by_cases h1 : n < 10
    · rw [digB_lo h1]
      simp
    · rw [digB_hi h1, List.length_append]
      have := digB_short k (n / 10) (by rw [Nat.pow_succ] at h; omega)
      simp
      omega
theorem digB_7 {n : Nat} (h : n ≤ 1000000) : (digB n).length ≤ 7 := digB_short 6 n (by omega)

theorem split_words : ∀ (l : List Int) (a : List UInt8) (k : Nat), (∀ c ∈ a, c ≠ 32) → l.length ≤ k → Lib.splitK [32] 0 k (a ++ wordsB l) = a :: l.map fun m => digB m.toNat
  | [], a, 0, _, _ => by simp [wordsB, Lib.splitK]
  | [], a, k + 1, ha, _ => by
    rw [Lib.splitK, show a ++ wordsB [] = a by simp [wordsB], index_no a ha]
    rfl
  | n :: l, a, 0, _, h => absurd h (by simp)
  | n :: l, a, k + 1, ha, h => by
    have e : wordsB (n :: l) = 32 :: (digB n.toNat ++ wordsB l) := by simp [wordsB]
    have ih := split_words l (digB n.toNat) k (digB_blank _) (by simpa using h)
    have hb : ((a.length : Int) == -1) = false := by rw [beq_eq_false_iff_ne]; omega
    rw [Lib.splitK, e, index_at a _ ha, hb]
    simp only [Bool.false_eq_true, if_false, Int.toNat_natCast, Nat.add_zero, List.length_singleton]
    rw [List.take_left, List.map_cons]
    congr 1
    rw [← ih, ← List.drop_drop, List.drop_left]
    rfl

/-- A text, split at its first six blanks. -/
def splitW (s : List UInt8) : List (List UInt8) := Lib.splitK [32] 0 (min 7 (s.length + 1) - 1) s
theorem splitK_pos (k : Nat) (s : List UInt8) : 0 < (Lib.splitK [32] 0 k s).length := by
  cases k with
  | zero => simp [Lib.splitK]
  | succ k =>
    rw [Lib.splitK]
    split <;> simp
theorem splitK_le : ∀ (k : Nat) (s : List UInt8), (Lib.splitK [32] 0 k s).length ≤ k + 1
  | 0, _ => by simp [Lib.splitK]
  | k + 1, s => by
    rw [Lib.splitK]
    split
    · simp
    · have := splitK_le k (s.drop ((Lib.index s [32]).toNat + ([32] : List UInt8).length))
      rw [List.length_cons]
      omega
theorem splitK_piece : ∀ (k : Nat) (s : List UInt8), ∀ b ∈ Lib.splitK [32] 0 k s, b.length ≤ s.length
  | 0, s, b, hb => by
    rw [Lib.splitK, List.mem_singleton] at hb
    rw [hb]
    exact Nat.le_refl _
  | k + 1, s, b, hb => by
    rw [Lib.splitK] at hb
    split at hb
    · rw [List.mem_singleton] at hb
      rw [hb]
      exact Nat.le_refl _
    · rcases List.mem_cons.1 hb with hb | hb
      · rw [hb, List.length_take]
        omega
      · have := splitK_piece k _ b hb
        rw [List.length_drop] at this
        omega
theorem wordsB_two : ∀ (l : List Int), 2 * l.length ≤ (wordsB l).length
  | [] => by simp
  | n :: l => by
    have e : wordsB (n :: l) = 32 :: (digB n.toNat ++ wordsB l) := by simp [wordsB]
    have h1 := wordsB_two l
    have h2 : 0 < (digB n.toNat).length := List.length_pos_iff.2 (digB_ne _)
    rw [e]
    simp only [List.length_cons, List.length_append]
    omega
theorem split_text {x : OpN} (h : rightO x = true) : splitW (textO x) = wordsL x (argsO x).length := by
  have hk := (rightO_iff.1 h).1
  have h1 := argsO_len x
  have h2 := manyK_le x.1
  have h3 := wordsB_two (argsO x)
  rw [splitW, textO, if_pos h, split_words _ _ _ (nameK_blank hk) (by rw [List.length_append]; omega), wordsL, List.take_length]

/-! ### Numbers, read again -/
theorem decFrom_snoc : ∀ (l : List UInt8) (acc m d : Nat) (b : UInt8), Lib.decFrom acc l = some m → Lib.digitVal b = some d → Lib.decFrom acc (l ++ [b]) = some (m * 10 + d)
  | [], acc, m, d, b, h, hb => by
    rw [Lib.decFrom] at h
    injection h with h
    rw [List.nil_append, Lib.decFrom, hb, h]
    rfl
  | c :: l, acc, m, d, b, h, hb => by
    rw [Lib.decFrom] at h
    rw [List.cons_append, Lib.decFrom]
    cases hc : Lib.digitVal c with
    | none =>
      rw [hc] at h
      cases h
    | some e =>
      rw [hc] at h
      exact decFrom_snoc l _ m d b h hb
theorem digit_val {d : Nat} (h : d < 10) : Lib.digitVal (UInt8.ofNat (48 + d)) = some d := by
  rw [Lib.digitVal, dig_toNat h, if_pos (by omega)]
  congr 1
  omega
theorem decFrom_dig (n : Nat) : Lib.decFrom 0 (digB n) = some n := by
  induction n using Nat.strongRecOn with
  | _ n ih =>
    by_cases h : n < 10
    · rw [digB_lo h, Lib.decFrom, digit_val h]
      simp [Lib.decFrom]
    · rw [digB_hi h, decFrom_snoc _ _ _ _ _ (ih (n / 10) (by omega)) (digit_val (by omega))]
      congr 1
      omega
theorem atoi_dig {n : Nat} (h : n ≤ 1000000) : Lib.atoiAll (digB n) = .ok (n : Int) := by
  rw [Lib.atoiAll_short _ (by have := digB_7 h; omega)]
  have hd := decFrom_dig n
  have hg := digB_digits n
  have hne := digB_ne n
  cases hl : digB n with
  | nil => exact absurd hl hne
  | cons c r =>
    rw [hl] at hd hg
    have hc := hg c List.mem_cons_self
    have e1 : (c == 45) = false := by
      rw [beq_eq_false_iff_ne]
      intro e
      rw [e] at hc
      exact absurd hc.1 (by decide)
    have e2 : (c == 43) = false := by
      rw [beq_eq_false_iff_ne]
      intro e
      rw [e] at hc
      exact absurd hc.1 (by decide)
    have hn : Lib.decNat (c :: r) = some n := by
      rw [Lib.decNat]
      exact hd
    rw [Lib.atoi, e1, e2, hn]
    rfl

/-! ### The op of words -/
/-- What is read of the words, if all behind the first are numbers. -/
def ReadL (ws : List (List UInt8)) (l : List Int) : Prop := ws.tail.map Lib.atoiAll = l.map Lib.NumEnd.ok
theorem text_read {x : OpN} (h : rightO x = true) : ReadL (splitW (textO x)) (argsO x) := by
  rw [split_text h, wordsL, ReadL, List.tail_cons, List.take_length, List.map_map]
  refine List.map_congr_left fun m hm => ?_
  have := args_in h m hm
  rw [Function.comp_apply, atoi_dig (by omega)]
  congr 1
  omega
theorem ReadL.one {ws : List (List UInt8)} {l r : List Int} (h : ReadL ws l) (g : ReadL ws r) : l = r := by
  have e : l.map (Lib.NumEnd.ok (α := Int)) = r.map Lib.NumEnd.ok := h.symm.trans g
  clear h g
  induction l generalizing r with
  | nil =>
    cases r with
    | nil => rfl
    | cons => cases e
  | cons a l ih =>
    cases r with
    | nil => cases e
    | cons b r =>
      injection e with e1 e2
      injection e1 with e1
      rw [e1, ih e2]
theorem parse_fail {s : List UInt8} {j : Nat} {b : List UInt8} (hb : (splitW s)[j + 1]? = some b) (hne : ∀ v, Lib.atoiAll b ≠ .ok v) : ParseO s zeroO false := .inr ⟨rfl, rfl, fun x hx e => by
  have h := text_read hx
  rw [e, ReadL] at h
  have h1 : ((splitW s).tail.map Lib.atoiAll)[j]? = some (Lib.atoiAll b) := by rw [List.getElem?_map, List.getElem?_tail, hb]; rfl
  rw [h, List.getElem?_map] at h1
  obtain ⟨v, -, hv⟩ := Option.map_eq_some_iff.1 h1
  exact hne v hv.symm⟩
theorem parse_end {s : List UInt8} {l : List Int} {kd : Nat} (hl : ReadL (splitW s) l) (hk : KindIs ((splitW s).headD []) kd) (h : ¬ (madeOk (kd : Int) l = true ∧ textO (madeO (kd : Int) l) = s)) : ParseO s zeroO false := .inr ⟨rfl, rfl, fun x hx e => by
  have h1 := text_read hx
  rw [e] at h1
  have hk1 := (rightO_iff.1 hx).1
  have hw := split_text hx
  rw [e] at hw
  rw [hw] at hk
  have hkd : (kd : Int) = x.1 := by
    rcases hk with ⟨k1, k2, k3⟩ | ⟨-, k3⟩
    · exact nameK_inj (by omega) hk1 k3
    · exact absurd rfl (k3 x.1 hk1)
  have hla := hl.one h1
  refine h ?_
  rw [hkd, hla]
  have hm := madeOk_args hx
  refine ⟨hm, ?_⟩
  rw [(madeOk_right hm).2.2, opOf_args hx, e]⟩
theorem parse_yes {s : List UInt8} {l : List Int} {kd : Nat} (h : madeOk (kd : Int) l = true) (ht : textO (madeO (kd : Int) l) = s) : ParseO s (madeO (kd : Int) l) true := .inl ⟨rfl, by rw [(madeOk_right h).2.2]; exact (madeOk_right h).1, ht⟩

end Go.Proofs.YtngenbolpnckhaaDoor

/- A whole struct stored into a block. No program is named here. -/
namespace Go.Proofs.YtngenbolpnckhaaDoor
open Go.RowKit

theorem wpList_storeB {P : Program} {ops : Array Oper} {rest : List Oper} {o : Oper} {a : Act} {w : World} {Q : Exit → Act → World → Prop} (hgd : o.guard = none) (ty : TypeId) (x y : Operand) (ho : o.op = .store ty x y)
    (g : Nat) (cells : Array Value) (hx : a.eval x = .pointer (some ⟨g, 0, none⟩)) (hy : a.eval y = .agg cells)
    (t : TypeId) (old : Array Value) (hg : Blk w g t old) (hi : (P.info? ty).map (·.size) = some cells.size)
    (hold : old.size = cells.size) (h1 : cells.all (·.oneCell') = true) (B : Nat) (w0 : World) (hb : Below B w0 w) (hB : B ≤ g)
    (h : ∀ w', Blk w' g t cells → Below B w0 w' → wpList P ops Q rest (a.put o.dst undef) w') : wpList P ops Q (o :: rest) a w :=
  wpList_store_row hgd ty x y ho g cells hx hy t old hg hi hold h1 (h _ (setRow_heap w g old cells t (0, 0) hg) (below_setRow hb hB cells))

end Go.Proofs.YtngenbolpnckhaaDoor

/- Layer 8, plain mathematics: the document's way to read words, kind by kind. -/
namespace Go.Proofs.YtngenbolpnckhaaDoor

theorem stepP_len (l : List Int) (c : UInt8) : l.length ≤ (stepP l c).length := by
  unfold stepP
  split
  · simp
  · split
    · rw [List.length_append, List.length_dropLast, List.length_singleton]
      omega
    · exact Nat.le_refl _
theorem fold_len : ∀ (a : List UInt8) (l : List Int), l.length ≤ (a.foldl stepP l).length
  | [], _ => Nat.le_refl _
  | c :: a, l => Nat.le_trans (stepP_len l c) (fold_len a _)
def inP (l : List Int) : Prop := ∀ n ∈ l, 0 ≤ n ∧ n ≤ 10000000
theorem stepP_in {l : List Int} {c : UInt8} (h : inP l) : inP (stepP l c) := by
  unfold stepP
  split
  · intro n hn
    rcases List.mem_append.1 hn with hn | hn
    · exact h n hn
    · rw [List.mem_singleton] at hn
      omega
  · split
    · rename_i h1 h2
      obtain ⟨h3, h4, h5, h6⟩ := h2
      intro n hn
      rcases List.mem_append.1 hn with hn | hn
      · exact h n (List.dropLast_subset _ hn)
      · rw [List.mem_singleton] at hn
        have hl : l.getLastD 0 ∈ l := by
          rw [List.getLastD_eq_getLast?, List.getLast?_eq_some_getLast h5, Option.getD_some]
          exact List.getLast_mem h5
        have := h _ hl
        omega
    · exact h
/-- No right op of this kind has these words. -/
def noK (s : List UInt8) (k : Int) : Prop := ∀ x, rightO x = true → x.1 = k → textO x ≠ s
theorem no_short {s : List UInt8} {k : Int} (h : s.take (nameK k).length ≠ nameK k) : noK s k := fun x hx hk e => by
  rw [textO, if_pos hx, hk] at e
  rw [← e, List.take_left] at h
  exact h rfl
theorem no_cut {s : List UInt8} {k : Int} {i : Nat} (_ : s.take (nameK k).length = nameK k)
    (hi : i = (s.drop (nameK k).length).length ∨ 7 ≤ (((s.drop (nameK k).length).take i).foldl stepP []).length)
    (ht : textO (opOf k (((s.drop (nameK k).length).take i).foldl stepP [])) ≠ s) : noK s k := fun x hx hk e => by
  have e' := e
  rw [textO, if_pos hx, hk] at e'
  have hT : s.drop (nameK k).length = wordsB (argsO x) := by rw [← e', List.drop_left]
  have hf := fold_words (argsO x) [] (args_in hx)
  rw [List.nil_append, ← hT] at hf
  have hl : ((s.drop (nameK k).length).take i).foldl stepP [] = argsO x := by
    rcases hi with hi | hi
    · rw [hi, List.take_length, hf]
    · have h1 : ((s.drop (nameK k).length).take i).foldl stepP [] = ((s.drop (nameK k).length).take i).foldl stepP [] := rfl
      have h2 := fold_len ((s.drop (nameK k).length).drop i) (((s.drop (nameK k).length).take i).foldl stepP [])
      rw [← List.foldl_append, List.take_append_drop, hf, argsO_len] at h2
      have := manyK_le x.1
      omega
  rw [hl, ← hk, opOf_args hx] at ht
  exact ht e
theorem yes_cut {s : List UInt8} {k : Int} {l : List Int} (hk : 1 ≤ k ∧ k ≤ 21) (h : s.take (nameK k).length = nameK k) (ht : textO (opOf k l) = s) : ParseO s (opOf k l) true := by
  refine .inl ⟨rfl, ?_, ht⟩
  cases hr : rightO (opOf k l) with
  | true => rfl
  | false =>
    rw [textO, if_neg (by rw [hr]; decide)] at ht
    rw [← ht, List.take_nil] at h
    exact absurd h.symm (nameK_ne hk)
theorem none_all {s : List UInt8} (h : ∀ j : Nat, 1 ≤ j → j ≤ 21 → noK s (j : Int)) : ParseO s zeroO false := .inr ⟨rfl, rfl, fun x hx e => by
  have hk := (rightO_iff.1 hx).1
  exact h x.1.toNat (by omega) (by omega) x hx (by omega) e⟩

end Go.Proofs.YtngenbolpnckhaaDoor
