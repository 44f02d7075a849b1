/- Texts that the proof of S rests on, one behind the other. -/
import Derived.Test.YtdijinboopdheaaSQ1
import Derived.WalkKit
import Derived.Deep.AppendLies
import Derived.Deep.Draws
import Derived.Maps.AppendAt
import Derived.Lib.Hide
import Derived.Lib.AppendStr
import Derived.ArgAppend
import Derived.Laws.OwnMore
import Derived.Deep.RegionHeld3
import Derived.Laws.Tables
import Derived.Laws.CopyOwn

/- Words for memory that all of this family's texts use: a byte as a cell, a slice of bytes or numbers that the call owns, a slice that reads as a list. No program is named here. -/
namespace Go.Proofs.Ytdijinboopdheaa
open Go.RowKit

/-- A byte as a cell; a number as a cell. -/
abbrev B (u : UInt8) : Value := .int .u8 (u.toNat : Int)
abbrev I (n : Int) : Value := .int .i64 n

theorem B_eq {n : Int} {u : UInt8} (h : n = (u.toNat : Int)) : Value.int .u8 n = B u := by rw [h]

theorem bytes_oneCell (l : List UInt8) : ∀ u ∈ l.map B, u.oneCell' = true := by
  intro u hu
  obtain ⟨_, _, rfl⟩ := List.mem_map.1 hu
  rfl

theorem one_oneCell_u8 (n : Int) : ∀ u ∈ [Value.int .u8 n], u.oneCell' = true := by simp [Value.oneCell']
theorem one_oneCell_i64 (n : Int) : ∀ u ∈ [Value.int .i64 n], u.oneCell' = true := by simp [Value.oneCell']

/-- 'Ext w w'': all blocks that w has stand in w' as they were. -/
abbrev Ext (w w' : World) : Prop := Below w.heap.size w w'

theorem Ext.refl (w : World) : Ext w w := Below.refl _ _
theorem Ext.trans {a b c : World} (h : Ext a b) (k : Ext b c) : Ext a c := Below.trans h (k.mono h.size)

theorem Below.drewN' {B : Nat} {a w : World} (h : Below B a w) (n : Nat) : Below B a (w.drewN n) := ⟨h.os, h.tape, h.output, h.size, h.block⟩

theorem bcell {W w1 : World} (hb : Below W.heap.size W w1) : (∀ b o, b < W.heap.size → w1.cell? ⟨b, o, none⟩ = W.cell? ⟨b, o, none⟩) ∧ (∀ b o, b < W.heap.size → w1.frozen? ⟨b, o, none⟩ = W.frozen? ⟨b, o, none⟩) :=
  ⟨fun b o h => hb.cell (p := ⟨b, o, none⟩) h, fun b o h => hb.frozen (p := ⟨b, o, none⟩) h⟩

/-! ### A slice that reads as a list -/
theorem block_of_add (a : Addr) (n : Nat) : (a.add n).block = a.block := by unfold Addr.add; split <;> rfl
theorem add_of_add (a : Addr) (i j : Nat) : (a.add i).add j = a.add (i + j) := by
  unfold Addr.add
  by_cases hi : i = 0 <;> by_cases hj : j = 0 <;> simp [hi, hj, Nat.add_assoc]

/-- The slice value v reads in w as the cells xs (one cell each), below block w.heap.size. -/
def Rd (w : World) (v : Value) (xs : List Value) : Prop :=
  ∃ A c, v = .slice A xs.length c ∧ xs.length ≤ c ∧ c ≤ maxLen ∧ (0 < xs.length → ∃ b o, A = some ⟨b, o, none⟩ ∧ b < w.heap.size ∧ ∀ j u, xs[j]? = some u → w.cell? ⟨b, o + j, none⟩ = some u)

section
variable {w w' : World} {v : Value} {xs : List Value}
theorem Rd.nil (w : World) : Rd w (.slice none 0 0) [] := ⟨none, 0, rfl, Nat.le_refl _, Nat.zero_le _, fun h => absurd h (by simp)⟩
theorem Rd.ext (h : Rd w v xs) (hb : Ext w w') : Rd w' v xs := by
  obtain ⟨A, c, e, h1, h2, h3⟩ := h
  refine ⟨A, c, e, h1, h2, fun hn => ?_⟩
  obtain ⟨b, o, hA, hlt, hc⟩ := h3 hn
  exact ⟨b, o, hA, Nat.lt_of_lt_of_le hlt hb.size, fun j u hu => (hb.cell (p := ⟨b, o + j, none⟩) hlt).trans (hc j u hu)⟩
theorem Rd.own {base : Nat} {e : TypeId} {n : Nat} (h : w.ownsRow base e 1 v n xs) : Rd w v xs := by
  have hl : xs.length = n := by simpa using h.1
  subst hl
  rcases h.2 with ⟨rfl, h0⟩ | ⟨g, cap, cur, rfl, hg, hh, hn, hcap, hs, ht⟩
  · exact ⟨none, 0, by rw [h0], by omega, Nat.zero_le _, fun hn => absurd hn (by omega)⟩
  · refine ⟨some ⟨g, 0, none⟩, cap, rfl, hn, hcap, fun _ => ⟨g, 0, rfl, (Array.getElem?_eq_some_iff.1 hh).1, fun j u hu => ?_⟩⟩
    have := h.cells (g := g) rfl j u hu
    rwa [Addr.add_lit] at this
end

/-! ### Appending one value to a row of the call's own -/
/-- What an append to a row of the call's own leaves: the row holds xs; of what was there nothing else has turned. -/
def Grew (base : Nat) (e : TypeId) (v : Value) (w : World) (xs : List Value) (v' : Value) (w' : World) : Prop :=
  w'.ownsRow base e 1 v' xs.length xs ∧ w.grownBy w' v.ownBlock ∧ (v'.ownBlock = v.ownBlock ∨ ∀ k, v'.ownBlock = some k → w.heap.size ≤ k)

section
variable {base : Nat} {e : TypeId} {v v' v'' : Value} {w w' w'' : World} {xs ys : List Value}
theorem Grew.start {n : Nat} (h : w.ownsRow base e 1 v n xs) : Grew base e v w xs v w := by
  have hl : xs.length = n := by simpa using h.1
  subst hl
  exact ⟨h, World.grownBy.refl _ _, .inl rfl⟩
theorem Grew.nil (w : World) : Grew base e (.slice none 0 0) w [] (.slice none 0 0) w := Grew.start (World.ownsRow_nil w base e 1)
theorem Grew.size (h : Grew base e v w xs v' w') : w.heap.size ≤ w'.heap.size := h.2.1.size
theorem Grew.trans (h : Grew base e v w xs v' w') (k : Grew base e v' w' ys v'' w'') : Grew base e v w ys v'' w'' := by
  obtain ⟨h1, h2, h3⟩ := h
  obtain ⟨k1, k2, k3⟩ := k
  refine ⟨k1, ⟨k2.os.trans h2.os, k2.tape.trans h2.tape, k2.output.trans h2.output, Nat.le_trans h2.size k2.size, fun j hj hne => ?_⟩, ?_⟩
  · refine (k2.block j (Nat.lt_of_lt_of_le hj h2.size) ?_).trans (h2.block j hj hne)
    rcases h3 with h3 | h3
    · rw [h3]; exact hne
    · intro he; have := h3 j he.symm; omega
  · rcases k3 with k3 | k3
    · rcases h3 with h3 | h3
      · exact .inl (k3.trans h3)
      · exact .inr fun j hj => h3 j (by rw [← k3]; exact hj)
    · exact .inr fun j hj => Nat.le_trans h2.size (k3 j hj)
theorem Grew.below (h : Grew base e v w xs v' w') (hb : base ≤ w.heap.size) (hv : ∀ k, v.ownBlock = some k → base ≤ k) : Below base w w' := (Below.refl _ _).grown h.2.1 hb hv
theorem Grew.own (h : Grew base e v w xs v' w') : w'.ownsRow base e 1 v' xs.length xs := h.1
/-- The block was made by the call itself: nil ahead, so all that was there stands. -/
theorem Grew.ext (h : Grew base e (.slice none 0 0) w xs v' w') : Ext w w' := (Below.refl _ _).grown h.2.1 (Nat.le_refl _) (fun k hk => by cases hk)
theorem Grew.rebase (h : Grew base e (.slice none 0 0) w xs v' w') : w'.ownsRow w.heap.size e 1 v' xs.length xs := by
  refine ⟨h.1.1, ?_⟩
  rcases h.1.2 with hn | ⟨g, cap, cur, rfl, hg, r⟩
  · exact .inl hn
  · refine .inr ⟨g, cap, cur, rfl, ?_, r⟩
    rcases h.2.2 with h3 | h3
    · cases h3
    · exact h3 g rfl
end

theorem wpList_push {P : Program} {w : World} {ops : Array Oper} {rest : List Oper} {o : Oper} {a : Act} {Q : Exit → Act → World → Prop} (hgd : o.guard = none) (s x : Operand) (t : TypeId)
    (ho : o.op = .call { callee := .builtin .append, args := #[s, x], argTypes := #[t, t] })
    (base : Nat) (e : TypeId) (z : Value) (bytes : Nat) (ht : P.underlying t = some (.slice e)) (hinfo : (P.info? e).map (fun i => (i.zero, i.size, i.bytes)) = some (some z, 1, bytes)) (hzs : z.cells.size = 1)
    (v : Value) (xs : List Value) (hs : a.eval s = v) (hown : w.ownsRow base e 1 v xs.length xs) (u : Value) (h1 : u.oneCell' = true)
    (hx : a.eval x = .slice (some ⟨w.heap.size, 0, none⟩) 1 1) (h63 : xs.length + 1 ≤ maxLen) (hbytes : (xs.length + 1) * bytes ≤ 140737488355328) (hbase : base ≤ w.heap.size)
    (h : ∀ v' w', Grew base e v w (xs ++ [u]) v' w' → wpList P ops Q rest (a.put o.dst v') w') : wpList P ops Q (o :: rest) a (w.alloc (.cells #[u] e)) := by
  obtain ⟨i0, hi, hz0, hz1, hz2⟩ := info_parts hinfo
  refine wpList_append_own_at _ hgd s x t ho base e i0 z 1 bytes ht hi hz0 hz1 hz2 hzs (by omega) v xs.length xs hs (hown.alloc _) ⟨w.heap.size, 0, none⟩ 1 1 [u] hx rfl (cell_one_new _ _ _) (by simpa using h1) h63 hbytes (by simp; omega) ?_
  intro v' w' hown' hgr _ hblk
  refine h v' w' ⟨by simpa using hown', ?_, ?_⟩
  · exact (World.grownBy_alloc w _ _).trans hgr
  · rcases hblk with h | h
    · exact .inl h
    · refine .inr fun k hk => ?_
      rw [h] at hk
      cases hk
      simp

/-! ### Appending a string, and what reads as a list -/
theorem strCells_B (s : ByteArray) : Lib.strCells s = s.data.toList.map B := rfl

theorem run_append_str {P : Program} (w : World) (base : Nat) (t u ty e : TypeId) (i : TypeInfo) (ht : P.underlying t = some (.slice e)) (hu : P.underlying u = some .string) (hi : P.info? e = some i) (hz : i.zero = some (.int .u8 0))
    (hsize : i.size = 1) (hby : i.bytes = 1) (v : Value) (xs : List Value) (hown : w.ownsRow base e 1 v xs.length xs) (s : ByteArray)
    (hbytes : xs.length + s.size ≤ 140737488355328) (hbase : base ≤ w.heap.size) :
    ∃ v' w', (Builtin.append_ #[t, u] ty #[v, .string s]).run P w = .ok v' w' ∧ Grew base e v w (xs ++ s.data.toList.map B) v' w' := by
  have h63 : xs.length + s.size ≤ maxLen := by unfold maxLen; omega
  obtain ⟨v', w', hr, h1, h2, _⟩ := Lib.run_append_own_string (P := P) w base t u ty e i ht hu hi hz hsize hby v _ xs hown s h63 hbytes hbase
  have hl : (xs ++ s.data.toList.map B).length = xs.length + s.size := by rw [List.length_append, List.length_map, Array.length_toList]; rfl
  refine ⟨v', w', hr, by rw [hl]; exact h1, h2, ?_⟩
  rcases hown.2 with ⟨rfl, h0⟩ | ⟨g, cap, cur, rfl, hbg, hg, hnc, hcm, hcs, htake⟩
  · have hx : xs = [] := List.eq_nil_of_length_eq_zero h0
    subst hx
    obtain ⟨v2, w2, hr2, h12, _, _⟩ := Lib.run_append_own_string (P := P) w w.heap.size t u ty e i ht hu hi hz hsize hby (.slice none 0 0) 0 [] (World.ownsRow_nil _ _ _ _) s (by unfold maxLen; simp only [List.length_nil] at hbytes; omega) (by simp only [List.length_nil] at hbytes; omega) (Nat.le_refl _)
    rw [hr2] at hr
    injection hr with e1 e2
    subst e1 e2
    exact .inr fun k hk => (h12.lt k hk).1
  · by_cases hroom : xs.length + s.size ≤ cap
    · have hr2 := Lib.run_append_room_string (P := P) w t u ty e i ht hu hi hsize g xs.length cap cur hg s hroom (by omega)
      rw [hr2] at hr
      injection hr with e1 e2
      subst e1
      exact .inl rfl
    · have holds : ∀ j u, xs[j]? = some u → w.cell? ((⟨g, 0, none⟩ : Addr).add j) = some u := hown.cells (g := g) rfl
      have hr2 := Lib.run_append_grow_string (P := P) w t u ty e i (.int .u8 0) ht hu hi hz ⟨g, 0, none⟩ xs.length cap xs (by rw [hsize]; omega) holds s (by omega) (by omega) (by rw [hby]; exact growslice_fits (by omega) (by omega))
      rw [hr2] at hr
      injection hr with e1 e2
      subst e1
      refine .inr fun k hk => ?_
      simp only [Value.ownBlock] at hk
      cases hk
      exact Nat.le_refl _

theorem wpList_appendStr {P : Program} {w : World} {ops : Array Oper} {rest : List Oper} {o : Oper} {a : Act} {Q : Exit → Act → World → Prop} (hgd : o.guard = none) (sl x : Operand) (t u : TypeId)
    (ho : o.op = .call { callee := .builtin .append, args := #[sl, x], argTypes := #[t, u] })
    (base : Nat) (e : TypeId) (ht : P.underlying t = some (.slice e)) (hu : P.underlying u = some .string) (hinfo : (P.info? e).map (fun i => (i.zero, i.size, i.bytes)) = some (some (.int .u8 0), 1, 1))
    (v : Value) (xs : List Value) (hs : a.eval sl = v) (hown : w.ownsRow base e 1 v xs.length xs) (s : ByteArray) (hx : a.eval x = .string s)
    (hbytes : xs.length + s.size ≤ 140737488355328) (hbase : base ≤ w.heap.size)
    (h : ∀ v' w', Grew base e v w (xs ++ s.data.toList.map B) v' w' → wpList P ops Q rest (a.put o.dst v') w') : wpList P ops Q (o :: rest) a w := by
  refine wpList_plain hgd fun K hK => ?_
  obtain ⟨i0, hi, hz0, hz1, hz2⟩ := info_parts hinfo
  obtain ⟨v', w', hr, h2⟩ := run_append_str (P := P) w base t u o.type e i0 ht hu hi hz0 hz1 hz2 v xs hown s hbytes hbase
  unfold Oper.wp execOp
  simp only [ho, resolve, invoke, builtin, Sem.run_bind, Sem.run_pure, Result.andThen_ok, List.map_toArray, List.map_cons, List.map_nil, hs, hx, hr]
  exact hK _ _ (h v' w' h2)

theorem run_append_nothing {P : Program} (w : World) (base : Nat) (t ty e : TypeId) (i : TypeInfo) (ht : P.underlying t = some (.slice e)) (hi : P.info? e = some i)
    (v : Value) (xs : List Value) (hown : w.ownsRow base e 1 v xs.length xs) (c : Nat) : (Builtin.append_ #[t, t] ty #[v, .slice none 0 c]).run P w = .ok v w := by
  rcases hown.2 with ⟨rfl, h0⟩ | ⟨g, cap, cur, rfl, _, _, hnc, _⟩
  · simp [Builtin.append_, run_underlying ht, sizeOf, typeInfo, hi, Builtin.lenOf, Builtin.firstCells]
  · simp [Builtin.append_, run_underlying ht, sizeOf, typeInfo, hi, Builtin.lenOf, Builtin.firstCells, hnc, storeCells]

theorem run_append_rd {P : Program} (w : World) (base : Nat) (t ty e : TypeId) (i : TypeInfo) (z : Value) (bytes : Nat) (ht : P.underlying t = some (.slice e)) (hi : P.info? e = some i) (hz : i.zero = some z)
    (hsize : i.size = 1) (hby : i.bytes = bytes) (hzs : z.cells.size = 1) (v : Value) (xs : List Value) (hown : w.ownsRow base e 1 v xs.length xs) (u : Value) (ys : List Value) (hr : Rd w u ys)
    (h1 : ∀ y ∈ ys, y.oneCell' = true) (h63 : xs.length + ys.length ≤ maxLen) (hbytes : (xs.length + ys.length) * bytes ≤ 140737488355328) (hbase : base ≤ w.heap.size) :
    ∃ v' w', (Builtin.append_ #[t, t] ty #[v, u]).run P w = .ok v' w' ∧ Grew base e v w (xs ++ ys) v' w' := by
  obtain ⟨A, c, rfl, hlc, hcm, hcell⟩ := hr
  rcases A with _ | ad
  · have h0 : ys = [] := by
      rcases Nat.eq_zero_or_pos ys.length with h | h
      · exact List.eq_nil_of_length_eq_zero h
      · obtain ⟨b, o, h, _⟩ := hcell h
        cases h
    subst h0
    exact ⟨v, w, run_append_nothing w base t ty e i ht hi v xs hown c, by simpa using Grew.start hown⟩
  · have hnews : ∀ j u, ys[j]? = some u → w.cell? (ad.add j) = some u := by
      intro j u hu
      have hp : 0 < ys.length := by
        rcases Nat.eq_zero_or_pos ys.length with h | h
        · rw [List.eq_nil_of_length_eq_zero h] at hu
          simp at hu
        · exact h
      obtain ⟨b, o, h, _, hc⟩ := hcell hp
      cases h
      rw [Addr.add_lit]
      exact hc j u hu
    obtain ⟨v', w', hrun, h2, h3, _, h5⟩ := run_append_own_at (P := P) w base t ty e i z 1 bytes ht hi hz hsize hby hzs (by omega) v _ xs hown ad ys.length c ys (by omega) hnews h1 h63 hbytes hbase
    refine ⟨v', w', hrun, by simpa using h2, h3, ?_⟩
    rcases h5 with h5 | h5
    · exact .inl h5
    · refine .inr fun k hk => ?_
      rw [h5] at hk
      cases hk
      exact Nat.le_refl _

theorem wpList_appendRd {P : Program} {w : World} {ops : Array Oper} {rest : List Oper} {o : Oper} {a : Act} {Q : Exit → Act → World → Prop} (hgd : o.guard = none) (s x : Operand) (t : TypeId)
    (ho : o.op = .call { callee := .builtin .append, args := #[s, x], argTypes := #[t, t] })
    (base : Nat) (e : TypeId) (z : Value) (bytes : Nat) (ht : P.underlying t = some (.slice e)) (hinfo : (P.info? e).map (fun i => (i.zero, i.size, i.bytes)) = some (some z, 1, bytes)) (hzs : z.cells.size = 1)
    (v : Value) (xs : List Value) (hs : a.eval s = v) (hown : w.ownsRow base e 1 v xs.length xs) (u : Value) (ys : List Value) (hx : a.eval x = u) (hr : Rd w u ys) (h1 : ∀ y ∈ ys, y.oneCell' = true)
    (h63 : xs.length + ys.length ≤ maxLen) (hbytes : (xs.length + ys.length) * bytes ≤ 140737488355328) (hbase : base ≤ w.heap.size)
    (h : ∀ v' w', Grew base e v w (xs ++ ys) v' w' → wpList P ops Q rest (a.put o.dst v') w') : wpList P ops Q (o :: rest) a w := by
  refine wpList_plain hgd fun K hK => ?_
  obtain ⟨i0, hi, hz0, hz1, hz2⟩ := info_parts hinfo
  obtain ⟨v', w', hrun, h2⟩ := run_append_rd (P := P) w base t o.type e i0 z bytes ht hi hz0 hz1 hz2 hzs v xs hown u ys hr h1 h63 hbytes hbase
  unfold Oper.wp execOp
  simp only [ho, resolve, invoke, builtin, Sem.run_bind, Sem.run_pure, Result.andThen_ok, List.map_toArray, List.map_cons, List.map_nil, hs, hx, hrun]
  exact hK _ _ (h v' w' h2)

theorem Rd.lit (w : World) (cs : Array Value) (e : TypeId) (h : cs.size ≤ maxLen) : Rd (w.alloc (.cells cs e)) (.slice (some ⟨w.heap.size, 0, none⟩) cs.size cs.size) cs.toList :=
  ⟨some ⟨w.heap.size, 0, none⟩, cs.size, by simp, by simp, by simpa using h, fun _ => ⟨w.heap.size, 0, rfl, by simp, fun j u hu => by
    rw [Nat.zero_add, cell_of_row _ _ _ cs e (0, 0) (heap_alloc_new w _)]
    simpa using hu⟩⟩
theorem Rd.litB (w : World) (l : List UInt8) (cs : Array Value) (e : TypeId) (n g : Nat) (h : l.length ≤ 4096) (hc : cs = (l.map B).toArray) (hn : n = l.length) (hg : g = w.heap.size) : Rd (w.alloc (.cells cs e)) (.slice (some ⟨g, 0, none⟩) n n) (l.map B) := by
  subst hc hn hg
  have := Rd.lit w (l.map B).toArray e (by unfold maxLen; simp; omega)
  simpa using this

theorem Rd.litI (w : World) (l : List Int) (cs : Array Value) (e : TypeId) (n g : Nat) (h : l.length ≤ 4096) (hc : cs = (l.map I).toArray) (hn : n = l.length) (hg : g = w.heap.size) : Rd (w.alloc (.cells cs e)) (.slice (some ⟨g, 0, none⟩) n n) (l.map I) := by
  subst hc hn hg
  have := Rd.lit w (l.map I).toArray e (by unfold maxLen; simp; omega)
  simpa using this

theorem own_slice {w : World} {base : Nat} {e : TypeId} {size : Nat} {v : Value} {n : Nat} {xs : List Value} (h : w.ownsRow base e size v n xs) : ∃ A c, v = .slice A n c := by
  rcases h.2 with ⟨rfl, h0⟩ | ⟨g, cap, cur, rfl, _⟩
  · exact ⟨none, 0, by rw [h0]⟩
  · exact ⟨_, _, rfl⟩
theorem Rd.slice_ {w : World} {v : Value} {xs : List Value} (h : Rd w v xs) : ∃ A c, v = .slice A xs.length c ∧ xs.length ≤ 9223372036854775807 := by
  obtain ⟨A, c, e, h1, h2, _⟩ := h
  exact ⟨A, c, e, by unfold maxLen at h2; omega⟩

/-! ### A part of what reads as a list; bytes made into a string -/
theorem Rd.cut {w : World} {A : Option Addr} {N c : Nat} {xs : List Value} (h : Rd w (.slice A N c) xs) (lo n : Nat) (hle : lo + n ≤ xs.length) :
    Rd w (.slice (if c = lo then A else A.map (fun x => x.add lo)) n (c - lo)) ((xs.drop lo).take n) := by
  obtain ⟨A', c', e, h1, h2, h3⟩ := h
  cases e
  have hl : ((xs.drop lo).take n).length = n := by rw [List.length_take, List.length_drop]; omega
  refine ⟨_, _, by rw [hl], by omega, by omega, fun hn => ?_⟩
  obtain ⟨b, o, rfl, hb, hc⟩ := h3 (by omega)
  rw [if_neg (by omega)]
  refine ⟨b, o + lo, by simp [Addr.add_lit], hb, fun j u hu => ?_⟩
  rw [List.getElem?_take] at hu
  split at hu
  · rw [List.getElem?_drop] at hu
    rw [Nat.add_assoc]
    exact hc _ u hu
  · cases hu

theorem run_conv_rd {P : Program} (w : World) (src dst e : TypeId) (hs : P.underlying src = some (.slice e)) (he : P.underlying e = some (.int .u8)) (hd : P.underlying dst = some .string)
    (u : Value) (ys : List UInt8) (hr : Rd w u (ys.map B)) : (convert src dst u).run P w = .ok (.string ⟨ys.toArray⟩) w := by
  obtain ⟨A, c, rfl, hlc, hcm, hcell⟩ := hr
  rcases A with _ | ad
  · have h0 : ys = [] := by
      rcases Nat.eq_zero_or_pos ys.length with h | h
      · exact List.eq_nil_of_length_eq_zero h
      · obtain ⟨b, o, h, _⟩ := hcell (by simpa using h)
        cases h
    subst h0
    exact run_convert_bytes_nil w src e hs he _ _ dst hd
  · rcases Nat.eq_zero_or_pos ys.length with h | h
    · have h0 := List.eq_nil_of_length_eq_zero h
      subst h0
      rw [run_convert_bytes_string w src dst e _ _ c hs he hd, run_bytesToString w _ _ c [] rfl]
      rfl
    · obtain ⟨b, o, h, hb, hc⟩ := hcell (by simpa using h)
      cases h
      have := run_convert_bytes_arg (P := P) w src e hs he b o ys.length c (ys.map fun b => (b.toNat : Int)) (by simp) (fun i hi => by
        rw [hc i (B ys[i]) (by simp [hi])]
        simp [B, List.getD, hi]) dst hd
      rw [List.length_map, this]
      have e : strOfNums (ys.map fun b => (b.toNat : Int)) = ⟨ys.toArray⟩ := by
        simp [strOfNums, Function.comp_def]
      rw [e]

theorem wpList_conv {P : Program} {w : World} {ops : Array Oper} {rest : List Oper} {o : Oper} {a : Act} {Q : Exit → Act → World → Prop} (hgd : o.guard = none) (x : Operand) (src dst e : TypeId)
    (ho : o.op = .convert src dst x) (hs : P.underlying src = some (.slice e)) (he : P.underlying e = some (.int .u8)) (hd : P.underlying dst = some .string)
    (u : Value) (ys : List UInt8) (hx : a.eval x = u) (hr : Rd w u (ys.map B))
    (h : wpList P ops Q rest (a.put o.dst (.string ⟨ys.toArray⟩)) w) : wpList P ops Q (o :: rest) a w := by
  refine wpList_plain hgd fun K hK => ?_
  have hrun := run_conv_rd (P := P) w src dst e hs he hd u ys hr
  unfold Oper.wp execOp
  simp only [ho, hx, Sem.run_bind, Sem.run_pure, Result.andThen_ok, hrun]
  exact hK _ _ h

/-! ### A block that is known whole -/
def Blk (w : World) (g : Nat) (t : TypeId) (cs : Array Value) : Prop := w.heap[g]? = some (.cells cs t (0, 0))

section
variable {w w' : World} {g : Nat} {t : TypeId} {cs : Array Value}
theorem Blk.lt (h : Blk w g t cs) : g < w.heap.size := lt_of_block h
theorem Blk.cell (h : Blk w g t cs) (i : Nat) : w.cell? ⟨g, i, none⟩ = cs[i]? := cell_of_row w g i cs t (0, 0) h
theorem Blk.frozen (h : Blk w g t cs) (i : Nat) : w.frozen? ⟨g, i, none⟩ = false := by
  unfold Blk at h
  simp [World.frozen?, h]
theorem Blk.cell1 {v : Value} (h : Blk w g t #[v]) : w.cell? ⟨g, 0, none⟩ = some v := h.cell 0
theorem Blk.new (w : World) (t : TypeId) (cs : Array Value) : Blk (w.alloc (.cells cs t)) w.heap.size t cs := heap_alloc_new w _
theorem Blk.alloc (h : Blk w g t cs) (o : Obj) : Blk (w.alloc o) g t cs := (Below.heap_alloc w o g h.lt).trans h
theorem Blk.set_ (h : Blk w g t cs) (i : Nat) (u : Value) : Blk (w.setCell ⟨g, i, none⟩ u) g t (cs.setIfInBounds i u) := by
  unfold Blk at h ⊢
  simp [World.setCell, Array.getElem?_modify, h]
theorem Blk.far (h : Blk w g t cs) {p : Addr} (hp : g ≠ p.block) (u : Value) : Blk (w.setCell p u) g t cs := (Below.heap_setCell w p u g hp).trans h
theorem Blk.below {B : Nat} (h : Blk w g t cs) (hb : Below B w w') (hg : g < B) : Blk w' g t cs := (hb.block g hg).trans h
theorem Blk.ext (h : Blk w g t cs) (hb : Ext w w') : Blk w' g t cs := h.below hb h.lt
theorem Blk.grown {row : Option Nat} (h : Blk w g t cs) (hb : w.grownBy w' row) (hg : some g ≠ row) : Blk w' g t cs := (hb.block g h.lt hg).trans h
end

end Go.Proofs.Ytdijinboopdheaa

/- More words for memory: a cell of an owned row is written. No program is named here. -/
namespace Go.Proofs.Ytdijinboopdheaa
open Go.RowKit

section
variable {base : Nat} {e : TypeId} {v : Value} {w w' : World} {xs : List Value}
theorem Grew.form {v' : Value} (h : Grew base e v w xs v' w') (hn : 0 < xs.length) : ∃ g cap, v' = .slice (some ⟨g, 0, none⟩) xs.length cap ∧ xs.length ≤ cap ∧ base ≤ g ∧ g < w'.heap.size := by
  rcases h.1.2 with ⟨_, h0⟩ | ⟨g, cap, cur, hv, hg, hh, hnc, _⟩
  · omega
  · exact ⟨g, cap, hv, hnc, hg, (Array.getElem?_eq_some_iff.1 hh).1⟩
theorem Grew.cellAt {g n cap : Nat} (h : Grew base e v w xs (.slice (some ⟨g, 0, none⟩) n cap) w') (j : Nat) (hj : j < xs.length) : w'.cell? ⟨g, j, none⟩ = xs[j]? := by
  have h1 := h.1
  have hl : n = xs.length := by
    rcases h1.2 with ⟨h', _⟩ | ⟨g', cap', cur, h', _⟩
    · cases h'
    · cases h'
      rfl
  subst hl
  exact h1.cellAt j (by omega)
theorem Grew.frozenAt {g n cap : Nat} (h : Grew base e v w xs (.slice (some ⟨g, 0, none⟩) n cap) w') (j : Nat) : w'.frozen? ⟨g, j, none⟩ = false := by
  have h1 := h.1
  have hl : n = xs.length := by
    rcases h1.2 with ⟨h', _⟩ | ⟨g', cap', cur, h', _⟩
    · cases h'
    · cases h'
      rfl
  subst hl
  exact h1.frozenAt j
theorem Grew.set {g n cap : Nat} (h : Grew base e v w xs (.slice (some ⟨g, 0, none⟩) n cap) w') (j : Nat) (u : Value) : Grew base e v w (xs.set j u) (.slice (some ⟨g, 0, none⟩) n cap) (w'.setCell ⟨g, j, none⟩ u) := by
  obtain ⟨h1, h2, h3⟩ := h
  have hl : n = xs.length := by
    rcases h1.2 with ⟨h', _⟩ | ⟨g', cap', cur, h', _⟩
    · cases h'
    · cases h'
      rfl
  subst hl
  have hs := h1.stored j u
  refine ⟨by rw [List.length_set]; exact hs.1, ⟨h2.os, h2.tape, h2.output, by simpa using h2.size, fun k hk hne => ?_⟩, h3⟩
  refine (hs.2.block k (Nat.lt_of_lt_of_le hk h2.size) ?_).trans (h2.block k hk hne)
  intro e
  rcases h3 with h3 | h3
  · exact hne (by rw [← h3, e]; rfl)
  · have := h3 g rfl
    cases e
    omega
end

theorem Rd.get {w : World} {A : Option Addr} {N c : Nat} {xs : List Value} (h : Rd w (.slice A N c) xs) (hn : 0 < xs.length) :
    ∃ b o, A = some ⟨b, o, none⟩ ∧ b < w.heap.size ∧ ∀ j u, xs[j]? = some u → w.cell? ⟨b, o + j, none⟩ = some u := by
  obtain ⟨A', c', e, _, _, h3⟩ := h
  cases e
  exact h3 hn
theorem Rd.sliceN {w : World} {v : Value} {xs : List Value} (h : Rd w v xs) {n : Nat} (hn : xs.length = n) : ∃ A c, v = .slice A n c ∧ n ≤ c ∧ c ≤ maxLen := by
  subst hn
  obtain ⟨A, c, e, h1, h2, _⟩ := h
  exact ⟨A, c, e, h1, h2⟩
theorem Ext.cellOf {w w' : World} (h : Ext w w') {b o : Nat} {u : Value} (hc : w.cell? ⟨b, o, none⟩ = some u) (hb : b < w.heap.size) : w'.cell? ⟨b, o, none⟩ = some u :=
  (h.cell (p := ⟨b, o, none⟩) hb).trans hc

/-- An append to what reads as a list, and has too little room: a new row. -/
theorem run_append_rd_grows {P : Program} (w : World) (t ty e : TypeId) (i : TypeInfo) (z : Value) (ht : P.underlying t = some (.slice e)) (hi : P.info? e = some i) (hz : i.zero = some z)
    (hsize : i.size = 1) (hby : i.bytes = 1) (hzs : z.cells.size = 1) (b o n c : Nat) (xs : List Value) (hv : Rd w (.slice (some ⟨b, o, none⟩) n c) xs) (u : Value) (ys : List Value) (hr : Rd w u ys)
    (hroom : c < n + ys.length) (hbytes : xs.length + ys.length ≤ 140737488355328) :
    ∃ v' w', (Builtin.append_ #[t, t] ty #[.slice (some ⟨b, o, none⟩) n c, u]).run P w = .ok v' w' ∧ Grew w.heap.size e (.slice none 0 0) w (xs ++ ys) v' w' := by
  obtain ⟨A, c1, he, hn, hcm, hcx⟩ := hv
  cases he
  obtain ⟨A', c', rfl, hlc, hcm', hcell⟩ := hr
  obtain ⟨b', o', rfl, _, hc⟩ := hcell (by omega)
  have h63 : xs.length + ys.length ≤ maxLen := by unfold maxLen; omega
  have holds : ∀ j u, xs[j]? = some u → w.cell? ((⟨b, o, none⟩ : Addr).add j) = some u := by
    intro j u hu
    obtain ⟨b2, o2, h, _, hcx2⟩ := hcx (by rcases Nat.eq_zero_or_pos xs.length with h | h; (rw [List.eq_nil_of_length_eq_zero h] at hu; simp at hu); exact h)
    cases h
    rw [Addr.add_lit]
    exact hcx2 j u hu
  have hnews : ∀ j u, ys[j]? = some u → w.cell? ((⟨b', o', none⟩ : Addr).add j) = some u := by
    intro j u hu
    rw [Addr.add_lit]
    exact hc j u hu
  have hrun := run_append_grow (P := P) w t ty e i z ht hi hz ⟨b, o, none⟩ xs.length c xs (by rw [hsize]; omega) holds ⟨b', o', none⟩ ys.length c' ys (by rw [hsize]; omega) hnews hroom (by omega) (by rw [hby]; exact growslice_fits (by omega) (by omega))
  refine ⟨_, _, hrun, ⟨?_, ⟨rfl, rfl, rfl, by simp, fun k hk _ => heap_alloc_old w.drew _ hk⟩, .inr fun k hk => ?_⟩⟩
  · have hge := grownCap_ge w (xs.length + ys.length) c e
    have hcm2 : grownCap w (xs.length + ys.length) c e ≤ maxLen := grownCap_le_maxLen w (xs.length + ys.length) c e h63
    refine ⟨by rw [List.length_append]; omega, .inr ⟨w.heap.size, grownCap w (xs.length + ys.length) c e, _, by rw [List.length_append], Nat.le_refl _, heap_alloc_new w.drew _, by rw [List.length_append]; exact hge, hcm2, ?_, ?_⟩⟩
    · simp only [Array.size_append, List.size_toArray, size_zeroCells, hzs]
      omega
    · simp only [Array.toList_append, List.append_assoc]
      rw [← List.append_assoc, Nat.mul_one]
      exact List.take_left
  · simp only [Value.ownBlock] at hk
    cases hk
    exact Nat.le_refl _

theorem wpList_appendGrows {P : Program} {w : World} {ops : Array Oper} {rest : List Oper} {op : Oper} {a : Act} {Q : Exit → Act → World → Prop} (hgd : op.guard = none) (s x : Operand) (t : TypeId)
    (ho : op.op = .call { callee := .builtin .append, args := #[s, x], argTypes := #[t, t] })
    (e : TypeId) (z : Value) (ht : P.underlying t = some (.slice e)) (hinfo : (P.info? e).map (fun i => (i.zero, i.size, i.bytes)) = some (some z, 1, 1)) (hzs : z.cells.size = 1)
    (b o n c : Nat) (xs : List Value) (hs : a.eval s = .slice (some ⟨b, o, none⟩) n c) (hv : Rd w (.slice (some ⟨b, o, none⟩) n c) xs) (u : Value) (ys : List Value) (hx : a.eval x = u) (hr : Rd w u ys)
    (hroom : c < n + ys.length) (hbytes : xs.length + ys.length ≤ 140737488355328)
    (h : ∀ v' w', Grew w.heap.size e (.slice none 0 0) w (xs ++ ys) v' w' → wpList P ops Q rest (a.put op.dst v') w') : wpList P ops Q (op :: rest) a w := by
  refine wpList_plain hgd fun K hK => ?_
  obtain ⟨i0, hi, hz0, hz1, hz2⟩ := info_parts hinfo
  obtain ⟨v', w', hrun, h2⟩ := run_append_rd_grows (P := P) w t op.type e i0 z ht hi hz0 hz1 hz2 hzs b o n c xs hv u ys hr hroom hbytes
  unfold Oper.wp execOp
  simp only [ho, resolve, invoke, builtin, Sem.run_bind, Sem.run_pure, Result.andThen_ok, List.map_toArray, List.map_cons, List.map_nil, hs, hx, hrun]
  exact hK _ _ (h v' w' h2)

/-- A row that was made later is one of the call's own all the same. -/
theorem Grew.from_ext {w w1 w' : World} {e : TypeId} {xs : List Value} {v' : Value} (hx : Ext w w1) (h : Grew w1.heap.size e (.slice none 0 0) w1 xs v' w') : Grew w.heap.size e (.slice none 0 0) w xs v' w' := by
  obtain ⟨h1, h2, h3⟩ := h
  refine ⟨⟨h1.1, ?_⟩, ⟨h2.os.trans hx.os, h2.tape.trans hx.tape, h2.output.trans hx.output, Nat.le_trans hx.size h2.size, fun k hk hne => ?_⟩, .inr fun k hk => ?_⟩
  · rcases h1.2 with h | ⟨g, cap, cur, hv, hg, r⟩
    · exact .inl h
    · exact .inr ⟨g, cap, cur, hv, Nat.le_trans hx.size hg, r⟩
  · exact (h2.block k (Nat.lt_of_lt_of_le hk hx.size) hne).trans (hx.block k hk)
  · rcases h3 with h3 | h3
    · rw [h3] at hk
      cases hk
    · exact Nat.le_trans hx.size (h3 k hk)

/-! ### '[]T{}', and what is appended to it -/
theorem own_none (w : World) (e : TypeId) (g : Nat) (hg : g = w.heap.size) : (w.alloc (.cells #[] e)).ownsRow w.heap.size e 1 (.slice (some ⟨g, 0, none⟩) 0 0) ([] : List Value).length [] := by
  subst hg
  exact World.ownsRow_lit w #[] 0 (Nat.le_refl _) (by unfold maxLen; omega) rfl
theorem Grew.from_empty {w w' : World} {e : TypeId} {xs : List Value} {v' : Value} {g : Nat} (hg : g = w.heap.size) (h : Grew w.heap.size e (.slice (some ⟨g, 0, none⟩) 0 0) (w.alloc (.cells #[] e)) xs v' w') : Grew w.heap.size e (.slice none 0 0) w xs v' w' := by
  subst hg
  obtain ⟨h1, h2, h3⟩ := h
  have hx : Ext w (w.alloc (.cells #[] e)) := (Below.refl _ _).alloc (Nat.le_refl _) _
  refine ⟨h1, ⟨h2.os.trans hx.os, h2.tape.trans hx.tape, h2.output.trans hx.output, Nat.le_trans hx.size h2.size, fun k hk _ => ?_⟩, .inr fun k hk => ?_⟩
  · exact (h2.block k (Nat.lt_of_lt_of_le hk hx.size) (by simp only [Value.ownBlock]; intro e; cases e; omega)).trans (hx.block k hk)
  · rcases h3 with h3 | h3
    · rw [h3] at hk
      simp only [Value.ownBlock] at hk
      cases hk
      exact Nat.le_refl _
    · exact Nat.le_trans hx.size (h3 k hk)

end Go.Proofs.Ytdijinboopdheaa

/- Words for objects that are written: which blocks a thing lies in, and which a call may have turned. No program is named here. -/
namespace Go.Proofs.Ytdijinboopdheaa
open Go.RowKit

/-- A set of blocks. -/
abbrev Fp : Type := Nat → Prop
/-- Two sets that share no block. -/
def Fp.apart (F G : Fp) : Prop := ∀ k, F k → ¬ G k
/-- All blocks of the set are there. -/
def Fp.isIn (F : Fp) (w : World) : Prop := ∀ k, F k → k < w.heap.size
/-- The set, and the blocks that were made since. -/
def Fp.since (F : Fp) (w w' : World) : Fp := fun k => F k ∨ (w.heap.size ≤ k ∧ k < w'.heap.size)

/-- 'Chg F w w'': of the blocks that w has, those of F alone may have turned. -/
structure Chg (F : Fp) (w w' : World) : Prop where
  os : w'.os = w.os
  tape : w'.tape = w.tape
  output : w'.output = w.output
  size : w.heap.size ≤ w'.heap.size
  block : ∀ k, k < w.heap.size → ¬ F k → w'.heap[k]? = w.heap[k]?

section
variable {F G H : Fp} {w w' w'' : World}
theorem Fp.apart.symm (h : F.apart G) : G.apart F := fun k hg hf => h k hf hg
theorem Fp.apart.mono {F' G' : Fp} (h : F.apart G) (hf : ∀ k, F' k → F k) (hg : ∀ k, G' k → G k) : F'.apart G' := fun k h1 h2 => h k (hf k h1) (hg k h2)
theorem Fp.isIn.chg (h : F.isIn w) (hc : Chg G w w') : F.isIn w' := fun k hk => Nat.lt_of_lt_of_le (h k hk) hc.size
theorem Fp.isIn.ext (h : F.isIn w) (hc : Ext w w') : F.isIn w' := fun k hk => Nat.lt_of_lt_of_le (h k hk) hc.size
theorem Fp.isIn.since (h : F.isIn w) (hs : w.heap.size ≤ w'.heap.size) : (F.since w w').isIn w' := fun k hk => by
  rcases hk with hk | hk
  · exact Nat.lt_of_lt_of_le (h k hk) hs
  · exact hk.2
/-- What was there, and apart, stays apart of what was made since. -/
theorem Fp.apart.since (h : F.apart G) (hg : G.isIn w) : (F.since w w').apart G := fun k hk hgk => by
  rcases hk with hk | hk
  · exact h k hk hgk
  · have := hg k hgk
    omega

theorem Chg.refl (F : Fp) (w : World) : Chg F w w := ⟨rfl, rfl, rfl, Nat.le_refl _, fun _ _ _ => rfl⟩
theorem Chg.mono (h : Chg F w w') (hf : ∀ k, k < w.heap.size → F k → G k) : Chg G w w' := ⟨h.os, h.tape, h.output, h.size, fun k hk hg => h.block k hk (fun hF => hg (hf k hk hF))⟩
theorem Chg.trans (h : Chg F w w') (k : Chg G w' w'') (hg : ∀ x, x < w.heap.size → G x → F x) : Chg F w w'' :=
  ⟨k.os.trans h.os, k.tape.trans h.tape, k.output.trans h.output, Nat.le_trans h.size k.size, fun x hx hF => (k.block x (Nat.lt_of_lt_of_le hx h.size) (fun hG => hF (hg x hx hG))).trans (h.block x hx hF)⟩
theorem Chg.of_ext (h : Ext w w') : Chg F w w' := ⟨h.os, h.tape, h.output, h.size, fun k hk _ => h.block k hk⟩
/-- Only what is newer than w0 was turned: all that w0 has stands. -/
theorem Chg.ext {w0 : World} (h : Chg F w w') (hx : Ext w0 w) (hf : ∀ k, F k → w0.heap.size ≤ k) : Ext w0 w' :=
  ⟨h.os.trans hx.os, h.tape.trans hx.tape, h.output.trans hx.output, Nat.le_trans hx.size h.size, fun k hk => (h.block k (Nat.lt_of_lt_of_le hk hx.size) (fun hF => by have := hf k hF; omega)).trans (hx.block k hk)⟩
theorem Chg.of_grown {row : Option Nat} (h : w.grownBy w' row) (hr : ∀ k, row = some k → F k) : Chg F w w' :=
  ⟨h.os, h.tape, h.output, h.size, fun k hk hF => h.block k hk (fun e => hF (hr k e.symm))⟩
theorem Chg.drewN (h : Chg F w w') (n : Nat) : Chg F w (w'.drewN n) := ⟨h.os, h.tape, h.output, h.size, h.block⟩
theorem Chg.drew (h : Chg F w w') : Chg F w w'.drew := ⟨h.os, h.tape, h.output, h.size, h.block⟩
theorem Chg.alloc (h : Chg F w w') (o : Obj) : Chg F w (w'.alloc o) :=
  h.trans (G := fun _ => False) (Chg.of_ext ((Below.refl _ _).alloc (Nat.le_refl _) _)) (fun _ _ h => h.elim)
theorem Chg.setCell (h : Chg F w w') {p : Addr} {v : Value} (hp : p.block < w.heap.size → F p.block) : Chg F w (w'.setCell p v) := by
  refine ⟨h.os, h.tape, h.output, by simpa using h.size, fun k hk hF => ?_⟩
  have hne : k ≠ p.block := fun e => hF (by rw [e]; exact hp (by rw [← e]; exact hk))
  exact (Below.heap_setCell w' p v k hne).trans (h.block k hk hF)

theorem Fp.since_since {a b c : World} (h1 : a.heap.size ≤ b.heap.size) (h2 : b.heap.size ≤ c.heap.size) : ∀ k, ((F.since a b).since b c) k → F.since a c k := fun k hk => by
  rcases hk with (hk | hk) | hk
  · exact .inl hk
  · exact .inr ⟨hk.1, Nat.lt_of_lt_of_le hk.2 h2⟩
  · exact .inr ⟨Nat.le_trans h1 hk.1, hk.2⟩
theorem Chg.step (h : Chg F w w') (k : Chg (F.since w w') w' w'') : Chg F w w'' := h.trans k (fun x hx hF => by
  rcases hF with hF | hF
  · exact hF
  · omega)
theorem Fp.since_grow {a b c : World} (h2 : b.heap.size ≤ c.heap.size) : ∀ k, (F.since a b) k → F.since a c k := fun k hk => by
  rcases hk with hk | hk
  · exact .inl hk
  · exact .inr ⟨hk.1, Nat.lt_of_lt_of_le hk.2 h2⟩

/-- A slice that reads as xs and lies in the set. -/
def RdF (F : Fp) (w : World) (v : Value) (xs : List Value) : Prop :=
  ∃ A c, v = .slice A xs.length c ∧ xs.length ≤ c ∧ c ≤ maxLen ∧ (0 < xs.length → ∃ b o, A = some ⟨b, o, none⟩ ∧ b < w.heap.size ∧ F b ∧ ∀ j u, xs[j]? = some u → w.cell? ⟨b, o + j, none⟩ = some u)

theorem RdF.rd {v : Value} {xs : List Value} (h : RdF F w v xs) : Rd w v xs := by
  obtain ⟨A, c, e, h1, h2, h3⟩ := h
  refine ⟨A, c, e, h1, h2, fun hn => ?_⟩
  obtain ⟨b, o, a, hb, _, hc⟩ := h3 hn
  exact ⟨b, o, a, hb, hc⟩
/-- What lies apart of what may have turned reads as ever. -/
theorem RdF.chg {v : Value} {xs : List Value} (h : RdF F w v xs) (hc : Chg G w w') (ha : F.apart G) : RdF F w' v xs := by
  obtain ⟨A, c, e, h1, h2, h3⟩ := h
  refine ⟨A, c, e, h1, h2, fun hn => ?_⟩
  obtain ⟨b, o, a, hb, hF, hcell⟩ := h3 hn
  refine ⟨b, o, a, Nat.lt_of_lt_of_le hb hc.size, hF, fun j u hu => ?_⟩
  have h4 := hcell j u hu
  simp only [World.cell?] at h4 ⊢
  rw [hc.block b hb (ha b hF)]
  exact h4
theorem RdF.get {A : Option Addr} {N c : Nat} {xs : List Value} (h : RdF F w (.slice A N c) xs) (hn : 0 < xs.length) :
    ∃ b o, A = some ⟨b, o, none⟩ ∧ b < w.heap.size ∧ F b ∧ ∀ j u, xs[j]? = some u → w.cell? ⟨b, o + j, none⟩ = some u := by
  obtain ⟨A', c', e, _, _, h3⟩ := h
  cases e
  exact h3 hn
/-- What came in lies below the call. -/
theorem Rd.old {v : Value} {xs : List Value} (h : Rd w v xs) : RdF (fun k => k < w.heap.size) w v xs := by
  obtain ⟨A, c, e, h1, h2, h3⟩ := h
  refine ⟨A, c, e, h1, h2, fun hn => ?_⟩
  obtain ⟨b, o, a, hb, hc⟩ := h3 hn
  exact ⟨b, o, a, hb, hb, hc⟩
theorem RdF.mono {v : Value} {xs : List Value} (h : RdF F w v xs) (hf : ∀ k, F k → G k) : RdF G w v xs := by
  obtain ⟨A, c, e, h1, h2, h3⟩ := h
  refine ⟨A, c, e, h1, h2, fun hn => ?_⟩
  obtain ⟨b, o, a, hb, hF, hc⟩ := h3 hn
  exact ⟨b, o, a, hb, hf b hF, hc⟩

/-! ### Rows of an object's own: which block they lie in -/
/-- The slice v is an own row of the cells xs; it lies in the set. -/
def RowF (F : Fp) (w : World) (e : TypeId) (v : Value) (xs : List Value) : Prop := w.ownsRow 0 e 1 v xs.length xs ∧ ∀ k, v.ownBlock = some k → F k

theorem RowF.rd {e : TypeId} {v : Value} {xs : List Value} (h : RowF F w e v xs) : Rd w v xs := Rd.own h.1
theorem RowF.rdF {e : TypeId} {v : Value} {xs : List Value} (h : RowF F w e v xs) : RdF F w v xs := by
  rcases h.1.2 with ⟨hv, h0⟩ | ⟨g, cap, cur, hv, hg, hh, hn, hcap, hs, ht⟩
  · rw [hv]
    exact ⟨none, 0, by rw [h0], by omega, Nat.zero_le _, fun hn => absurd hn (by omega)⟩
  · have hF := h.2 g (by rw [hv]; rfl)
    have hr := Rd.own h.1
    obtain ⟨A, c, e1, h1, h2, h3⟩ := hr
    refine ⟨A, c, e1, h1, h2, fun hn => ?_⟩
    obtain ⟨b, o, a, hb, hc⟩ := h3 hn
    refine ⟨b, o, a, hb, ?_, hc⟩
    rw [hv] at e1
    injection e1 with eA
    rw [a] at eA
    cases eA
    exact hF
theorem RowF.mono {e : TypeId} {v : Value} {xs : List Value} (h : RowF F w e v xs) (hf : ∀ k, F k → G k) : RowF G w e v xs := ⟨h.1, fun k hk => hf k (h.2 k hk)⟩
theorem RowF.chg {e : TypeId} {v : Value} {xs : List Value} (h : RowF F w e v xs) (hc : Chg G w w') (ha : F.apart G) : RowF F w' e v xs := by
  refine ⟨⟨h.1.1, ?_⟩, h.2⟩
  rcases h.1.2 with hv | ⟨g, cap, cur, hv, hg, hh, r⟩
  · exact .inl hv
  · have hF := h.2 g (by rw [hv]; rfl)
    exact .inr ⟨g, cap, cur, hv, hg, by rw [hc.block g (Array.getElem?_eq_some_iff.1 hh).1 (ha g hF)]; exact hh, r⟩
theorem RowF.nil (F : Fp) (w : World) (e : TypeId) : RowF F w e (.slice none 0 0) [] := ⟨World.ownsRow_nil w 0 e 1, fun k hk => by cases hk⟩
/-- What a call made by itself is its own row, in the blocks made since. -/
theorem RowF.made {e : TypeId} {v : Value} {xs : List Value} (h : Grew w.heap.size e (.slice none 0 0) w xs v w') : RowF (fun k => w.heap.size ≤ k ∧ k < w'.heap.size) w' e v xs := by
  refine ⟨⟨h.1.1, ?_⟩, fun k hk => h.1.lt k hk⟩
  rcases h.1.2 with hv | ⟨g, cap, cur, hv, hg, r⟩
  · exact .inl hv
  · exact .inr ⟨g, cap, cur, hv, Nat.zero_le _, r⟩
theorem RowF.lt {e : TypeId} {v : Value} {xs : List Value} (h : RowF F w e v xs) : ∀ k, v.ownBlock = some k → k < w.heap.size := fun k hk => (h.1.lt k hk).2
/-- The row has grown by an append, or was written. -/
theorem RowF.grew {e : TypeId} {v v' : Value} {xs ys : List Value} (h : RowF F w e v xs) (hg : Grew 0 e v w ys v' w') : RowF (F.since w w') w' e v' ys ∧ Chg (fun k => v.ownBlock = some k) w w' := by
  refine ⟨⟨hg.1, fun k hk => ?_⟩, Chg.of_grown hg.2.1 (fun k hk => hk)⟩
  rcases hg.2.2 with h2 | h2
  · rw [h2] at hk
    exact .inl (h.2 k hk)
  · exact .inr ⟨h2 k hk, (hg.1.lt k hk).2⟩
end

end Go.Proofs.Ytdijinboopdheaa

/- Rows of elements of several cells: what reads so, and an append of it; as in RowK, without a program. -/
namespace Go.Proofs.Ytdijinboopdheaa
open Go.RowKit

def RdS (K : Nat) (w : World) (v : Value) (n : Nat) (xs : List Value) : Prop :=
  xs.length = n * K ∧ ∃ A c, v = .slice A n c ∧ n ≤ c ∧ c ≤ maxLen ∧ (0 < n → ∃ b o, A = some ⟨b, o, none⟩ ∧ b < w.heap.size ∧ ∀ j u, xs[j]? = some u → w.cell? ⟨b, o + j, none⟩ = some u)

section
variable {K : Nat} {w w' : World} {v : Value} {n : Nat} {xs : List Value}
theorem RdS.ext (h : RdS K w v n xs) (hx : Ext w w') : RdS K w' v n xs := by
  obtain ⟨h0, A, c, e, h1, h2, h3⟩ := h
  refine ⟨h0, A, c, e, h1, h2, fun hn => ?_⟩
  obtain ⟨b, o, hA, hlt, hc⟩ := h3 hn
  exact ⟨b, o, hA, Nat.lt_of_lt_of_le hlt hx.size, fun j u hu => (hx.cell (p := ⟨b, o + j, none⟩) hlt).trans (hc j u hu)⟩
theorem RdS.slice_ (h : RdS K w v n xs) : ∃ A c, v = .slice A n c ∧ n ≤ c ∧ c ≤ 9223372036854775807 := by
  obtain ⟨_, A, c, e, h1, h2, _⟩ := h
  exact ⟨A, c, e, h1, by unfold maxLen at h2; omega⟩
theorem RdS.get {A : Option Addr} {c : Nat} (h : RdS K w (.slice A n c) n xs) (hn : 0 < n) : ∃ b o, A = some ⟨b, o, none⟩ ∧ b < w.heap.size ∧ ∀ j u, xs[j]? = some u → w.cell? ⟨b, o + j, none⟩ = some u := by
  obtain ⟨_, A', c', e, _, _, h3⟩ := h
  cases e
  exact h3 hn
theorem RdS.own {base : Nat} {e : TypeId} (h : w.ownsRow base e K v n xs) : RdS K w v n xs := by
  refine ⟨h.1, ?_⟩
  rcases h.2 with ⟨rfl, h0⟩ | ⟨g, cap, cur, rfl, hg, hh, hn, hcap, hs, ht⟩
  · exact ⟨none, 0, by rw [h0], by omega, Nat.zero_le _, fun hn => absurd hn (by omega)⟩
  · refine ⟨some ⟨g, 0, none⟩, cap, rfl, hn, hcap, fun _ => ⟨g, 0, rfl, (Array.getElem?_eq_some_iff.1 hh).1, fun j u hu => ?_⟩⟩
    have := h.cells (g := g) rfl j u hu
    rwa [Addr.add_lit] at this
end

/-- What an append to an own row leaves. -/
def GrewK (base : Nat) (e : TypeId) (K : Nat) (v : Value) (w : World) (n : Nat) (xs : List Value) (v' : Value) (w' : World) : Prop :=
  w'.ownsRow base e K v' n xs ∧ w.grownBy w' v.ownBlock ∧ (v'.ownBlock = v.ownBlock ∨ ∀ k, v'.ownBlock = some k → w.heap.size ≤ k)

theorem GrewK.ext {base K n : Nat} {e : TypeId} {w w' : World} {xs : List Value} {v' : Value} (h : GrewK base e K (.slice none 0 0) w n xs v' w') : Ext w w' := (Below.refl _ _).grown h.2.1 (Nat.le_refl _) (fun k hk => by cases hk)

theorem run_appendK {P : Program} (w : World) (base : Nat) (t ty e : TypeId) (i0 : TypeInfo) (z : Value) (K bytes : Nat) (ht : P.underlying t = some (.slice e)) (hi : P.info? e = some i0) (hz0 : i0.zero = some z) (hz1 : i0.size = K) (hz2 : i0.bytes = bytes) (hzs : z.cells.size = K) (hK0 : 0 < K)
    (v : Value) (n : Nat) (xs : List Value) (hown : w.ownsRow base e K v n xs) (u : Value) (m : Nat) (ys : List Value) (hr : RdS K w u m ys) (h1 : ∀ y ∈ ys, y.oneCell' = true)
    (h63 : n + m ≤ maxLen) (hbytes : (n + m) * bytes ≤ 140737488355328) (hbase : base ≤ w.heap.size) :
    ∃ v' w', (Builtin.append_ #[t, t] ty #[v, u]).run P w = .ok v' w' ∧ GrewK base e K v w (n + m) (xs ++ ys) v' w' := by
  obtain ⟨hl, A, c, rfl, hlc, hcm, hcell⟩ := hr
  rcases A with _ | ad
  · have h0 : m = 0 := by
      rcases Nat.eq_zero_or_pos m with h | h
      · exact h
      · obtain ⟨b, o, h, _⟩ := hcell h
        cases h
    subst h0
    have hy : ys = [] := List.eq_nil_of_length_eq_zero (by simpa using hl)
    subst hy
    refine ⟨v, w, ?_, by simpa using hown, World.grownBy.refl _ _, .inl rfl⟩
    rcases hown.2 with ⟨rfl, rfl⟩ | ⟨g, cap, cur, rfl, _, _, hnc, _⟩
    · simp [Builtin.append_, run_underlying ht, sizeOf, typeInfo, hi, Builtin.lenOf, Builtin.firstCells]
    · simp [Builtin.append_, run_underlying ht, sizeOf, typeInfo, hi, Builtin.lenOf, Builtin.firstCells, hnc, storeCells]
  · have hnews : ∀ j u, ys[j]? = some u → w.cell? (ad.add j) = some u := by
      intro j u hu
      have hp : 0 < m := by
        rcases Nat.eq_zero_or_pos m with h | h
        · rw [h, Nat.zero_mul] at hl
          rw [List.eq_nil_of_length_eq_zero hl] at hu
          simp at hu
        · exact h
      obtain ⟨b, o, h, _, hc⟩ := hcell hp
      cases h
      rw [Addr.add_lit]
      exact hc j u hu
    obtain ⟨v', w', hrun, h2, h3, _, h5⟩ := run_append_own_at (P := P) w base t ty e i0 z K bytes ht hi hz0 hz1 hz2 hzs hK0 v n xs hown ad m c ys hl hnews h1 h63 hbytes hbase
    refine ⟨v', w', hrun, h2, h3, ?_⟩
    rcases h5 with h5 | h5
    · exact .inl h5
    · refine .inr fun k hk => ?_
      rw [h5] at hk
      cases hk
      exact Nat.le_refl _

theorem wpList_appendK {P : Program} {w : World} {ops : Array Oper} {rest : List Oper} {o : Oper} {a : Act} {Q : Exit → Act → World → Prop} (hgd : o.guard = none) (s x : Operand) (t : TypeId)
    (ho : o.op = .call { callee := .builtin .append, args := #[s, x], argTypes := #[t, t] })
    (base : Nat) (e : TypeId) (z : Value) (K bytes : Nat) (ht : P.underlying t = some (.slice e)) (hinfo : (P.info? e).map (fun i => (i.zero, i.size, i.bytes)) = some (some z, K, bytes)) (hzs : z.cells.size = K) (hK0 : 0 < K)
    (v : Value) (n : Nat) (xs : List Value) (hs : a.eval s = v) (hown : w.ownsRow base e K v n xs) (u : Value) (m : Nat) (ys : List Value) (hx : a.eval x = u) (hr : RdS K w u m ys) (h1 : ∀ y ∈ ys, y.oneCell' = true)
    (h63 : n + m ≤ maxLen) (hbytes : (n + m) * bytes ≤ 140737488355328) (hbase : base ≤ w.heap.size)
    (h : ∀ v' w', GrewK base e K v w (n + m) (xs ++ ys) v' w' → wpList P ops Q rest (a.put o.dst v') w') : wpList P ops Q (o :: rest) a w := by
  refine wpList_plain hgd fun K' hK' => ?_
  obtain ⟨i0, hi, hz0, hz1, hz2⟩ := info_parts hinfo
  obtain ⟨v', w', hrun, h2⟩ := run_appendK (P := P) w base t o.type e i0 z K bytes ht hi hz0 hz1 hz2 hzs hK0 v n xs hown u m ys hr h1 h63 hbytes hbase
  unfold Oper.wp execOp
  simp only [ho, resolve, invoke, builtin, Sem.run_bind, Sem.run_pure, Result.andThen_ok, List.map_toArray, List.map_cons, List.map_nil, hs, hx, hrun]
  exact hK' _ _ (h v' w' h2)

/-- The same inside a statement whose order is open. -/
theorem stepAppendK {P : Program} {w : World} {ops : Array Oper} {o : Oper} {a : Act} {K' : Act → World → Prop} {Q : Exit → Act → World → Prop} {E : Prop} (s x : Operand) (t : TypeId)
    (ho : o.op = .call { callee := .builtin .append, args := #[s, x], argTypes := #[t, t] }) (hw : Region.wanted o (yielded ops a.tmps) = true)
    (base : Nat) (e : TypeId) (z : Value) (K bytes : Nat) (ht : P.underlying t = some (.slice e)) (hinfo : (P.info? e).map (fun i => (i.zero, i.size, i.bytes)) = some (some z, K, bytes)) (hzs : z.cells.size = K) (hK0 : 0 < K)
    (v : Value) (n : Nat) (xs : List Value) (hs : a.eval s = v) (hown : w.ownsRow base e K v n xs) (u : Value) (m : Nat) (ys : List Value) (hx : a.eval x = u) (hr : RdS K w u m ys) (h1 : ∀ y ∈ ys, y.oneCell' = true)
    (h63 : n + m ≤ maxLen) (hbytes : (n + m) * bytes ≤ 140737488355328) (hbase : base ≤ w.heap.size)
    (h : ∀ v' w', GrewK base e K v w (n + m) (xs ++ ys) v' w' → K' (a.put o.dst v') w') : if Region.wanted o (yielded ops a.tmps) = true then Oper.wp P o a w K' Q else E := by
  rw [if_pos hw]
  obtain ⟨i0, hi, hz0, hz1, hz2⟩ := info_parts hinfo
  obtain ⟨v', w', hrun, h2⟩ := run_appendK (P := P) w base t o.type e i0 z K bytes ht hi hz0 hz1 hz2 hzs hK0 v n xs hown u m ys hr h1 h63 hbytes hbase
  unfold Oper.wp execOp
  simp only [ho, resolve, invoke, builtin, Sem.run_bind, Sem.run_pure, Result.andThen_ok, List.map_toArray, List.map_cons, List.map_nil, hs, hx, hrun]
  exact h v' w' h2


/-- One element just made, as a slice. -/
theorem RdS.lit (K : Nat) (w : World) (cs : Array Value) (e : TypeId) (g : Nat) (hg : g = w.heap.size) (hc : cs.size = K) : RdS K (w.alloc (.cells cs e)) (.slice (some ⟨g, 0, none⟩) 1 1) 1 cs.toList := by
  subst hg
  refine ⟨by rw [Array.length_toList, hc, Nat.one_mul], some ⟨w.heap.size, 0, none⟩, 1, rfl, Nat.le_refl _, by unfold maxLen; omega, fun _ => ⟨w.heap.size, 0, rfl, by simp, fun j u hu => ?_⟩⟩
  rw [Nat.zero_add, cell_of_row _ _ _ cs e (0, 0) (heap_alloc_new w _)]
  simpa using hu

end Go.Proofs.Ytdijinboopdheaa

/- The reference's store: a list of points, in a block of its own. -/
namespace Go.Proofs.Ytdijinboopdheaa
open Go.RowKit

/-- A point, and the slice that holds its bytes. -/
structure PtL where
  p : PtP
  v : Value
def PtL.cells (x : PtL) : List Value := [I x.p.job, I x.p.ep, .bool x.p.cnt, x.v]
def PtL.at (w : World) (b o : Nat) (x : PtL) : Prop :=
  w.cell? ⟨b, o, none⟩ = some (I x.p.job) ∧ w.cell? ⟨b, o + 1, none⟩ = some (I x.p.ep) ∧ w.cell? ⟨b, o + 2, none⟩ = some (.bool x.p.cnt) ∧ w.cell? ⟨b, o + 3, none⟩ = some x.v
/-- A list of points reads so, apart of the blocks that are written. -/
structure PtsRd (N : Fp) (w : World) (v : Value) (lp : List PtL) : Prop where
  row : ∃ A c, v = .slice A lp.length c ∧ lp.length ≤ c ∧ c ≤ maxLen ∧ (0 < lp.length → ∃ b o, A = some ⟨b, o, none⟩ ∧ b < w.heap.size ∧ ¬ N b ∧ ∀ j x, lp[j]? = some x → PtL.at w b (o + j * 4) x)
  dat : ∀ x ∈ lp, RdF (fun k => ¬ N k) w x.v (x.p.da.map B)
/-- The reference's store at h; N: the blocks that are written. -/
structure RsAt (N : Fp) (w : World) (h : Nat) (R : RsP) : Prop where
  out : ∃ lp v, lp.map PtL.p = R.L ∧ Blk w h 46 #[I R.room, I R.term, v, I R.writes] ∧ PtsRd N w v lp
  isIn : N.isIn w
  here : N h

section
variable {N G : Fp} {w w' : World} {v : Value} {lp : List PtL} {h : Nat} {R : RsP}
theorem PtL.at.chg {b o : Nat} {x : PtL} (hx : PtL.at w b o x) (hc : Chg G w w') (hb : b < w.heap.size) (hg : ¬ G b) : PtL.at w' b o x := by
  have h1 := hc.block b hb hg
  obtain ⟨c0, c1, c2, c3⟩ := hx
  exact ⟨(World.cell?_of_block (a := ⟨b, o, none⟩) h1).trans c0, (World.cell?_of_block (a := ⟨b, o + 1, none⟩) h1).trans c1, (World.cell?_of_block (a := ⟨b, o + 2, none⟩) h1).trans c2, (World.cell?_of_block (a := ⟨b, o + 3, none⟩) h1).trans c3⟩
theorem PtsRd.chg (hp : PtsRd N w v lp) (hc : Chg G w w') (hg : ∀ k, G k → N k) : PtsRd N w' v lp := by
  refine ⟨?_, fun x hx => (hp.dat x hx).chg hc (fun k hk hG => hk (hg k hG))⟩
  obtain ⟨A, c, e, h1, h2, h3⟩ := hp.row
  refine ⟨A, c, e, h1, h2, fun hn => ?_⟩
  obtain ⟨b, o, hA, hb, hN, hat⟩ := h3 hn
  exact ⟨b, o, hA, Nat.lt_of_lt_of_le hb hc.size, hN, fun j x hj => (hat j x hj).chg hc hb (fun hG => hN (hg b hG))⟩
theorem PtsRd.nil (N : Fp) (w : World) : PtsRd N w (.slice none 0 0) [] := ⟨⟨none, 0, rfl, Nat.le_refl _, Nat.zero_le _, fun hn => absurd hn (by decide)⟩, fun x hx => by cases hx⟩
theorem PtsRd.get {A : Option Addr} {n c : Nat} (hp : PtsRd N w (.slice A n c) lp) (hn : 0 < lp.length) : ∃ b o, A = some ⟨b, o, none⟩ ∧ b < w.heap.size ∧ ¬ N b ∧ ∀ j x, lp[j]? = some x → PtL.at w b (o + j * 4) x := by
  obtain ⟨A', c', e, _, _, h3⟩ := hp.row
  cases e
  exact h3 hn
theorem RsAt.chg (hr : RsAt N w h R) (hc : Chg G w w') (hg : ∀ k, G k → N k) (hng : ¬ G h) : RsAt N w' h R := by
  obtain ⟨lp, v, h1, h2, h3⟩ := hr.out
  exact ⟨⟨lp, v, h1, (hc.block h h2.lt hng).trans h2, h3.chg hc hg⟩, hr.isIn.chg hc, hr.here⟩
theorem RsAt.ext (hr : RsAt N w h R) (hx : Ext w w') : RsAt N w' h R := hr.chg (G := fun _ => False) (Chg.of_ext hx) (fun _ h => h.elim) (fun h => h)
theorem flatP_at : ∀ (lp : List PtL) (j i : Nat) (x : PtL), lp[j]? = some x → i < 4 → (lp.flatMap PtL.cells)[j * 4 + i]? = x.cells[i]?
  | [], _, _, _, h, _ => by simp at h
  | y :: lp, 0, i, x, h, hi => by
    obtain rfl : y = x := by simpa using h
    rw [List.flatMap_cons, Nat.zero_mul, Nat.zero_add, List.getElem?_append_left (by show i < 4; exact hi)]
  | y :: lp, j + 1, i, x, h, hi => by
    rw [List.flatMap_cons, List.getElem?_append_right (by show 4 ≤ (j + 1) * 4 + i; omega), show (j + 1) * 4 + i - y.cells.length = j * 4 + i by show (j + 1) * 4 + i - 4 = _; omega]
    exact flatP_at lp j i x (by simpa using h) hi
theorem flatP_len : ∀ lp : List PtL, (lp.flatMap PtL.cells).length = lp.length * 4
  | [] => rfl
  | x :: lp => by rw [List.flatMap_cons, List.length_append, flatP_len lp, List.length_cons]; show 4 + lp.length * 4 = _; omega
/-- A row of the call's own, new since the written blocks were there. -/
theorem PtsRd.own {base : Nat} {e : TypeId} (ho : w.ownsRow base e 4 v lp.length (lp.flatMap PtL.cells)) (hN : ∀ k, base ≤ k → ¬ N k) (hd : ∀ x ∈ lp, RdF (fun k => ¬ N k) w x.v (x.p.da.map B)) : PtsRd N w v lp := by
  refine ⟨?_, hd⟩
  rcases ho.2 with ⟨rfl, h0⟩ | ⟨g, cap, cur, rfl, hg, hh, hn, hcap, hs, ht⟩
  · exact ⟨none, 0, by rw [h0], by omega, Nat.zero_le _, fun hn => absurd hn (by omega)⟩
  · refine ⟨some ⟨g, 0, none⟩, cap, rfl, hn, hcap, fun _ => ⟨g, 0, rfl, (Array.getElem?_eq_some_iff.1 hh).1, hN g hg, fun j x hj => ?_⟩⟩
    have hc : ∀ i, i < 4 → w.cell? ⟨g, 0 + j * 4 + i, none⟩ = x.cells[i]? := fun i hi => by
      have h1 := flatP_at lp j i x hj hi
      cases hx : x.cells[i]? with
      | none => have : i < x.cells.length := hi; rw [List.getElem?_eq_none_iff] at hx; omega
      | some u =>
        rw [hx] at h1
        have h2 := ho.cells (g := g) rfl (j * 4 + i) u h1
        rw [Addr.add_lit] at h2
        rw [Nat.add_assoc]; exact h2
    exact ⟨hc 0 (by omega), hc 1 (by omega), hc 2 (by omega), hc 3 (by omega)⟩
end

end Go.Proofs.Ytdijinboopdheaa

/- Rows of structs that are appended to, and of which one is taken out by 'append(s[:i:i], s[i+1:]...)': a row of one's own, or the full head of one. No program is named here. -/
namespace Go.Proofs.Ytdijinboopdheaa
open Go.RowKit

/-- The full head of a row. -/
def headRow (w : World) (e : TypeId) (sz : Nat) (v : Value) (n : Nat) (xs : List Value) : Prop :=
  xs.length = n * sz ∧ ∃ b cur, v = .slice (some ⟨b, 0, none⟩) n n ∧ w.heap[b]? = some (.cells cur e (0, 0)) ∧ n ≤ maxLen ∧ n * sz ≤ cur.size ∧ cur.toList.take (n * sz) = xs
/-- The slice v of n structs is an own row, or a head; it lies in F. -/
structure WayF (F : Fp) (w : World) (e : TypeId) (sz : Nat) (v : Value) (n : Nat) (xs : List Value) : Prop where
  row : w.ownsRow 0 e sz v n xs ∨ headRow w e sz v n xs
  inF : ∀ k, v.ownBlock = some k → F k

section
variable {F G : Fp} {w w' : World} {e : TypeId} {sz n : Nat} {v : Value} {xs : List Value}
theorem WayF.len (h : WayF F w e sz v n xs) : xs.length = n * sz := by rcases h.row with h | h; exact h.1; exact h.1
theorem WayF.slice_ (h : WayF F w e sz v n xs) : ∃ A c, v = .slice A n c ∧ n ≤ c ∧ c ≤ maxLen ∧ (A = none → n = 0 ∧ c = 0) := by
  rcases h.row with ⟨_, ⟨rfl, rfl⟩ | ⟨g, cap, cur, rfl, _, _, h1, h2, _⟩⟩ | ⟨_, b, cur, rfl, _, h1, _⟩
  · exact ⟨none, 0, rfl, Nat.le_refl _, Nat.zero_le _, fun _ => ⟨rfl, rfl⟩⟩
  · exact ⟨_, cap, rfl, h1, h2, fun h => by cases h⟩
  · exact ⟨_, n, rfl, Nat.le_refl _, h1, fun h => by cases h⟩
theorem WayF.at_ {A : Option Addr} {m c : Nat} (h : WayF F w e sz (.slice A m c) n xs) (hA : A ≠ none) : m = n ∧ ∃ b cur, A = some ⟨b, 0, none⟩ ∧ w.heap[b]? = some (.cells cur e (0, 0)) ∧ n * sz ≤ cur.size ∧ cur.toList.take (n * sz) = xs := by
  rcases h.row with ⟨_, ⟨h1, h2⟩ | ⟨g, cap, cur, h1, _, h2, h3, _, h5, h6⟩⟩ | ⟨_, b, cur, h1, h2, _, h4, h5⟩
  · injection h1 with h1; exact absurd h1 hA
  · injection h1 with h1 h7 h8
    exact ⟨h7, g, cur, h1, h2, by rw [h5]; exact Nat.mul_le_mul_right _ h3, h6⟩
  · injection h1 with h1 h7 h8
    exact ⟨h7, b, cur, h1, h2, h4, h5⟩
theorem WayF.nil (F : Fp) (w : World) (e : TypeId) (sz : Nat) : WayF F w e sz (.slice none 0 0) 0 [] := ⟨.inl (World.ownsRow_nil w 0 e sz), fun k hk => by cases hk⟩
theorem WayF.mono (h : WayF F w e sz v n xs) (hf : ∀ k, F k → G k) : WayF G w e sz v n xs := ⟨h.row, fun k hk => hf k (h.inF k hk)⟩
theorem WayF.lt (h : WayF F w e sz v n xs) : ∀ k, v.ownBlock = some k → k < w.heap.size := by
  rcases h.row with h | ⟨_, b, cur, rfl, h2, _⟩
  · exact fun k hk => (h.lt k hk).2
  · intro k hk
    simp only [Value.ownBlock, Option.some.injEq] at hk
    subst hk
    exact (Array.getElem?_eq_some_iff.1 h2).1
theorem WayF.chg (h : WayF F w e sz v n xs) (hc : Chg G w w') (ha : ∀ k, v.ownBlock = some k → ¬ G k) : WayF F w' e sz v n xs := by
  refine ⟨?_, h.inF⟩
  rcases h.row with ⟨h0, h1 | ⟨g, cap, cur, rfl, h2, h3, r⟩⟩ | ⟨h0, b, cur, rfl, h3, r⟩
  · exact .inl ⟨h0, .inl h1⟩
  · exact .inl ⟨h0, .inr ⟨g, cap, cur, rfl, h2, by rw [hc.block g (Array.getElem?_eq_some_iff.1 h3).1 (ha g rfl)]; exact h3, r⟩⟩
  · exact .inr ⟨h0, b, cur, rfl, by rw [hc.block b (Array.getElem?_eq_some_iff.1 h3).1 (ha b rfl)]; exact h3, r⟩
theorem WayF.cells {b o m c : Nat} (h : WayF F w e sz (.slice (some ⟨b, o, none⟩) m c) n xs) : o = 0 ∧ (∀ j u, xs[j]? = some u → w.cell? ⟨b, j, none⟩ = some u) ∧ (∀ j, w.frozen? ⟨b, j, none⟩ = false) := by
  obtain ⟨-, b', cur, h1, h2, h3, h4⟩ := h.at_ (by simp)
  cases h1
  refine ⟨rfl, fun j u hu => ?_, fun j => ?_⟩
  · rw [cell_of_row w b j cur e (0, 0) h2]
    rw [← h4] at hu
    rw [List.getElem?_take] at hu
    split at hu
    · simpa using hu
    · cases hu
  · exact frozen_of_row w b j cur e h2
/-- A cell of it is written. -/
theorem WayF.set {b m c : Nat} (h : WayF F w e sz (.slice (some ⟨b, 0, none⟩) m c) n xs) (j : Nat) (u : Value) : WayF F (w.setCell ⟨b, j, none⟩ u) e sz (.slice (some ⟨b, 0, none⟩) m c) n (xs.set j u) := by
  have key : ∀ cur, w.heap[b]? = some (.cells cur e (0, 0)) → (w.setCell ⟨b, j, none⟩ u).heap[b]? = some (.cells (cur.setIfInBounds j u) e (0, 0)) := fun cur hcur => Blk.set_ (show Blk w b e cur from hcur) j u
  have tk : ∀ (cur : Array Value), cur.toList.take (n * sz) = xs → (cur.setIfInBounds j u).toList.take (n * sz) = xs.set j u := fun cur h => by rw [Array.toList_setIfInBounds, List.take_set, h]
  refine ⟨?_, h.inF⟩
  rcases h.row with ⟨h0, ⟨h1, _⟩ | ⟨g, cap, cur, h1, h2, h3, h4, h5, h6, h7⟩⟩ | ⟨h0, b', cur, h1, h3, h4, h5, h6⟩
  · cases h1
  · cases h1
    exact .inl ⟨by rw [List.length_set]; exact h0, .inr ⟨b, _, _, rfl, h2, key cur h3, h4, h5, by simpa using h6, tk cur h7⟩⟩
  · cases h1
    exact .inr ⟨by rw [List.length_set]; exact h0, b, _, rfl, key cur h3, h4, by simpa using h5, tk cur h6⟩

/-- What an append leaves. -/
structure WayG (v : Value) (w : World) (e : TypeId) (sz n : Nat) (xs : List Value) (v' : Value) (w' : World) : Prop where
  own : w'.ownsRow 0 e sz v' n xs
  grown : w.grownBy w' v.ownBlock
  here : v'.ownBlock = v.ownBlock ∨ ∀ k, v'.ownBlock = some k → w.heap.size ≤ k
theorem WayG.way (h : WayF F w e sz v n xs) {m : Nat} {ys : List Value} {v' : Value} (hg : WayG v w e sz m ys v' w') : WayF (F.since w w') w' e sz v' m ys ∧ Chg (fun k => v.ownBlock = some k) w w' := by
  refine ⟨⟨.inl hg.own, fun k hk => ?_⟩, Chg.of_grown hg.grown (fun k hk => hk)⟩
  rcases hg.here with h2 | h2
  · rw [h2] at hk
    exact .inl (h.inF k hk)
  · exact .inr ⟨h2 k hk, (hg.own.lt k hk).2⟩

theorem run_pushW {P : Program} (w : World) (t ty e : TypeId) (i : TypeInfo) (z : Value) (size bytes : Nat) (ht : P.underlying t = some (.slice e)) (hi : P.info? e = some i) (hz : i.zero = some z)
    (hsize : i.size = size) (hby : i.bytes = bytes) (hzs : z.cells.size = size) (hsz : 0 < size) (v : Value) (n : Nat) (xs : List Value) (hown : WayF F w e size v n xs) (cs : Array Value) (hcs : cs.size = size) (h1 : ∀ u ∈ cs.toList, u.oneCell' = true)
    (h63 : n + 1 ≤ maxLen) (hbytes : (n + 1) * bytes ≤ 140737488355328) :
    ∃ v' w', (Builtin.append_ #[t, t] ty #[v, .slice (some ⟨w.heap.size, 0, none⟩) 1 1]).run P (w.alloc (.cells cs e)) = .ok v' w' ∧ WayG v w e size (n + 1) (xs ++ cs.toList) v' w' := by
  have hnews : ∀ j u, cs.toList[j]? = some u → (w.alloc (.cells cs e)).cell? ((⟨w.heap.size, 0, none⟩ : Addr).add j) = some u := fun j u hu => by
    rw [Addr.add_lit, Nat.zero_add, cell_of_row _ _ _ cs e (0, 0) (heap_alloc_new w _)]
    simpa using hu
  rcases hown.row with h | ⟨h0, b, cur, rfl, h2, h3, h4, h5⟩
  · obtain ⟨v', w', hrun, h2, h3, _, h5⟩ := run_append_own_at (P := P) (w.alloc (.cells cs e)) 0 t ty e i z size bytes ht hi hz hsize hby hzs hsz v n xs (h.alloc _) ⟨w.heap.size, 0, none⟩ 1 1 cs.toList (by simp [hcs]) hnews h1 h63 hbytes (Nat.zero_le _)
    refine ⟨v', w', hrun, h2, (World.grownBy_alloc w _ _).trans h3, ?_⟩
    rcases h5 with h | h
    · exact .inl h
    · refine .inr fun k hk => ?_
      rw [h] at hk
      cases hk
      simp
  · have hb : b < w.heap.size := (Array.getElem?_eq_some_iff.1 h2).1
    obtain ⟨v', w', hrun, r1, r2⟩ := run_append_arg_grows (P := P) (w.alloc (.cells cs e)) t ty e i z size bytes ht hi hz hsize hby hzs hsz ⟨b, 0, none⟩ n n xs h0
      (fun j u hu => by
        rw [Addr.add_lit, Nat.zero_add, cell_of_row _ b j cur e (0, 0) ((heap_alloc_old w _ hb).trans h2)]
        rw [← h5, List.getElem?_take] at hu
        split at hu
        · simpa using hu
        · cases hu) ⟨w.heap.size, 0, none⟩ 1 1 cs.toList (by simp [hcs]) hnews (by omega) h63 hbytes
    refine ⟨v', w', hrun, ⟨r1.1, ?_⟩, (World.grownBy_alloc w _ _).trans ⟨r2.os, r2.tape, r2.output, r2.size, fun k hk _ => r2.block k hk (by simp)⟩, .inr fun k hk => ?_⟩
    · rcases r1.2 with h | ⟨g, cap, c2, q1, q2, q3⟩
      · exact .inl h
      · exact .inr ⟨g, cap, c2, q1, Nat.zero_le _, q3⟩
    · have := (r1.lt k hk).1
      simp at this
      omega

theorem wpList_pushW {P : Program} {w : World} {ops : Array Oper} {rest : List Oper} {o : Oper} {a : Act} {Q : Exit → Act → World → Prop} {gx : Nat} (hgd : o.guard = none) (s x : Operand) (t : TypeId)
    (hop : o.op = .call { callee := .builtin .append, args := #[s, x], argTypes := #[t, t] })
    (e : TypeId) (z : Value) (size bytes : Nat) (ht : P.underlying t = some (.slice e)) (hinfo : (P.info? e).map (fun i => (i.zero, i.size, i.bytes)) = some (some z, size, bytes)) (hzs : z.cells.size = size) (hsz : 0 < size)
    (v : Value) (n : Nat) (xs : List Value) (hown : WayF F w e size v n xs) (hs : a.eval s = v) (cs : Array Value) (hcs : cs.size = size) (h1 : ∀ u ∈ cs.toList, u.oneCell' = true)
    (hx : a.eval x = .slice (some ⟨gx, 0, none⟩) 1 1) (hgx : gx = w.heap.size) (h63 : n + 1 ≤ maxLen) (hbytes : (n + 1) * bytes ≤ 140737488355328)
    (h : ∀ v' w', WayG v w e size (n + 1) (xs ++ cs.toList) v' w' → wpList P ops Q rest (a.put o.dst v') w') : wpList P ops Q (o :: rest) a (w.alloc (.cells cs e)) := by
  subst hgx
  refine wpList_plain hgd fun K hK => ?_
  obtain ⟨i0, hi, hz0, hz1, hz2⟩ := info_parts hinfo
  obtain ⟨v', w', hrun, h2⟩ := run_pushW (P := P) w t o.type e i0 z size bytes ht hi hz0 hz1 hz2 hzs hsz v n xs hown cs hcs h1 h63 hbytes
  unfold Oper.wp execOp
  simp only [hop, resolve, invoke, builtin, Sem.run_bind, Sem.run_pure, Result.andThen_ok, List.map_toArray, List.map_cons, List.map_nil, hs, hx, hrun]
  exact hK _ _ (h v' w' h2)

/-- 'append(s[:i:i], s[i+1:]...)'. -/
theorem run_dropW {P : Program} (w : World) (t ty e : TypeId) (i : TypeInfo) (z : Value) (size bytes : Nat) (ht : P.underlying t = some (.slice e)) (hi : P.info? e = some i) (hz : i.zero = some z)
    (hsize : i.size = size) (hby : i.bytes = bytes) (hzs : z.cells.size = size) (hsz : 0 < size) (b n cap : Nat) (xs : List Value) (hown : WayF F w e size (.slice (some ⟨b, 0, none⟩) n cap) n xs) (k : Nat) (hk : k < n) (ao : Option Addr) (c2 : Nat)
    (hao : n - (k + 1) = 0 ∨ ao = some ⟨b, (k + 1) * size, none⟩) (hno : ao = none → c2 = 0) (h63 : n ≤ maxLen) (hbytes : n * bytes ≤ 140737488355328) :
    ∃ v' w', (Builtin.append_ #[t, t] ty #[.slice (some ⟨b, 0, none⟩) k k, .slice ao (n - (k + 1)) c2]).run P w = .ok v' w' ∧ WayF (F.since w w') w' e size v' (n - 1) (xs.take (k * size) ++ xs.drop ((k + 1) * size)) ∧ w.grownBy w' none ∧
      (v'.ownBlock = some b ∨ ∀ q, v'.ownBlock = some q → w.heap.size ≤ q) := by
  obtain ⟨-, b', cur, hb', hcur, hsz2, htk⟩ := hown.at_ (by simp)
  cases hb'
  have hl := hown.len
  have hkn : (k + 1) * size ≤ n * size := Nat.mul_le_mul_right _ hk
  have hk1 : (k + 1) * size = k * size + size := Nat.succ_mul _ _
  have hn1 : n * size = (k + 1) * size + (n - (k + 1)) * size := by rw [← Nat.add_mul]; congr 1; omega
  by_cases hm : n - (k + 1) = 0
  · have hnk : n = k + 1 := by omega
    refine ⟨.slice (some ⟨b, 0, none⟩) k k, w, ?_, ⟨.inr ⟨?_, b, cur, by rw [hnk]; rfl, hcur, ?_, ?_, ?_⟩, fun q hq => .inl (hown.inF q hq)⟩, ⟨rfl, rfl, rfl, Nat.le_refl _, fun _ _ _ => rfl⟩, .inl rfl⟩
    · rw [hm]
      cases ao with
      | none =>
        obtain rfl := hno rfl
        simp [Builtin.append_, run_underlying ht, sizeOf, typeInfo, hi, Builtin.lenOf, Builtin.firstCells, storeCells]
      | some ad => 
        have := run_append_room_cells (P := P) w t ty e i ht hi b 0 k k ad 0 c2 [] (by simp) (fun j u hu => by simp at hu) (fun u hu => by cases hu) (by omega) (fun j hj => by simp at hj) (fun j hj => by simp at hj)
        simpa [World.setCells] using this
    · rw [List.length_append, List.length_take, List.length_drop, hl, hnk]
      simp only [Nat.add_sub_cancel]
      omega
    · omega
    · rw [hnk]; simp only [Nat.add_sub_cancel]; omega
    · rw [hnk] at htk hl ⊢
      rw [List.drop_of_length_le (by omega), List.append_nil, ← htk, List.take_take, Nat.min_eq_left (by omega)]
      rfl
  · obtain rfl : ao = some ⟨b, (k + 1) * size, none⟩ := by rcases hao with h | h; exact absurd h hm; exact h
    have hc := (hown.cells).2.1
    obtain ⟨v', w', hrun, r1, r2⟩ := run_append_arg_grows (P := P) w t ty e i z size bytes ht hi hz hsize hby hzs hsz ⟨b, 0, none⟩ k k (xs.take (k * size)) (by rw [List.length_take, hl]; omega)
      (fun j u hu => by
        rw [Addr.add_lit, Nat.zero_add]
        rw [List.getElem?_take] at hu
        split at hu
        · exact hc j u hu
        · cases hu) ⟨b, (k + 1) * size, none⟩ (n - (k + 1)) c2 (xs.drop ((k + 1) * size)) (by rw [List.length_drop, hl]; omega)
      (fun j u hu => by
        rw [Addr.add_lit]
        rw [List.getElem?_drop] at hu
        exact hc _ u hu) (by omega) (by omega) (by rw [show k + (n - (k + 1)) = n - 1 by omega]; exact Nat.le_trans (Nat.mul_le_mul_right _ (Nat.sub_le _ _)) hbytes)
    rw [show k + (n - (k + 1)) = n - 1 by omega] at r1
    have hnew : ∀ q, v'.ownBlock = some q → w.heap.size ≤ q := fun q hq => (r1.lt q hq).1
    refine ⟨v', w', hrun, ⟨.inl ⟨r1.1, ?_⟩, fun q hq => .inr ⟨hnew q hq, (r1.lt q hq).2⟩⟩, r2, .inr hnew⟩
    rcases r1.2 with h | ⟨g, cap, c2, q1, q2, q3⟩
    · exact .inl h
    · exact .inr ⟨g, cap, c2, q1, Nat.zero_le _, q3⟩

theorem wpList_dropW {P : Program} {w : World} {ops : Array Oper} {rest : List Oper} {o : Oper} {a : Act} {Q : Exit → Act → World → Prop} (hgd : o.guard = none) (s x : Operand) (t : TypeId)
    (hop : o.op = .call { callee := .builtin .append, args := #[s, x], argTypes := #[t, t] })
    (e : TypeId) (z : Value) (size bytes : Nat) (ht : P.underlying t = some (.slice e)) (hinfo : (P.info? e).map (fun i => (i.zero, i.size, i.bytes)) = some (some z, size, bytes)) (hzs : z.cells.size = size) (hsz : 0 < size)
    (b n cap : Nat) (xs : List Value) (hown : WayF F w e size (.slice (some ⟨b, 0, none⟩) n cap) n xs) (k : Nat) (hk : k < n) (hs : a.eval s = .slice (some ⟨b, 0, none⟩) k k) (ao : Option Addr) (c2 : Nat) (hx : a.eval x = .slice ao (n - (k + 1)) c2)
    (hao : n - (k + 1) = 0 ∨ ao = some ⟨b, (k + 1) * size, none⟩) (hno : ao = none → c2 = 0) (h63 : n ≤ maxLen) (hbytes : n * bytes ≤ 140737488355328)
    (h : ∀ v' w', WayF (F.since w w') w' e size v' (n - 1) (xs.take (k * size) ++ xs.drop ((k + 1) * size)) → w.grownBy w' none → (v'.ownBlock = some b ∨ ∀ q, v'.ownBlock = some q → w.heap.size ≤ q) → wpList P ops Q rest (a.put o.dst v') w') : wpList P ops Q (o :: rest) a w := by
  refine wpList_plain hgd fun K hK => ?_
  obtain ⟨i0, hi, hz0, hz1, hz2⟩ := info_parts hinfo
  obtain ⟨v', w', hrun, h2, h3, h4⟩ := run_dropW (P := P) w t o.type e i0 z size bytes ht hi hz0 hz1 hz2 hzs hsz b n cap xs hown k hk ao c2 hao hno h63 hbytes
  unfold Oper.wp execOp
  simp only [hop, resolve, invoke, builtin, Sem.run_bind, Sem.run_pure, Result.andThen_ok, List.map_toArray, List.map_cons, List.map_nil, hs, hx, hrun]
  exact hK _ _ (h v' w' h2 h3 h4)
/-- As one step of a region that draws. -/
theorem step_pushW {P : Program} {w : World} {ops : Array Oper} {o : Oper} {a : Act} {K : Act → World → Prop} {Q : Exit → Act → World → Prop} {E : Prop} {gx : Nat} (s x : Operand) (t : TypeId)
    (hop : o.op = .call { callee := .builtin .append, args := #[s, x], argTypes := #[t, t] }) (hw : Region.wanted o (yielded ops a.tmps) = true)
    (e : TypeId) (z : Value) (size bytes : Nat) (ht : P.underlying t = some (.slice e)) (hinfo : (P.info? e).map (fun i => (i.zero, i.size, i.bytes)) = some (some z, size, bytes)) (hzs : z.cells.size = size) (hsz : 0 < size)
    (v : Value) (n : Nat) (xs : List Value) (hown : WayF F w e size v n xs) (hs : a.eval s = v) (cs : Array Value) (hcs : cs.size = size) (h1 : ∀ u ∈ cs.toList, u.oneCell' = true)
    (hx : a.eval x = .slice (some ⟨gx, 0, none⟩) 1 1) (hgx : gx = w.heap.size) (h63 : n + 1 ≤ maxLen) (hbytes : (n + 1) * bytes ≤ 140737488355328)
    (h : ∀ v' w', WayG v w e size (n + 1) (xs ++ cs.toList) v' w' → K (a.put o.dst v') w') :
    if Region.wanted o (yielded ops a.tmps) = true then Oper.wp P o a (w.alloc (.cells cs e)) K Q else E := by
  subst hgx
  rw [if_pos hw]
  obtain ⟨i0, hi, hz0, hz1, hz2⟩ := info_parts hinfo
  obtain ⟨v', w', hrun, h2⟩ := run_pushW (P := P) w t o.type e i0 z size bytes ht hi hz0 hz1 hz2 hzs hsz v n xs hown cs hcs h1 h63 hbytes
  unfold Oper.wp execOp
  simp only [hop, resolve, invoke, builtin, Sem.run_bind, Sem.run_pure, Result.andThen_ok, List.map_toArray, List.map_cons, List.map_nil, hs, hx, hrun]
  exact h v' w' h2
theorem step_dropW {P : Program} {w : World} {ops : Array Oper} {o : Oper} {a : Act} {K : Act → World → Prop} {Q : Exit → Act → World → Prop} {E : Prop} (s x : Operand) (t : TypeId)
    (hop : o.op = .call { callee := .builtin .append, args := #[s, x], argTypes := #[t, t] }) (hw : Region.wanted o (yielded ops a.tmps) = true)
    (e : TypeId) (z : Value) (size bytes : Nat) (ht : P.underlying t = some (.slice e)) (hinfo : (P.info? e).map (fun i => (i.zero, i.size, i.bytes)) = some (some z, size, bytes)) (hzs : z.cells.size = size) (hsz : 0 < size)
    (b n cap : Nat) (xs : List Value) (hown : WayF F w e size (.slice (some ⟨b, 0, none⟩) n cap) n xs) (k : Nat) (hk : k < n) (hs : a.eval s = .slice (some ⟨b, 0, none⟩) k k) (ao : Option Addr) (m c2 : Nat) (hx : a.eval x = .slice ao m c2) (hm : m = n - (k + 1))
    (hao : n - (k + 1) = 0 ∨ ao = some ⟨b, (k + 1) * size, none⟩) (hno : ao = none → c2 = 0) (h63 : n ≤ maxLen) (hbytes : n * bytes ≤ 140737488355328)
    (h : ∀ v' w', WayF (F.since w w') w' e size v' (n - 1) (xs.take (k * size) ++ xs.drop ((k + 1) * size)) → w.grownBy w' none → (v'.ownBlock = some b ∨ ∀ q, v'.ownBlock = some q → w.heap.size ≤ q) → K (a.put o.dst v') w') :
    if Region.wanted o (yielded ops a.tmps) = true then Oper.wp P o a w K Q else E := by
  subst hm
  rw [if_pos hw]
  obtain ⟨i0, hi, hz0, hz1, hz2⟩ := info_parts hinfo
  obtain ⟨v', w', hrun, h2, h3, h4⟩ := run_dropW (P := P) w t o.type e i0 z size bytes ht hi hz0 hz1 hz2 hzs hsz b n cap xs hown k hk ao c2 hao hno h63 hbytes
  unfold Oper.wp execOp
  simp only [hop, resolve, invoke, builtin, Sem.run_bind, Sem.run_pure, Result.andThen_ok, List.map_toArray, List.map_cons, List.map_nil, hs, hx, hrun]
  exact h v' w' h2 h3 h4
end

end Go.Proofs.Ytdijinboopdheaa

/- A statement whose order is open, walked step by step: what is said of the world may grow on the way (the tactics of the kit say one thing all along). No program is named here. -/
namespace Go.Proofs.Ytdijinboopdheaa
open Go.RowKit

section
variable {P : Program} {l : List Oper} {Q : Exit → Act → World → Prop} {md : Region.Mode} {S S' : World → Prop}

theorem held_begin {id : Nat} {a : Act} {w : World} (hm : P.follows .mixedOrders = true)
    (h : wpAnyH P .any l.toArray (NoPanic Q) (fun _ => True) l.toArray.size (Array.replicate l.toArray.size false) a w.drew) : (Code.region id l.toArray true).wp P Q a w :=
  wp_region_noPanic (wp_region_any hm (wpAny_of_held _ _ _ _ h))

/-- One operation, that yields its value in every world of which S holds, is taken first. -/
theorem held_take {i : Nat} {oi : Oper} {v : Value} {fuel : Nat} {listed : Array Bool} {a : Act} {w : World} (hi : l[i]? = some oi) (hs : Region.noSelect l.toArray = true) (hf : Region.free md l.toArray listed i = true)
    (hr : (Region.ready md l.toArray listed).contains i = true) (hw : Region.wanted oi (yielded l.toArray a.tmps) = true) (hS : S w) (hy : ∀ w, S w → (execOp a.eval oi).run P w = .ok (.value v) w)
    (h : wpAnyH P md l.toArray (NoPanic Q) S fuel (listed.setIfInBounds i true) (a.put oi.dst v) w) : wpAnyH P md l.toArray (NoPanic Q) S (fuel + 1) listed a w :=
  wpAnyH_take (oi := oi) (v := v) (by simpa using hi) hs hf hr (fun _ _ _ h => h) (.inl ⟨hw, hy⟩) hS h

/-- One operation that is not wanted (its guard says so) is passed by. -/
theorem held_skip {i : Nat} {oi : Oper} {fuel : Nat} {listed : Array Bool} {a : Act} {w : World} (hi : l[i]? = some oi) (hs : Region.noSelect l.toArray = true) (hf : Region.free md l.toArray listed i = true)
    (hr : (Region.ready md l.toArray listed).contains i = true) (hw : Region.wanted oi (yielded l.toArray a.tmps) = false) (hS : S w)
    (h : wpAnyH P md l.toArray (NoPanic Q) S fuel (listed.setIfInBounds i true) (a.put oi.dst undef) w) : wpAnyH P md l.toArray (NoPanic Q) S (fuel + 1) listed a w :=
  wpAnyH_take (oi := oi) (v := undef) (by simpa using hi) hs hf hr (fun _ _ _ h => h) (.inr ⟨hw, rfl⟩) hS h

/-- One operation is carried out, where no other may come up. -/
theorem held_op {i : Nat} {o : Oper} {fuel : Nat} {listed : Array Bool} {a : Act} {w : World} (hr : Region.ready md l.toArray listed = [i]) (hi : l[i]? = some o)
    (h : ∀ K : Act → World → Prop, (∀ a' w', S w' → (S w' → wpAnyH P md l.toArray (NoPanic Q) S fuel (listed.setIfInBounds i true) a' w') → K a' w') →
      if Region.wanted o (yielded l.toArray a.tmps) = true then Oper.wp P o a w K (NoPanic Q) else K (a.put o.dst undef) w) : wpAnyH P md l.toArray (NoPanic Q) S (fuel + 1) listed a w := by
  refine wpAnyH_all hr (by simp) (fun j hj => ?_)
  rw [List.mem_singleton] at hj
  subst hj
  have e : l.toArray[j]? = some o := by simpa using hi
  exact wpOp_step e (fun K hK => h K (fun a' w' h1 h2 => hK a' w' ⟨h1, h2 h1⟩))

/-- More is said of the world from here on. -/
theorem held_more (hSS : ∀ w, S' w → S w) : ∀ {fuel : Nat} {listed : Array Bool} {a : Act} {w : World}, wpAnyH P md l.toArray Q S' fuel listed a w → wpAnyH P md l.toArray Q S fuel listed a w
  | 0, _, _, _, h => h
  | _ + 1, _, _, _, h => ⟨h.1, fun i hi => wpOp_mono (fun _ _ h' => ⟨hSS _ h'.1, held_more hSS h'.2⟩) (h.2 i hi)⟩
end

end Go.Proofs.Ytdijinboopdheaa

/- A statement whose order is open, where two operations may come up: both ways are walked. No program is named here. -/
namespace Go.Proofs.Ytdijinboopdheaa
open Go.RowKit

section
variable {P : Program} {l : List Oper} {Q : Exit → Act → World → Prop} {md : Region.Mode} {S : World → Prop}
theorem held_two {i j : Nat} {oi oj : Oper} {fuel : Nat} {listed : Array Bool} {a : Act} {w : World} (hr : Region.ready md l.toArray listed = [i, j]) (hi : l[i]? = some oi) (hj : l[j]? = some oj)
    (h1 : ∀ K : Act → World → Prop, (∀ a' w', S w' → (S w' → wpAnyH P md l.toArray (NoPanic Q) S fuel (listed.setIfInBounds i true) a' w') → K a' w') →
      if Region.wanted oi (yielded l.toArray a.tmps) = true then Oper.wp P oi a w K (NoPanic Q) else K (a.put oi.dst undef) w)
    (h2 : ∀ K : Act → World → Prop, (∀ a' w', S w' → (S w' → wpAnyH P md l.toArray (NoPanic Q) S fuel (listed.setIfInBounds j true) a' w') → K a' w') →
      if Region.wanted oj (yielded l.toArray a.tmps) = true then Oper.wp P oj a w K (NoPanic Q) else K (a.put oj.dst undef) w) : wpAnyH P md l.toArray (NoPanic Q) S (fuel + 1) listed a w := by
  refine wpAnyH_all hr (by simp) (fun k hk => ?_)
  simp only [List.mem_cons, List.not_mem_nil, or_false] at hk
  rcases hk with rfl | rfl
  · have e : l.toArray[k]? = some oi := by simpa using hi
    exact wpOp_step e (fun K hK => h1 K (fun a' w' q1 q2 => hK a' w' ⟨q1, q2 q1⟩))
  · have e : l.toArray[k]? = some oj := by simpa using hj
    exact wpOp_step e (fun K hK => h2 K (fun a' w' q1 q2 => hK a' w' ⟨q1, q2 q1⟩))
end

end Go.Proofs.Ytdijinboopdheaa

/- A whole struct stored into a block. No program is named here. -/
namespace Go.Proofs.Ytdijinboopdheaa
open Go.RowKit

theorem wpList_storeB {P : Program} {ops : Array Oper} {rest : List Oper} {o : Oper} {a : Act} {w : World} {Q : Exit → Act → World → Prop} (hgd : o.guard = none) (ty : TypeId) (x y : Operand) (ho : o.op = .store ty x y)
    (g : Nat) (cells : Array Value) (hx : a.eval x = .pointer (some ⟨g, 0, none⟩)) (hy : a.eval y = .agg cells)
    (t : TypeId) (old : Array Value) (hg : Blk w g t old) (hi : (P.info? ty).map (·.size) = some cells.size)
    (hold : old.size = cells.size) (h1 : cells.all (·.oneCell') = true) (B : Nat) (w0 : World) (hb : Below B w0 w) (hB : B ≤ g)
    (h : ∀ w', Blk w' g t cells → Below B w0 w' → wpList P ops Q rest (a.put o.dst undef) w') : wpList P ops Q (o :: rest) a w :=
  wpList_store_row hgd ty x y ho g cells hx hy t old hg hi hold h1 (h _ (setRow_heap w g old cells t (0, 0) hg) (below_setRow hb hB cells))

end Go.Proofs.Ytdijinboopdheaa

/- A block that is written cell by cell. No program is named here. -/
namespace Go.Proofs.Ytdijinboopdheaa
open Go.RowKit

/-- A block is written, cell by cell; all else stands. -/
structure WB (w0 : World) (g : Nat) (T : TypeId) (w : World) (cs : Array Value) : Prop where
  blk : Blk w g T cs
  chg : Chg (fun k => k = g) w0 w
theorem WB.start {w : World} {g : Nat} {T : TypeId} {cs : Array Value} (h : Blk w g T cs) : WB w g T w cs := ⟨h, Chg.refl _ _⟩
theorem WB.set {w0 w : World} {g : Nat} {T : TypeId} {cs : Array Value} (h : WB w0 g T w cs) (i : Nat) (u : Value) : WB w0 g T (w.setCell ⟨g, i, none⟩ u) (cs.setIfInBounds i u) :=
  ⟨h.blk.set_ i u, h.chg.setCell (fun _ => rfl)⟩
theorem WB.ext {w w0 w1 : World} {g : Nat} {T : TypeId} {cs : Array Value} (h : WB w0 g T w1 cs) (hx : Ext w w0) (hg : w.heap.size ≤ g) : Ext w w1 := h.chg.ext hx (fun k hk => by have hk : k = g := hk; rw [hk]; exact hg)
/-- A whole struct is stored into a block: that block alone turns. -/
theorem wpList_storeC {P : Program} {ops : Array Oper} {rest : List Oper} {o : Oper} {a : Act} {w : World} {Q : Exit → Act → World → Prop} (hgd : o.guard = none) (ty : TypeId) (x y : Operand) (ho : o.op = .store ty x y)
    (g : Nat) (cells : Array Value) (hx : a.eval x = .pointer (some ⟨g, 0, none⟩)) (hy : a.eval y = .agg cells)
    (t : TypeId) (old : Array Value) (hg : Blk w g t old) (hi : (P.info? ty).map (·.size) = some cells.size)
    (hold : old.size = cells.size) (h1 : cells.all (·.oneCell') = true)
    (h : ∀ w', Blk w' g t cells → Chg (fun k => k = g) w w' → wpList P ops Q rest (a.put o.dst undef) w') : wpList P ops Q (o :: rest) a w :=
  wpList_store_row hgd ty x y ho g cells hx hy t old hg hi hold h1 (h _ (setRow_heap w g old cells t (0, 0) hg) ⟨rfl, rfl, rfl, by simp [World.setRow], fun k _ hk => setRow_other w g k cells hk⟩)
theorem Ext.alloc_ (w : World) (o : Obj) : Ext w (w.alloc o) := (Below.refl _ _).alloc (Nat.le_refl _) _

end Go.Proofs.Ytdijinboopdheaa
