/- Rows whose elements have several cells: what an append leaves; an object's rows that are added, or dropped; a copy into a row of the call's own. No program is named here. -/
import Derived.Test.YtkoppdhmbhgnfaaObj
import Derived.Laws.CopyOwn
import Derived.Deep.RegionLaw
namespace Go.Proofs.Ytkoppdhmbhgnfaa
open Go.RowKit

theorem Ext.dr {a b : World} (h : Ext a b) : Ext a b.drew := ⟨h.os, h.tape, h.output, h.size, h.block⟩

/-- What an append of elements of 'size' cells leaves: the row holds n elements, the cells xs. -/
def GrewN (base : Nat) (e : TypeId) (size : Nat) (v : Value) (w : World) (n : Nat) (xs : List Value) (v' : Value) (w' : World) : Prop :=
  w'.ownsRow base e size v' n xs ∧ w.grownBy w' v.ownBlock ∧ (v'.ownBlock = v.ownBlock ∨ ∀ k, v'.ownBlock = some k → w.heap.size ≤ k)

section
variable {base : Nat} {e : TypeId} {sz n : Nat} {v v' : Value} {w w' : World} {xs : List Value}
theorem GrewN.size (h : GrewN base e sz v w n xs v' w') : w.heap.size ≤ w'.heap.size := h.2.1.size
theorem GrewN.slice_ (h : GrewN base e sz v w n xs v' w') : ∃ A c, v' = .slice A n c := own_slice h.1

theorem run_pushN {P : Program} (w : World) (base : Nat) (t ty e : TypeId) (i : TypeInfo) (z : Value) (size bytes : Nat) (ht : P.underlying t = some (.slice e)) (hi : P.info? e = some i) (hz : i.zero = some z)
    (hsize : i.size = size) (hby : i.bytes = bytes) (hzs : z.cells.size = size) (hsz : 0 < size) (v : Value) (n : Nat) (xs : List Value) (hown : w.ownsRow base e size v n xs) (cs : Array Value) (hcs : cs.size = size) (h1 : ∀ u ∈ cs.toList, u.oneCell' = true)
    (h63 : n + 1 ≤ maxLen) (hbytes : (n + 1) * bytes ≤ 140737488355328) (hbase : base ≤ w.heap.size) :
    ∃ v' w', (Builtin.append_ #[t, t] ty #[v, .slice (some ⟨w.heap.size, 0, none⟩) 1 1]).run P (w.alloc (.cells cs e)) = .ok v' w' ∧ GrewN base e size v w (n + 1) (xs ++ cs.toList) v' w' := by
  obtain ⟨v', w', hrun, h2, h3, _, h5⟩ := run_append_own_at (P := P) (w.alloc (.cells cs e)) base t ty e i z size bytes ht hi hz hsize hby hzs hsz v n xs (hown.alloc _) ⟨w.heap.size, 0, none⟩ 1 1 cs.toList (by simp [hcs])
    (fun j u hu => by
      rw [Addr.add_lit, Nat.zero_add, cell_of_row _ _ _ cs e (0, 0) (heap_alloc_new w _)]
      simpa using hu) h1 h63 hbytes (by simp; omega)
  refine ⟨v', w', hrun, h2, (World.grownBy_alloc w _ _).trans h3, ?_⟩
  rcases h5 with h | h
  · exact .inl h
  · refine .inr fun k hk => ?_
    rw [h] at hk
    cases hk
    simp

/-- 's = append(s, T{..})' as one step of a region that draws. -/
theorem step_pushN {P : Program} {w : World} {ops : Array Oper} {o : Oper} {a : Act} {K : Act → World → Prop} {Q : Exit → Act → World → Prop} {E : Prop} {gx : Nat} (s x : Operand) (t : TypeId)
    (hop : o.op = .call { callee := .builtin .append, args := #[s, x], argTypes := #[t, t] }) (hw : Region.wanted o (yielded ops a.tmps) = true)
    (base : Nat) (e : TypeId) (z : Value) (size bytes : Nat) (ht : P.underlying t = some (.slice e)) (hinfo : (P.info? e).map (fun i => (i.zero, i.size, i.bytes)) = some (some z, size, bytes)) (hzs : z.cells.size = size) (hsz : 0 < size)
    (v : Value) (n : Nat) (xs : List Value) (hown : w.ownsRow base e size v n xs) (hs : a.eval s = v) (cs : Array Value) (hcs : cs.size = size) (h1 : ∀ u ∈ cs.toList, u.oneCell' = true)
    (hx : a.eval x = .slice (some ⟨gx, 0, none⟩) 1 1) (hgx : gx = w.heap.size) (h63 : n + 1 ≤ maxLen) (hbytes : (n + 1) * bytes ≤ 140737488355328) (hbase : base ≤ w.heap.size)
    (h : ∀ v' w', GrewN base e size v w (n + 1) (xs ++ cs.toList) v' w' → K (a.put o.dst v') w') :
    if Region.wanted o (yielded ops a.tmps) = true then Oper.wp P o a (w.alloc (.cells cs e)) K Q else E := by
  subst hgx
  rw [if_pos hw]
  obtain ⟨i0, hi, hz0, hz1, hz2⟩ := info_parts hinfo
  obtain ⟨v', w', hrun, h2⟩ := run_pushN (P := P) w base t o.type e i0 z size bytes ht hi hz0 hz1 hz2 hzs hsz v n xs hown cs hcs h1 h63 hbytes hbase
  unfold Oper.wp execOp
  simp only [hop, resolve, invoke, builtin, Sem.run_bind, Sem.run_pure, Result.andThen_ok, List.map_toArray, List.map_cons, List.map_nil, hs, hx, hrun]
  exact h v' w' h2

/-- The same in a statement whose order is fixed. -/
theorem wpList_pushN {P : Program} {w : World} {ops : Array Oper} {rest : List Oper} {o : Oper} {a : Act} {Q : Exit → Act → World → Prop} {gx : Nat} (hgd : o.guard = none) (s x : Operand) (t : TypeId)
    (hop : o.op = .call { callee := .builtin .append, args := #[s, x], argTypes := #[t, t] })
    (base : Nat) (e : TypeId) (z : Value) (size bytes : Nat) (ht : P.underlying t = some (.slice e)) (hinfo : (P.info? e).map (fun i => (i.zero, i.size, i.bytes)) = some (some z, size, bytes)) (hzs : z.cells.size = size) (hsz : 0 < size)
    (v : Value) (n : Nat) (xs : List Value) (hown : w.ownsRow base e size v n xs) (hs : a.eval s = v) (cs : Array Value) (hcs : cs.size = size) (h1 : ∀ u ∈ cs.toList, u.oneCell' = true)
    (hx : a.eval x = .slice (some ⟨gx, 0, none⟩) 1 1) (hgx : gx = w.heap.size) (h63 : n + 1 ≤ maxLen) (hbytes : (n + 1) * bytes ≤ 140737488355328) (hbase : base ≤ w.heap.size)
    (h : ∀ v' w', GrewN base e size v w (n + 1) (xs ++ cs.toList) v' w' → wpList P ops Q rest (a.put o.dst v') w') : wpList P ops Q (o :: rest) a (w.alloc (.cells cs e)) := by
  subst hgx
  refine wpList_plain hgd fun K hK => ?_
  obtain ⟨i0, hi, hz0, hz1, hz2⟩ := info_parts hinfo
  obtain ⟨v', w', hrun, h2⟩ := run_pushN (P := P) w base t o.type e i0 z size bytes ht hi hz0 hz1 hz2 hzs hsz v n xs hown cs hcs h1 h63 hbytes hbase
  unfold Oper.wp execOp
  simp only [hop, resolve, invoke, builtin, Sem.run_bind, Sem.run_pure, Result.andThen_ok, List.map_toArray, List.map_cons, List.map_nil, hs, hx, hrun]
  exact hK _ _ (h v' w' h2)
end

section
variable {F G : Fp} {w w' : World} {g : Nat} {T : TypeId} {cs : Array Value} {rows : List RowS}
/-- A row of several cells has grown. -/
theorem ObjF.grewN (h : ObjF F w g T cs rows) (i : Nat) (hi : i < rows.length) {e : TypeId} {size n : Nat} {v v' : Value} {ys : List Value} (hv : (rows[i]).v = v) (hg : GrewN 0 e size v w n ys v' w') :
    ObjF (F.since w w') w' g T cs (rows.set i ⟨e, size, v', n, ys⟩) ∧ Chg F w w' := by
  subst hv
  exact h.turn i hi ⟨e, size, v', n, ys⟩ hg.1 (Chg.of_grown hg.2.1 fun k hk => hk) (fun k hk => by
    rcases hg.2.2 with h2 | h2
    · exact .inl (by rw [← h2]; exact hk)
    · exact .inr (h2 k hk))
theorem ObjF.pushN (h : ObjF F w g T cs rows) (i j : Nat) (hi : i < rows.length) {e : TypeId} {size n : Nat} {v v' : Value} {ys : List Value} (hv : (rows[i]).v = v) (hg : GrewN 0 e size v w n ys v' w') :
    ObjF (F.since w w') (w'.setCell ⟨g, j, none⟩ v') g T (cs.setIfInBounds j v') (rows.set i ⟨e, size, v', n, ys⟩) ∧ Chg F w (w'.setCell ⟨g, j, none⟩ v') := by
  obtain ⟨h1, h2⟩ := h.grewN i hi hv hg
  obtain ⟨h3, h4⟩ := h1.setCell j v'
  exact ⟨h3, h2.trans h4 (fun x hx hF => by
    rcases hF with hF | hF
    · exact hF
    · omega)⟩
/-- One row more, which was made since. -/
theorem ObjF.add (h : ObjF F w g T cs rows) (r : RowS) (hx : Ext w w') (hr : r.ok (fun k => w.heap.size ≤ k ∧ k < w'.heap.size) w') : ObjF (F.since w w') w' g T cs (rows ++ [r]) := by
  have h1 := (h.ext hx).mono (G := F.since w w') (fun k hk => .inl hk) (h.isIn.since hx.size)
  refine ⟨h1.blk, h1.here, h1.isIn, fun s hs => ?_, fun s hs => ?_, ?_⟩
  · rcases List.mem_append.1 hs with hs | hs
    · exact h1.ok s hs
    · obtain rfl := List.mem_singleton.1 hs
      exact hr.mono fun k hk => .inr hk
  · rcases List.mem_append.1 hs with hs | hs
    · exact h1.off s hs
    · obtain rfl := List.mem_singleton.1 hs
      intro e
      have := (hr.2 g e).1
      have := h.blk.lt
      omega
  · refine List.pairwise_append.2 ⟨h1.apart, List.pairwise_singleton _ _, fun s hs t ht k hk e => ?_⟩
    obtain rfl := List.mem_singleton.1 ht
    have := (hr.2 k e).1
    have := (h.ok s hs).lt k hk
    omega
/-- Fewer rows. -/
theorem ObjF.sub (h : ObjF F w g T cs rows) {rows' : List RowS} (hs : rows'.Sublist rows) : ObjF F w g T cs rows' :=
  ⟨h.blk, h.here, h.isIn, fun r hr => h.ok r (hs.subset hr), fun r hr => h.off r (hs.subset hr), h.apart.sublist hs⟩
end

/-! ### A copy into a row of the call's own -/
theorem run_copyG {P : Program} (w : World) (dT sT ty elem : TypeId) (hu : P.underlying dT = some (.slice elem)) (hsz : (P.info? elem).map (·.size) = some 1)
    (base : Nat) (e : TypeId) (g n cap : Nat) (bs : List UInt8) (hown : w.ownsRow base e 1 (.slice (some ⟨g, 0, none⟩) n cap) bs.length (bs.map B)) (off dLen dCap : Nat)
    (sp : Option Addr) (sLen sCap : Nat) (ys : List UInt8) (hr : Rd w (.slice sp sLen sCap) (ys.map B)) (hfit : off + ys.length ≤ bs.length) (hn : ys.length ≤ dLen) :
    ∃ w', (Builtin.copy_ #[dT, sT] ty #[.slice (some ⟨g, off, none⟩) dLen dCap, .slice sp sLen sCap]).run P w = .ok (goInt ys.length) w' ∧
      Grew base e (.slice (some ⟨g, 0, none⟩) n cap) w ((splice bs off ys).map B) (.slice (some ⟨g, 0, none⟩) n cap) w' := by
  have hsl : sLen = ys.length := by
    obtain ⟨_, _, e, _⟩ := hr
    injection e with _ e _
    rw [e, List.length_map]
  have hl : (splice bs off ys).length = bs.length := length_splice bs off ys hfit
  by_cases h0 : ys.length = 0
  · obtain rfl : ys = [] := List.eq_nil_of_length_eq_zero h0
    refine ⟨w, run_copy_none (P := P) w dT sT ty elem _ _ dLen dCap sLen sCap hu hsz (by subst hsl; simp), ?_⟩
    have es : splice bs off [] = bs := by simp [splice]
    rw [es]
    have : (bs.map B).length = bs.length := List.length_map _
    exact Grew.start (by rw [this] at *; exact hown)
  · obtain ⟨b, o, rfl, _, hc⟩ := hr.get (by rw [List.length_map]; omega)
    rcases hown.2 with ⟨h, _⟩ | ⟨g', cap', cur, hv, hbg, hg, hnc, hcm, hcs, ht⟩
    · cases h
    · injection hv with hA hn1 hc1
      injection hA with hA
      injection hA with hA _ _
      subst hA
      obtain rfl := hc1
      have hcs2 : cur.size = cap := by rw [hcs]; omega
      have hrun := run_copy_row (P := P) w dT sT ty elem g off dLen dCap ⟨b, o, none⟩ sLen sCap cur e (ys.map B) hu hsz hg (by rw [List.length_map]; subst hsl; exact (Nat.min_eq_left hn).symm)
        (fun j u hj => by rw [Addr.add_lit]; exact hc j u hj) (by rw [List.length_map]; omega) (bytes_oneCell ys)
      rw [List.length_map] at hrun
      have hcl : cur.toList.length = cap := by simp [hcs2]
      refine ⟨_, hrun, ⟨by simp, .inr ⟨g, cap, _, by rw [hn1, List.length_map, hl], hbg, setRow_heap w g cur _ e _ hg, by rw [List.length_map, hl]; omega, hcm, ?_, ?_⟩⟩, ⟨rfl, rfl, rfl, by simp, fun k _ hk => setRow_other w g k _ (fun e => hk (by simp [Value.ownBlock, e]))⟩, .inl rfl⟩
      · simp only [List.size_toArray, List.length_append, List.length_take, List.length_drop, List.length_map, hcl]
        omega
      · rw [Nat.mul_one] at ht ⊢
        rw [List.length_map, hl]
        simp only [splice]
        have hb1 : cur.toList.take off = (bs.map B).take off := by rw [← ht, List.take_take, Nat.min_eq_left (by omega)]
        have hb2 : (bs.map B).drop (off + ys.length) = (cur.toList.drop (off + ys.length)).take (bs.length - (off + ys.length)) := by rw [← ht, List.drop_take]
        rw [hb1, List.append_assoc, List.map_append, List.map_append, List.map_drop, hb2, ← List.map_take]
        have e1 : (List.map B (bs.take off)).length = off := by rw [List.length_map, List.length_take]; omega
        rw [List.take_append, e1, List.take_of_length_le (l := List.map B (bs.take off)) (by rw [e1]; omega)]
        congr 1
        rw [List.take_append, List.length_map, List.take_of_length_le (l := List.map B ys) (by rw [List.length_map]; omega)]
        congr 2
        omega

/-- 'copy(d[i:], s)' as one step of a region that draws. -/
theorem step_copyG {P : Program} {w : World} {ops : Array Oper} {o : Oper} {a : Act} {K : Act → World → Prop} {Q : Exit → Act → World → Prop} {E : Prop} (hgd : o.guard = none) (d s : Operand) (dT sT elem : TypeId)
    (hop : o.op = .call { callee := .builtin .copy, args := #[d, s], argTypes := #[dT, sT] }) (hu : P.underlying dT = some (.slice elem)) (hsz : (P.info? elem).map (·.size) = some 1)
    (base : Nat) (e : TypeId) (g n cap : Nat) (bs : List UInt8) (hown : w.ownsRow base e 1 (.slice (some ⟨g, 0, none⟩) n cap) bs.length (bs.map B)) (off dLen dCap : Nat) (hd : a.eval d = .slice (some ⟨g, off, none⟩) dLen dCap)
    (sp : Option Addr) (sLen sCap : Nat) (ys : List UInt8) (hs : a.eval s = .slice sp sLen sCap) (hr : Rd w (.slice sp sLen sCap) (ys.map B)) (hfit : off + ys.length ≤ bs.length) (hn : ys.length ≤ dLen)
    (h : ∀ w', Grew base e (.slice (some ⟨g, 0, none⟩) n cap) w ((splice bs off ys).map B) (.slice (some ⟨g, 0, none⟩) n cap) w' → K (a.put o.dst (goInt ys.length)) w') :
    if Region.wanted o (yielded ops a.tmps) = true then Oper.wp P o a w K Q else E := by
  have hw : Region.wanted o (yielded ops a.tmps) = true := by simp [Region.wanted, hgd]
  rw [if_pos hw]
  obtain ⟨w', hrun, h2⟩ := run_copyG (P := P) w dT sT o.type elem hu hsz base e g n cap bs hown off dLen dCap sp sLen sCap ys hr hfit hn
  unfold Oper.wp
  simp [execOp, hop, resolve, invoke, builtin, hd, hs, hrun, Result.andThen]
  exact h w' h2

theorem wpList_copyG {P : Program} {w : World} {ops : Array Oper} {rest : List Oper} {o : Oper} {a : Act} {Q : Exit → Act → World → Prop} (hgd : o.guard = none) (d s : Operand) (dT sT elem : TypeId)
    (hop : o.op = .call { callee := .builtin .copy, args := #[d, s], argTypes := #[dT, sT] }) (hu : P.underlying dT = some (.slice elem)) (hsz : (P.info? elem).map (·.size) = some 1)
    (base : Nat) (e : TypeId) (g n cap : Nat) (bs : List UInt8) (hown : w.ownsRow base e 1 (.slice (some ⟨g, 0, none⟩) n cap) bs.length (bs.map B)) (off dLen dCap : Nat) (hd : a.eval d = .slice (some ⟨g, off, none⟩) dLen dCap)
    (sp : Option Addr) (sLen sCap : Nat) (ys : List UInt8) (hs : a.eval s = .slice sp sLen sCap) (hr : Rd w (.slice sp sLen sCap) (ys.map B)) (hfit : off + ys.length ≤ bs.length) (hn : ys.length ≤ dLen)
    (h : ∀ w', Grew base e (.slice (some ⟨g, 0, none⟩) n cap) w ((splice bs off ys).map B) (.slice (some ⟨g, 0, none⟩) n cap) w' → wpList P ops Q rest (a.put o.dst (goInt ys.length)) w') : wpList P ops Q (o :: rest) a w := by
  refine wpList_plain hgd fun K hK => ?_
  obtain ⟨w', hrun, h2⟩ := run_copyG (P := P) w dT sT o.type elem hu hsz base e g n cap bs hown off dLen dCap sp sLen sCap ys hr hfit hn
  unfold Oper.wp
  simp [execOp, hop, resolve, invoke, builtin, hd, hs, hrun, Result.andThen]
  exact hK _ _ (h w' h2)

end Go.Proofs.Ytkoppdhmbhgnfaa
