/- More words for memory: a cell of an owned row is written. No program is named here. -/
import Derived.Test.YtkoppdhmbhgnfaaMem
namespace Go.Proofs.Ytkoppdhmbhgnfaa
open Go.RowKit

section
variable {base : Nat} {e : TypeId} {v : Value} {w w' : World} {xs : List Value}
theorem Grew.form {v' : Value} (h : Grew base e v w xs v' w') (hn : 0 < xs.length) : ∃ g cap, v' = .slice (some ⟨g, 0, none⟩) xs.length cap ∧ xs.length ≤ cap ∧ base ≤ g ∧ g < w'.heap.size := by
  rcases h.1.2 with ⟨_, h0⟩ | ⟨g, cap, cur, hv, hg, hh, hnc, _⟩
  · omega
  · exact ⟨g, cap, hv, hnc, hg, (Array.getElem?_eq_some_iff.1 hh).1⟩
theorem Grew.cellAt {g n cap : Nat} (h : Grew base e v w xs (.slice (some ⟨g, 0, none⟩) n cap) w') (j : Nat) (hj : j < xs.length) : w'.cell? ⟨g, j, none⟩ = xs[j]? := by
  have h1 := h.1
  have hl : n = xs.length := by
    rcases h1.2 with ⟨h', _⟩ | ⟨g', cap', cur, h', _⟩
    · cases h'
    · cases h'
      rfl
  subst hl
  exact h1.cellAt j (by omega)
theorem Grew.frozenAt {g n cap : Nat} (h : Grew base e v w xs (.slice (some ⟨g, 0, none⟩) n cap) w') (j : Nat) : w'.frozen? ⟨g, j, none⟩ = false := by
  have h1 := h.1
  have hl : n = xs.length := by
    rcases h1.2 with ⟨h', _⟩ | ⟨g', cap', cur, h', _⟩
    · cases h'
    · cases h'
      rfl
  subst hl
  exact h1.frozenAt j
theorem Grew.set {g n cap : Nat} (h : Grew base e v w xs (.slice (some ⟨g, 0, none⟩) n cap) w') (j : Nat) (u : Value) : Grew base e v w (xs.set j u) (.slice (some ⟨g, 0, none⟩) n cap) (w'.setCell ⟨g, j, none⟩ u) := by
  obtain ⟨h1, h2, h3⟩ := h
  have hl : n = xs.length := by
    rcases h1.2 with ⟨h', _⟩ | ⟨g', cap', cur, h', _⟩
    · cases h'
    · cases h'
      rfl
  subst hl
  have hs := h1.stored j u
  refine ⟨by rw [List.length_set]; exact hs.1, ⟨h2.os, h2.tape, h2.output, by simpa using h2.size, fun k hk hne => ?_⟩, h3⟩
  refine (hs.2.block k (Nat.lt_of_lt_of_le hk h2.size) ?_).trans (h2.block k hk hne)
  intro e
  rcases h3 with h3 | h3
  · exact hne (by rw [← h3, e]; rfl)
  · have := h3 g rfl
    cases e
    omega
end

theorem Rd.get {w : World} {A : Option Addr} {N c : Nat} {xs : List Value} (h : Rd w (.slice A N c) xs) (hn : 0 < xs.length) :
    ∃ b o, A = some ⟨b, o, none⟩ ∧ b < w.heap.size ∧ ∀ j u, xs[j]? = some u → w.cell? ⟨b, o + j, none⟩ = some u := by
  obtain ⟨A', c', e, _, _, h3⟩ := h
  cases e
  exact h3 hn
theorem Rd.sliceN {w : World} {v : Value} {xs : List Value} (h : Rd w v xs) {n : Nat} (hn : xs.length = n) : ∃ A c, v = .slice A n c ∧ n ≤ c ∧ c ≤ maxLen := by
  subst hn
  obtain ⟨A, c, e, h1, h2, _⟩ := h
  exact ⟨A, c, e, h1, h2⟩
theorem Ext.cellOf {w w' : World} (h : Ext w w') {b o : Nat} {u : Value} (hc : w.cell? ⟨b, o, none⟩ = some u) (hb : b < w.heap.size) : w'.cell? ⟨b, o, none⟩ = some u :=
  (h.cell (p := ⟨b, o, none⟩) hb).trans hc

/-- An append to what reads as a list, and has too little room: a new row. -/
theorem run_append_rd_grows {P : Program} (w : World) (t ty e : TypeId) (i : TypeInfo) (z : Value) (ht : P.underlying t = some (.slice e)) (hi : P.info? e = some i) (hz : i.zero = some z)
    (hsize : i.size = 1) (hby : i.bytes = 1) (hzs : z.cells.size = 1) (b o n c : Nat) (xs : List Value) (hv : Rd w (.slice (some ⟨b, o, none⟩) n c) xs) (u : Value) (ys : List Value) (hr : Rd w u ys)
    (hroom : c < n + ys.length) (hbytes : xs.length + ys.length ≤ 140737488355328) :
    ∃ v' w', (Builtin.append_ #[t, t] ty #[.slice (some ⟨b, o, none⟩) n c, u]).run P w = .ok v' w' ∧ Grew w.heap.size e (.slice none 0 0) w (xs ++ ys) v' w' := by
  obtain ⟨A, c1, he, hn, hcm, hcx⟩ := hv
  cases he
  obtain ⟨A', c', rfl, hlc, hcm', hcell⟩ := hr
  obtain ⟨b', o', rfl, _, hc⟩ := hcell (by omega)
  have h63 : xs.length + ys.length ≤ maxLen := by unfold maxLen; omega
  have holds : ∀ j u, xs[j]? = some u → w.cell? ((⟨b, o, none⟩ : Addr).add j) = some u := by
    intro j u hu
    obtain ⟨b2, o2, h, _, hcx2⟩ := hcx (by rcases Nat.eq_zero_or_pos xs.length with h | h; (rw [List.eq_nil_of_length_eq_zero h] at hu; simp at hu); exact h)
    cases h
    rw [Addr.add_lit]
    exact hcx2 j u hu
  have hnews : ∀ j u, ys[j]? = some u → w.cell? ((⟨b', o', none⟩ : Addr).add j) = some u := by
    intro j u hu
    rw [Addr.add_lit]
    exact hc j u hu
  have hrun := run_append_grow (P := P) w t ty e i z ht hi hz ⟨b, o, none⟩ xs.length c xs (by rw [hsize]; omega) holds ⟨b', o', none⟩ ys.length c' ys (by rw [hsize]; omega) hnews hroom (by omega) (by rw [hby]; exact growslice_fits (by omega) (by omega))
  refine ⟨_, _, hrun, ⟨?_, ⟨rfl, rfl, rfl, by simp, fun k hk _ => heap_alloc_old w.drew _ hk⟩, .inr fun k hk => ?_⟩⟩
  · have hge := grownCap_ge w (xs.length + ys.length) c e
    have hcm2 : grownCap w (xs.length + ys.length) c e ≤ maxLen := grownCap_le_maxLen w (xs.length + ys.length) c e h63
    refine ⟨by rw [List.length_append]; omega, .inr ⟨w.heap.size, grownCap w (xs.length + ys.length) c e, _, by rw [List.length_append], Nat.le_refl _, heap_alloc_new w.drew _, by rw [List.length_append]; exact hge, hcm2, ?_, ?_⟩⟩
    · simp only [Array.size_append, List.size_toArray, size_zeroCells, hzs]
      omega
    · simp only [Array.toList_append, List.append_assoc]
      rw [← List.append_assoc, Nat.mul_one]
      exact List.take_left
  · simp only [Value.ownBlock] at hk
    cases hk
    exact Nat.le_refl _

theorem wpList_appendGrows {P : Program} {w : World} {ops : Array Oper} {rest : List Oper} {op : Oper} {a : Act} {Q : Exit → Act → World → Prop} (hgd : op.guard = none) (s x : Operand) (t : TypeId)
    (ho : op.op = .call { callee := .builtin .append, args := #[s, x], argTypes := #[t, t] })
    (e : TypeId) (z : Value) (ht : P.underlying t = some (.slice e)) (hinfo : (P.info? e).map (fun i => (i.zero, i.size, i.bytes)) = some (some z, 1, 1)) (hzs : z.cells.size = 1)
    (b o n c : Nat) (xs : List Value) (hs : a.eval s = .slice (some ⟨b, o, none⟩) n c) (hv : Rd w (.slice (some ⟨b, o, none⟩) n c) xs) (u : Value) (ys : List Value) (hx : a.eval x = u) (hr : Rd w u ys)
    (hroom : c < n + ys.length) (hbytes : xs.length + ys.length ≤ 140737488355328)
    (h : ∀ v' w', Grew w.heap.size e (.slice none 0 0) w (xs ++ ys) v' w' → wpList P ops Q rest (a.put op.dst v') w') : wpList P ops Q (op :: rest) a w := by
  refine wpList_plain hgd fun K hK => ?_
  obtain ⟨i0, hi, hz0, hz1, hz2⟩ := info_parts hinfo
  obtain ⟨v', w', hrun, h2⟩ := run_append_rd_grows (P := P) w t op.type e i0 z ht hi hz0 hz1 hz2 hzs b o n c xs hv u ys hr hroom hbytes
  unfold Oper.wp execOp
  simp only [ho, resolve, invoke, builtin, Sem.run_bind, Sem.run_pure, Result.andThen_ok, List.map_toArray, List.map_cons, List.map_nil, hs, hx, hrun]
  exact hK _ _ (h v' w' h2)

/-- A row that was made later is one of the call's own all the same. -/
theorem Grew.from_ext {w w1 w' : World} {e : TypeId} {xs : List Value} {v' : Value} (hx : Ext w w1) (h : Grew w1.heap.size e (.slice none 0 0) w1 xs v' w') : Grew w.heap.size e (.slice none 0 0) w xs v' w' := by
  obtain ⟨h1, h2, h3⟩ := h
  refine ⟨⟨h1.1, ?_⟩, ⟨h2.os.trans hx.os, h2.tape.trans hx.tape, h2.output.trans hx.output, Nat.le_trans hx.size h2.size, fun k hk hne => ?_⟩, .inr fun k hk => ?_⟩
  · rcases h1.2 with h | ⟨g, cap, cur, hv, hg, r⟩
    · exact .inl h
    · exact .inr ⟨g, cap, cur, hv, Nat.le_trans hx.size hg, r⟩
  · exact (h2.block k (Nat.lt_of_lt_of_le hk hx.size) hne).trans (hx.block k hk)
  · rcases h3 with h3 | h3
    · rw [h3] at hk
      cases hk
    · exact Nat.le_trans hx.size (h3 k hk)

/-! ### '[]T{}', and what is appended to it -/
theorem own_none (w : World) (e : TypeId) (g : Nat) (hg : g = w.heap.size) : (w.alloc (.cells #[] e)).ownsRow w.heap.size e 1 (.slice (some ⟨g, 0, none⟩) 0 0) ([] : List Value).length [] := by
  subst hg
  exact World.ownsRow_lit w #[] 0 (Nat.le_refl _) (by unfold maxLen; omega) rfl
theorem Grew.from_empty {w w' : World} {e : TypeId} {xs : List Value} {v' : Value} {g : Nat} (hg : g = w.heap.size) (h : Grew w.heap.size e (.slice (some ⟨g, 0, none⟩) 0 0) (w.alloc (.cells #[] e)) xs v' w') : Grew w.heap.size e (.slice none 0 0) w xs v' w' := by
  subst hg
  obtain ⟨h1, h2, h3⟩ := h
  have hx : Ext w (w.alloc (.cells #[] e)) := (Below.refl _ _).alloc (Nat.le_refl _) _
  refine ⟨h1, ⟨h2.os.trans hx.os, h2.tape.trans hx.tape, h2.output.trans hx.output, Nat.le_trans hx.size h2.size, fun k hk _ => ?_⟩, .inr fun k hk => ?_⟩
  · exact (h2.block k (Nat.lt_of_lt_of_le hk hx.size) (by simp only [Value.ownBlock]; intro e; cases e; omega)).trans (hx.block k hk)
  · rcases h3 with h3 | h3
    · rw [h3] at hk
      simp only [Value.ownBlock] at hk
      cases hk
      exact Nat.le_refl _
    · exact Nat.le_trans hx.size (h3 k hk)

end Go.Proofs.Ytkoppdhmbhgnfaa
