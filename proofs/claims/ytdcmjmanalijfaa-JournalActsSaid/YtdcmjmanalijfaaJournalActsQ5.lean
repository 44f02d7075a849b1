/- Texts that the proof of JournalActs rests on, one behind the other. -/
import Derived.Test.YtdcmjmanalijfaaJournalActsQ4
import Derived.Test.YtdcmjmanalijfaaRows
import Derived.OwnWalk
import Derived.Laws.OwnMore
import Derived.Deep.QuietTactic
import Derived.BigQuiet
import Derived.StillTailTactics
import Derived.Outline
import Derived.Lib.SliceRun
import Derived.Deep.RegionLaw

/- Slices of bytes in this translation's numbers: what one element takes; the laws at an append. -/
namespace Go.Proofs.Ytdcmjmanalijfaa
open Go.RowKit

theorem Try.infoU8 : (Try.prog.info? 5).map (fun i => (i.zero, i.size, i.bytes)) = some (some (.int .u8 0), 1, 1) := by kernel_rfl

/-- 'b = append(b, x)', b a row of bytes of the call's own. -/
theorem push_u8 {w : World} {ops : Array Oper} {rest : List Oper} {o : Oper} {a : Act} {Q : Exit → Act → World → Prop} {gx : Nat} (hgd : o.guard = none) (s x : Operand)
    (ho : o.op = .call { callee := .builtin .append, args := #[s, x], argTypes := #[30, 30] })
    (base : Nat) (v : Value) (xs : List Value) (hs : a.eval s = v) (hown : w.ownsRow base 5 1 v xs.length xs) (u : Value) (h1 : u.oneCell' = true)
    (hx : a.eval x = .slice (some ⟨gx, 0, none⟩) 1 1) (hlen : xs.length < 140737488355328) (hbase : base ≤ w.heap.size)
    (h : ∀ v' w', Grew base 5 v w (xs ++ [u]) v' w' → wpList Try.prog ops Q rest (a.put o.dst v') w') (hgx : gx = w.heap.size := by simp) : wpList Try.prog ops Q (o :: rest) a (w.alloc (.cells #[u] 5)) := by
  subst hgx
  exact wpList_push hgd s x 30 ho base 5 (.int .u8 0) 1 Try.underlying30 Try.infoU8 rfl v xs hs hown u h1 hx (by unfold maxLen; omega) (by omega) hbase h

/-- 'b = append(b, c...)', c what reads as a list of bytes. -/
theorem app_u8 {w : World} {ops : Array Oper} {rest : List Oper} {o : Oper} {a : Act} {Q : Exit → Act → World → Prop} (hgd : o.guard = none) (s x : Operand)
    (ho : o.op = .call { callee := .builtin .append, args := #[s, x], argTypes := #[30, 30] })
    (base : Nat) (v : Value) (xs : List Value) (hs : a.eval s = v) (hown : w.ownsRow base 5 1 v xs.length xs) (u : Value) (ys : List UInt8) (hx : a.eval x = u) (hr : Rd w u (ys.map B))
    (hbytes : xs.length + ys.length ≤ 140737488355328) (hbase : base ≤ w.heap.size)
    (h : ∀ v' w', Grew base 5 v w (xs ++ ys.map B) v' w' → wpList Try.prog ops Q rest (a.put o.dst v') w') : wpList Try.prog ops Q (o :: rest) a w :=
  wpList_appendRd hgd s x 30 ho base 5 (.int .u8 0) 1 Try.underlying30 Try.infoU8 rfl v xs hs hown u _ hx hr (bytes_oneCell ys) (by unfold maxLen; simp; omega) (by simp; omega) hbase h

end Go.Proofs.Ytdcmjmanalijfaa

/- Slices of bytes in this translation's numbers: the law at an append that makes a new row. -/
namespace Go.Proofs.Ytdcmjmanalijfaa
open Go.RowKit

theorem appG_u8 {w : World} {ops : Array Oper} {rest : List Oper} {op : Oper} {a : Act} {Q : Exit → Act → World → Prop} (hgd : op.guard = none) (s x : Operand)
    (ho : op.op = .call { callee := .builtin .append, args := #[s, x], argTypes := #[30, 30] })
    (b o n c : Nat) (xs : List UInt8) (hs : a.eval s = .slice (some ⟨b, o, none⟩) n c) (hv : Rd w (.slice (some ⟨b, o, none⟩) n c) (xs.map B)) (u : Value) (ys : List UInt8) (hx : a.eval x = u) (hr : Rd w u (ys.map B))
    (hroom : c < n + ys.length) (hbytes : xs.length + ys.length ≤ 140737488355328)
    (h : ∀ v' w', Grew w.heap.size 5 (.slice none 0 0) w ((xs ++ ys).map B) v' w' → wpList Try.prog ops Q rest (a.put op.dst v') w') : wpList Try.prog ops Q (op :: rest) a w :=
  wpList_appendGrows hgd s x 30 ho 5 (.int .u8 0) Try.underlying30 Try.infoU8 rfl b o n c _ hs hv u _ hx hr (by rw [List.length_map]; exact hroom) (by simp; omega)
    (fun v' w' hg => h v' w' (by rw [List.map_append]; exact hg))

/-- 'make([]byte, n)': a row of noughts. -/
theorem make_u8 {w : World} {ops : Array Oper} {rest : List Oper} {op : Oper} {a : Act} {Q : Exit → Act → World → Prop} (hgd : op.guard = none) (l c : Operand)
    (ho : op.op = .makeSlice 30 l c) (n : Nat) (hl : a.eval l = .int .i64 (n : Int)) (hc : a.eval c = .int .i64 (n : Int)) (hn : n ≤ 140737488355328)
    (h : ∀ g w', w.heap.size ≤ g → Grew w.heap.size 5 (.slice none 0 0) w ((List.replicate n (0 : UInt8)).map B) (.slice (some ⟨g, 0, none⟩) n n) w' → wpList Try.prog ops Q rest (a.put op.dst (.slice (some ⟨g, 0, none⟩) n n)) w') :
    wpList Try.prog ops Q (op :: rest) a w := by
  obtain ⟨i0, hi, hz0, hz1, hz2⟩ := info_parts Try.infoU8
  refine wpList_make_full w hgd l c 30 ho w.heap.size 5 i0 (.int .u8 0) 1 Try.underlying30 hi hz0 hz1 .i64 .i64 _ _ n hl hc rfl rfl (by rw [hz2]; omega) (by unfold maxLen; omega) (Nat.le_refl _) ?_
  intro w' hown hg
  refine h _ w' (Nat.le_refl _) ⟨?_, hg, .inr fun k hk => ?_⟩
  · have e : (madeCells (Value.int IntKind.u8 0).cells (n * 1)).toList = (List.replicate n (0 : UInt8)).map B := by
      rw [Nat.mul_one, List.map_replicate]
      exact toList_madeCells_one _ _
    rw [e] at hown
    rw [List.length_map, List.length_replicate]
    exact hown
  · simp only [Value.ownBlock] at hk
    cases hk
    exact Nat.le_refl _

/-- The same, as what the operation itself comes to (for a statement whose order is open). -/
theorem run_make_u8 (w : World) (n : Nat) (hn : n ≤ 140737488355328) : ∃ w', (Instr.makeSlice 30 (.int .i64 (n : Int)) (.int .i64 (n : Int))).run Try.prog w = .ok (.slice (some ⟨w.heap.size, 0, none⟩) n n) w' ∧
    Grew w.heap.size 5 (.slice none 0 0) w ((List.replicate n (0 : UInt8)).map B) (.slice (some ⟨w.heap.size, 0, none⟩) n n) w' := by
  obtain ⟨i0, hi, hz0, hz1, hz2⟩ := info_parts Try.infoU8
  obtain ⟨w', hrun, hown, hg⟩ := run_make_full (P := Try.prog) w w.heap.size 30 5 i0 (.int .u8 0) 1 Try.underlying30 hi hz0 hz1 .i64 .i64 n (by rw [hz2]; omega) (by unfold maxLen; omega) (Nat.le_refl _)
  refine ⟨w', hrun, ?_, hg, .inr fun k hk => ?_⟩
  · have e : (madeCells (Value.int IntKind.u8 0).cells (n * 1)).toList = (List.replicate n (0 : UInt8)).map B := by
      rw [Nat.mul_one, List.map_replicate]
      exact toList_madeCells_one _ _
    rw [e] at hown
    rw [List.length_map, List.length_replicate]
    exact hown
  · simp only [Value.ownBlock] at hk
    cases hk
    exact Nat.le_refl _

end Go.Proofs.Ytdcmjmanalijfaa

/- Package disk: what waits, as a list of structs; lay. -/
namespace Go.Proofs.Ytdcmjmanalijfaa
open Go.RowKit

/-- A write that waits: its place, the slice of its bytes, the bytes. -/
abbrev WtS : Type := Nat × Value × List UInt8
def WtS.plain (x : WtS) : Nat × List UInt8 := (x.1, x.2.2)
def WtS.cells (x : WtS) : List Value := [I x.1, x.2.1]

/-- The slice of structs reads as these writes, and lies in the set, bytes and all. -/
def WtRd (H : Fp) (w : World) (v : Value) (us : List WtS) : Prop :=
  ∃ A c, v = .slice A us.length c ∧ us.length ≤ c ∧ c ≤ maxLen ∧ (0 < us.length → ∃ b o, A = some ⟨b, o, none⟩ ∧ b < w.heap.size ∧ H b ∧
    ∀ j x, us[j]? = some x → w.cell? ⟨b, o + j * 2, none⟩ = some (I x.1) ∧ w.cell? ⟨b, o + (j * 2 + 1), none⟩ = some x.2.1 ∧ RdF H w x.2.1 (x.2.2.map B))

section
variable {H G : Fp} {w w' : World} {v : Value} {us : List WtS}
theorem WtRd.chg (h : WtRd H w v us) (hc : Chg G w w') (ha : H.apart G) : WtRd H w' v us := by
  obtain ⟨A, c, e, h1, h2, h3⟩ := h
  refine ⟨A, c, e, h1, h2, fun hn => ?_⟩
  obtain ⟨b, o, rfl, hb, hH, hx⟩ := h3 hn
  have hblk := hc.block b hb (ha b hH)
  refine ⟨b, o, rfl, Nat.lt_of_lt_of_le hb hc.size, hH, fun j x hj => ?_⟩
  obtain ⟨e1, e2, e3⟩ := hx j x hj
  refine ⟨?_, ?_, e3.chg hc ha⟩
  · simp only [World.cell?] at e1 ⊢
    rw [hblk]
    exact e1
  · simp only [World.cell?] at e2 ⊢
    rw [hblk]
    exact e2
theorem WtRd.ext (h : WtRd H w v us) (hx : Ext w w') : WtRd H w' v us := h.chg (G := fun _ => False) (Chg.of_ext hx) (fun _ _ h => h)
theorem WtRd.slice_ (h : WtRd H w v us) : ∃ A c, v = .slice A us.length c ∧ us.length ≤ c ∧ c ≤ maxLen := by
  obtain ⟨A, c, e, h1, h2, _⟩ := h
  exact ⟨A, c, e, h1, h2⟩
theorem WtRd.get {A : Option Addr} {n c : Nat} (h : WtRd H w (.slice A n c) us) (hn : 0 < us.length) : ∃ b o, A = some ⟨b, o, none⟩ ∧ b < w.heap.size ∧ H b ∧
    ∀ j x, us[j]? = some x → w.cell? ⟨b, o + j * 2, none⟩ = some (I x.1) ∧ w.cell? ⟨b, o + (j * 2 + 1), none⟩ = some x.2.1 ∧ RdF H w x.2.1 (x.2.2.map B) := by
  obtain ⟨A', c', e, _, _, h3⟩ := h
  cases e
  exact h3 hn
end

/-- How far it has come. -/
def LaySt (base : Nat) (bs : List UInt8) (us : List WtS) (K : Nat) (vO : Value) (w : World) (l i : Value) (wr : World) : Prop :=
  ∃ k : Nat, i = .int .i64 k ∧ k ≤ us.length ∧ l = .int .i64 ((K - (flatW ((us.map WtS.plain).take k)).length : Nat) : Int) ∧ Grew base 5 vO w ((putAll bs ((flatW ((us.map WtS.plain).take k)).take K)).map B) vO wr

set_option maxRecDepth 100000 in
theorem Lay_neg (H : Fp) (base : Nat) (vO vW : Value) (bs : List UInt8) (us : List WtS) (keep : Int) (w : World) (hO : w.ownsRow base 5 1 vO bs.length (bs.map B)) (hW : WtRd H w vW us)
    (ha : ∀ k, vO.ownBlock = some k → ¬ H k) (hus : ∀ x ∈ us, x.1 + x.2.2.length ≤ bs.length ∧ 0 < x.2.2.length) (hb : bs.length ≤ 65536) (hn : us.length ≤ 1000000000) (h0 : -9223372036854775808 ≤ keep) (h : keep < 0) :
    Calls Try.prog 53 #[vO, vW, .int .i64 keep] w fun e w' =>
      e = .returned (.tuple #[]) ∧ Grew base 5 vO w ((putAll bs ((flatW (us.map WtS.plain)).take keep.toNat)).map B) vO w' := by
  obtain ⟨AW, cW, rfl, hlW, hcW⟩ := hW.slice_
  unfold maxLen at hcW
  have HU := Lib.hid hus
  have HW := Lib.hid hW
  have HO := Lib.hid hO
  clear hus hW hO
  go_enter Try.func53, Try.ntmps53
  go_wp2
  go_loopw [6, 14] (fun l' i' wr => LaySt base bs us keep.toNat vO w l' i' wr) (fun _ i' _ => us.length - (intOf i').toNat)
  case atStart => exact ⟨0, rfl, Nat.zero_le _, by simp [flatW]; omega, by simpa [flatW, putAll] using Grew.start HO.out⟩
  case round =>
    obtain ⟨k, rfl, hk, rfl, hg⟩ := hrel
    by_cases hlt : k < us.length
    · have hWk := HW.out.chg (Chg.of_grown (F := fun k => vO.ownBlock = some k) hg.2.1 fun _ h => h) (fun k hk hk2 => ha k hk2 hk)
      obtain ⟨b, o, rfl, hb1, hH1, hcl⟩ := hWk.get (by omega)
      obtain ⟨e1, e2, hr⟩ := hcl k _ (List.getElem?_eq_getElem hlt)
      have hx := HU.out us[k] (List.getElem_mem hlt)
      have hxs : (us.map WtS.plain)[k]'(by rw [List.length_map]; exact hlt) = us[k].plain := List.getElem_map _
      have hst := lay_step (bs := bs) (K := keep.toNat) (l := us.map WtS.plain) (k := k) (by rw [List.length_map]; exact hlt) (by rw [hxs]; exact hx.1)
      have hsl := flatW_snoc_len (l := us.map WtS.plain) (k := k) (by rw [List.length_map]; exact hlt)
      rw [hxs] at hst hsl
      generalize us[k] = x at *
      obtain ⟨i, u, l⟩ := x
      have HS := Lib.hid hst
      have HL := Lib.hid hsl
      clear hcl hWk hxs hst hsl
      simp only [I] at e1 e2 hr hx
      have e3 : wr.cell? ⟨b, o + k * 2 + 1, none⟩ = some u := by rw [Nat.add_assoc]; exact e2
      clear e2
      obtain ⟨Au, cu, rfl, hlc, hcm⟩ := hr.rd.sliceN (List.length_map _)
      unfold maxLen at hcm
      have hl8 : (putAll bs ((flatW ((us.map WtS.plain).take k)).take keep.toNat)).length = bs.length := putAll_len _ _
      have hz8 : (Try.prog.info? 5).map (·.size) = some 1 := by kernel_rfl
      obtain ⟨gO, cO, rfl, hcO⟩ : ∃ gO cO, vO = .slice (some ⟨gO, 0, none⟩) bs.length cO ∧ bs.length ≤ cO := by
        obtain ⟨gO, cO, e, h1, _⟩ := hg.form (by rw [List.length_map, hl8]; omega)
        rw [List.length_map, hl8] at e h1
        exact ⟨gO, cO, e, h1⟩
      have hcO2 : cO ≤ 9223372036854775807 := by
        obtain ⟨_, _, e, _, h⟩ := (Rd.own HO.out).sliceN (List.length_map _)
        injection e with _ _ e
        rw [e]
        exact h
      have HR := Lib.hid hr
      have HG := Lib.hid hg
      clear hr hg
      have hkL : ((keep.toNat - (flatW ((us.map WtS.plain).take k)).length : Nat) : Int) ≤ 9223372036854775807 := by omega
      generalize hL : keep.toNat - (flatW ((us.map WtS.plain).take k)).length = L at *
      generalize hX : putAll bs ((flatW ((us.map WtS.plain).take k)).take keep.toNat) = X at *
      have hm : L ≤ l.length := by omega
      have hrd : Rd wr (.slice Au L cu) ((l.take L).map B) := by rw [List.map_take]; exact HR.out.rd.prefix_ L (by rw [List.length_map]; exact hm)
      have hyl : (l.take L).length = L := by rw [List.length_take]; omega
      have HRD := Lib.hid hrd
      have HY := Lib.hid hyl
      clear hrd hyl
      go_wp2
      have hx2 : Ext wr (wr.alloc (.cells #[.int .i64 (i : Int), .slice Au l.length cu] 99)).drew := Ext.dr ((Below.refl _ _).alloc (Nat.le_refl _) _)
      have q1 : i ≤ bs.length := by omega
      have q2 : ¬ cO = i := by omega
      have q3 : L ≤ cu := by omega
      have hgx := HG.out.step hx2
      have hown := hgx.1
      rw [List.length_map] at hown
      have hry := HRD.out.ext hx2
      have q4 : i + (l.take L).length ≤ X.length := by rw [hl8, HY.out]; omega
      have q5 : (l.take L).length ≤ bs.length - i := by rw [HY.out]; omega
      go_region_law (refine step_copyG rfl (.tmp 26) (.tmp 30) 30 30 5 rfl Try.underlying30 hz8 base 5 gO bs.length cO X hown i (bs.length - i) (cO - i) rfl Au L cu (l.take L) rfl hry q4 q5 ?_; intro w4 hg4)
      all_goals
        have hg5 := hgx.trans hg4
        have HG5 := Lib.hid hg5
        clear hg5 hg4 hgx hown hry q4 q5
        go_wp2
        go_roundw
        case rel =>
          have e1 : splice X i (l.take L) = putAll bs ((flatW ((us.map WtS.plain).take (k + 1))).take keep.toNat) := HS.out.symm
          have h5 := HG5.out
          have hll := HL.out
          simp only [WtS.plain] at hll
          rw [e1] at h5
          exact ⟨k + 1, by go_num, by omega, by rw [hll]; congr 1; omega, h5⟩
        case measure => simp [intOf]; omega
    · obtain rfl : k = us.length := by omega
      rw [List.take_of_length_le (i := us.length) (by rw [List.length_map]; omega)] at hg
      go_wp2
      go_end0
      exact ⟨rfl, hg⟩
set_option maxRecDepth 100000 in
theorem Lay_pos (H : Fp) (base : Nat) (vO vW : Value) (bs : List UInt8) (us : List WtS) (keep : Int) (w : World) (hO : w.ownsRow base 5 1 vO bs.length (bs.map B)) (hW : WtRd H w vW us)
    (ha : ∀ k, vO.ownBlock = some k → ¬ H k) (hus : ∀ x ∈ us, x.1 + x.2.2.length ≤ bs.length ∧ 0 < x.2.2.length) (hb : bs.length ≤ 65536) (hn : us.length ≤ 1000000000) (h : 0 ≤ keep) (h1 : keep ≤ 9223372036854775807) :
    Calls Try.prog 53 #[vO, vW, .int .i64 keep] w fun e w' =>
      e = .returned (.tuple #[]) ∧ Grew base 5 vO w ((putAll bs ((flatW (us.map WtS.plain)).take keep.toNat)).map B) vO w' := by
  obtain ⟨AW, cW, rfl, hlW, hcW⟩ := hW.slice_
  unfold maxLen at hcW
  have HU := Lib.hid hus
  have HW := Lib.hid hW
  have HO := Lib.hid hO
  clear hus hW hO
  go_enter Try.func53, Try.ntmps53
  go_wp2
  go_loopw [6, 14] (fun l' i' wr => LaySt base bs us keep.toNat vO w l' i' wr) (fun _ i' _ => us.length - (intOf i').toNat)
  case atStart => exact ⟨0, rfl, Nat.zero_le _, by simp [flatW]; omega, by simpa [flatW, putAll] using Grew.start HO.out⟩
  case round =>
    obtain ⟨k, rfl, hk, rfl, hg⟩ := hrel
    by_cases hlt : k < us.length
    · have hWk := HW.out.chg (Chg.of_grown (F := fun k => vO.ownBlock = some k) hg.2.1 fun _ h => h) (fun k hk hk2 => ha k hk2 hk)
      obtain ⟨b, o, rfl, hb1, hH1, hcl⟩ := hWk.get (by omega)
      obtain ⟨e1, e2, hr⟩ := hcl k _ (List.getElem?_eq_getElem hlt)
      have hx := HU.out us[k] (List.getElem_mem hlt)
      have hxs : (us.map WtS.plain)[k]'(by rw [List.length_map]; exact hlt) = us[k].plain := List.getElem_map _
      have hst := lay_step (bs := bs) (K := keep.toNat) (l := us.map WtS.plain) (k := k) (by rw [List.length_map]; exact hlt) (by rw [hxs]; exact hx.1)
      have hsl := flatW_snoc_len (l := us.map WtS.plain) (k := k) (by rw [List.length_map]; exact hlt)
      rw [hxs] at hst hsl
      generalize us[k] = x at *
      obtain ⟨i, u, l⟩ := x
      have HS := Lib.hid hst
      have HL := Lib.hid hsl
      clear hcl hWk hxs hst hsl
      simp only [I] at e1 e2 hr hx
      have e3 : wr.cell? ⟨b, o + k * 2 + 1, none⟩ = some u := by rw [Nat.add_assoc]; exact e2
      clear e2
      obtain ⟨Au, cu, rfl, hlc, hcm⟩ := hr.rd.sliceN (List.length_map _)
      unfold maxLen at hcm
      have hl8 : (putAll bs ((flatW ((us.map WtS.plain).take k)).take keep.toNat)).length = bs.length := putAll_len _ _
      have hz8 : (Try.prog.info? 5).map (·.size) = some 1 := by kernel_rfl
      obtain ⟨gO, cO, rfl, hcO⟩ : ∃ gO cO, vO = .slice (some ⟨gO, 0, none⟩) bs.length cO ∧ bs.length ≤ cO := by
        obtain ⟨gO, cO, e, h1, _⟩ := hg.form (by rw [List.length_map, hl8]; omega)
        rw [List.length_map, hl8] at e h1
        exact ⟨gO, cO, e, h1⟩
      have hcO2 : cO ≤ 9223372036854775807 := by
        obtain ⟨_, _, e, _, h⟩ := (Rd.own HO.out).sliceN (List.length_map _)
        injection e with _ _ e
        rw [e]
        exact h
      have HR := Lib.hid hr
      have HG := Lib.hid hg
      clear hr hg
      have hkL : ((keep.toNat - (flatW ((us.map WtS.plain).take k)).length : Nat) : Int) ≤ 9223372036854775807 := by omega
      generalize hL : keep.toNat - (flatW ((us.map WtS.plain).take k)).length = L at *
      generalize hX : putAll bs ((flatW ((us.map WtS.plain).take k)).take keep.toNat) = X at *
      rcases (Nat.lt_or_ge l.length L).symm with hm | hm
      · have hrd : Rd wr (.slice Au L cu) ((l.take L).map B) := by rw [List.map_take]; exact HR.out.rd.prefix_ L (by rw [List.length_map]; exact hm)
        have hyl : (l.take L).length = L := by rw [List.length_take]; omega
        have HRD := Lib.hid hrd
        have HY := Lib.hid hyl
        clear hrd hyl
        go_wp2
        have hx2 : Ext wr (wr.alloc (.cells #[.int .i64 (i : Int), .slice Au l.length cu] 99)).drew := Ext.dr ((Below.refl _ _).alloc (Nat.le_refl _) _)
        have q1 : i ≤ bs.length := by omega
        have q2 : ¬ cO = i := by omega
        have q3 : L ≤ cu := by omega
        have hgx := HG.out.step hx2
        have hown := hgx.1
        rw [List.length_map] at hown
        have hry := HRD.out.ext hx2
        have q4 : i + (l.take L).length ≤ X.length := by rw [hl8, HY.out]; omega
        have q5 : (l.take L).length ≤ bs.length - i := by rw [HY.out]; omega
        go_region_law (refine step_copyG rfl (.tmp 26) (.tmp 30) 30 30 5 rfl Try.underlying30 hz8 base 5 gO bs.length cO X hown i (bs.length - i) (cO - i) rfl Au L cu (l.take L) rfl hry q4 q5 ?_; intro w4 hg4)
        all_goals
          have hg5 := hgx.trans hg4
          have HG5 := Lib.hid hg5
          clear hg5 hg4 hgx hown hry q4 q5
          go_wp2
          go_roundw
          case rel =>
            have e1 : splice X i (l.take L) = putAll bs ((flatW ((us.map WtS.plain).take (k + 1))).take keep.toNat) := HS.out.symm
            have h5 := HG5.out
            have hll := HL.out
            simp only [WtS.plain] at hll
            rw [e1] at h5
            exact ⟨k + 1, by go_num, by omega, by rw [hll]; congr 1; omega, h5⟩
          case measure => simp [intOf]; omega
      · have hrd : Rd wr (.slice Au l.length cu) ((l).map B) := HR.out.rd
        have HRD := Lib.hid hrd
        clear hrd
        go_wp2
        have hx2 : Ext wr (wr.alloc (.cells #[.int .i64 (i : Int), .slice Au l.length cu] 99)).drew := Ext.dr ((Below.refl _ _).alloc (Nat.le_refl _) _)
        have q1 : i ≤ bs.length := by omega
        have q2 : ¬ cO = i := by omega
        have q3 : l.length ≤ cu := by omega
        have hgx := HG.out.step hx2
        have hown := hgx.1
        rw [List.length_map] at hown
        have hry := HRD.out.ext hx2
        have q4 : i + (l).length ≤ X.length := by rw [hl8]; omega
        have q5 : (l).length ≤ bs.length - i := by omega
        go_region_law (refine step_copyG rfl (.tmp 26) (.tmp 30) 30 30 5 rfl Try.underlying30 hz8 base 5 gO bs.length cO X hown i (bs.length - i) (cO - i) rfl Au l.length cu (l) rfl hry q4 q5 ?_; intro w4 hg4)
        all_goals
          have hg5 := hgx.trans hg4
          have HG5 := Lib.hid hg5
          clear hg5 hg4 hgx hown hry q4 q5
          go_wp2
          go_roundw
          case rel =>
            have e1 : splice X i (l.take L) = putAll bs ((flatW ((us.map WtS.plain).take (k + 1))).take keep.toNat) := HS.out.symm
            have h5 := HG5.out
            have hll := HL.out
            simp only [WtS.plain] at hll
            rw [List.take_of_length_le (Nat.le_of_lt hm)] at e1; rw [e1] at h5
            exact ⟨k + 1, by go_num, by omega, by rw [hll]; congr 1; omega, h5⟩
          case measure => simp [intOf]; omega
    · obtain rfl : k = us.length := by omega
      rw [List.take_of_length_le (i := us.length) (by rw [List.length_map]; omega)] at hg
      go_wp2
      go_end0
      exact ⟨rfl, hg⟩
theorem Lay_any (H : Fp) (base : Nat) (vO vW : Value) (bs : List UInt8) (us : List WtS) (keep : Int) (w : World) (hO : w.ownsRow base 5 1 vO bs.length (bs.map B)) (hW : WtRd H w vW us)
    (ha : ∀ k, vO.ownBlock = some k → ¬ H k) (hus : ∀ x ∈ us, x.1 + x.2.2.length ≤ bs.length ∧ 0 < x.2.2.length) (hb : bs.length ≤ 65536) (hn : us.length ≤ 1000000000) (h0 : -9223372036854775808 ≤ keep) (h1 : keep ≤ 9223372036854775807) :
    Calls Try.prog 53 #[vO, vW, .int .i64 keep] w fun e w' =>
      e = .returned (.tuple #[]) ∧ Grew base 5 vO w ((putAll bs ((flatW (us.map WtS.plain)).take keep.toNat)).map B) vO w' := by
  rcases Int.lt_or_le keep 0 with h | h
  · exact Lay_neg H base vO vW bs us keep w hO hW ha hus hb hn h0 h
  · exact Lay_pos H base vO vW bs us keep w hO hW ha hus hb hn h h1

end Go.Proofs.Ytdcmjmanalijfaa

/- Go's bytes.Clone: a copy of its own. -/
namespace Go.Proofs.Ytdcmjmanalijfaa
open Go.RowKit

theorem Clone_any (l : List UInt8) (v : Value) (w : World) (hr : Rd w v (l.map B)) (hlen : l.length ≤ 140737488355328) :
    Calls Try.prog 52 #[v] w fun e w' => ∃ v', e = .returned v' ∧ Grew w.heap.size 5 (.slice none 0 0) w (l.map B) v' w' := by
  have kn := fun (w : World) (a : Option Addr) (n c n' c' : Nat) => Lib.run_eql_slice_nil (P := Try.prog) w 30 5 a n c n' c' Try.underlying30
  obtain ⟨A, c, rfl, hlc, hcm⟩ := hr.sliceN (List.length_map _)
  unfold maxLen at hcm
  rcases A with _ | a
  · have h0 : l = [] := by
      rcases Nat.eq_zero_or_pos l.length with h | h
      · exact List.eq_nil_of_length_eq_zero h
      · obtain ⟨b, o, h, _⟩ := hr.get (by simpa using h)
        cases h
    subst h0
    have hg := Grew.nil (base := w.heap.size) (e := 5) w
    have HG := Lib.hid hg
    clear hg
    go_enter Try.func52, Try.ntmps52
    go_wp2
    go_ret
    exact ⟨_, rfl, HG.out⟩
  · have HR := Lib.hid hr
    clear hr
    go_enter Try.func52, Try.ntmps52
    go_wp2_with (at_builtin; refine app_u8 rfl _ _ rfl w.heap.size _ [] rfl (own_none _ _ _ rfl) _ l rfl (HR.out.ext ((Below.refl _ _).alloc (Nat.le_refl _) _)) (by simp; omega) (by simp) ?_; intro v2 w2 hg2; rw [List.nil_append] at hg2)
    go_ret
    exact ⟨_, rfl, Grew.from_empty rfl hg2⟩

end Go.Proofs.Ytdcmjmanalijfaa

/- Laws at an append inside a statement whose order is open. -/
namespace Go.Proofs.Ytdcmjmanalijfaa
open Go.RowKit

theorem stepG_u8 {w : World} {ops : Array Oper} {o : Oper} {a : Act} {K : Act → World → Prop} {Q : Exit → Act → World → Prop} {E : Prop} (s x : Operand)
    (hop : o.op = .call { callee := .builtin .append, args := #[s, x], argTypes := #[30, 30] }) (hw : Region.wanted o (yielded ops a.tmps) = true)
    (b off n c : Nat) (xs : List UInt8) (hs : a.eval s = .slice (some ⟨b, off, none⟩) n c) (hv : Rd w (.slice (some ⟨b, off, none⟩) n c) (xs.map B)) (u : Value) (ys : List UInt8) (hx : a.eval x = u) (hr : Rd w u (ys.map B))
    (hroom : c < n + ys.length) (hbytes : xs.length + ys.length ≤ 140737488355328)
    (h : ∀ v' w', Grew w.heap.size 5 (.slice none 0 0) w ((xs ++ ys).map B) v' w' → K (a.put o.dst v') w') :
    if Region.wanted o (yielded ops a.tmps) = true then Oper.wp Try.prog o a w K Q else E := by
  rw [if_pos hw]
  obtain ⟨i0, hi, hz0, hz1, hz2⟩ := info_parts Try.infoU8
  obtain ⟨v', w', hrun, h2⟩ := run_append_rd_grows (P := Try.prog) w 30 o.type 5 i0 (.int .u8 0) Try.underlying30 hi hz0 hz1 hz2 rfl b off n c _ hv u _ hr (by rw [List.length_map]; exact hroom) (by simp; omega)
  unfold Oper.wp execOp
  simp only [hop, resolve, invoke, builtin, Sem.run_bind, Sem.run_pure, Result.andThen_ok, List.map_toArray, List.map_cons, List.map_nil, hs, hx, hrun]
  exact h v' w' (by rw [List.map_append]; exact h2)

end Go.Proofs.Ytdcmjmanalijfaa

/- Package disk: a disk, as the document speaks of it. -/
namespace Go.Proofs.Ytdcmjmanalijfaa
open Go.RowKit

/-- The row of a write's bytes. -/
def WtS.row (x : WtS) : RowS := ⟨5, 1, x.2.1, x.2.2.length, x.2.2.map B⟩
/-- All rows of a disk. -/
def rowsD (vB : Value) (bs : List UInt8) (vW : Value) (us : List WtS) : List RowS :=
  ⟨5, 1, vB, bs.length, bs.map B⟩ :: ⟨99, 2, vW, us.length, us.flatMap WtS.cells⟩ :: us.map WtS.row

/-- The disk at g. -/
def Dk0 (F : Fp) (w : World) (g : Nat) (bs : List UInt8) (us : List WtS) (n : Int) (vB vW : Value) : Prop :=
  ObjF F w g 62 #[vB, vW, .int .i64 n] (rowsD vB bs vW us)
/-- What holds of a disk beside its memory. -/
def DkOk (s : DkS) (us : List WtS) : Prop :=
  s.2.1 = flatW (us.map WtS.plain) ∧ 1 ≤ s.1.length ∧ s.1.length ≤ 65536 ∧ ∀ x ∈ us, x.1 + x.2.2.length ≤ s.1.length ∧ 0 < x.2.2.length
def Dk (F : Fp) (w : World) (g : Nat) (s : DkS) : Prop := ∃ us vB vW, Dk0 F w g s.1 us s.2.2 vB vW ∧ DkOk s us

theorem flatCells (us : List WtS) (j : Nat) (x : WtS) (h : us[j]? = some x) : (us.flatMap WtS.cells)[j * 2]? = some (I x.1) ∧ (us.flatMap WtS.cells)[j * 2 + 1]? = some x.2.1 := by
  induction us generalizing j with
  | nil => simp at h
  | cons y us ih =>
    have e : (y :: us).flatMap WtS.cells = I y.1 :: y.2.1 :: us.flatMap WtS.cells := rfl
    rw [e]
    cases j with
    | zero =>
      simp only [List.getElem?_cons_zero, Option.some.injEq] at h
      subst h
      simp
    | succ j =>
      rw [List.getElem?_cons_succ] at h
      obtain ⟨h1, h2⟩ := ih j h
      rw [Nat.succ_mul]
      exact ⟨h1, h2⟩

section
variable {F G : Fp} {w w' : World} {g : Nat} {bs : List UInt8} {us : List WtS} {n : Int} {vB vW : Value} {s : DkS}
theorem DkOk.many (h : DkOk s us) : us.length ≤ s.2.1.length := by
  have := flatW_many (l := us.map WtS.plain) (fun x hx => by
    obtain ⟨y, hy, rfl⟩ := List.mem_map.1 hx
    exact (h.2.2.2 y hy).2)
  rw [List.length_map, ← h.1] at this
  exact this
theorem DkOk.okD (h : DkOk s us) : okD s := by
  intro x hx
  rw [h.1] at hx
  exact flatW_lt (fun y hy => by
    obtain ⟨z, hz, rfl⟩ := List.mem_map.1 hy
    exact (h.2.2.2 z hz).1) x hx
theorem Dk0.rowB (h : Dk0 F w g bs us n vB vW) : w.ownsRow 0 5 1 vB bs.length (bs.map B) := (ObjF.ok h ⟨5, 1, vB, bs.length, bs.map B⟩ (by simp [rowsD])).1
theorem Dk0.rowW (h : Dk0 F w g bs us n vB vW) : w.ownsRow 0 99 2 vW us.length (us.flatMap WtS.cells) := (ObjF.ok h ⟨99, 2, vW, us.length, us.flatMap WtS.cells⟩ (by simp [rowsD])).1
theorem Dk0.slB (h : Dk0 F w g bs us n vB vW) : ∃ A c, vB = .slice A bs.length c := own_slice h.rowB
theorem Dk0.slW (h : Dk0 F w g bs us n vB vW) : ∃ A c, vW = .slice A us.length c := own_slice h.rowW
theorem Dk0.c0 (h : Dk0 F w g bs us n vB vW) : w.cell? ⟨g, 0, none⟩ = some vB := ObjF.blk h |>.cell 0
theorem Dk0.c1 (h : Dk0 F w g bs us n vB vW) : w.cell? ⟨g, 1, none⟩ = some vW := ObjF.blk h |>.cell 1
theorem Dk0.c2 (h : Dk0 F w g bs us n vB vW) : w.cell? ⟨g, 2, none⟩ = some (.int .i64 n) := ObjF.blk h |>.cell 2
theorem Dk0.fr (h : Dk0 F w g bs us n vB vW) (i : Nat) : w.frozen? ⟨g, i, none⟩ = false := ObjF.blk h |>.frozen i
theorem Dk0.lt (h : Dk0 F w g bs us n vB vW) : g < w.heap.size := (ObjF.blk h).lt
theorem Dk0.ext (h : Dk0 F w g bs us n vB vW) (hx : Ext w w') : Dk0 F w' g bs us n vB vW := ObjF.ext h hx
/-- The blocks of what waits. -/
def wtFp (vW : Value) (us : List WtS) : Fp := fun k => vW.ownBlock = some k ∨ ∃ x ∈ us, x.2.1.ownBlock = some k
/-- The list of what waits reads so; it lies apart of the lasting bytes. -/
theorem Dk0.waits (h : Dk0 F w g bs us n vB vW) : WtRd (wtFp vW us) w vW us ∧ ∀ k, vB.ownBlock = some k → ¬ wtFp vW us k := by
  have hp := ObjF.apart h
  rw [rowsD, List.pairwise_cons, List.pairwise_cons] at hp
  refine ⟨?_, fun k hk hw => ?_⟩
  · have hr := h.rowW
    rcases hr.2 with ⟨hv, h0⟩ | ⟨b, cap, cur, hv, hg, hh, hn, hcap, hs, ht⟩
    · exact ⟨none, 0, by rw [hv, h0], by omega, Nat.zero_le _, fun hn => absurd hn (by omega)⟩
    · refine ⟨some ⟨b, 0, none⟩, cap, hv, hn, hcap, fun hn0 => ⟨b, 0, rfl, (Array.getElem?_eq_some_iff.1 hh).1, .inl (by rw [hv]; rfl), fun j x hj => ?_⟩⟩
      have hjl : j < us.length := (List.getElem?_eq_some_iff.1 hj).1
      have hc := flatCells us j x hj
      subst hv
      have e1 := hr.cellAt (j * 2) (by omega)
      have e2 := hr.cellAt (j * 2 + 1) (by omega)
      rw [hc.1] at e1
      rw [hc.2] at e2
      refine ⟨by rw [Nat.zero_add]; exact e1, by rw [Nat.zero_add]; exact e2, ?_⟩
      have hxm : x ∈ us := List.mem_of_getElem? hj
      have hok := (ObjF.ok h x.row (by simp only [rowsD, List.mem_cons, List.mem_map]; exact .inr (.inr ⟨x, hxm, rfl⟩))).1
      have hrow : RowF (fun k => wtFp (.slice (some ⟨b, 0, none⟩) us.length cap) us k) w 5 x.2.1 (x.2.2.map B) := ⟨by rw [List.length_map]; exact hok, fun k hk => .inr ⟨x, hxm, hk⟩⟩
      exact hrow.rdF
  · rcases hw with hw | ⟨x, hx, hw⟩
    · exact hp.1 _ List.mem_cons_self k hk hw
    · exact hp.1 x.row (by simp only [List.mem_cons, List.mem_map]; exact .inr ⟨x, hx, rfl⟩) k hk hw
theorem Dk0.wtLt (h : Dk0 F w g bs us n vB vW) : ∀ k, wtFp vW us k → k < w.heap.size := fun k hk => by
  rcases hk with hk | ⟨x, hx, hk⟩
  · exact (h.rowW.lt k hk).2
  · exact ((ObjF.ok h x.row (by simp only [rowsD, List.mem_cons, List.mem_map]; exact .inr (.inr ⟨x, hx, rfl⟩))).1.lt k hk).2
theorem Dk.isIn (h : Dk F w g s) : F.isIn w := by
  obtain ⟨us, vB, vW, h1, _⟩ := h
  exact ObjF.isIn h1
theorem Dk.chg (h : Dk F w g s) (hc : Chg G w w') (ha : F.apart G) : Dk F w' g s := by
  obtain ⟨us, vB, vW, h1, h2⟩ := h
  exact ⟨us, vB, vW, ObjF.chg h1 hc ha, h2⟩
theorem Dk.mono (h : Dk F w g s) (hf : ∀ k, F k → G k) (hi : G.isIn w) : Dk G w g s := by
  obtain ⟨us, vB, vW, h1, h2⟩ := h
  exact ⟨us, vB, vW, ObjF.mono h1 hf hi, h2⟩
theorem Dk.ext (h : Dk F w g s) (hx : Ext w w') : Dk F w' g s := Dk.chg (G := fun _ => False) h (Chg.of_ext hx) (fun _ _ h => h)
theorem Dk.lens (h : Dk F w g s) : 1 ≤ s.1.length ∧ s.1.length ≤ 65536 ∧ Go.Proofs.Ytdcmjmanalijfaa.okD s := by
  obtain ⟨us, vB, vW, h1, h2⟩ := h
  exact ⟨h2.2.1, h2.2.2.1, h2.okD⟩
end

theorem DkNew_yes (n : Nat) (w : World) (h1 : 1 ≤ n) (h2 : n ≤ 65536) : Calls Try.prog 9 #[.int .i64 (n : Int)] w fun e w' =>
    ∃ g, e = .returned (.pointer (some ⟨g, 0, none⟩)) ∧ Dk (fun k => w.heap.size ≤ k ∧ k < w'.heap.size) w' g (List.replicate n 0, [], 0) ∧ Ext w w' := by
  go_enter Try.func9, Try.ntmps9
  go_wp2_with (refine make_u8 rfl _ _ rfl n rfl rfl (by omega) ?_; intro g w2 hg0 hg2)
  go_ret
  have hm := RowF.made hg2
  have hl : ((List.replicate n (0 : UInt8)).map B).length = (List.replicate n (0 : UInt8)).length := List.length_map _
  have hrow : RowS.ok ⟨5, 1, .slice (some ⟨g, 0, none⟩) n n, (List.replicate n (0 : UInt8)).length, (List.replicate n (0 : UInt8)).map B⟩ (fun k => w.heap.size ≤ k ∧ k < w2.heap.size) w2 := by
    rw [← hl]
    exact hm
  refine ⟨w2.heap.size, rfl, ⟨[], .slice (some ⟨g, 0, none⟩) n n, .slice none 0 0, ?_, rfl, by simpa using h1, by simpa using h2, by simp⟩, hg2.ext.trans ((Below.refl _ _).alloc (Nat.le_refl _) _)⟩
  have := ObjF.new (w0 := w) (w := w2) (rows := rowsD (.slice (some ⟨g, 0, none⟩) n n) (List.replicate n (0 : UInt8)) (.slice none 0 0) []) hg2.size
    #[.slice (some ⟨g, 0, none⟩) n n, .slice none 0 0, .int .i64 0] 62 ?_ ?_
  · simpa [Dk0] using this
  · intro r hr
    simp only [rowsD, List.map_nil, List.mem_cons, List.not_mem_nil, or_false] at hr
    rcases hr with rfl | rfl
    · exact hrow
    · exact ⟨World.ownsRow_nil _ _ _ _, fun k hk => by cases hk⟩
  · simp [rowsD, RowS.apart, Value.ownBlock]

end Go.Proofs.Ytdcmjmanalijfaa

/- Slices of numbers in this translation's numbers. -/
namespace Go.Proofs.Ytdcmjmanalijfaa
open Go.RowKit

theorem Try.infoInt : (Try.prog.info? 3).map (fun i => (i.zero, i.size, i.bytes)) = some (some (.int .i64 0), 1, 8) := by kernel_rfl

/-- 'l = append(l, x)', l a row of numbers of the call's own. -/
theorem push_int {w : World} {ops : Array Oper} {rest : List Oper} {o : Oper} {a : Act} {Q : Exit → Act → World → Prop} {gx : Nat} (hgd : o.guard = none) (s x : Operand)
    (ho : o.op = .call { callee := .builtin .append, args := #[s, x], argTypes := #[63, 63] })
    (base : Nat) (v : Value) (xs : List Value) (hs : a.eval s = v) (hown : w.ownsRow base 3 1 v xs.length xs) (u : Value) (h1 : u.oneCell' = true)
    (hx : a.eval x = .slice (some ⟨gx, 0, none⟩) 1 1) (hlen : xs.length < 17592186044416) (hbase : base ≤ w.heap.size)
    (h : ∀ v' w', Grew base 3 v w (xs ++ [u]) v' w' → wpList Try.prog ops Q rest (a.put o.dst v') w') (hgx : gx = w.heap.size := by simp) : wpList Try.prog ops Q (o :: rest) a (w.alloc (.cells #[u] 3)) := by
  subst hgx
  exact wpList_push hgd s x 63 ho base 3 (.int .i64 0) 8 Try.underlying63 Try.infoInt rfl v xs hs hown u h1 hx (by unfold maxLen; omega) (by omega) hbase h

end Go.Proofs.Ytdcmjmanalijfaa

/- One value appended to an own row inside a statement whose order is open. -/
namespace Go.Proofs.Ytdcmjmanalijfaa
open Go.RowKit

theorem run_push {P : Program} (w : World) (base : Nat) (t ty e : TypeId) (i : TypeInfo) (z : Value) (bytes : Nat) (ht : P.underlying t = some (.slice e)) (hi : P.info? e = some i) (hz : i.zero = some z)
    (hsize : i.size = 1) (hby : i.bytes = bytes) (hzs : z.cells.size = 1) (v : Value) (xs : List Value) (hown : w.ownsRow base e 1 v xs.length xs) (u : Value) (h1 : u.oneCell' = true)
    (h63 : xs.length + 1 ≤ maxLen) (hbytes : (xs.length + 1) * bytes ≤ 140737488355328) (hbase : base ≤ w.heap.size) :
    ∃ v' w', (Builtin.append_ #[t, t] ty #[v, .slice (some ⟨w.heap.size, 0, none⟩) 1 1]).run P (w.alloc (.cells #[u] e)) = .ok v' w' ∧ Grew base e v w (xs ++ [u]) v' w' := by
  obtain ⟨v', w', hrun, h2, h3, _, h5⟩ := run_append_own_at (P := P) (w.alloc (.cells #[u] e)) base t ty e i z 1 bytes ht hi hz hsize hby hzs (by omega) v xs.length xs (hown.alloc _) ⟨w.heap.size, 0, none⟩ 1 1 [u] rfl (cell_one_new _ _ _) (by simpa using h1) h63 hbytes (by simp; omega)
  refine ⟨v', w', hrun, by simpa using h2, (World.grownBy_alloc w _ _).trans h3, ?_⟩
  rcases h5 with h | h
  · exact .inl h
  · refine .inr fun k hk => ?_
    rw [h] at hk
    cases hk
    simp

theorem stepPush_u8 {w : World} {ops : Array Oper} {o : Oper} {a : Act} {K : Act → World → Prop} {Q : Exit → Act → World → Prop} {E : Prop} {gx : Nat} (s x : Operand)
    (hop : o.op = .call { callee := .builtin .append, args := #[s, x], argTypes := #[30, 30] }) (hw : Region.wanted o (yielded ops a.tmps) = true)
    (base : Nat) (v : Value) (xs : List Value) (hown : w.ownsRow base 5 1 v xs.length xs) (hs : a.eval s = v) (u : Value) (h1 : u.oneCell' = true) (hx : a.eval x = .slice (some ⟨gx, 0, none⟩) 1 1) (hgx : gx = w.heap.size)
    (hlen : xs.length < 140737488355328) (hbase : base ≤ w.heap.size)
    (h : ∀ v' w', Grew base 5 v w (xs ++ [u]) v' w' → K (a.put o.dst v') w') :
    if Region.wanted o (yielded ops a.tmps) = true then Oper.wp Try.prog o a (w.alloc (.cells #[u] 5)) K Q else E := by
  subst hgx
  rw [if_pos hw]
  obtain ⟨i0, hi, hz0, hz1, hz2⟩ := info_parts Try.infoU8
  obtain ⟨v', w', hrun, h2⟩ := run_push (P := Try.prog) w base 30 o.type 5 i0 (.int .u8 0) 1 Try.underlying30 hi hz0 hz1 hz2 rfl v xs hown u h1 (by unfold maxLen; omega) (by omega) hbase
  unfold Oper.wp execOp
  simp only [hop, resolve, invoke, builtin, Sem.run_bind, Sem.run_pure, Result.andThen_ok, List.map_toArray, List.map_cons, List.map_nil, hs, hx, hrun]
  exact h v' w' h2

end Go.Proofs.Ytdcmjmanalijfaa

/- Layer 4, the reference: a disk. -/
namespace Go.Proofs.Ytdcmjmanalijfaa
open Go.RowKit

/-- The reference's disk at r: what lasts, the places and bytes written since, how often it was synced. -/
def RefDk (F : Fp) (w : World) (g : Nat) (bs : List UInt8) (as_ : List Nat) (vs : List UInt8) (n : Int) (vB vA vV : Value) : Prop :=
  ObjF F w g 65 #[vB, vA, vV, .int .i64 n] [⟨5, 1, vB, bs.length, bs.map B⟩, ⟨3, 1, vA, as_.length, as_.map fun (i : Nat) => I i⟩, ⟨5, 1, vV, vs.length, vs.map B⟩]

section
variable {F : Fp} {w w' : World} {g : Nat} {bs : List UInt8} {as_ : List Nat} {vs : List UInt8} {n : Int} {vB vA vV : Value}
theorem RefDk.rowB (h : RefDk F w g bs as_ vs n vB vA vV) : w.ownsRow 0 5 1 vB (bs.map B).length (bs.map B) := by
  have := (ObjF.ok h ⟨5, 1, vB, bs.length, bs.map B⟩ (by simp)).1
  rwa [List.length_map]
theorem RefDk.rowA (h : RefDk F w g bs as_ vs n vB vA vV) : w.ownsRow 0 3 1 vA (as_.map fun (i : Nat) => I i).length (as_.map fun (i : Nat) => I i) := by
  have := (ObjF.ok h ⟨3, 1, vA, as_.length, as_.map fun (i : Nat) => I i⟩ (by simp)).1
  rwa [List.length_map]
theorem RefDk.rowV (h : RefDk F w g bs as_ vs n vB vA vV) : w.ownsRow 0 5 1 vV (vs.map B).length (vs.map B) := by
  have := (ObjF.ok h ⟨5, 1, vV, vs.length, vs.map B⟩ (by simp)).1
  rwa [List.length_map]
theorem RefDk.slA (h : RefDk F w g bs as_ vs n vB vA vV) : ∃ A c, vA = .slice A as_.length c := by
  obtain ⟨A, c, e, _⟩ := (Rd.own h.rowA).sliceN (List.length_map _)
  exact ⟨A, c, e⟩
theorem RefDk.slV (h : RefDk F w g bs as_ vs n vB vA vV) : ∃ A c, vV = .slice A vs.length c := by
  obtain ⟨A, c, e, _⟩ := (Rd.own h.rowV).sliceN (List.length_map _)
  exact ⟨A, c, e⟩
theorem RefDk.slB (h : RefDk F w g bs as_ vs n vB vA vV) : ∃ A c, vB = .slice A bs.length c := by
  obtain ⟨A, c, e, _⟩ := (Rd.own h.rowB).sliceN (List.length_map _)
  exact ⟨A, c, e⟩
theorem RefDk.c0 (h : RefDk F w g bs as_ vs n vB vA vV) : w.cell? ⟨g, 0, none⟩ = some vB := ObjF.blk h |>.cell 0
theorem RefDk.c1 (h : RefDk F w g bs as_ vs n vB vA vV) : w.cell? ⟨g, 1, none⟩ = some vA := ObjF.blk h |>.cell 1
theorem RefDk.c2 (h : RefDk F w g bs as_ vs n vB vA vV) : w.cell? ⟨g, 2, none⟩ = some vV := ObjF.blk h |>.cell 2
theorem RefDk.c3 (h : RefDk F w g bs as_ vs n vB vA vV) : w.cell? ⟨g, 3, none⟩ = some (.int .i64 n) := ObjF.blk h |>.cell 3
theorem RefDk.fr (h : RefDk F w g bs as_ vs n vB vA vV) (i : Nat) : w.frozen? ⟨g, i, none⟩ = false := ObjF.blk h |>.frozen i
theorem RefDk.pushA (h : RefDk F w g bs as_ vs n vB vA vV) {x : Nat} {v' : Value} (hg : Grew 0 3 vA w ((as_.map fun (i : Nat) => I i) ++ [I x]) v' w') :
    RefDk (F.since w w') (w'.setCell ⟨g, 1, none⟩ v') g bs (as_ ++ [x]) vs n vB v' vV ∧ Chg F w (w'.setCell ⟨g, 1, none⟩ v') := by
  obtain ⟨h1, h2⟩ := ObjF.push h 1 1 (by simp) rfl hg
  refine ⟨?_, h2⟩
  unfold RefDk
  have e : (as_ ++ [x]).map (fun (i : Nat) => I i) = (as_.map fun (i : Nat) => I i) ++ [I x] := by simp
  have e2 : (as_ ++ [x]).length = ((as_.map fun (i : Nat) => I i) ++ [I x]).length := by simp
  rw [e, e2]
  exact h1
theorem RefDk.pushV (h : RefDk F w g bs as_ vs n vB vA vV) {x : UInt8} {v' : Value} (hg : Grew 0 5 vV w (vs.map B ++ [B x]) v' w') :
    RefDk (F.since w w') (w'.setCell ⟨g, 2, none⟩ v') g bs as_ (vs ++ [x]) n vB vA v' ∧ Chg F w (w'.setCell ⟨g, 2, none⟩ v') := by
  obtain ⟨h1, h2⟩ := ObjF.push h 2 2 (by simp) rfl hg
  refine ⟨?_, h2⟩
  unfold RefDk
  have e : (vs ++ [x]).map B = vs.map B ++ [B x] := by simp
  have e2 : (vs ++ [x]).length = (vs.map B ++ [B x]).length := by simp
  rw [e, e2]
  exact h1
theorem RefDk.pushAS {w0 : World} (h : RefDk (F.since w0 w) w g bs as_ vs n vB vA vV) (h0 : F.isIn w0) (hc : Chg F w0 w) {x : Nat} {v' : Value} (hg : Grew 0 3 vA w ((as_.map fun (i : Nat) => I i) ++ [I x]) v' w') :
    RefDk (F.since w0 (w'.setCell ⟨g, 1, none⟩ v')) (w'.setCell ⟨g, 1, none⟩ v') g bs (as_ ++ [x]) vs n vB v' vV ∧ Chg F w0 (w'.setCell ⟨g, 1, none⟩ v') := by
  obtain ⟨h1, h2⟩ := ObjF.pushS h h0 hc 1 1 (by simp) rfl hg
  refine ⟨?_, h2⟩
  unfold RefDk
  have e : (as_ ++ [x]).map (fun (i : Nat) => I i) = (as_.map fun (i : Nat) => I i) ++ [I x] := by simp
  have e2 : (as_ ++ [x]).length = ((as_.map fun (i : Nat) => I i) ++ [I x]).length := by simp
  rw [e, e2]
  exact h1
theorem RefDk.pushVS {w0 : World} (h : RefDk (F.since w0 w) w g bs as_ vs n vB vA vV) (h0 : F.isIn w0) (hc : Chg F w0 w) {x : UInt8} {v' : Value} (hg : Grew 0 5 vV w (vs.map B ++ [B x]) v' w') :
    RefDk (F.since w0 (w'.setCell ⟨g, 2, none⟩ v')) (w'.setCell ⟨g, 2, none⟩ v') g bs as_ (vs ++ [x]) n vB vA v' ∧ Chg F w0 (w'.setCell ⟨g, 2, none⟩ v') := by
  obtain ⟨h1, h2⟩ := ObjF.pushS h h0 hc 2 2 (by simp) rfl hg
  refine ⟨?_, h2⟩
  unfold RefDk
  have e : (vs ++ [x]).map B = vs.map B ++ [B x] := by simp
  have e2 : (vs ++ [x]).length = (vs.map B ++ [B x]).length := by simp
  rw [e, e2]
  exact h1
theorem RefDk.drew (h : RefDk F w g bs as_ vs n vB vA vV) : RefDk F w.drew g bs as_ vs n vB vA vV := ObjF.drew h
/-- The block stands while a row of it grows. -/
theorem RefDk.blkA (h : RefDk F w g bs as_ vs n vB vA vV) {ys : List Value} {e : TypeId} {v' : Value} (hg : Grew 0 e vA w ys v' w') : Blk w' g 65 #[vB, vA, vV, .int .i64 n] :=
  (ObjF.blk h).grown hg.2.1 (fun e => ObjF.off h ⟨3, 1, vA, as_.length, as_.map fun (i : Nat) => I i⟩ (by simp) e.symm)
theorem RefDk.blkV (h : RefDk F w g bs as_ vs n vB vA vV) {ys : List Value} {e : TypeId} {v' : Value} (hg : Grew 0 e vV w ys v' w') : Blk w' g 65 #[vB, vA, vV, .int .i64 n] :=
  (ObjF.blk h).grown hg.2.1 (fun e => ObjF.off h ⟨5, 1, vV, vs.length, vs.map B⟩ (by simp) e.symm)
theorem RefDk.later {w0 : World} (h : RefDk ((F.since w0 w).since w w') w' g bs as_ vs n vB vA vV) (hi : F.isIn w0) (h1 : w0.heap.size ≤ w.heap.size) (h2 : w.heap.size ≤ w'.heap.size) : RefDk (F.since w0 w') w' g bs as_ vs n vB vA vV := ObjF.later h hi h1 h2
end

theorem RefNew_any (n : Nat) (w : World) (hn : n ≤ 65536) : Calls Try.prog 10 #[.int .i64 (n : Int)] w fun e w' =>
    ∃ g vB, e = .returned (.pointer (some ⟨g, 0, none⟩)) ∧ RefDk (fun k => w.heap.size ≤ k ∧ k < w'.heap.size) w' g (List.replicate n 0) [] [] 0 vB (.slice none 0 0) (.slice none 0 0) ∧ Ext w w' := by
  go_enter Try.func10, Try.ntmps10
  go_wp2_with (refine make_u8 rfl _ _ rfl n rfl rfl (by omega) ?_; intro g w2 hg0 hg2)
  go_ret
  have hm := RowF.made hg2
  have hl : ((List.replicate n (0 : UInt8)).map B).length = (List.replicate n (0 : UInt8)).length := List.length_map _
  have hrow : RowS.ok ⟨5, 1, .slice (some ⟨g, 0, none⟩) n n, (List.replicate n (0 : UInt8)).length, (List.replicate n (0 : UInt8)).map B⟩ (fun k => w.heap.size ≤ k ∧ k < w2.heap.size) w2 := by
    rw [← hl]
    exact hm
  refine ⟨w2.heap.size, .slice (some ⟨g, 0, none⟩) n n, rfl, ?_, hg2.ext.trans ((Below.refl _ _).alloc (Nat.le_refl _) _)⟩
  have := ObjF.new (w0 := w) (w := w2) (rows := [⟨5, 1, .slice (some ⟨g, 0, none⟩) n n, (List.replicate n (0 : UInt8)).length, (List.replicate n (0 : UInt8)).map B⟩, ⟨3, 1, .slice none 0 0, 0, []⟩, ⟨5, 1, .slice none 0 0, 0, []⟩]) hg2.size
    #[.slice (some ⟨g, 0, none⟩) n n, .slice none 0 0, .slice none 0 0, .int .i64 0] 65 ?_ ?_
  · simpa [RefDk] using this
  · intro r hr
    simp only [List.mem_cons, List.not_mem_nil, or_false] at hr
    rcases hr with rfl | rfl | rfl
    · exact hrow
    · exact ⟨World.ownsRow_nil _ _ _ _, fun k hk => by cases hk⟩
    · exact ⟨World.ownsRow_nil _ _ _ _, fun k hk => by cases hk⟩
  · simp [RowS.apart, Value.ownBlock]

/-- How far a write has come. -/
def WriteSt (F : Fp) (w : World) (g : Nat) (bs : List UInt8) (as_ : List Nat) (vs : List UInt8) (n : Int) (vB : Value) (i : Nat) (l : List UInt8) (v : Value) (wr : World) : Prop :=
  ∃ k : Nat, v = .int .i64 k ∧ k ≤ l.length ∧ ∃ vA' vV', RefDk (F.since w wr) wr g bs (as_ ++ (List.range k).map (fun x => i + x)) (vs ++ l.take k) n vB vA' vV' ∧ Chg F w wr

set_option maxHeartbeats 1000000 in
theorem RefWrite_yes (F G : Fp) (g : Nat) (bs : List UInt8) (as_ : List Nat) (vs : List UInt8) (n : Int) (vB vA vV : Value) (i : Nat) (v : Value) (l : List UInt8) (w : World) (hd : RefDk F w g bs as_ vs n vB vA vV) (hr : RdF G w v (l.map B)) (ha : G.apart F) (_hG : G.isIn w)
    (hb : bs.length ≤ 65536) (hi : i + l.length ≤ bs.length) (hlen : as_.length ≤ 1000000000) (hvs : vs.length ≤ 1000000000) :
    Calls Try.prog 79 #[.pointer (some ⟨g, 0, none⟩), .int .i64 (i : Int), v] w fun e w' =>
      e = .returned (.int .i64 0) ∧ ∃ vA' vV', RefDk (F.since w w') w' g bs (as_ ++ (List.range l.length).map (fun x => i + x)) (vs ++ l) n vB vA' vV' ∧ Chg F w w' := by
  obtain ⟨A, c, rfl, hlc, hcm⟩ := hr.rd.sliceN (List.length_map _)
  unfold maxLen at hcm
  obtain ⟨AB, cB, rfl⟩ := hd.slB
  have c0 := hd.c0
  have HD := Lib.hid hd
  have HIn := Lib.hid (ObjF.isIn hd)
  clear hd
  go_enter Try.func79, Try.ntmps79
  go_wp2
  clear c0
  go_loopw [7] (fun i' wr => WriteSt F w g bs as_ vs n (.slice AB bs.length cB) i l i' wr) (fun i' _ => l.length - (intOf i').toNat)
  case atStart =>
    refine ⟨0, rfl, Nat.zero_le _, vA, vV, ?_, Chg.refl _ _⟩
    have := ObjF.mono HD.out (G := F.since w w) (fun k hk => .inl hk) (HIn.out.since (Nat.le_refl _))
    simpa [RefDk] using this
  case round =>
    obtain ⟨k, rfl, hk, vA', vV', hd', hc⟩ := hrel
    by_cases hlt : k < l.length
    · have hrk := hr.chg hc ha
      obtain ⟨b, o, rfl, hbb, hbG, hcl⟩ := hrk.get (by rw [List.length_map]; omega)
      have e1 : wr.cell? ⟨b, o + k, none⟩ = some (B l[k]) := hcl k _ (by rw [List.getElem?_map, List.getElem?_eq_getElem hlt]; rfl)
      clear hcl
      obtain ⟨AA, cA, rfl, _, _⟩ := (Rd.own hd'.rowA).sliceN (n := as_.length + k) (by simp)
      obtain ⟨AV, cV, rfl, _, _⟩ := (Rd.own hd'.rowV).sliceN (n := vs.length + k) (by rw [List.length_map, List.length_append, List.length_take]; omega)
      have c1 := hd'.c1
      have hrA := hd'.rowA
      have hlA : ((as_ ++ (List.range k).map (fun x => i + x)).map fun (i : Nat) => I i).length < 17592186044416 := by rw [List.length_map, List.length_append, List.length_map, List.length_range]; omega
      have HD' := Lib.hid hd'
      clear hd'
      simp only [B] at e1
      go_wp2_with (at_builtin; refine push_int rfl _ _ rfl 0 _ ((as_ ++ (List.range k).map (fun x => i + x)).map fun (i : Nat) => I i) rfl hrA _ rfl rfl hlA (Nat.zero_le _) ?_; intro v1 w1 hg1; have hb1 := HD'.out.blkA hg1; have cc1 : w1.cell? ⟨g, 1, none⟩ = some (.slice AA (as_.length + k) cA) := hb1.cell 1; have ff1 := hb1.frozen 1; obtain ⟨A1, k1, rfl⟩ := hg1.slice_ (n := as_.length + k + 1) (by simp; omega))
      have hu1 : (Value.int .i64 ((i : Int) + (k : Int))) = I ((i + k : Nat) : Int) := by rw [Int.natCast_add]
      rw [hu1] at hg1
      obtain ⟨hd2, hc2⟩ := HD'.out.pushAS HIn.out hc hg1
      have hrk2 := hr.chg hc2 ha
      obtain ⟨b', o', hbo, _, _, hcl⟩ := hrk2.get (by rw [List.length_map]; omega)
      obtain ⟨rfl, rfl⟩ : b' = b ∧ o' = o := by simpa using hbo.symm
      have e2 : (w1.setCell ⟨g, 1, none⟩ (.slice A1 (as_.length + k + 1) k1)).cell? ⟨b', o' + k, none⟩ = some (B l[k]) := hcl k _ (by rw [List.getElem?_map, List.getElem?_eq_getElem hlt]; rfl)
      simp only [B] at e2
      have c2 := hd2.c2
      have f2 := hd2.fr 2
      have hgl := (ObjF.blk hd2).lt
      have HD2 := Lib.hid hd2
      have HC2 := Lib.hid hc2
      have hrV := hd2.rowV
      clear hcl hbo hd2 hc2 hrk2 hb1 cc1 ff1 hg1 e1 c1 hrA hrk
      generalize w1.setCell ⟨g, 1, none⟩ (.slice A1 (as_.length + k + 1) k1) = w2 at *
      have hlV : ((vs ++ l.take k).map B).length < 140737488355328 := by rw [List.length_map, List.length_append, List.length_take]; omega
      have hownV := hrV.drew
      have HD3 : Hid (RefDk (F.since w w2.drew) w2.drew g bs _ _ n _ _ _) := HD2.out.drew
      have HC3 := Lib.hid (HC2.out.drew)
      go_region_law (refine stepPush_u8 (.tmp 51) (.tmp 56) rfl rfl 0 _ ((vs ++ l.take k).map B) hownV rfl _ rfl rfl rfl hlV (Nat.zero_le _) ?_; intro v4 w4 hg4; have hb4 := RefDk.blkV HD3.out hg4; have cc4 : w4.cell? ⟨g, 2, none⟩ = some (.slice AV (vs.length + k) cV) := hb4.cell 2; have ff4 := hb4.frozen 2; obtain ⟨A4, k4, rfl⟩ := hg4.slice_ (n := vs.length + k + 1) (by simp; omega))
      all_goals
        have hv4 : (vs ++ l.take k).map B ++ [Value.int .u8 (l[k].toNat : Int)] = (vs ++ l.take k).map B ++ [B l[k]] := rfl
        rw [hv4] at hg4
        obtain ⟨hd5, hc5⟩ := RefDk.pushVS HD3.out HIn.out HC3.out hg4
        have HD5 := Lib.hid hd5
        have HC5 := Lib.hid hc5
        clear hd5 hc5 hg4
        go_wp2
        go_roundw
        case rel =>
          have e1 : as_ ++ (List.range (k + 1)).map (fun x => i + x) = as_ ++ (List.range k).map (fun x => i + x) ++ [i + k] := by rw [List.range_succ]; simp
          have e2 : vs ++ l.take (k + 1) = vs ++ l.take k ++ [l[k]] := by rw [List.take_succ_eq_append_getElem hlt]; simp
          have h5 := HD5.out
          rw [← e1, ← e2] at h5
          exact ⟨k + 1, by go_num, by omega, _, _, h5, HC5.out⟩
        case measure => simp [intOf]; omega
    · obtain rfl : k = l.length := by omega
      have HD' := Lib.hid hd'
      clear hd'
      go_wp2
      go_ret
      have h5 := HD'.out
      rw [List.take_length] at h5
      exact ⟨rfl, _, _, h5, hc⟩

end Go.Proofs.Ytdcmjmanalijfaa

/- Layer 4, the reference: a crash, a sync, the bytes as they are read. -/
namespace Go.Proofs.Ytdcmjmanalijfaa
open Go.RowKit

section
variable {F : Fp} {w w' : World} {g : Nat} {bs : List UInt8} {as_ : List Nat} {vs : List UInt8} {n : Int} {vB vA vV : Value}
/-- One byte that lasts is written. -/
theorem RefDk.setB {gB N cB : Nat} (h : RefDk F w g bs as_ vs n (.slice (some ⟨gB, 0, none⟩) N cB) vA vV) (j : Nat) (x : UInt8) :
    RefDk F (w.setCell ⟨gB, j, none⟩ (B x)) g (bs.set j x) as_ vs n (.slice (some ⟨gB, 0, none⟩) N cB) vA vV ∧ Chg F w (w.setCell ⟨gB, j, none⟩ (B x)) := by
  have hg := (Grew.start h.rowB).set j (B x)
  obtain ⟨h1, h2⟩ := ObjF.grew h 0 (by simp) rfl hg
  refine ⟨?_, h2⟩
  have hs : (w.setCell ⟨gB, j, none⟩ (B x)).heap.size = w.heap.size := by simp
  have h3 := ObjF.mono h1 (G := F) (fun k hk => by
    rcases hk with hk | hk
    · exact hk
    · rw [hs] at hk
      omega) ((ObjF.isIn h).chg h2)
  unfold RefDk
  have e : (bs.set j x).map B = (bs.map B).set j (B x) := by rw [List.map_set]
  have e2 : (bs.set j x).length = ((bs.map B).set j (B x)).length := by simp
  rw [e, e2]
  exact h3
theorem RefDk.formB (h : RefDk F w g bs as_ vs n vB vA vV) (h0 : 0 < bs.length) : ∃ gB cB, vB = .slice (some ⟨gB, 0, none⟩) bs.length cB ∧ bs.length ≤ cB := by
  obtain ⟨gB, cB, hv, hc, _⟩ := (Grew.start h.rowB).form (by rw [List.length_map]; exact h0)
  rw [List.length_map] at hv hc
  exact ⟨gB, cB, hv, hc⟩
theorem RefDk.dropA (h : RefDk F w g bs as_ vs n vB vA vV) : RefDk F (w.setCell ⟨g, 1, none⟩ (.slice none 0 0)) g bs [] vs n vB (.slice none 0 0) vV ∧ Chg F w (w.setCell ⟨g, 1, none⟩ (.slice none 0 0)) :=
  ObjF.drop h 1 1 (by simp) 3 1
theorem RefDk.dropV (h : RefDk F w g bs as_ vs n vB vA vV) : RefDk F (w.setCell ⟨g, 2, none⟩ (.slice none 0 0)) g bs as_ [] n vB vA (.slice none 0 0) ∧ Chg F w (w.setCell ⟨g, 2, none⟩ (.slice none 0 0)) :=
  ObjF.drop h 2 2 (by simp) 5 1
end

/-- How far a crash has come. -/
def CrashSt (F : Fp) (w : World) (g : Nat) (bs : List UInt8) (as_ : List Nat) (vs : List UInt8) (n : Int) (vB vA vV : Value) (kp : Nat) (v : Value) (wr : World) : Prop :=
  ∃ k : Nat, v = .int .i64 k ∧ k ≤ as_.length ∧ k ≤ kp ∧ RefDk F wr g (putAll bs ((as_.zip vs).take k)) as_ vs n vB vA vV ∧ Chg F w wr

set_option maxRecDepth 100000 in
set_option maxHeartbeats 1000000 in
theorem RefCrash_any (F : Fp) (g : Nat) (bs : List UInt8) (as_ : List Nat) (vs : List UInt8) (n : Int) (vB vA vV : Value) (keep : Int) (w : World) (hd : RefDk F w g bs as_ vs n vB vA vV)
    (hl : as_.length = vs.length) (hlt : ∀ a ∈ as_, a < bs.length) (hlen : as_.length ≤ 1000000000) :
    Calls Try.prog 22 #[.pointer (some ⟨g, 0, none⟩), .int .i64 keep] w fun e w' =>
      e = .returned (.tuple #[]) ∧ RefDk F w' g (putAll bs ((as_.zip vs).take keep.toNat)) [] [] n vB (.slice none 0 0) (.slice none 0 0) ∧ Chg F w w' := by
  obtain ⟨AA, cA, rfl⟩ := hd.slA
  have hv2 := (Rd.own hd.rowV).sliceN (n := as_.length) (by rw [List.length_map, hl])
  obtain ⟨AV, cV, rfl, _, _⟩ := hv2
  have HD := Lib.hid hd
  have HL := Lib.hid hl
  have HLT := Lib.hid hlt
  clear hd hl hlt
  go_enter Try.func22, Try.ntmps22
  go_wp2
  go_loopw [4] (fun i' wr => CrashSt F w g bs as_ vs n vB (.slice AA as_.length cA) (.slice AV as_.length cV) keep.toNat i' wr) (fun i' _ => as_.length - (intOf i').toNat)
  case atStart => exact ⟨0, rfl, Nat.zero_le _, Nat.zero_le _, HD.out, Chg.refl _ _⟩
  case round =>
    obtain ⟨k, rfl, hk, hkp, hd, hc⟩ := hrel
    have c1 := hd.c1
    by_cases hlt : k < as_.length ∧ (k : Int) < keep
    · obtain ⟨hlt, hlk⟩ := hlt
      have hlv : k < vs.length := by have := HL.out; omega
      have ha := HLT.out as_[k] (List.getElem_mem hlt)
      have hbl := putAll_len bs ((as_.zip vs).take k)
      have hz : (as_.zip vs).take (k + 1) = (as_.zip vs).take k ++ [(as_[k], vs[k])] := by
        rw [List.take_succ_eq_append_getElem (by rw [List.length_zip]; omega), List.getElem_zip]
      have hstep : putAll bs ((as_.zip vs).take (k + 1)) = (putAll bs ((as_.zip vs).take k)).set as_[k] vs[k] := by rw [hz, putAll_snoc]
      obtain ⟨gB, cB, rfl, hcB⟩ := hd.formB (by rw [hbl]; omega)
      have hcB2 : cB ≤ maxLen := by
        obtain ⟨_, _, e, _, h⟩ := (Rd.own hd.rowB).sliceN (List.length_map _)
        injection e with _ _ e
        rw [e]
        exact h
      unfold maxLen at hcB2
      have hstB := Grew.start hd.rowB
      have hB0 := hstB.cellAt as_[k] (by rw [List.length_map, hbl]; exact ha)
      rw [List.getElem?_map, List.getElem?_eq_getElem (by rw [hbl]; exact ha), Option.map_some] at hB0
      have hBz : ∃ z : UInt8, wr.cell? ⟨gB, as_[k], none⟩ = some (B z) := ⟨_, hB0⟩
      clear hB0
      obtain ⟨z, hB0⟩ := hBz
      have hBf := hstB.frozenAt as_[k]
      obtain ⟨gA, oA, rfl, hgA, hcA⟩ := (Rd.own hd.rowA).get (by rw [List.length_map]; omega)
      have eA : wr.cell? ⟨gA, oA + k, none⟩ = some (.int .i64 (as_[k] : Int)) := hcA k _ (by rw [List.getElem?_map, List.getElem?_eq_getElem hlt]; rfl)
      obtain ⟨gV, oV, rfl, hgV, hcV⟩ := (Rd.own hd.rowV).get (by rw [List.length_map]; omega)
      have eV : wr.cell? ⟨gV, oV + k, none⟩ = some (B vs[k]) := hcV k _ (by rw [List.getElem?_map, List.getElem?_eq_getElem hlv]; rfl)
      have c0 := hd.c0
      have c2 := hd.c2
      have hset := hd.setB as_[k] vs[k]
      rw [← hstep] at hset
      rw [hbl] at c0
      have HS := Lib.hid hset
      have HC := Lib.hid hc
      have hab : as_[k] < bs.length := ha
      clear hcA hcV hset hc hstB hd hz hstep hbl ha
      generalize as_[k] = a at *
      generalize vs[k] = x at *
      simp only [B] at eV hB0
      go_wp2
      go_still_tail 19, (by kernel_rfl)
      change wpList _ _ _ _ _ wr.drew
      go_wp2
      refine ⟨⟨k + 1, by go_num, by omega, by omega, RefDk.drew HS.out.1, (HC.out.trans HS.out.2 (fun _ _ h => h)).drew⟩, ?_⟩
      simp [intOf]
      omega
    · have hfin : putAll bs ((as_.zip vs).take k) = putAll bs ((as_.zip vs).take keep.toNat) := by
        by_cases hk2 : k < as_.length
        · rw [show keep.toNat = k by omega]
        · rw [List.take_of_length_le (by rw [List.length_zip]; omega), List.take_of_length_le (by rw [List.length_zip]; omega)]
      rw [hfin] at hd
      have hcase : (k < as_.length ∧ keep ≤ (k : Int)) ∨ as_.length ≤ k := by omega
      have f1 := hd.fr 1
      have f2 := hd.fr 2
      have c2 := hd.c2
      obtain ⟨h1, hc1⟩ := hd.dropA
      obtain ⟨h2, hc2⟩ := h1.dropV
      have HDD := Lib.hid h2
      have HC := Lib.hid ((hc.trans hc1 (fun _ _ h => h)).trans hc2 (fun _ _ h => h))
      have c2' := h1.c2
      have f2' := h1.fr 2
      clear hd hc hfin hlt h1 h2 hc1 hc2
      rcases hcase with ⟨ha, hb⟩ | ha
      · go_wp2
        go_end0
        exact ⟨rfl, HDD.out, HC.out⟩
      · go_wp2
        go_end0
        exact ⟨rfl, HDD.out, HC.out⟩

set_option maxRecDepth 100000 in
set_option maxHeartbeats 400000 in
theorem RefSync_any (F : Fp) (g : Nat) (bs : List UInt8) (as_ : List Nat) (vs : List UInt8) (n : Int) (vB vA vV : Value) (w : World) (hd : RefDk F w g bs as_ vs n vB vA vV)
    (hl : as_.length = vs.length) (hlt : ∀ a ∈ as_, a < bs.length) (hlen : as_.length ≤ 1000000000) (hn0 : 0 ≤ n) (hn : n ≤ 1000000000) :
    Calls Try.prog 47 #[.pointer (some ⟨g, 0, none⟩)] w fun e w' =>
      e = .returned (.tuple #[]) ∧ RefDk F w' g (putAll bs (as_.zip vs)) [] [] (n + 1) vB (.slice none 0 0) (.slice none 0 0) ∧ Chg F w w' := by
  have hz : (as_.zip vs).take (as_.length : Int).toNat = as_.zip vs := by rw [Int.toNat_natCast, List.take_of_length_le (by rw [List.length_zip]; omega)]
  have hcr := RefCrash_any F g bs as_ vs n vB vA vV (as_.length : Int) w hd hl hlt hlen
  rw [hz] at hcr
  have HCR := Lib.hid hcr
  obtain ⟨AA, cA, rfl⟩ := hd.slA
  have c1 := hd.c1
  have HD := Lib.hid hd
  clear hd hcr hz hl hlt
  go_enter Try.func47, Try.ntmps47
  go_wp2_with fail
  refine HCR.out.mono ?_
  rintro e w1 ⟨rfl, hd1, hc1⟩
  have c3 := hd1.c3
  have f3 := hd1.fr 3
  have hset := ObjF.setCell hd1 3 (.int .i64 (n + 1))
  have HS := Lib.hid hset
  have HC := Lib.hid hc1
  clear hd1 hset hc1
  go_wp2
  go_end0
  exact ⟨rfl, HS.out.1, HC.out.trans HS.out.2 (fun _ _ h => h)⟩

set_option maxRecDepth 100000 in
theorem RefBytes4_any (F : Fp) (g : Nat) (bs : List UInt8) (as_ : List Nat) (vs : List UInt8) (n : Int) (vB vA vV : Value) (w : World) (hd : RefDk F w g bs as_ vs n vB vA vV)
    (hl : as_.length = vs.length) (hlt : ∀ a ∈ as_, a < bs.length) (hlen : as_.length ≤ 1000000000) (hbs : bs.length ≤ 65536) :
    Calls Try.prog 26 #[.pointer (some ⟨g, 0, none⟩)] w fun e w' =>
      ∃ v', e = .returned v' ∧ Grew w.heap.size 5 (.slice none 0 0) w ((putAll bs (as_.zip vs)).map B) v' w' := by
  obtain ⟨AA, cA, rfl⟩ := hd.slA
  obtain ⟨AV, cV, rfl, _, _⟩ := (Rd.own hd.rowV).sliceN (n := as_.length) (by rw [List.length_map, hl])
  obtain ⟨AB, cB, rfl⟩ := hd.slB
  have c0 := hd.c0
  have hgl := (ObjF.blk hd).lt
  have hrB := Rd.own hd.rowB
  have HD := Lib.hid hd
  have HL := Lib.hid hl
  have HLT := Lib.hid hlt
  have hrB1 := hrB.ext (((Below.refl _ _).alloc (Nat.le_refl _) (.cells #[] 5)) : Ext w _)
  clear hd hl hlt
  go_enter Try.func26, Try.ntmps26
  go_wp2_with (at_builtin; refine app_u8 rfl _ _ rfl w.heap.size _ [] rfl (own_none _ _ _ rfl) _ bs rfl hrB1 (by simp; omega) (by simp) ?_; intro v2 w2 hg2; rw [List.nil_append] at hg2; have hg3 := Grew.from_empty rfl hg2; obtain ⟨A3, c3, rfl⟩ := hg3.slice_ (n := bs.length) (List.length_map _); clear hg2)
  go_loopw [4] (fun i' wr => ∃ k : Nat, i' = .int .i64 k ∧ k ≤ as_.length ∧ Grew w.heap.size 5 (.slice none 0 0) w ((putAll bs ((as_.zip vs).take k)).map B) (.slice A3 bs.length c3) wr) (fun i' _ => as_.length - (intOf i').toNat)
  case atStart => exact ⟨0, rfl, Nat.zero_le _, hg3⟩
  case round =>
    obtain ⟨k, rfl, hk, hg⟩ := hrel
    have hdr : RefDk F wr g bs as_ vs n _ _ _ := ObjF.ext HD.out hg.ext
    have c1 := hdr.c1
    by_cases hlt : k < as_.length
    · have hlv : k < vs.length := by have := HL.out; omega
      have ha := HLT.out as_[k] (List.getElem_mem hlt)
      have hbl := putAll_len bs ((as_.zip vs).take k)
      have hz : (as_.zip vs).take (k + 1) = (as_.zip vs).take k ++ [(as_[k], vs[k])] := by
        rw [List.take_succ_eq_append_getElem (by rw [List.length_zip]; omega), List.getElem_zip]
      have hstep : putAll bs ((as_.zip vs).take (k + 1)) = (putAll bs ((as_.zip vs).take k)).set as_[k] vs[k] := by rw [hz, putAll_snoc]
      obtain ⟨gO, cO, hv3, hcO, _⟩ := hg.form (by rw [List.length_map, hbl]; omega)
      rw [List.length_map, hbl] at hv3 hcO
      injection hv3 with hv3 _ hv4
      subst hv3 hv4
      have hO0 := hg.cellAt as_[k] (by rw [List.length_map, hbl]; exact ha)
      rw [List.getElem?_map, List.getElem?_eq_getElem (by rw [hbl]; exact ha), Option.map_some] at hO0
      have hOz : ∃ z : UInt8, wr.cell? ⟨gO, as_[k], none⟩ = some (B z) := ⟨_, hO0⟩
      clear hO0
      obtain ⟨z, hO0⟩ := hOz
      have hOf := hg.frozenAt as_[k]
      obtain ⟨gA, oA, rfl, hgA, hcA⟩ := (Rd.own hdr.rowA).get (by rw [List.length_map]; omega)
      have eA : wr.cell? ⟨gA, oA + k, none⟩ = some (.int .i64 (as_[k] : Int)) := hcA k _ (by rw [List.getElem?_map, List.getElem?_eq_getElem hlt]; rfl)
      obtain ⟨gV, oV, rfl, hgV, hcV⟩ := (Rd.own hdr.rowV).get (by rw [List.length_map]; omega)
      have eV : wr.cell? ⟨gV, oV + k, none⟩ = some (B vs[k]) := hcV k _ (by rw [List.getElem?_map, List.getElem?_eq_getElem hlv]; rfl)
      have c2 := hdr.c2
      have hset := hg.set as_[k] (B vs[k])
      rw [← List.map_set, ← hstep] at hset
      have HS := Lib.hid hset
      have hab : as_[k] < bs.length := ha
      clear hcA hcV hset hg hdr hz hstep hbl ha
      generalize as_[k] = a at *
      generalize vs[k] = x at *
      simp only [B] at eV hO0
      go_wp2
      go_still_tail 16, (by kernel_rfl)
      change wpList _ _ _ _ _ wr.drew
      go_wp2
      go_roundw
      case rel => exact ⟨k + 1, by go_num, by omega, HS.out.step (Below.drewN' (Ext.refl _) 1)⟩
      case measure => simp [intOf]; omega
    · obtain rfl : k = as_.length := by omega
      have hfin : (as_.zip vs).take as_.length = as_.zip vs := List.take_of_length_le (by rw [List.length_zip]; omega)
      rw [hfin] at hg
      have HG := Lib.hid hg
      clear hg hdr hfin
      go_wp2
      go_ret
      exact ⟨_, rfl, HG.out⟩

/-- Which error a write has. -/
def writeE (N : Nat) (i : Int) (m : Nat) : Int := if i < 0 then 1 else if (N : Int) < i ∨ (N : Int) - i < (m : Int) then 3 else 0

theorem RefWrite_err (F : Fp) (g : Nat) (bs : List UInt8) (as_ : List Nat) (vs : List UInt8) (n : Int) (vB vA vV : Value) (i : Int) (v : Value) (l : List UInt8) (w : World) (hd : RefDk F w g bs as_ vs n vB vA vV) (hr : Rd w v (l.map B)) (_hb : bs.length ≤ 65536)
    (he : writeE bs.length i l.length ≠ 0) :
    Calls Try.prog 79 #[.pointer (some ⟨g, 0, none⟩), .int .i64 i, v] w fun e w' => e = .returned (.int .i64 (writeE bs.length i l.length)) ∧ w = w' := by
  obtain ⟨A, c, rfl, hlc, hcm⟩ := hr.sliceN (List.length_map _)
  unfold maxLen at hcm
  obtain ⟨AB, cB, rfl⟩ := hd.slB
  have c0 := hd.c0
  clear hd
  by_cases h0 : i < 0
  · have hE : writeE bs.length i l.length = 1 := by rw [writeE, if_pos h0]
    rw [hE]
    clear he hE
    go_enter Try.func79, Try.ntmps79
    go_wp2
    go_ret
    exact ⟨rfl, rfl⟩
  · by_cases h1 : (bs.length : Int) < i
    · have hE : writeE bs.length i l.length = 3 := by rw [writeE, if_neg h0, if_pos (.inl h1)]
      rw [hE]
      clear he hE
      go_enter Try.func79, Try.ntmps79
      go_wp2
      go_ret
      exact ⟨rfl, rfl⟩
    · by_cases h2 : (bs.length : Int) - i < (l.length : Int)
      · have hE : writeE bs.length i l.length = 3 := by rw [writeE, if_neg h0, if_pos (.inr h2)]
        rw [hE]
        clear he hE
        go_enter Try.func79, Try.ntmps79
        go_wp2
        go_ret
        exact ⟨rfl, rfl⟩
      · exact absurd (by rw [writeE, if_neg h0, if_neg (by omega)]) he

end Go.Proofs.Ytdcmjmanalijfaa

/- Layer 4, the reference's disk in one word: what lasts, what waits, how often it was synced. -/
namespace Go.Proofs.Ytdcmjmanalijfaa
open Go.RowKit

/-- The reference's disk at r. -/
def Rk (F : Fp) (w : World) (r : Nat) (s : DkS) : Prop :=
  ∃ as_ vs vB vA vV, RefDk F w r s.1 as_ vs s.2.2 vB vA vV ∧ as_.length = vs.length ∧ as_.zip vs = s.2.1 ∧ (∀ a ∈ as_, a < s.1.length)

section
variable {F G : Fp} {w w' : World} {r : Nat} {s : DkS}
theorem Rk.isIn (h : Rk F w r s) : F.isIn w := by
  obtain ⟨as_, vs, vB, vA, vV, h1, _⟩ := h
  exact ObjF.isIn h1
theorem Rk.chg (h : Rk F w r s) (hc : Chg G w w') (ha : F.apart G) : Rk F w' r s := by
  obtain ⟨as_, vs, vB, vA, vV, h1, h2⟩ := h
  exact ⟨as_, vs, vB, vA, vV, ObjF.chg h1 hc ha, h2⟩
theorem Rk.mono (h : Rk F w r s) (hf : ∀ k, F k → G k) (hi : G.isIn w) : Rk G w r s := by
  obtain ⟨as_, vs, vB, vA, vV, h1, h2⟩ := h
  exact ⟨as_, vs, vB, vA, vV, ObjF.mono h1 hf hi, h2⟩
theorem Rk.okD (h : Rk F w r s) : okD s := by
  obtain ⟨as_, vs, vB, vA, vV, h1, h2, h3, h4⟩ := h
  intro x hx
  rw [← h3] at hx
  exact h4 x.1 (List.of_mem_zip hx).1
/-- Its fields: how many places wait, how often it was synced. -/
theorem Rk.cells (h : Rk F w r s) : r < w.heap.size ∧ (∃ A c, w.cell? ⟨r, 1, none⟩ = some (.slice A s.2.1.length c) ∧ s.2.1.length ≤ c ∧ c ≤ 9223372036854775807) ∧ w.cell? ⟨r, 3, none⟩ = some (.int .i64 s.2.2) := by
  obtain ⟨as_, vs, vB, vA, vV, h1, h2, h3, h4⟩ := h
  have e : as_.length = s.2.1.length := by rw [← h3, List.length_zip]; omega
  obtain ⟨A, c, hv, hc1, hc2⟩ := (Rd.own h1.rowA).sliceN (n := s.2.1.length) (by rw [List.length_map, e])
  refine ⟨(ObjF.blk h1).lt, ⟨A, c, by rw [h1.c1, hv], hc1, by unfold maxLen at hc2; omega⟩, h1.c3⟩
end

theorem RkNew (n : Nat) (w : World) (hn : n ≤ 65536) : Calls Try.prog 10 #[.int .i64 (n : Int)] w fun e w' =>
    ∃ r, e = .returned (.pointer (some ⟨r, 0, none⟩)) ∧ Rk (fun k => w.heap.size ≤ k ∧ k < w'.heap.size) w' r (List.replicate n 0, [], 0) ∧ Ext w w' :=
  (RefNew_any n w hn).mono fun e w' ⟨r, vB, he, hd, hx⟩ => ⟨r, he, ⟨[], [], vB, _, _, hd, rfl, rfl, by simp⟩, hx⟩

theorem RkWrite (F H : Fp) (r : Nat) (s : DkS) (i : Int) (v : Value) (l : List UInt8) (w : World) (hd : Rk F w r s) (hr : RdF H w v (l.map B)) (ha : H.apart F) (hH : H.isIn w) (hb : s.1.length ≤ 65536) (hw : s.2.1.length ≤ 1000000000) :
    Calls Try.prog 79 #[.pointer (some ⟨r, 0, none⟩), .int .i64 i, v] w fun e w' => e = .returned (.int .i64 (wrE s.1.length i l.length)) ∧ Rk (F.since w w') w' r (wrD s i l) ∧ Chg F w w' := by
  have hin := hd.isIn
  obtain ⟨as_, vs, vB, vA, vV, h1, h2, h3, h4⟩ := hd
  have e0 : as_.length = s.2.1.length := by rw [← h3, List.length_zip]; omega
  by_cases he : wrE s.1.length i l.length = 0
  · obtain ⟨hi0, hi1⟩ := wrE_ok he
    obtain ⟨j, rfl⟩ : ∃ j : Nat, i = j := ⟨i.toNat, by omega⟩
    rw [Int.toNat_natCast] at hi1
    refine (RefWrite_yes F H r s.1 as_ vs s.2.2 vB vA vV j v l w h1 hr ha hH hb hi1 (by omega) (by omega)).mono ?_
    rintro e w' ⟨rfl, vA', vV', hd', hc⟩
    rw [he]
    refine ⟨rfl, ?_, hc⟩
    rw [wrD, if_pos he]
    refine ⟨_, _, vB, vA', vV', hd', ?_, ?_, ?_⟩
    · simp [h2]
    · show _ = s.2.1 ++ spanB _ l
      rw [List.zip_append h2, h3, range_zip, Int.toNat_natCast]
    · intro a ha
      rcases List.mem_append.1 ha with ha | ha
      · exact h4 a ha
      · obtain ⟨x, hx, rfl⟩ := List.mem_map.1 ha
        have := List.mem_range.1 hx
        show j + x < s.1.length
        omega
  · have hee : writeE s.1.length i l.length = wrE s.1.length i l.length := rfl
    refine (RefWrite_err F r s.1 as_ vs s.2.2 vB vA vV i v l w h1 hr.rd hb (by rw [hee]; exact he)).mono ?_
    rintro e w' ⟨rfl, rfl⟩
    refine ⟨rfl, ?_, Chg.refl _ _⟩
    rw [wrD, if_neg he]
    exact ⟨as_, vs, vB, vA, vV, ObjF.mono h1 (fun k hk => .inl hk) (hin.since (Nat.le_refl _)), h2, h3, h4⟩

theorem RkCrash (F : Fp) (r : Nat) (s : DkS) (k : Int) (w : World) (hd : Rk F w r s) (hw : s.2.1.length ≤ 1000000000) :
    Calls Try.prog 22 #[.pointer (some ⟨r, 0, none⟩), .int .i64 k] w fun e w' => e = .returned (.tuple #[]) ∧ Rk F w' r (crD s k) ∧ Chg F w w' := by
  obtain ⟨as_, vs, vB, vA, vV, h1, h2, h3, h4⟩ := hd
  have e0 : as_.length = s.2.1.length := by rw [← h3, List.length_zip]; omega
  refine (RefCrash_any F r s.1 as_ vs s.2.2 vB vA vV k w h1 h2 h4 (by omega)).mono ?_
  rintro e w' ⟨rfl, hd', hc⟩
  rw [h3] at hd'
  exact ⟨rfl, ⟨[], [], vB, _, _, hd', rfl, rfl, by simp⟩, hc⟩

theorem RkSync (F : Fp) (r : Nat) (s : DkS) (w : World) (hd : Rk F w r s) (hw : s.2.1.length ≤ 1000000000) (hn0 : 0 ≤ s.2.2) (hn1 : s.2.2 ≤ 1000000000) :
    Calls Try.prog 47 #[.pointer (some ⟨r, 0, none⟩)] w fun e w' => e = .returned (.tuple #[]) ∧ Rk F w' r (syD s) ∧ Chg F w w' := by
  obtain ⟨as_, vs, vB, vA, vV, h1, h2, h3, h4⟩ := hd
  have e0 : as_.length = s.2.1.length := by rw [← h3, List.length_zip]; omega
  refine (RefSync_any F r s.1 as_ vs s.2.2 vB vA vV w h1 h2 h4 (by omega) hn0 hn1).mono ?_
  rintro e w' ⟨rfl, hd', hc⟩
  rw [h3] at hd'
  exact ⟨rfl, ⟨[], [], vB, _, _, hd', rfl, rfl, by simp⟩, hc⟩

theorem RkBytes (F : Fp) (r : Nat) (s : DkS) (w : World) (hd : Rk F w r s) (hb : s.1.length ≤ 65536) (hw : s.2.1.length ≤ 1000000000) :
    Calls Try.prog 26 #[.pointer (some ⟨r, 0, none⟩)] w fun e w' => ∃ v', e = .returned v' ∧ Grew w.heap.size 5 (.slice none 0 0) w ((rdD s).map B) v' w' := by
  obtain ⟨as_, vs, vB, vA, vV, h1, h2, h3, h4⟩ := hd
  have e0 : as_.length = s.2.1.length := by rw [← h3, List.length_zip]; omega
  refine (RefBytes4_any F r s.1 as_ vs s.2.2 vB vA vV w h1 h2 h4 (by omega) hb).mono ?_
  rintro e w' ⟨v', rfl, hg⟩
  rw [h3] at hg
  exact ⟨v', rfl, hg⟩

end Go.Proofs.Ytdcmjmanalijfaa
