/- Package disk: what waits, as a list of structs; lay. -/
import Derived.Test.YtkoppdhmbhgnfaaRowN
import Derived.Test.YtkoppdhmbhgnfaaP04b
import Derived.Test.YtkoppdhmbhgnfaaP04c
import Derived.Test.YtkoppdhmbhgnfaaTu8b
import Derived.Test.YtkoppdhmbhgnfaaLift
import Derived.Deep.QuietTactic
import Derived.BigQuiet
import Derived.StillTailTactics
import Derived.Outline
namespace Go.Proofs.Ytkoppdhmbhgnfaa
open Go.RowKit

/-- A write that waits: its place, the slice of its bytes, the bytes. -/
abbrev WtS : Type := Nat × Value × List UInt8
def WtS.plain (x : WtS) : Nat × List UInt8 := (x.1, x.2.2)
def WtS.cells (x : WtS) : List Value := [I x.1, x.2.1]

/-- The slice of structs reads as these writes, and lies in the set, bytes and all. -/
def WtRd (H : Fp) (w : World) (v : Value) (us : List WtS) : Prop :=
  ∃ A c, v = .slice A us.length c ∧ us.length ≤ c ∧ c ≤ maxLen ∧ (0 < us.length → ∃ b o, A = some ⟨b, o, none⟩ ∧ b < w.heap.size ∧ H b ∧
    ∀ j x, us[j]? = some x → w.cell? ⟨b, o + j * 2, none⟩ = some (I x.1) ∧ w.cell? ⟨b, o + (j * 2 + 1), none⟩ = some x.2.1 ∧ RdF H w x.2.1 (x.2.2.map B))

section
variable {H G : Fp} {w w' : World} {v : Value} {us : List WtS}
theorem WtRd.chg (h : WtRd H w v us) (hc : Chg G w w') (ha : H.apart G) : WtRd H w' v us := by
  obtain ⟨A, c, e, h1, h2, h3⟩ := h
  refine ⟨A, c, e, h1, h2, fun hn => ?_⟩
  obtain ⟨b, o, rfl, hb, hH, hx⟩ := h3 hn
  have hblk := hc.block b hb (ha b hH)
  refine ⟨b, o, rfl, Nat.lt_of_lt_of_le hb hc.size, hH, fun j x hj => ?_⟩
  obtain ⟨e1, e2, e3⟩ := hx j x hj
  refine ⟨?_, ?_, e3.chg hc ha⟩
  · simp only [World.cell?] at e1 ⊢
    rw [hblk]
    exact e1
  · simp only [World.cell?] at e2 ⊢
    rw [hblk]
    exact e2
theorem WtRd.ext (h : WtRd H w v us) (hx : Ext w w') : WtRd H w' v us := h.chg (G := fun _ => False) (Chg.of_ext hx) (fun _ _ h => h)
theorem WtRd.slice_ (h : WtRd H w v us) : ∃ A c, v = .slice A us.length c ∧ us.length ≤ c ∧ c ≤ maxLen := by
  obtain ⟨A, c, e, h1, h2, _⟩ := h
  exact ⟨A, c, e, h1, h2⟩
theorem WtRd.get {A : Option Addr} {n c : Nat} (h : WtRd H w (.slice A n c) us) (hn : 0 < us.length) : ∃ b o, A = some ⟨b, o, none⟩ ∧ b < w.heap.size ∧ H b ∧
    ∀ j x, us[j]? = some x → w.cell? ⟨b, o + j * 2, none⟩ = some (I x.1) ∧ w.cell? ⟨b, o + (j * 2 + 1), none⟩ = some x.2.1 ∧ RdF H w x.2.1 (x.2.2.map B) := by
  obtain ⟨A', c', e, _, _, h3⟩ := h
  cases e
  exact h3 hn
end

/-- How far it has come. -/
def LaySt (base : Nat) (bs : List UInt8) (us : List WtS) (K : Nat) (vO : Value) (w : World) (l i : Value) (wr : World) : Prop :=
  ∃ k : Nat, i = .int .i64 k ∧ k ≤ us.length ∧ l = .int .i64 ((K - (flatW ((us.map WtS.plain).take k)).length : Nat) : Int) ∧ Grew base 5 vO w ((putAll bs ((flatW ((us.map WtS.plain).take k)).take K)).map B) vO wr

theorem Lay_neg (H : Fp) (base : Nat) (vO vW : Value) (bs : List UInt8) (us : List WtS) (keep : Int) (w : World) (hO : w.ownsRow base 5 1 vO bs.length (bs.map B)) (hW : WtRd H w vW us)
    (ha : ∀ k, vO.ownBlock = some k → ¬ H k) (hus : ∀ x ∈ us, x.1 + x.2.2.length ≤ bs.length ∧ 0 < x.2.2.length) (hb : bs.length ≤ 65536) (hn : us.length ≤ 1000000000) (h0 : -9223372036854775808 ≤ keep) (h : keep < 0) :
    Calls Try.prog 24 #[vO, vW, .int .i64 keep] w fun e w' =>
      e = .returned (.tuple #[]) ∧ Grew base 5 vO w ((putAll bs ((flatW (us.map WtS.plain)).take keep.toNat)).map B) vO w' := by
  obtain ⟨AW, cW, rfl, hlW, hcW⟩ := hW.slice_
  unfold maxLen at hcW
  have HU := Lib.hid hus
  have HW := Lib.hid hW
  have HO := Lib.hid hO
  clear hus hW hO
  go_enter Try.func24, Try.ntmps24
  go_wp2
  go_loopw [6, 14] (fun l' i' wr => LaySt base bs us keep.toNat vO w l' i' wr) (fun _ i' _ => us.length - (intOf i').toNat)
  case atStart => exact ⟨0, rfl, Nat.zero_le _, by simp [flatW]; omega, by simpa [flatW, putAll] using Grew.start HO.out⟩
  case round =>
    obtain ⟨k, rfl, hk, rfl, hg⟩ := hrel
    by_cases hlt : k < us.length
    · have hWk := HW.out.chg (Chg.of_grown (F := fun k => vO.ownBlock = some k) hg.2.1 fun _ h => h) (fun k hk hk2 => ha k hk2 hk)
      obtain ⟨b, o, rfl, hb1, hH1, hcl⟩ := hWk.get (by omega)
      obtain ⟨e1, e2, hr⟩ := hcl k _ (List.getElem?_eq_getElem hlt)
      have hx := HU.out us[k] (List.getElem_mem hlt)
      have hxs : (us.map WtS.plain)[k]'(by rw [List.length_map]; exact hlt) = us[k].plain := List.getElem_map _
      have hst := lay_step (bs := bs) (K := keep.toNat) (l := us.map WtS.plain) (k := k) (by rw [List.length_map]; exact hlt) (by rw [hxs]; exact hx.1)
      have hsl := flatW_snoc_len (l := us.map WtS.plain) (k := k) (by rw [List.length_map]; exact hlt)
      rw [hxs] at hst hsl
      generalize us[k] = x at *
      obtain ⟨i, u, l⟩ := x
      have HS := Lib.hid hst
      have HL := Lib.hid hsl
      clear hcl hWk hxs hst hsl
      simp only [I] at e1 e2 hr hx
      have e3 : wr.cell? ⟨b, o + k * 2 + 1, none⟩ = some u := by rw [Nat.add_assoc]; exact e2
      clear e2
      obtain ⟨Au, cu, rfl, hlc, hcm⟩ := hr.rd.sliceN (List.length_map _)
      unfold maxLen at hcm
      have hl8 : (putAll bs ((flatW ((us.map WtS.plain).take k)).take keep.toNat)).length = bs.length := putAll_len _ _
      have hz8 : (Try.prog.info? 5).map (·.size) = some 1 := by kernel_rfl
      obtain ⟨gO, cO, rfl, hcO⟩ : ∃ gO cO, vO = .slice (some ⟨gO, 0, none⟩) bs.length cO ∧ bs.length ≤ cO := by
        obtain ⟨gO, cO, e, h1, _⟩ := hg.form (by rw [List.length_map, hl8]; omega)
        rw [List.length_map, hl8] at e h1
        exact ⟨gO, cO, e, h1⟩
      have hcO2 : cO ≤ 9223372036854775807 := by
        obtain ⟨_, _, e, _, h⟩ := (Rd.own HO.out).sliceN (List.length_map _)
        injection e with _ _ e
        rw [e]
        exact h
      have HR := Lib.hid hr
      have HG := Lib.hid hg
      clear hr hg
      have hkL : ((keep.toNat - (flatW ((us.map WtS.plain).take k)).length : Nat) : Int) ≤ 9223372036854775807 := by omega
      generalize hL : keep.toNat - (flatW ((us.map WtS.plain).take k)).length = L at *
      generalize hX : putAll bs ((flatW ((us.map WtS.plain).take k)).take keep.toNat) = X at *
      have hm : L ≤ l.length := by omega
      have hrd : Rd wr (.slice Au L cu) ((l.take L).map B) := by rw [List.map_take]; exact HR.out.rd.prefix_ L (by rw [List.length_map]; exact hm)
      have hyl : (l.take L).length = L := by rw [List.length_take]; omega
      have HRD := Lib.hid hrd
      have HY := Lib.hid hyl
      clear hrd hyl
      go_wp2
      have hx2 : Ext wr (wr.alloc (.cells #[.int .i64 (i : Int), .slice Au l.length cu] 57)).drew := Ext.dr ((Below.refl _ _).alloc (Nat.le_refl _) _)
      have q1 : i ≤ bs.length := by omega
      have q2 : ¬ cO = i := by omega
      have q3 : L ≤ cu := by omega
      have hgx := HG.out.step hx2
      have hown := hgx.1
      rw [List.length_map] at hown
      have hry := HRD.out.ext hx2
      have q4 : i + (l.take L).length ≤ X.length := by rw [hl8, HY.out]; omega
      have q5 : (l.take L).length ≤ bs.length - i := by rw [HY.out]; omega
      go_region_law (refine step_copyG rfl (.tmp 26) (.tmp 30) 30 30 5 rfl Try.underlying30 hz8 base 5 gO bs.length cO X hown i (bs.length - i) (cO - i) rfl Au L cu (l.take L) rfl hry q4 q5 ?_; intro w4 hg4)
      all_goals
        have hg5 := hgx.trans hg4
        have HG5 := Lib.hid hg5
        clear hg5 hg4 hgx hown hry q4 q5
        go_wp2
        go_roundw
        case rel =>
          have e1 : splice X i (l.take L) = putAll bs ((flatW ((us.map WtS.plain).take (k + 1))).take keep.toNat) := HS.out.symm
          have h5 := HG5.out
          have hll := HL.out
          simp only [WtS.plain] at hll
          rw [e1] at h5
          exact ⟨k + 1, by go_num, by omega, by rw [hll]; congr 1; omega, h5⟩
        case measure => simp [intOf]; omega
    · obtain rfl : k = us.length := by omega
      rw [List.take_of_length_le (i := us.length) (by rw [List.length_map]; omega)] at hg
      go_wp2
      go_end0
      exact ⟨rfl, hg⟩
theorem Lay_pos (H : Fp) (base : Nat) (vO vW : Value) (bs : List UInt8) (us : List WtS) (keep : Int) (w : World) (hO : w.ownsRow base 5 1 vO bs.length (bs.map B)) (hW : WtRd H w vW us)
    (ha : ∀ k, vO.ownBlock = some k → ¬ H k) (hus : ∀ x ∈ us, x.1 + x.2.2.length ≤ bs.length ∧ 0 < x.2.2.length) (hb : bs.length ≤ 65536) (hn : us.length ≤ 1000000000) (h : 0 ≤ keep) (h1 : keep ≤ 9223372036854775807) :
    Calls Try.prog 24 #[vO, vW, .int .i64 keep] w fun e w' =>
      e = .returned (.tuple #[]) ∧ Grew base 5 vO w ((putAll bs ((flatW (us.map WtS.plain)).take keep.toNat)).map B) vO w' := by
  obtain ⟨AW, cW, rfl, hlW, hcW⟩ := hW.slice_
  unfold maxLen at hcW
  have HU := Lib.hid hus
  have HW := Lib.hid hW
  have HO := Lib.hid hO
  clear hus hW hO
  go_enter Try.func24, Try.ntmps24
  go_wp2
  go_loopw [6, 14] (fun l' i' wr => LaySt base bs us keep.toNat vO w l' i' wr) (fun _ i' _ => us.length - (intOf i').toNat)
  case atStart => exact ⟨0, rfl, Nat.zero_le _, by simp [flatW]; omega, by simpa [flatW, putAll] using Grew.start HO.out⟩
  case round =>
    obtain ⟨k, rfl, hk, rfl, hg⟩ := hrel
    by_cases hlt : k < us.length
    · have hWk := HW.out.chg (Chg.of_grown (F := fun k => vO.ownBlock = some k) hg.2.1 fun _ h => h) (fun k hk hk2 => ha k hk2 hk)
      obtain ⟨b, o, rfl, hb1, hH1, hcl⟩ := hWk.get (by omega)
      obtain ⟨e1, e2, hr⟩ := hcl k _ (List.getElem?_eq_getElem hlt)
      have hx := HU.out us[k] (List.getElem_mem hlt)
      have hxs : (us.map WtS.plain)[k]'(by rw [List.length_map]; exact hlt) = us[k].plain := List.getElem_map _
      have hst := lay_step (bs := bs) (K := keep.toNat) (l := us.map WtS.plain) (k := k) (by rw [List.length_map]; exact hlt) (by rw [hxs]; exact hx.1)
      have hsl := flatW_snoc_len (l := us.map WtS.plain) (k := k) (by rw [List.length_map]; exact hlt)
      rw [hxs] at hst hsl
      generalize us[k] = x at *
      obtain ⟨i, u, l⟩ := x
      have HS := Lib.hid hst
      have HL := Lib.hid hsl
      clear hcl hWk hxs hst hsl
      simp only [I] at e1 e2 hr hx
      have e3 : wr.cell? ⟨b, o + k * 2 + 1, none⟩ = some u := by rw [Nat.add_assoc]; exact e2
      clear e2
      obtain ⟨Au, cu, rfl, hlc, hcm⟩ := hr.rd.sliceN (List.length_map _)
      unfold maxLen at hcm
      have hl8 : (putAll bs ((flatW ((us.map WtS.plain).take k)).take keep.toNat)).length = bs.length := putAll_len _ _
      have hz8 : (Try.prog.info? 5).map (·.size) = some 1 := by kernel_rfl
      obtain ⟨gO, cO, rfl, hcO⟩ : ∃ gO cO, vO = .slice (some ⟨gO, 0, none⟩) bs.length cO ∧ bs.length ≤ cO := by
        obtain ⟨gO, cO, e, h1, _⟩ := hg.form (by rw [List.length_map, hl8]; omega)
        rw [List.length_map, hl8] at e h1
        exact ⟨gO, cO, e, h1⟩
      have hcO2 : cO ≤ 9223372036854775807 := by
        obtain ⟨_, _, e, _, h⟩ := (Rd.own HO.out).sliceN (List.length_map _)
        injection e with _ _ e
        rw [e]
        exact h
      have HR := Lib.hid hr
      have HG := Lib.hid hg
      clear hr hg
      have hkL : ((keep.toNat - (flatW ((us.map WtS.plain).take k)).length : Nat) : Int) ≤ 9223372036854775807 := by omega
      generalize hL : keep.toNat - (flatW ((us.map WtS.plain).take k)).length = L at *
      generalize hX : putAll bs ((flatW ((us.map WtS.plain).take k)).take keep.toNat) = X at *
      rcases (Nat.lt_or_ge l.length L).symm with hm | hm
      · have hrd : Rd wr (.slice Au L cu) ((l.take L).map B) := by rw [List.map_take]; exact HR.out.rd.prefix_ L (by rw [List.length_map]; exact hm)
        have hyl : (l.take L).length = L := by rw [List.length_take]; omega
        have HRD := Lib.hid hrd
        have HY := Lib.hid hyl
        clear hrd hyl
        go_wp2
        have hx2 : Ext wr (wr.alloc (.cells #[.int .i64 (i : Int), .slice Au l.length cu] 57)).drew := Ext.dr ((Below.refl _ _).alloc (Nat.le_refl _) _)
        have q1 : i ≤ bs.length := by omega
        have q2 : ¬ cO = i := by omega
        have q3 : L ≤ cu := by omega
        have hgx := HG.out.step hx2
        have hown := hgx.1
        rw [List.length_map] at hown
        have hry := HRD.out.ext hx2
        have q4 : i + (l.take L).length ≤ X.length := by rw [hl8, HY.out]; omega
        have q5 : (l.take L).length ≤ bs.length - i := by rw [HY.out]; omega
        go_region_law (refine step_copyG rfl (.tmp 26) (.tmp 30) 30 30 5 rfl Try.underlying30 hz8 base 5 gO bs.length cO X hown i (bs.length - i) (cO - i) rfl Au L cu (l.take L) rfl hry q4 q5 ?_; intro w4 hg4)
        all_goals
          have hg5 := hgx.trans hg4
          have HG5 := Lib.hid hg5
          clear hg5 hg4 hgx hown hry q4 q5
          go_wp2
          go_roundw
          case rel =>
            have e1 : splice X i (l.take L) = putAll bs ((flatW ((us.map WtS.plain).take (k + 1))).take keep.toNat) := HS.out.symm
            have h5 := HG5.out
            have hll := HL.out
            simp only [WtS.plain] at hll
            rw [e1] at h5
            exact ⟨k + 1, by go_num, by omega, by rw [hll]; congr 1; omega, h5⟩
          case measure => simp [intOf]; omega
      · have hrd : Rd wr (.slice Au l.length cu) ((l).map B) := HR.out.rd
        have HRD := Lib.hid hrd
        clear hrd
        go_wp2
        have hx2 : Ext wr (wr.alloc (.cells #[.int .i64 (i : Int), .slice Au l.length cu] 57)).drew := Ext.dr ((Below.refl _ _).alloc (Nat.le_refl _) _)
        have q1 : i ≤ bs.length := by omega
        have q2 : ¬ cO = i := by omega
        have q3 : l.length ≤ cu := by omega
        have hgx := HG.out.step hx2
        have hown := hgx.1
        rw [List.length_map] at hown
        have hry := HRD.out.ext hx2
        have q4 : i + (l).length ≤ X.length := by rw [hl8]; omega
        have q5 : (l).length ≤ bs.length - i := by omega
        go_region_law (refine step_copyG rfl (.tmp 26) (.tmp 30) 30 30 5 rfl Try.underlying30 hz8 base 5 gO bs.length cO X hown i (bs.length - i) (cO - i) rfl Au l.length cu (l) rfl hry q4 q5 ?_; intro w4 hg4)
        all_goals
          have hg5 := hgx.trans hg4
          have HG5 := Lib.hid hg5
          clear hg5 hg4 hgx hown hry q4 q5
          go_wp2
          go_roundw
          case rel =>
            have e1 : splice X i (l.take L) = putAll bs ((flatW ((us.map WtS.plain).take (k + 1))).take keep.toNat) := HS.out.symm
            have h5 := HG5.out
            have hll := HL.out
            simp only [WtS.plain] at hll
            rw [List.take_of_length_le (Nat.le_of_lt hm)] at e1; rw [e1] at h5
            exact ⟨k + 1, by go_num, by omega, by rw [hll]; congr 1; omega, h5⟩
          case measure => simp [intOf]; omega
    · obtain rfl : k = us.length := by omega
      rw [List.take_of_length_le (i := us.length) (by rw [List.length_map]; omega)] at hg
      go_wp2
      go_end0
      exact ⟨rfl, hg⟩
theorem Lay_any (H : Fp) (base : Nat) (vO vW : Value) (bs : List UInt8) (us : List WtS) (keep : Int) (w : World) (hO : w.ownsRow base 5 1 vO bs.length (bs.map B)) (hW : WtRd H w vW us)
    (ha : ∀ k, vO.ownBlock = some k → ¬ H k) (hus : ∀ x ∈ us, x.1 + x.2.2.length ≤ bs.length ∧ 0 < x.2.2.length) (hb : bs.length ≤ 65536) (hn : us.length ≤ 1000000000) (h0 : -9223372036854775808 ≤ keep) (h1 : keep ≤ 9223372036854775807) :
    Calls Try.prog 24 #[vO, vW, .int .i64 keep] w fun e w' =>
      e = .returned (.tuple #[]) ∧ Grew base 5 vO w ((putAll bs ((flatW (us.map WtS.plain)).take keep.toNat)).map B) vO w' := by
  rcases Int.lt_or_le keep 0 with h | h
  · exact Lay_neg H base vO vW bs us keep w hO hW ha hus hb hn h0 h
  · exact Lay_pos H base vO vW bs us keep w hO hW ha hus hb hn h h1

end Go.Proofs.Ytkoppdhmbhgnfaa
