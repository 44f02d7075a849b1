/- For every input DiskActs returns true: whatever is written, synced and lost, what is read, and what waits, is the reference's. No condition. -/
import Derived.Test.YtkoppdhmbhgnfaaDiskDo
import Derived.Test.YtkoppdhmbhgnfaaAlive04
import Derived.Test.YtkoppdhmbhgnfaaDiskBytes
import Derived.Test.YtkoppdhmbhgnfaaLift
import Derived.Test.YtkoppdhmbhgnfaaHeld
import Derived.Test.YtkoppdhmbhgnfaaDiskActs0
namespace Go.Proofs.Ytkoppdhmbhgnfaa
open Go.ChangeShapes Go.WideShapes Go.ChangeAt Go.RowKit

/-- Both disks, at one state. -/
def Both (w0 w : World) (g r : Nat) (s : DkS) : Prop := ∃ col, Cols w0 w col ∧ Dk (Fp.of col 1) w g s ∧ Rk (Fp.of col 2) w r s

section
variable {w0 w w' : World} {g r : Nat} {s : DkS}
theorem Both.ext (h : Both w0 w g r s) (hx : Ext w w') : Both w0 w' g r s := by
  obtain ⟨col, C, d, k⟩ := h
  exact ⟨col, C.stepN hx, d.ext hx, k.ext hx⟩
theorem Both.ext0 (h : Both w0 w g r s) : Ext w0 w := by
  obtain ⟨col, C, d, k⟩ := h
  exact C.ext
theorem Both.lens (h : Both w0 w g r s) : 1 ≤ s.1.length ∧ s.1.length ≤ 65536 := by
  obtain ⟨col, C, d, k⟩ := h
  exact ⟨d.lens.1, d.lens.2.1⟩
theorem Both.do_ (h : Both w0 w g r s) (x : ActS) (v : Value) (hr : Rd w0 v (x.2.2.map B)) (h0 : -9223372036854775808 ≤ x.2.1) (h1 : x.2.1 ≤ 9223372036854775807) (hw : s.2.1.length ≤ 1000000000) (hn0 : 0 ≤ s.2.2) (hn1 : s.2.2 ≤ 1000000000) :
    Calls Try.prog 18 #[.pointer (some ⟨g, 0, none⟩), .pointer (some ⟨r, 0, none⟩), .agg #[.int .i64 x.1, .int .i64 x.2.1, v]] w fun e w' => e = .returned (.bool true) ∧ Both w0 w' g r (acD s x) := by
  have hb := h.lens.2
  obtain ⟨col, C, d, k⟩ := h
  exact do_any w0 w col g r s x v C d k hr h0 h1 hb hw hn0 hn1
/-- What is read of the one, and of the other. -/
theorem Both.bytes (h : Both w0 w g r s) {N : Nat} (hN : s.1.length = N) (hw : s.2.1.length ≤ 1000000000) :
    Calls Try.prog 13 #[.pointer (some ⟨g, 0, none⟩)] w fun e w' => ∃ A c, e = .returned (.slice A N c) ∧ Rd w' (.slice A N c) ((rdD s).map B) ∧ Both w0 w' g r s ∧ Ext w w' := by
  have hb := h
  obtain ⟨col, C, d, k⟩ := h
  refine (DkBytes _ g s w d hw).mono ?_
  rintro e w' ⟨v', rfl, hg⟩
  have hr := Rd.own hg.own
  obtain ⟨A, c, rfl, _, _⟩ := hr.sliceN (n := N) (by rw [List.length_map, rdD_len, hN])
  exact ⟨A, c, rfl, hr, hb.ext hg.ext, hg.ext⟩
theorem Both.bytesR (h : Both w0 w g r s) {N : Nat} (hN : s.1.length = N) (hw : s.2.1.length ≤ 1000000000) :
    Calls Try.prog 20 #[.pointer (some ⟨r, 0, none⟩)] w fun e w' => ∃ A c, e = .returned (.slice A N c) ∧ Rd w' (.slice A N c) ((rdD s).map B) ∧ Both w0 w' g r s ∧ Ext w w' := by
  have hb := h
  have hl := h.lens.2
  obtain ⟨col, C, d, k⟩ := h
  refine (RkBytes _ r s w k hl hw).mono ?_
  rintro e w' ⟨v', rfl, hg⟩
  have hr := Rd.own hg.own
  obtain ⟨A, c, rfl, _, _⟩ := hr.sliceN (n := N) (by rw [List.length_map, rdD_len, hN])
  exact ⟨A, c, rfl, hr, hb.ext hg.ext, hg.ext⟩
theorem Both.waits (h : Both w0 w g r s) (hw : s.2.1.length ≤ 1000000000) :
    Calls Try.prog 15 #[.pointer (some ⟨g, 0, none⟩)] w fun e w' => e = .returned (.int .i64 (s.2.1.length : Int)) ∧ Both w0 w' g r s ∧ Ext w w' := by
  have hb := h
  obtain ⟨col, C, d, k⟩ := h
  exact (DkWaits _ g s w d hw).mono fun e w' ⟨he, hx⟩ => ⟨he, hb.ext hx, hx⟩
theorem Both.syncs (h : Both w0 w g r s) (hn0 : 0 ≤ s.2.2) (hn1 : s.2.2 ≤ 1000000000) :
    Calls Try.prog 16 #[.pointer (some ⟨g, 0, none⟩)] w fun e w' => e = .returned (.int .i64 s.2.2) ∧ Both w0 w' g r s ∧ Ext w w' := by
  have hb := h
  obtain ⟨col, C, d, k⟩ := h
  exact (DkSyncs _ g s w d hn0 hn1).mono fun e w' ⟨he, hx⟩ => ⟨he, hb.ext hx, hx⟩
theorem Both.size (h : Both w0 w g r s) {N : Nat} (hN : s.1.length = N) :
    Calls Try.prog 14 #[.pointer (some ⟨g, 0, none⟩)] w fun e w' => e = .returned (.int .i64 (N : Int)) ∧ Both w0 w' g r s ∧ Ext w w' := by
  have hb := h
  obtain ⟨col, C, d, k⟩ := h
  subst hN
  exact (DkSize _ g s w d).mono fun e w' ⟨he, hx⟩ => ⟨he, hb.ext hx, hx⟩
/-- The reference's fields. -/
theorem Both.ltR (h : Both w0 w g r s) : r < w.heap.size := by
  obtain ⟨col, C, d, k⟩ := h
  exact k.cells.1
theorem Both.cells (h : Both w0 w g r s) : ∃ A c, w.cell? ⟨r, 1, none⟩ = some (.slice A s.2.1.length c) ∧ w.cell? ⟨r, 3, none⟩ = some (.int .i64 s.2.2) := by
  obtain ⟨col, C, d, k⟩ := h
  obtain ⟨_, ⟨A, c, h1, _⟩, h3⟩ := k.cells
  exact ⟨A, c, h1, h3⟩
end

/-- The state behind the first k acts. -/
def stK (s : DkS) (l : List ActS) (k : Nat) : DkS := (l.take k).foldl acD s
theorem stK_succ {s : DkS} {l : List ActS} {k : Nat} (h : k < l.length) : stK s l (k + 1) = acD (stK s l k) l[k] := by
  rw [stK, List.take_succ_eq_append_getElem h, List.foldl_append]
  rfl
theorem stK_len (s : DkS) (l : List ActS) (k : Nat) : (stK s l k).1.length = s.1.length := by
  rw [stK]
  induction l.take k generalizing s with
  | nil => rfl
  | cons x r ih => rw [List.foldl_cons, ih, acD_len]
theorem stK_waits (s : DkS) (l : List ActS) (hl : ∀ x ∈ l, x.2.2.length ≤ 300) : ∀ k, k ≤ l.length → (stK s l k).2.1.length ≤ s.2.1.length + 300 * k
  | 0, _ => by simp [stK]
  | k + 1, h => by
    rw [stK_succ (by omega)]
    have h1 := acD_waits (stK s l k) l[k]
    have h2 := stK_waits s l hl k (by omega)
    have h3 := hl l[k] (List.getElem_mem (by omega))
    omega
theorem stK_n (s : DkS) (l : List ActS) : ∀ k, k ≤ l.length → s.2.2 ≤ (stK s l k).2.2 ∧ (stK s l k).2.2 ≤ s.2.2 + k
  | 0, _ => by simp [stK]
  | k + 1, h => by
    rw [stK_succ (by omega)]
    have h1 := acD_n (stK s l k) l[k]
    have h2 := stK_n s l k (by omega)
    omega

set_option maxRecDepth 100000 in
set_option maxHeartbeats 4000000 in
theorem DiskActs_main (n : Nat) (l : List ActS) (v : Value) (w : World) (hr : RdActs w v l) (hn1 : 1 ≤ n) (hn2 : n ≤ 300) (hf : fewB l = true) :
    Calls Try.prog 3 #[.int .i64 (n : Int), v] w fun e w' => e = .returned (.bool true) ∧ Ext w w' := by
  obtain ⟨A, c, rfl, hlc, hcm⟩ := hr.slice_
  have hall := few_all hf
  have HF := Lib.hid hf
  have HALL := Lib.hid hall
  have hl60 := hall.1
  clear hf hall
  go_enter Try.func3, Try.ntmps3
  go_wp2_with fail
  refine (alive_any _).mono ?_
  rintro e w1 ⟨rfl, hx1⟩
  go_wp2_with fail
  refine (few_any l _ _ (hr.ext hx1)).mono ?_
  rintro e w1' ⟨rfl, rfl⟩
  rw [HF.out]
  go_wp2_with fail
  refine (DkNewC (Cols.first w1) (i := 1) (by decide) n hn1 (by omega)).mono ?_
  rintro e w2 ⟨g, rfl, ⟨C2, d2, -⟩, hx2⟩
  generalize Cols.next _ w1 w2 1 = col2 at *
  go_wp2_with fail
  refine (RkNewC C2 (i := 2) (by decide) n (by omega)).mono ?_
  rintro e w3 ⟨r, rfl, ⟨C3, k3, hc3⟩, hx3⟩
  have d3 := Cols.keep (X := fun F w => Dk F w g _) (i := 2) (j := 1) Dk.chgC Dk.monoC C2 (by decide) (by decide) (by decide) hc3 d2
  have hB : Both w1 w3 g r (List.replicate n 0, [], 0) := ⟨_, C3, d3, k3⟩
  clear C2 d2 C3 d3 k3 hc3 hx3 hx2
  go_wp2
  go_loopw [7] (fun i wr => ∃ k : Nat, i = .int .i64 k ∧ k ≤ l.length ∧ Both w1 wr g r (stK (List.replicate n 0, [], 0) l k)) (fun i _ => l.length - (intOf i).toNat)
  case atStart => exact ⟨0, rfl, Nat.zero_le _, hB⟩
  case round =>
    obtain ⟨k, rfl, hk, hB⟩ := hrel
    by_cases hlt : k < l.length
    · obtain ⟨b, o, rfl, hb, hc⟩ := (hr.ext hx1).get (by omega)
      obtain ⟨e1, e2, b1, b2, u, e3, hu⟩ := hc k l[k] (List.getElem?_eq_getElem hlt)
      rw [← Nat.add_assoc] at e2 e3
      have hxe := hB.ext0
      have hm : ∀ w', Ext w1 w' → w'.cell? ⟨b, o + k * 3, none⟩ = some (I l[k].1) ∧ w'.cell? ⟨b, o + k * 3 + 1, none⟩ = some (I l[k].2.1) ∧ w'.cell? ⟨b, o + k * 3 + 2, none⟩ = some u := fun w' hx => ⟨hx.cellOf e1 hb, hx.cellOf e2 hb, hx.cellOf e3 hb⟩
      replace e1 := hxe.cellOf e1 hb
      replace e2 := hxe.cellOf e2 hb
      replace e3 := hxe.cellOf e3 hb
      have hw := stK_waits (List.replicate n 0, [], 0) l HALL.out.2 (k + 1) hlt
      have hw0 := stK_waits (List.replicate n 0, [], 0) l HALL.out.2 k hk
      have hnn := stK_n (List.replicate n 0, [], 0) l (k + 1) hlt
      have hnn0 := stK_n (List.replicate n 0, [], 0) l k hk
      have hsl := stK_len (List.replicate n 0, [], 0) l (k + 1)
      rw [stK_succ hlt] at hw hnn hsl
      have hst := stK_succ (s := (List.replicate n 0, [], 0)) hlt
      simp only [List.length_nil, List.length_replicate] at hw hw0 hnn hnn0 hsl
      generalize hs' : stK (List.replicate n 0, [], 0) l (k + 1) = s' at *
      have HSS := Lib.hid hs'
      clear hs'
      generalize stK (List.replicate n 0, [], 0) l k = s at *
      generalize l[k] = x at *
      obtain ⟨A2, c2, rfl, _, _⟩ := hu.sliceN (List.length_map _)
      have hdo := (hB.ext (Ext.drew1 wr)).do_ x _ hu b2.1 b2.2 (by omega) (by omega) (by omega)
      rw [← hst] at hdo hw hnn hsl
      have HDO := Lib.hid hdo
      have HM := Lib.hid hm
      clear hdo hst hu hxe hc hB hm
      have hwb : s'.2.1.length ≤ 1000000000 := by omega
      have hn0b : 0 ≤ s'.2.2 := by omega
      have hn1b : s'.2.2 ≤ 1000000000 := by omega
      have HSL := Lib.hid hsl
      clear hsl hw hw0 hnn hnn0 b1 b2
      go_wp2_with fail
      refine held_begin (by kernel_rfl) ?_
      have hHeld0 : True := True.intro
      refine held_take (i := 0) (v := ?_) rfl (by kernel_rfl) (by kernel_rfl) (by kernel_rfl) (by rfl) (by first | assumption | exact True.intro) ?_ ?_
      rotate_left
      · (intro w hSw; (try dsimp only at hSw); go_simp; (try with_reducible rfl))
      try simp only [Act.put, List.setIfInBounds_toArray, List.set_cons_zero, List.set_cons_succ]
      refine held_take (i := 1) (v := ?_) rfl (by kernel_rfl) (by kernel_rfl) (by kernel_rfl) (by rfl) (by first | assumption | exact True.intro) ?_ ?_
      rotate_left
      · (intro w hSw; (try dsimp only at hSw); go_simp; (try with_reducible rfl))
      try simp only [Act.put, List.setIfInBounds_toArray, List.set_cons_zero, List.set_cons_succ]
      refine held_take (i := 2) (v := ?_) rfl (by kernel_rfl) (by kernel_rfl) (by kernel_rfl) (by rfl) (by first | assumption | exact True.intro) ?_ ?_
      rotate_left
      · (intro w hSw; (try dsimp only at hSw); go_simp; (try with_reducible rfl))
      try simp only [Act.put, List.setIfInBounds_toArray, List.set_cons_zero, List.set_cons_succ]
      refine held_take (i := 3) (v := ?_) rfl (by kernel_rfl) (by kernel_rfl) (by kernel_rfl) (by rfl) (by first | assumption | exact True.intro) ?_ ?_
      rotate_left
      · (intro w hSw; (try dsimp only at hSw); go_simp; (try with_reducible rfl))
      try simp only [Act.put, List.setIfInBounds_toArray, List.set_cons_zero, List.set_cons_succ]
      refine held_take (i := 4) (v := ?_) rfl (by kernel_rfl) (by kernel_rfl) (by kernel_rfl) (by rfl) (by first | assumption | exact True.intro) ?_ ?_
      rotate_left
      · (intro w hSw; (try dsimp only at hSw); go_simp; (try with_reducible rfl))
      try simp only [Act.put, List.setIfInBounds_toArray, List.set_cons_zero, List.set_cons_succ]
      refine held_op (i := 5) (by kernel_rfl) rfl (fun K hK => ?_)
      go_simp
      refine hK _ _ ?_ (fun hHeld1 => ?_)
      · exact True.intro
      clear hK K hHeld0
      try simp only [Act.put, List.setIfInBounds_toArray, List.set_cons_zero, List.set_cons_succ]
      refine held_op (i := 6) (by kernel_rfl) rfl (fun K hK => ?_)
      go_simp
      go_at_call 18
      (with_reducible refine (HDO.out).mono ?_)
      rintro e w4 ⟨rfl, B4⟩
      refine hK _ _ ?_ (fun hHeld2 => ?_)
      · exact True.intro
      clear hK K hHeld1
      try simp only [Act.put, List.setIfInBounds_toArray, List.set_cons_zero, List.set_cons_succ]
      refine held_take (i := 7) (v := ?_) rfl (by kernel_rfl) (by kernel_rfl) (by kernel_rfl) (by rfl) (by first | assumption | exact True.intro) ?_ ?_
      rotate_left
      · (intro w hSw; (try dsimp only at hSw); go_simp; (try with_reducible rfl))
      try simp only [Act.put, List.setIfInBounds_toArray, List.set_cons_zero, List.set_cons_succ]
      refine held_take (i := 8) (v := ?_) rfl (by kernel_rfl) (by kernel_rfl) (by kernel_rfl) (by rfl) (by first | assumption | exact True.intro) ?_ ?_
      rotate_left
      · (intro w hSw; (try dsimp only at hSw); go_simp; (try with_reducible rfl))
      try simp only [Act.put, List.setIfInBounds_toArray, List.set_cons_zero, List.set_cons_succ]
      refine held_take (i := 9) (v := ?_) rfl (by kernel_rfl) (by kernel_rfl) (by kernel_rfl) (by rfl) (by first | assumption | exact True.intro) ?_ ?_
      rotate_left
      · (intro w hSw; (try dsimp only at hSw); go_simp; (try with_reducible rfl))
      try simp only [Act.put, List.setIfInBounds_toArray, List.set_cons_zero, List.set_cons_succ]
      refine held_take (i := 11) (v := ?_) rfl (by kernel_rfl) (by kernel_rfl) (by kernel_rfl) (by rfl) (by first | assumption | exact True.intro) ?_ ?_
      rotate_left
      · (intro w hSw; (try dsimp only at hSw); go_simp; (try with_reducible rfl))
      try simp only [Act.put, List.setIfInBounds_toArray, List.set_cons_zero, List.set_cons_succ]
      refine held_op (i := 10) (by kernel_rfl) rfl (fun K hK => ?_)
      go_simp
      go_at_call 13
      (with_reducible refine (B4.bytes HSL.out hwb).mono ?_)
      rintro e w5 ⟨A5, c5, rfl, R5, B5, -⟩
      refine hK _ _ ?_ (fun hHeld3 => ?_)
      · exact True.intro
      clear hK K hHeld2
      try simp only [Act.put, List.setIfInBounds_toArray, List.set_cons_zero, List.set_cons_succ]
      refine held_op (i := 12) (by kernel_rfl) rfl (fun K hK => ?_)
      go_simp
      go_at_call 20
      (with_reducible refine (B5.bytesR HSL.out hwb).mono ?_)
      rintro e w6 ⟨A6, c6, rfl, R6, B6, X6⟩
      refine hK _ _ ?_ (fun hHeld4 => ?_)
      · exact True.intro
      clear hK K hHeld3
      try simp only [Act.put, List.setIfInBounds_toArray, List.set_cons_zero, List.set_cons_succ]
      refine held_op (i := 13) (by kernel_rfl) rfl (fun K hK => ?_)
      go_simp
      go_at_call 19
      (with_reducible refine (Bytes_same (rdD s') _ _ _ (R5.ext X6) R6).mono ?_)
      rintro e w7 ⟨rfl, n7, hw7⟩
      have B7 := B6.ext (Below.drewN' (Ext.refl w6) n7)
      rw [← hw7] at B7
      obtain ⟨A7, c7, Q7⟩ := B7.cells
      clear hw7
      refine hK _ _ ?_ (fun hHeld5 => ?_)
      · exact True.intro
      clear hK K hHeld4
      try simp only [Act.put, List.setIfInBounds_toArray, List.set_cons_zero, List.set_cons_succ]
      refine held_more (S' := fun w' : World => w'.cell? ⟨r, 1, none⟩ = some (.slice A7 s'.2.1.length c7) ∧ w'.cell? ⟨r, 3, none⟩ = some (.int .i64 s'.2.2)) (fun _ _ => trivial) ?_
      have hHeld6 : (fun w' : World => w'.cell? ⟨r, 1, none⟩ = some (.slice A7 s'.2.1.length c7) ∧ w'.cell? ⟨r, 3, none⟩ = some (.int .i64 s'.2.2)) _ := Q7
      clear hHeld5
      refine held_take (i := 14) (v := ?_) rfl (by kernel_rfl) (by kernel_rfl) (by kernel_rfl) (by rfl) (by first | assumption | exact True.intro) ?_ ?_
      rotate_left
      · (intro w hSw; (try dsimp only at hSw); go_simp; (try with_reducible rfl))
      try simp only [Act.put, List.setIfInBounds_toArray, List.set_cons_zero, List.set_cons_succ]
      refine held_take (i := 15) (v := ?_) rfl (by kernel_rfl) (by kernel_rfl) (by kernel_rfl) (by rfl) (by first | assumption | exact True.intro) ?_ ?_
      rotate_left
      · (intro w hSw; (try dsimp only at hSw); go_simp; (try with_reducible rfl))
      try simp only [Act.put, List.setIfInBounds_toArray, List.set_cons_zero, List.set_cons_succ]
      refine held_take (i := 16) (v := ?_) rfl (by kernel_rfl) (by kernel_rfl) (by kernel_rfl) (by rfl) (by first | assumption | exact True.intro) ?_ ?_
      rotate_left
      · (intro w hSw; (try dsimp only at hSw); go_simp; (try with_reducible rfl))
      try simp only [Act.put, List.setIfInBounds_toArray, List.set_cons_zero, List.set_cons_succ]
      refine held_take (i := 17) (v := ?_) rfl (by kernel_rfl) (by kernel_rfl) (by kernel_rfl) (by rfl) (by first | assumption | exact True.intro) ?_ ?_
      rotate_left
      · (intro w hSw; (try dsimp only at hSw); go_simp; (try with_reducible rfl))
      try simp only [Act.put, List.setIfInBounds_toArray, List.set_cons_zero, List.set_cons_succ]
      refine held_take (i := 19) (v := ?_) rfl (by kernel_rfl) (by kernel_rfl) (by kernel_rfl) (by rfl) (by first | assumption | exact True.intro) ?_ ?_
      rotate_left
      · (intro w hSw; (try dsimp only at hSw); go_simp; (try with_reducible rfl))
      try simp only [Act.put, List.setIfInBounds_toArray, List.set_cons_zero, List.set_cons_succ]
      refine held_take (i := 20) (v := ?_) rfl (by kernel_rfl) (by kernel_rfl) (by kernel_rfl) (by rfl) (by first | assumption | exact True.intro) ?_ ?_
      rotate_left
      · (intro w hSw; (try dsimp only at hSw); go_simp; (try with_reducible rfl))
      try simp only [Act.put, List.setIfInBounds_toArray, List.set_cons_zero, List.set_cons_succ]
      refine held_take (i := 21) (v := ?_) rfl (by kernel_rfl) (by kernel_rfl) (by kernel_rfl) (by rfl) (by first | assumption | exact True.intro) ?_ ?_
      rotate_left
      · (intro w hSw; (try dsimp only at hSw); go_simp; (try with_reducible rfl))
      try simp only [Act.put, List.setIfInBounds_toArray, List.set_cons_zero, List.set_cons_succ]
      refine held_take (i := 22) (v := ?_) rfl (by kernel_rfl) (by kernel_rfl) (by kernel_rfl) (by rfl) (by first | assumption | exact True.intro) ?_ ?_
      rotate_left
      · (intro w hSw; (try dsimp only at hSw); go_simp; (try with_reducible rfl))
      try simp only [Act.put, List.setIfInBounds_toArray, List.set_cons_zero, List.set_cons_succ]
      refine held_take (i := 23) (v := ?_) rfl (by kernel_rfl) (by kernel_rfl) (by kernel_rfl) (by rfl) (by first | assumption | exact True.intro) ?_ ?_
      rotate_left
      · (intro w hSw; (try dsimp only at hSw); go_simp; (try with_reducible rfl))
      try simp only [Act.put, List.setIfInBounds_toArray, List.set_cons_zero, List.set_cons_succ]
      refine held_op (i := 18) (by kernel_rfl) rfl (fun K hK => ?_)
      go_simp
      go_at_call 15
      (with_reducible refine (B7.waits hwb).mono ?_)
      rintro e w8 ⟨rfl, B8, X8⟩
      refine hK _ _ ?_ (fun hHeld7 => ?_)
      · exact ⟨X8.cellOf Q7.1 (Both.ltR B7), X8.cellOf Q7.2 (Both.ltR B7)⟩
      clear hK K hHeld6
      try simp only [Act.put, List.setIfInBounds_toArray, List.set_cons_zero, List.set_cons_succ]
      refine held_take (i := 24) (v := ?_) rfl (by kernel_rfl) (by kernel_rfl) (by kernel_rfl) (by rfl) (by first | assumption | exact True.intro) ?_ ?_
      rotate_left
      · (intro w hSw; (try dsimp only at hSw); go_simp; (try with_reducible rfl))
      try simp only [Act.put, List.setIfInBounds_toArray, List.set_cons_zero, List.set_cons_succ]
      refine held_take (i := 25) (v := ?_) rfl (by kernel_rfl) (by kernel_rfl) (by kernel_rfl) (by rfl) (by first | assumption | exact True.intro) ?_ ?_
      rotate_left
      · (intro w hSw; (try dsimp only at hSw); go_simp; (try with_reducible rfl))
      try simp only [Act.put, List.setIfInBounds_toArray, List.set_cons_zero, List.set_cons_succ]
      refine held_take (i := 26) (v := ?_) rfl (by kernel_rfl) (by kernel_rfl) (by kernel_rfl) (by rfl) (by first | assumption | exact True.intro) ?_ ?_
      rotate_left
      · (intro w hSw; (try dsimp only at hSw); go_simp; (try with_reducible rfl))
      try simp only [Act.put, List.setIfInBounds_toArray, List.set_cons_zero, List.set_cons_succ]
      refine held_take (i := 27) (v := ?_) rfl (by kernel_rfl) (by kernel_rfl) (by kernel_rfl) (by rfl) (by first | assumption | exact True.intro) ?_ ?_
      rotate_left
      · (intro w hSw; (try dsimp only at hSw); go_simp; (try with_reducible rfl))
      try simp only [Act.put, List.setIfInBounds_toArray, List.set_cons_zero, List.set_cons_succ]
      refine held_take (i := 29) (v := ?_) rfl (by kernel_rfl) (by kernel_rfl) (by kernel_rfl) (by rfl) (by first | assumption | exact True.intro) ?_ ?_
      rotate_left
      · (intro w hSw; (try dsimp only at hSw); go_simp; (try with_reducible rfl))
      try simp only [Act.put, List.setIfInBounds_toArray, List.set_cons_zero, List.set_cons_succ]
      refine held_take (i := 30) (v := ?_) rfl (by kernel_rfl) (by kernel_rfl) (by kernel_rfl) (by rfl) (by first | assumption | exact True.intro) ?_ ?_
      rotate_left
      · (intro w hSw; (try dsimp only at hSw); go_simp; (try with_reducible rfl))
      try simp only [Act.put, List.setIfInBounds_toArray, List.set_cons_zero, List.set_cons_succ]
      refine held_take (i := 31) (v := ?_) rfl (by kernel_rfl) (by kernel_rfl) (by kernel_rfl) (by rfl) (by first | assumption | exact True.intro) ?_ ?_
      rotate_left
      · (intro w hSw; (try dsimp only at hSw); go_simp; (try with_reducible rfl))
      try simp only [Act.put, List.setIfInBounds_toArray, List.set_cons_zero, List.set_cons_succ]
      refine held_take (i := 32) (v := ?_) rfl (by kernel_rfl) (by kernel_rfl) (by kernel_rfl) (by rfl) (by first | assumption | exact True.intro) ?_ ?_
      rotate_left
      · (intro w hSw; (try dsimp only at hSw); go_simp; (try with_reducible rfl))
      try simp only [Act.put, List.setIfInBounds_toArray, List.set_cons_zero, List.set_cons_succ]
      refine held_op (i := 28) (by kernel_rfl) rfl (fun K hK => ?_)
      go_simp
      go_at_call 16
      (with_reducible refine (B8.syncs hn0b hn1b).mono ?_)
      rintro e w9 ⟨rfl, B9, X9⟩
      refine hK _ _ ?_ (fun hHeld8 => ?_)
      · exact ⟨(Ext.trans X8 X9).cellOf Q7.1 (Both.ltR B7), (Ext.trans X8 X9).cellOf Q7.2 (Both.ltR B7)⟩
      clear hK K hHeld7
      try simp only [Act.put, List.setIfInBounds_toArray, List.set_cons_zero, List.set_cons_succ]
      refine held_take (i := 33) (v := ?_) rfl (by kernel_rfl) (by kernel_rfl) (by kernel_rfl) (by rfl) (by first | assumption | exact True.intro) ?_ ?_
      rotate_left
      · (intro w hSw; (try dsimp only at hSw); go_simp; (try with_reducible rfl))
      try simp only [Act.put, List.setIfInBounds_toArray, List.set_cons_zero, List.set_cons_succ]
      refine held_take (i := 34) (v := ?_) rfl (by kernel_rfl) (by kernel_rfl) (by kernel_rfl) (by rfl) (by first | assumption | exact True.intro) ?_ ?_
      rotate_left
      · (intro w hSw; (try dsimp only at hSw); go_simp; (try with_reducible rfl))
      try simp only [Act.put, List.setIfInBounds_toArray, List.set_cons_zero, List.set_cons_succ]
      refine held_take (i := 35) (v := ?_) rfl (by kernel_rfl) (by kernel_rfl) (by kernel_rfl) (by rfl) (by first | assumption | exact True.intro) ?_ ?_
      rotate_left
      · (intro w hSw; (try dsimp only at hSw); go_simp; (try with_reducible rfl))
      try simp only [Act.put, List.setIfInBounds_toArray, List.set_cons_zero, List.set_cons_succ]
      refine held_take (i := 36) (v := ?_) rfl (by kernel_rfl) (by kernel_rfl) (by kernel_rfl) (by rfl) (by first | assumption | exact True.intro) ?_ ?_
      rotate_left
      · (intro w hSw; (try dsimp only at hSw); go_simp; (try with_reducible rfl))
      try simp only [Act.put, List.setIfInBounds_toArray, List.set_cons_zero, List.set_cons_succ]
      refine held_take (i := 38) (v := ?_) rfl (by kernel_rfl) (by kernel_rfl) (by kernel_rfl) (by rfl) (by first | assumption | exact True.intro) ?_ ?_
      rotate_left
      · (intro w hSw; (try dsimp only at hSw); go_simp; (try with_reducible rfl))
      try simp only [Act.put, List.setIfInBounds_toArray, List.set_cons_zero, List.set_cons_succ]
      refine held_op (i := 37) (by kernel_rfl) rfl (fun K hK => ?_)
      go_simp
      go_at_call 14
      (with_reducible refine (B9.size HSL.out).mono ?_)
      rintro e w10 ⟨rfl, B10, X10⟩
      refine hK _ _ ?_ (fun hHeld9 => ?_)
      · exact ⟨(Ext.trans X8 (Ext.trans X9 X10)).cellOf Q7.1 (Both.ltR B7), (Ext.trans X8 (Ext.trans X9 X10)).cellOf Q7.2 (Both.ltR B7)⟩
      clear hK K hHeld8
      try simp only [Act.put, List.setIfInBounds_toArray, List.set_cons_zero, List.set_cons_succ]
      refine held_take (i := 39) (v := ?_) rfl (by kernel_rfl) (by kernel_rfl) (by kernel_rfl) (by rfl) (by first | assumption | exact True.intro) ?_ ?_
      rotate_left
      · (intro w hSw; (try dsimp only at hSw); go_simp; (try with_reducible rfl))
      try simp only [Act.put, List.setIfInBounds_toArray, List.set_cons_zero, List.set_cons_succ]
      refine held_take (i := 40) (v := ?_) rfl (by kernel_rfl) (by kernel_rfl) (by kernel_rfl) (by rfl) (by first | assumption | exact True.intro) ?_ ?_
      rotate_left
      · (intro w hSw; (try dsimp only at hSw); go_simp; (try with_reducible rfl))
      try simp only [Act.put, List.setIfInBounds_toArray, List.set_cons_zero, List.set_cons_succ]
      refine wpAnyH_done (by kernel_rfl) ?_ _
      refine NoPanic.normal ?_
      clear hHeld9
      have HB := Lib.hid B10
      clear B4 B5 B6 B7 B8 B9 B10 R5 R6 X6 X8 X9 X10 Q7 HDO HM e1 e2 e3
      go_wp2
      go_roundw
      case rel => exact ⟨k + 1, by go_num, by omega, by rw [HSS.out]; exact HB.out⟩
      case measure => simp [intOf]; omega
    · obtain rfl : k = l.length := by omega
      have hx := Below.trans hx1 (hB.ext0.mono hx1.size)
      have HX := Lib.hid hx
      clear hB hx
      go_wp2
      go_ret
      exact ⟨rfl, HX.out⟩

theorem DiskActs_calls (n : Int) (l : List ActS) (v : Value) (w : World) (hr : RdActs w v l) :
    Calls Try.prog 3 #[.int .i64 n, v] w fun e w' => e = .returned (.bool true) ∧ Ext w w' := by
  by_cases h : 300 < n ∧ n ≤ 65536
  · exact DiskActs_out n l v w hr (.inl h)
  · cases hf : fewB l with
    | false => exact DiskActs_out n l v w hr (.inr ⟨h, hf⟩)
    | true =>
      by_cases h1 : 1 ≤ n ∧ n ≤ 300
      · obtain ⟨k, rfl⟩ : ∃ k : Nat, n = k := ⟨n.toNat, by omega⟩
        exact DiskActs_main k l v w hr (by omega) (by omega) hf
      · exact DiskActs_no n l v w hr (by omega) hf

set_option maxRecDepth 100000 in
theorem DiskActs_lifted (os : Os) (started : os.Started) (H : Type) (enc : TypeId × Value → H) :
    ReturnsInHanded {} Try.checked os 3 .any (Rows.diskActsSpec.pre6 enc Try.prog Try.f3 Rows.diskActsRow.domain false) (Rows.diskActsSpec.post enc Try.prog Try.f3 false true false false) := by
  refine law_lift (C := Try.checked) (tb := 4) Try.ownKnob started (by kernel_rfl) Try.func3 Try.laidOut (by kernel_rfl) rfl Try.underlying4 rfl rfl ?_
    (ChangeSpec.witness6 (enc := enc) (C := Try.checked) false ⟨#[], #[.int .i64 0, .slice none 0 0], []⟩ 8 (by kernel_rfl) (by kernel_rfl) (by kernel_rfl) (by kernel_rfl)) ?_
  · intro ds hd
    rw [Try.params3] at hd
    match ds, hd with
    | [d0, d1], _ => rfl
  · intro W base args ds p hval hA hsz
    rw [Try.params3] at hA hval hsz
    obtain ⟨v0, vs0, d0, ds0, p0, q0, hargs, rfl, rfl, h0, r0_⟩ := trodAll_cons hA
    obtain ⟨v1, vs1, d1, ds1, p1, q1, rfl, rfl, rfl, h1, r1_⟩ := trodAll_cons r0_
    obtain ⟨rfl, rfl, rfl⟩ := trodAll_nil r1_
    obtain rfl : args = #[v0, v1] := by cases args; simp_all
    obtain ⟨a0, rfl, lo0, hi0⟩ := dec_int Try.underlying3 (hval 0 3 v0 rfl rfl) h0
    obtain ⟨a1, r1⟩ := dec_acts Try.underlying22 Try.underlying37 (by kernel_rfl) (by kernel_rfl) rfl rfl rfl rfl Try.underlying3 Try.underlying3 Try.underlying30 Try.underlying5 (by kernel_rfl) (hval 1 22 v1 rfl rfl) h1
    exact DiskActs_calls a0 a1 _ W r1

theorem DiskActs_holds : Rows.DiskActsSaid :=
  OpenClaim.holds_of_wide 3 Try.f3 rfl rfl rfl rfl rfl rfl rfl ⟨rfl, rfl, rfl, rfl, rfl⟩ rfl rfl rfl rfl rfl (by kernel_rfl) Try.func3 (by kernel_rfl)
    (of_decide_eq_true (by kernel_rfl)) (by unfold Func.isWrapper; first | (rw [if_pos (by decide +kernel)]; kernel_rfl) | (rw [if_neg (by decide +kernel)]; exact ⟨rfl, rfl⟩))
    (fun os started H enc _ => DiskActs_lifted os started H enc)


end Go.Proofs.Ytkoppdhmbhgnfaa
