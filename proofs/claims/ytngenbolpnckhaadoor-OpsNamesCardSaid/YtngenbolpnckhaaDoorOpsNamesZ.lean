/- The law OpsNames (P8.3): no two kinds have one name, and a right op's words begin with its; for all kinds and ops, with the listed package-level variables as the program's text lays them. -/
import Derived.Test.YtngenbolpnckhaaDoorOpsNQ6
import Derived.Test.YtngenbolpnckhaaDoorCards
import Derived.Test.YtngenbolpnckhaaDoorTie
import Derived.SevenTiedAt
import Derived.Laws.Closers25b
import Derived.Deep.RegionHeld3
namespace Go.Proofs.YtngenbolpnckhaaDoor
open Go.ChangeShapes Go.WideShapes Go.ChangeAt Go.RowKit Go.PlainAid

theorem str_empty {l : List UInt8} : (strB l).toList.isEmpty = true ↔ l = [] := by
  rw [List.isEmpty_iff, toList_nil_iff_emptyBytes]
  constructor
  · intro h
    have h2 := congrArg (fun z => z.size) h
    simp only [strB_size] at h2
    exact List.length_eq_zero_iff.1 h2
  · intro h
    rw [h]
    rfl
theorem str_some {l : List UInt8} (h : l ≠ []) : (strB l).toList.isEmpty = false := by
  rw [Bool.eq_false_iff]
  exact fun e => h (str_empty.1 e)
theorem str_none {l : List UInt8} (h : l = []) : (strB l).toList.isEmpty = true := str_empty.2 h
theorem names_bound {k : Int} (h : 1 ≤ k ∧ k ≤ 21) : 0 < (nameK k).length ∧ (nameK k).length ≤ 8 := ⟨List.length_pos_iff.2 (nameK_ne h), names_8 _ (nameK_mem h)⟩

set_option maxRecDepth 100000 in
set_option maxHeartbeats 20000000 in
theorem OpsNames_calls (x y : Int) (o : OpN) (w : World) (hL : Laid w) :
    Calls Tryd.prog 6 #[.int .i64 x, .int .i64 y, opV o] w fun e w' => e = .returned (.bool true) ∧ Ext w w' := by
  have HLD := Lib.hid hL
  have KR := Lib.hid fun W h => Right_any o W h
  have KT := Lib.hid fun W h => Text_any o W h
  have HTX : Hid (rightO o = true → ∃ tl, textO o = nameK o.1 ++ wordsB tl) := Lib.hid fun h => ⟨argsO o, by rw [textO, if_pos h]⟩
  obtain ⟨k, a, b, c, d, e, f⟩ := o
  rw [show opV (k, a, b, c, d, e, f) = .agg #[.int .i64 k, .int .i64 a, .int .i64 b, .int .i64 c, .int .i64 d, .int .i64 e, .int .i64 f] from rfl] at KR KT ⊢
  have hE : Ext w (w.alloc (.cells #[.int .i64 k, .int .i64 a, .int .i64 b, .int .i64 c, .int .i64 d, .int .i64 e, .int .i64 f] 23)) := (Below.refl _ _).alloc (Nat.le_refl _) _
  have HBK := Lib.hid (Blk.new w 23 #[.int .i64 k, .int .i64 a, .int .i64 b, .int .i64 c, .int .i64 d, .int .i64 e, .int .i64 f])
  have HE := Lib.hid hE
  have HAL := Lib.hid (alive8_any _ (HLD.out.ext hE))
  -- names
  have hne : x ≠ y → nameK x = nameK y → nameK x = [] := fun hn he => by
    by_cases hx : 1 ≤ x ∧ x ≤ 21
    · by_cases hy : 1 ≤ y ∧ y ≤ 21
      · exact absurd (nameK_inj hx hy he) hn
      · rw [he, nameK_no hy]
    · exact nameK_no hx
  have HNE := Lib.hid hne
  have HNX : Hid ((1 ≤ x ∧ x ≤ 21 → nameK x ≠ []) ∧ (¬ (1 ≤ x ∧ x ≤ 21) → nameK x = [])) := Lib.hid ⟨fun h => nameK_ne h, fun h => nameK_no h⟩
  clear hE hL hne
  go_enter Tryd.func6, Tryd.ntmps6
  go_wp2_with fail
  refine HAL.out.mono ?_
  rintro e1 w2 ⟨rfl, hx2⟩
  have HB2 := Lib.hid (HBK.out.ext hx2)
  have HX2 := Lib.hid (HE.out.trans hx2)
  have KN : Hid (∀ n : Int, Calls Tryd.prog 18 #[.int .i64 n] w2 fun e w' => e = .returned (.string (strB (nameK n))) ∧ w2 = w') := Lib.hid fun n => Name_any n w2 (HLD.out.ext HX2.out)
  clear hx2 HBK HE HAL
  obtain ⟨q0, q1, q2, q3, q4, q5, q6⟩ := box_cells HB2.out
  by_cases hxy : x = y
  · subst hxy
    have K1 := Lib.hid (KN.out x)
    by_cases hx : 1 ≤ x ∧ x ≤ 21
    · have hie : (strB (nameK x)).toList.isEmpty = false := str_some (HNX.out.1 hx)
      have l1 : decide (x < 1) = false := decide_eq_false (by omega)
      have l2 : decide (21 < x) = false := decide_eq_false (by omega)
      clear hx
      generalize strB (nameK x) = nx at *
      skip
      go_wp2_with (first | (go_at_call 18; (with_reducible refine K1.out.mono ?_); rintro e9 w9 ⟨rfl, rfl⟩))
      clear K1 KN HNE HNX
      refine (KR.out _ (HLD.out.ext HX2.out)).mono ?_
      rintro e3 w3 ⟨rfl, hx3⟩
      have HX3 := Lib.hid (HX2.out.trans hx3)
      have HB3 := Lib.hid (HB2.out.ext hx3)
      clear hx3 HX2 HB2 KR q0 q1 q2 q3 q4 q5 q6
      cases hR : rightO (k, a, b, c, d, e, f) with
      | false =>
        go_wp2
        go_ret
        exact ⟨rfl, HX3.out⟩
      | true =>
        obtain ⟨tl, htx⟩ := HTX.out hR
        obtain ⟨hn1, hn2⟩ := names_bound (rightO_iff.1 hR).1
        have hk1 := (rightO_iff.1 hR).1
        rw [htx] at KT
        clear htx hR HTX
        obtain ⟨q0, q1, q2, q3, q4, q5, q6⟩ := box_cells HB3.out
        go_wp2_with fail
        refine (Name_any k w3 (HLD.out.ext HX3.out)).mono ?_
        rintro e4 w4 ⟨rfl, rfl⟩
        go_wp2_with fail
        refine (KT.out _ (HLD.out.ext HX3.out)).mono ?_
        rintro e5 w5 ⟨rfl, hx5⟩
        have HX5 := Lib.hid (HX3.out.trans hx5)
        have HB5 := Lib.hid (HB3.out.ext hx5)
        have HL5 := Lib.hid (HLD.out.ext HX5.out)
        have HC : Hid (∀ w', Ext w5 w' → (w'.cell? ⟨w.heap.size, 0, none⟩ = some (.int .i64 k) ∧ w'.cell? ⟨w.heap.size, 1, none⟩ = some (.int .i64 a) ∧ w'.cell? ⟨w.heap.size, 2, none⟩ = some (.int .i64 b) ∧ w'.cell? ⟨w.heap.size, 3, none⟩ = some (.int .i64 c) ∧ w'.cell? ⟨w.heap.size, 4, none⟩ = some (.int .i64 d) ∧ w'.cell? ⟨w.heap.size, 5, none⟩ = some (.int .i64 e) ∧ w'.cell? ⟨w.heap.size, 6, none⟩ = some (.int .i64 f))) := Lib.hid fun w' hy => box_cells (HB5.out.ext hy)
        have KN : Hid (∀ W, Ext w5 W → Calls Tryd.prog 18 #[.int .i64 k] W fun e w' => e = .returned (.string (strB (nameK k))) ∧ Ext w5 w') := Lib.hid fun W h => (Name_any k W (HL5.out.ext h)).mono (by rintro e w' ⟨rfl, rfl⟩; exact ⟨rfl, h⟩)
        clear hx5 HX3 HB3 KT q0 q1 q2 q3 q4 q5 q6 hk1
        obtain ⟨q0, q1, q2, q3, q4, q5, q6⟩ := box_cells HB5.out
        obtain ⟨n, hnm⟩ : ∃ n, (strB (nameK k)).size = n := ⟨_, rfl⟩
        obtain ⟨Ns, hsb⟩ : ∃ n, (strB (nameK k ++ wordsB tl)).size = n := ⟨_, rfl⟩
        have hn : (nameK k).length = n := by rw [← hnm, strB_size]
        have hs : Ns = n + (wordsB tl).length := by rw [← hsb, strB_size, List.length_append, hn]
        have hex : (strB (nameK k ++ wordsB tl)).extract 0 n = strB (nameK k) := by
          have := Lib.extract_from_zero (strB (nameK k ++ wordsB tl)) n
          rw [strB_list, ← hn, List.take_left] at this
          rw [← strB_back ((strB (nameK k ++ wordsB tl)).extract 0 n), ← hn, this]
        have hbl : Ns ≠ n → bt (strB (nameK k ++ wordsB tl)) n = 32 := fun h => by
          cases htl : wordsB tl with
          | nil =>
            rw [htl] at hs
            exact absurd hs h
          | cons c r =>
            have hc := wordsB_head htl
            have := bt_strB (nameK k ++ c :: r) (n := n) (c := 32) (by rw [← hn, List.getElem?_append_right (Nat.le_refl _), Nat.sub_self, hc]; rfl)
            rw [this]
            rfl
        have g1 : decide ((n : Int) ≤ (Ns : Int)) = true := decide_eq_true (by omega)
        have g1' : decide (n ≤ Ns) = true := decide_eq_true (by omega)
        have hle : n ≤ Ns := by omega
        have HHS := Lib.hid hs
        clear hn1 hn2 hs hn
        have hgb := get_bt (strB (nameK k ++ wordsB tl))
        generalize strB (nameK k ++ wordsB tl) = sb at *
        generalize strB (nameK k) = nm at *
        have ge : (nm.toList == nm.toList) = true := beq_self_eq_true _
        by_cases heq : Ns = n
        · subst heq
          clear hbl
          have g3 : ((Ns : Int) == (Ns : Int)) = true := beq_self_eq_true _
          have c5 := And.intro q0 q1
          go_wp2_with fail
          refine held_begin (by kernel_rfl) ?_
          have hHeld0 : True := True.intro
          refine held_more (S' := fun (w' : World) => w'.cell? ⟨w.heap.size, 0, none⟩ = some (.int .i64 k) ∧ w'.cell? ⟨w.heap.size, 1, none⟩ = some (.int .i64 a) ∧ w'.cell? ⟨w.heap.size, 2, none⟩ = some (.int .i64 b) ∧ w'.cell? ⟨w.heap.size, 3, none⟩ = some (.int .i64 c) ∧ w'.cell? ⟨w.heap.size, 4, none⟩ = some (.int .i64 d) ∧ w'.cell? ⟨w.heap.size, 5, none⟩ = some (.int .i64 e) ∧ w'.cell? ⟨w.heap.size, 6, none⟩ = some (.int .i64 f)) (fun _ _ => trivial) ?_
          have hHeld1 : (fun (w' : World) => w'.cell? ⟨w.heap.size, 0, none⟩ = some (.int .i64 k) ∧ w'.cell? ⟨w.heap.size, 1, none⟩ = some (.int .i64 a) ∧ w'.cell? ⟨w.heap.size, 2, none⟩ = some (.int .i64 b) ∧ w'.cell? ⟨w.heap.size, 3, none⟩ = some (.int .i64 c) ∧ w'.cell? ⟨w.heap.size, 4, none⟩ = some (.int .i64 d) ∧ w'.cell? ⟨w.heap.size, 5, none⟩ = some (.int .i64 e) ∧ w'.cell? ⟨w.heap.size, 6, none⟩ = some (.int .i64 f)) _ := (HC.out _ (ext_drew (Ext.refl w5)))
          clear hHeld0
          refine held_take (i := 0) (v := ?_) rfl (by kernel_rfl) (by kernel_rfl) (by kernel_rfl) (by rfl) (by first | assumption | exact True.intro) ?_ ?_
          rotate_left
          · (intro w hSw; (try dsimp only at hSw); go_simp; (try with_reducible rfl))
          try simp only [Act.put, List.setIfInBounds_toArray, List.set_cons_zero, List.set_cons_succ]
          refine held_take (i := 1) (v := ?_) rfl (by kernel_rfl) (by kernel_rfl) (by kernel_rfl) (by rfl) (by first | assumption | exact True.intro) ?_ ?_
          rotate_left
          · (intro w hSw; (try dsimp only at hSw); go_simp; (try with_reducible rfl))
          try simp only [Act.put, List.setIfInBounds_toArray, List.set_cons_zero, List.set_cons_succ]
          refine held_take (i := 2) (v := ?_) rfl (by kernel_rfl) (by kernel_rfl) (by kernel_rfl) (by rfl) (by first | assumption | exact True.intro) ?_ ?_
          rotate_left
          · (intro w hSw; (try dsimp only at hSw); go_simp; (try with_reducible rfl))
          try simp only [Act.put, List.setIfInBounds_toArray, List.set_cons_zero, List.set_cons_succ]
          refine held_take (i := 3) (v := ?_) rfl (by kernel_rfl) (by kernel_rfl) (by kernel_rfl) (by rfl) (by first | assumption | exact True.intro) ?_ ?_
          rotate_left
          · (intro w hSw; (try dsimp only at hSw); go_simp; (try with_reducible rfl))
          try simp only [Act.put, List.setIfInBounds_toArray, List.set_cons_zero, List.set_cons_succ]
          refine held_take (i := 4) (v := ?_) rfl (by kernel_rfl) (by kernel_rfl) (by kernel_rfl) (by rfl) (by first | assumption | exact True.intro) ?_ ?_
          rotate_left
          · (intro w hSw; (try dsimp only at hSw); go_simp; (try with_reducible rfl))
          try simp only [Act.put, List.setIfInBounds_toArray, List.set_cons_zero, List.set_cons_succ]
          refine held_take (i := 5) (v := ?_) rfl (by kernel_rfl) (by kernel_rfl) (by kernel_rfl) (by rfl) (by first | assumption | exact True.intro) ?_ ?_
          rotate_left
          · (intro w hSw; (try dsimp only at hSw); go_simp; (try with_reducible rfl))
          try simp only [Act.put, List.setIfInBounds_toArray, List.set_cons_zero, List.set_cons_succ]
          refine held_take (i := 6) (v := ?_) rfl (by kernel_rfl) (by kernel_rfl) (by kernel_rfl) (by rfl) (by first | assumption | exact True.intro) ?_ ?_
          rotate_left
          · (intro w hSw; (try dsimp only at hSw); go_simp; (try with_reducible rfl))
          try simp only [Act.put, List.setIfInBounds_toArray, List.set_cons_zero, List.set_cons_succ]
          refine held_take (i := 7) (v := ?_) rfl (by kernel_rfl) (by kernel_rfl) (by kernel_rfl) (by rfl) (by first | assumption | exact True.intro) ?_ ?_
          rotate_left
          · (intro w hSw; (try dsimp only at hSw); go_simp; (try with_reducible rfl))
          try simp only [Act.put, List.setIfInBounds_toArray, List.set_cons_zero, List.set_cons_succ]
          refine held_take (i := 8) (v := ?_) rfl (by kernel_rfl) (by kernel_rfl) (by kernel_rfl) (by rfl) (by first | assumption | exact True.intro) ?_ ?_
          rotate_left
          · (intro w hSw; (try dsimp only at hSw); go_simp; (try with_reducible rfl))
          try simp only [Act.put, List.setIfInBounds_toArray, List.set_cons_zero, List.set_cons_succ]
          refine held_take (i := 9) (v := ?_) rfl (by kernel_rfl) (by kernel_rfl) (by kernel_rfl) (by rfl) (by first | assumption | exact True.intro) ?_ ?_
          rotate_left
          · (intro w hSw; (try dsimp only at hSw); go_simp; (try with_reducible rfl))
          try simp only [Act.put, List.setIfInBounds_toArray, List.set_cons_zero, List.set_cons_succ]
          refine held_op (i := 10) (by kernel_rfl) rfl (fun K hK => ?_)
          go_simp
          go_at_call 18
          (with_reducible refine (KN.out _ (ext_drew (Ext.refl w5))).mono ?_)
          rintro e6 w6 ⟨rfl, y1⟩
          refine hK _ _ ?_ (fun hHeld2 => ?_)
          · exact (HC.out _ y1)
          clear hK K hHeld1
          try simp only [Act.put, List.setIfInBounds_toArray, List.set_cons_zero, List.set_cons_succ]
          refine held_take (i := 11) (v := ?_) rfl (by kernel_rfl) (by kernel_rfl) (by kernel_rfl) (by rfl) (by first | assumption | exact True.intro) ?_ ?_
          rotate_left
          · (intro w hSw; (try dsimp only at hSw); go_simp; (try with_reducible rfl))
          try simp only [Act.put, List.setIfInBounds_toArray, List.set_cons_zero, List.set_cons_succ]
          refine held_take (i := 12) (v := ?_) rfl (by kernel_rfl) (by kernel_rfl) (by kernel_rfl) (by rfl) (by first | assumption | exact True.intro) ?_ ?_
          rotate_left
          · (intro w hSw; (try dsimp only at hSw); go_simp; (try with_reducible rfl))
          try simp only [Act.put, List.setIfInBounds_toArray, List.set_cons_zero, List.set_cons_succ]
          refine held_take (i := 13) (v := ?_) rfl (by kernel_rfl) (by kernel_rfl) (by kernel_rfl) (by rfl) (by first | assumption | exact True.intro) ?_ ?_
          rotate_left
          · (intro w hSw; (try dsimp only at hSw); go_simp; (try with_reducible rfl))
          try simp only [Act.put, List.setIfInBounds_toArray, List.set_cons_zero, List.set_cons_succ]
          refine held_take (i := 14) (v := ?_) rfl (by kernel_rfl) (by kernel_rfl) (by kernel_rfl) (by rfl) (by first | assumption | exact True.intro) ?_ ?_
          rotate_left
          · (intro w hSw; (try dsimp only at hSw); go_simp; (try with_reducible rfl))
          try simp only [Act.put, List.setIfInBounds_toArray, List.set_cons_zero, List.set_cons_succ]
          refine held_take (i := 15) (v := ?_) rfl (by kernel_rfl) (by kernel_rfl) (by kernel_rfl) (by rfl) (by first | assumption | exact True.intro) ?_ ?_
          rotate_left
          · (intro w hSw; (try dsimp only at hSw); go_simp; (try with_reducible rfl))
          try simp only [Act.put, List.setIfInBounds_toArray, List.set_cons_zero, List.set_cons_succ]
          refine held_take (i := 16) (v := ?_) rfl (by kernel_rfl) (by kernel_rfl) (by kernel_rfl) (by rfl) (by first | assumption | exact True.intro) ?_ ?_
          rotate_left
          · (intro w hSw; (try dsimp only at hSw); go_simp; (try with_reducible rfl))
          try simp only [Act.put, List.setIfInBounds_toArray, List.set_cons_zero, List.set_cons_succ]
          refine held_take (i := 17) (v := ?_) rfl (by kernel_rfl) (by kernel_rfl) (by kernel_rfl) (by rfl) (by first | assumption | exact True.intro) ?_ ?_
          rotate_left
          · (intro w hSw; (try dsimp only at hSw); go_simp; (try with_reducible rfl))
          try simp only [Act.put, List.setIfInBounds_toArray, List.set_cons_zero, List.set_cons_succ]
          refine held_take (i := 18) (v := ?_) rfl (by kernel_rfl) (by kernel_rfl) (by kernel_rfl) (by rfl) (by first | assumption | exact True.intro) ?_ ?_
          rotate_left
          · (intro w hSw; (try dsimp only at hSw); go_simp; (try with_reducible rfl))
          try simp only [Act.put, List.setIfInBounds_toArray, List.set_cons_zero, List.set_cons_succ]
          refine held_skip (i := 19) rfl (by kernel_rfl) (by kernel_rfl) (by kernel_rfl) (by rfl) (by first | assumption | exact True.intro) ?_
          try simp only [Act.put, List.setIfInBounds_toArray, List.set_cons_zero, List.set_cons_succ]
          refine held_skip (i := 20) rfl (by kernel_rfl) (by kernel_rfl) (by kernel_rfl) (by rfl) (by first | assumption | exact True.intro) ?_
          try simp only [Act.put, List.setIfInBounds_toArray, List.set_cons_zero, List.set_cons_succ]
          refine held_skip (i := 21) rfl (by kernel_rfl) (by kernel_rfl) (by kernel_rfl) (by rfl) (by first | assumption | exact True.intro) ?_
          try simp only [Act.put, List.setIfInBounds_toArray, List.set_cons_zero, List.set_cons_succ]
          refine held_skip (i := 22) rfl (by kernel_rfl) (by kernel_rfl) (by kernel_rfl) (by rfl) (by first | assumption | exact True.intro) ?_
          try simp only [Act.put, List.setIfInBounds_toArray, List.set_cons_zero, List.set_cons_succ]
          refine held_take (i := 23) (v := ?_) rfl (by kernel_rfl) (by kernel_rfl) (by kernel_rfl) (by rfl) (by first | assumption | exact True.intro) ?_ ?_
          rotate_left
          · (intro w hSw; (try dsimp only at hSw); go_simp; (try with_reducible rfl))
          try simp only [Act.put, List.setIfInBounds_toArray, List.set_cons_zero, List.set_cons_succ]
          refine held_take (i := 24) (v := ?_) rfl (by kernel_rfl) (by kernel_rfl) (by kernel_rfl) (by rfl) (by first | assumption | exact True.intro) ?_ ?_
          rotate_left
          · (intro w hSw; (try dsimp only at hSw); go_simp; (try with_reducible rfl))
          try simp only [Act.put, List.setIfInBounds_toArray, List.set_cons_zero, List.set_cons_succ]
          refine held_take (i := 25) (v := ?_) rfl (by kernel_rfl) (by kernel_rfl) (by kernel_rfl) (by rfl) (by first | assumption | exact True.intro) ?_ ?_
          rotate_left
          · (intro w hSw; (try dsimp only at hSw); go_simp; (try with_reducible rfl))
          try simp only [Act.put, List.setIfInBounds_toArray, List.set_cons_zero, List.set_cons_succ]
          refine wpAnyH_done (by kernel_rfl) ?_ _
          refine NoPanic.normal ?_
          clear hHeld2
          all_goals
            have HX9 := Lib.hid (HX5.out.trans y1)
            clear y1
            go_wp2
            go_ret
            exact ⟨rfl, HX9.out⟩
        · have hb := hbl heq
          have g2 : ((Ns : Int) == (n : Int)) = false := by rw [beq_eq_false_iff_ne]; omega
          have g2' : (Ns == n) = false := by rw [beq_eq_false_iff_ne]; omega
          have e1 : (bt sb n == 32) = true := by rw [hb]; rfl
          have hlt : n < Ns := by omega
          have hlt2 : n < sb.size := by rw [hsb]; exact hlt
          clear hbl heq hb
          go_wp2_with fail
          go_region_held3 (fun w' => w'.cell? ⟨w.heap.size, 0, none⟩ = some (.int .i64 k) ∧ w'.cell? ⟨w.heap.size, 1, none⟩ = some (.int .i64 a) ∧ w'.cell? ⟨w.heap.size, 2, none⟩ = some (.int .i64 b) ∧ w'.cell? ⟨w.heap.size, 3, none⟩ = some (.int .i64 c) ∧ w'.cell? ⟨w.heap.size, 4, none⟩ = some (.int .i64 d) ∧ w'.cell? ⟨w.heap.size, 5, none⟩ = some (.int .i64 e) ∧ w'.cell? ⟨w.heap.size, 6, none⟩ = some (.int .i64 f)) (first | go_keep | (exact HC.out _ y1)) (first | (go_at_call 18; (first | (with_reducible refine (KN.out _ (Ext.refl w5)).mono ?_) | (with_reducible refine (KN.out _ (ext_drew (Ext.refl w5))).mono ?_)); rintro e6 w6 ⟨rfl, y1⟩))
          all_goals
            have HX9 := Lib.hid (HX5.out.trans y1)
            clear y1
            go_wp2
            go_ret
            exact ⟨rfl, HX9.out⟩
    · have hie : (strB (nameK x)).toList.isEmpty = true := str_none (HNX.out.2 hx)
      by_cases h1 : x < 1
      · have l1 : decide (x < 1) = true := decide_eq_true h1
        clear hx h1
        generalize strB (nameK x) = nx at *
        skip
        go_wp2_with (first | (go_at_call 18; (with_reducible refine K1.out.mono ?_); rintro e9 w9 ⟨rfl, rfl⟩))
        clear K1 KN HNE HNX
        refine (KR.out _ (HLD.out.ext HX2.out)).mono ?_
        rintro e3 w3 ⟨rfl, hx3⟩
        have HX3 := Lib.hid (HX2.out.trans hx3)
        have HB3 := Lib.hid (HB2.out.ext hx3)
        clear hx3 HX2 HB2 KR q0 q1 q2 q3 q4 q5 q6
        cases hR : rightO (k, a, b, c, d, e, f) with
        | false =>
          go_wp2
          go_ret
          exact ⟨rfl, HX3.out⟩
        | true =>
          obtain ⟨tl, htx⟩ := HTX.out hR
          obtain ⟨hn1, hn2⟩ := names_bound (rightO_iff.1 hR).1
          have hk1 := (rightO_iff.1 hR).1
          rw [htx] at KT
          clear htx hR HTX
          obtain ⟨q0, q1, q2, q3, q4, q5, q6⟩ := box_cells HB3.out
          go_wp2_with fail
          refine (Name_any k w3 (HLD.out.ext HX3.out)).mono ?_
          rintro e4 w4 ⟨rfl, rfl⟩
          go_wp2_with fail
          refine (KT.out _ (HLD.out.ext HX3.out)).mono ?_
          rintro e5 w5 ⟨rfl, hx5⟩
          have HX5 := Lib.hid (HX3.out.trans hx5)
          have HB5 := Lib.hid (HB3.out.ext hx5)
          have HL5 := Lib.hid (HLD.out.ext HX5.out)
          have HC : Hid (∀ w', Ext w5 w' → (w'.cell? ⟨w.heap.size, 0, none⟩ = some (.int .i64 k) ∧ w'.cell? ⟨w.heap.size, 1, none⟩ = some (.int .i64 a) ∧ w'.cell? ⟨w.heap.size, 2, none⟩ = some (.int .i64 b) ∧ w'.cell? ⟨w.heap.size, 3, none⟩ = some (.int .i64 c) ∧ w'.cell? ⟨w.heap.size, 4, none⟩ = some (.int .i64 d) ∧ w'.cell? ⟨w.heap.size, 5, none⟩ = some (.int .i64 e) ∧ w'.cell? ⟨w.heap.size, 6, none⟩ = some (.int .i64 f))) := Lib.hid fun w' hy => box_cells (HB5.out.ext hy)
          have KN : Hid (∀ W, Ext w5 W → Calls Tryd.prog 18 #[.int .i64 k] W fun e w' => e = .returned (.string (strB (nameK k))) ∧ Ext w5 w') := Lib.hid fun W h => (Name_any k W (HL5.out.ext h)).mono (by rintro e w' ⟨rfl, rfl⟩; exact ⟨rfl, h⟩)
          clear hx5 HX3 HB3 KT q0 q1 q2 q3 q4 q5 q6 hk1
          obtain ⟨q0, q1, q2, q3, q4, q5, q6⟩ := box_cells HB5.out
          obtain ⟨n, hnm⟩ : ∃ n, (strB (nameK k)).size = n := ⟨_, rfl⟩
          obtain ⟨Ns, hsb⟩ : ∃ n, (strB (nameK k ++ wordsB tl)).size = n := ⟨_, rfl⟩
          have hn : (nameK k).length = n := by rw [← hnm, strB_size]
          have hs : Ns = n + (wordsB tl).length := by rw [← hsb, strB_size, List.length_append, hn]
          have hex : (strB (nameK k ++ wordsB tl)).extract 0 n = strB (nameK k) := by
            have := Lib.extract_from_zero (strB (nameK k ++ wordsB tl)) n
            rw [strB_list, ← hn, List.take_left] at this
            rw [← strB_back ((strB (nameK k ++ wordsB tl)).extract 0 n), ← hn, this]
          have hbl : Ns ≠ n → bt (strB (nameK k ++ wordsB tl)) n = 32 := fun h => by
            cases htl : wordsB tl with
            | nil =>
              rw [htl] at hs
              exact absurd hs h
            | cons c r =>
              have hc := wordsB_head htl
              have := bt_strB (nameK k ++ c :: r) (n := n) (c := 32) (by rw [← hn, List.getElem?_append_right (Nat.le_refl _), Nat.sub_self, hc]; rfl)
              rw [this]
              rfl
          have g1 : decide ((n : Int) ≤ (Ns : Int)) = true := decide_eq_true (by omega)
          have g1' : decide (n ≤ Ns) = true := decide_eq_true (by omega)
          have hle : n ≤ Ns := by omega
          have HHS := Lib.hid hs
          clear hn1 hn2 hs hn
          have hgb := get_bt (strB (nameK k ++ wordsB tl))
          generalize strB (nameK k ++ wordsB tl) = sb at *
          generalize strB (nameK k) = nm at *
          have ge : (nm.toList == nm.toList) = true := beq_self_eq_true _
          by_cases heq : Ns = n
          · subst heq
            clear hbl
            have g3 : ((Ns : Int) == (Ns : Int)) = true := beq_self_eq_true _
            have c5 := And.intro q0 q1
            go_wp2_with fail
            refine held_begin (by kernel_rfl) ?_
            have hHeld0 : True := True.intro
            refine held_more (S' := fun (w' : World) => w'.cell? ⟨w.heap.size, 0, none⟩ = some (.int .i64 k) ∧ w'.cell? ⟨w.heap.size, 1, none⟩ = some (.int .i64 a) ∧ w'.cell? ⟨w.heap.size, 2, none⟩ = some (.int .i64 b) ∧ w'.cell? ⟨w.heap.size, 3, none⟩ = some (.int .i64 c) ∧ w'.cell? ⟨w.heap.size, 4, none⟩ = some (.int .i64 d) ∧ w'.cell? ⟨w.heap.size, 5, none⟩ = some (.int .i64 e) ∧ w'.cell? ⟨w.heap.size, 6, none⟩ = some (.int .i64 f)) (fun _ _ => trivial) ?_
            have hHeld1 : (fun (w' : World) => w'.cell? ⟨w.heap.size, 0, none⟩ = some (.int .i64 k) ∧ w'.cell? ⟨w.heap.size, 1, none⟩ = some (.int .i64 a) ∧ w'.cell? ⟨w.heap.size, 2, none⟩ = some (.int .i64 b) ∧ w'.cell? ⟨w.heap.size, 3, none⟩ = some (.int .i64 c) ∧ w'.cell? ⟨w.heap.size, 4, none⟩ = some (.int .i64 d) ∧ w'.cell? ⟨w.heap.size, 5, none⟩ = some (.int .i64 e) ∧ w'.cell? ⟨w.heap.size, 6, none⟩ = some (.int .i64 f)) _ := (HC.out _ (ext_drew (Ext.refl w5)))
            clear hHeld0
            refine held_take (i := 0) (v := ?_) rfl (by kernel_rfl) (by kernel_rfl) (by kernel_rfl) (by rfl) (by first | assumption | exact True.intro) ?_ ?_
            rotate_left
            · (intro w hSw; (try dsimp only at hSw); go_simp; (try with_reducible rfl))
            try simp only [Act.put, List.setIfInBounds_toArray, List.set_cons_zero, List.set_cons_succ]
            refine held_take (i := 1) (v := ?_) rfl (by kernel_rfl) (by kernel_rfl) (by kernel_rfl) (by rfl) (by first | assumption | exact True.intro) ?_ ?_
            rotate_left
            · (intro w hSw; (try dsimp only at hSw); go_simp; (try with_reducible rfl))
            try simp only [Act.put, List.setIfInBounds_toArray, List.set_cons_zero, List.set_cons_succ]
            refine held_take (i := 2) (v := ?_) rfl (by kernel_rfl) (by kernel_rfl) (by kernel_rfl) (by rfl) (by first | assumption | exact True.intro) ?_ ?_
            rotate_left
            · (intro w hSw; (try dsimp only at hSw); go_simp; (try with_reducible rfl))
            try simp only [Act.put, List.setIfInBounds_toArray, List.set_cons_zero, List.set_cons_succ]
            refine held_take (i := 3) (v := ?_) rfl (by kernel_rfl) (by kernel_rfl) (by kernel_rfl) (by rfl) (by first | assumption | exact True.intro) ?_ ?_
            rotate_left
            · (intro w hSw; (try dsimp only at hSw); go_simp; (try with_reducible rfl))
            try simp only [Act.put, List.setIfInBounds_toArray, List.set_cons_zero, List.set_cons_succ]
            refine held_take (i := 4) (v := ?_) rfl (by kernel_rfl) (by kernel_rfl) (by kernel_rfl) (by rfl) (by first | assumption | exact True.intro) ?_ ?_
            rotate_left
            · (intro w hSw; (try dsimp only at hSw); go_simp; (try with_reducible rfl))
            try simp only [Act.put, List.setIfInBounds_toArray, List.set_cons_zero, List.set_cons_succ]
            refine held_take (i := 5) (v := ?_) rfl (by kernel_rfl) (by kernel_rfl) (by kernel_rfl) (by rfl) (by first | assumption | exact True.intro) ?_ ?_
            rotate_left
            · (intro w hSw; (try dsimp only at hSw); go_simp; (try with_reducible rfl))
            try simp only [Act.put, List.setIfInBounds_toArray, List.set_cons_zero, List.set_cons_succ]
            refine held_take (i := 6) (v := ?_) rfl (by kernel_rfl) (by kernel_rfl) (by kernel_rfl) (by rfl) (by first | assumption | exact True.intro) ?_ ?_
            rotate_left
            · (intro w hSw; (try dsimp only at hSw); go_simp; (try with_reducible rfl))
            try simp only [Act.put, List.setIfInBounds_toArray, List.set_cons_zero, List.set_cons_succ]
            refine held_take (i := 7) (v := ?_) rfl (by kernel_rfl) (by kernel_rfl) (by kernel_rfl) (by rfl) (by first | assumption | exact True.intro) ?_ ?_
            rotate_left
            · (intro w hSw; (try dsimp only at hSw); go_simp; (try with_reducible rfl))
            try simp only [Act.put, List.setIfInBounds_toArray, List.set_cons_zero, List.set_cons_succ]
            refine held_take (i := 8) (v := ?_) rfl (by kernel_rfl) (by kernel_rfl) (by kernel_rfl) (by rfl) (by first | assumption | exact True.intro) ?_ ?_
            rotate_left
            · (intro w hSw; (try dsimp only at hSw); go_simp; (try with_reducible rfl))
            try simp only [Act.put, List.setIfInBounds_toArray, List.set_cons_zero, List.set_cons_succ]
            refine held_take (i := 9) (v := ?_) rfl (by kernel_rfl) (by kernel_rfl) (by kernel_rfl) (by rfl) (by first | assumption | exact True.intro) ?_ ?_
            rotate_left
            · (intro w hSw; (try dsimp only at hSw); go_simp; (try with_reducible rfl))
            try simp only [Act.put, List.setIfInBounds_toArray, List.set_cons_zero, List.set_cons_succ]
            refine held_op (i := 10) (by kernel_rfl) rfl (fun K hK => ?_)
            go_simp
            go_at_call 18
            (with_reducible refine (KN.out _ (ext_drew (Ext.refl w5))).mono ?_)
            rintro e6 w6 ⟨rfl, y1⟩
            refine hK _ _ ?_ (fun hHeld2 => ?_)
            · exact (HC.out _ y1)
            clear hK K hHeld1
            try simp only [Act.put, List.setIfInBounds_toArray, List.set_cons_zero, List.set_cons_succ]
            refine held_take (i := 11) (v := ?_) rfl (by kernel_rfl) (by kernel_rfl) (by kernel_rfl) (by rfl) (by first | assumption | exact True.intro) ?_ ?_
            rotate_left
            · (intro w hSw; (try dsimp only at hSw); go_simp; (try with_reducible rfl))
            try simp only [Act.put, List.setIfInBounds_toArray, List.set_cons_zero, List.set_cons_succ]
            refine held_take (i := 12) (v := ?_) rfl (by kernel_rfl) (by kernel_rfl) (by kernel_rfl) (by rfl) (by first | assumption | exact True.intro) ?_ ?_
            rotate_left
            · (intro w hSw; (try dsimp only at hSw); go_simp; (try with_reducible rfl))
            try simp only [Act.put, List.setIfInBounds_toArray, List.set_cons_zero, List.set_cons_succ]
            refine held_take (i := 13) (v := ?_) rfl (by kernel_rfl) (by kernel_rfl) (by kernel_rfl) (by rfl) (by first | assumption | exact True.intro) ?_ ?_
            rotate_left
            · (intro w hSw; (try dsimp only at hSw); go_simp; (try with_reducible rfl))
            try simp only [Act.put, List.setIfInBounds_toArray, List.set_cons_zero, List.set_cons_succ]
            refine held_take (i := 14) (v := ?_) rfl (by kernel_rfl) (by kernel_rfl) (by kernel_rfl) (by rfl) (by first | assumption | exact True.intro) ?_ ?_
            rotate_left
            · (intro w hSw; (try dsimp only at hSw); go_simp; (try with_reducible rfl))
            try simp only [Act.put, List.setIfInBounds_toArray, List.set_cons_zero, List.set_cons_succ]
            refine held_take (i := 15) (v := ?_) rfl (by kernel_rfl) (by kernel_rfl) (by kernel_rfl) (by rfl) (by first | assumption | exact True.intro) ?_ ?_
            rotate_left
            · (intro w hSw; (try dsimp only at hSw); go_simp; (try with_reducible rfl))
            try simp only [Act.put, List.setIfInBounds_toArray, List.set_cons_zero, List.set_cons_succ]
            refine held_take (i := 16) (v := ?_) rfl (by kernel_rfl) (by kernel_rfl) (by kernel_rfl) (by rfl) (by first | assumption | exact True.intro) ?_ ?_
            rotate_left
            · (intro w hSw; (try dsimp only at hSw); go_simp; (try with_reducible rfl))
            try simp only [Act.put, List.setIfInBounds_toArray, List.set_cons_zero, List.set_cons_succ]
            refine held_take (i := 17) (v := ?_) rfl (by kernel_rfl) (by kernel_rfl) (by kernel_rfl) (by rfl) (by first | assumption | exact True.intro) ?_ ?_
            rotate_left
            · (intro w hSw; (try dsimp only at hSw); go_simp; (try with_reducible rfl))
            try simp only [Act.put, List.setIfInBounds_toArray, List.set_cons_zero, List.set_cons_succ]
            refine held_take (i := 18) (v := ?_) rfl (by kernel_rfl) (by kernel_rfl) (by kernel_rfl) (by rfl) (by first | assumption | exact True.intro) ?_ ?_
            rotate_left
            · (intro w hSw; (try dsimp only at hSw); go_simp; (try with_reducible rfl))
            try simp only [Act.put, List.setIfInBounds_toArray, List.set_cons_zero, List.set_cons_succ]
            refine held_skip (i := 19) rfl (by kernel_rfl) (by kernel_rfl) (by kernel_rfl) (by rfl) (by first | assumption | exact True.intro) ?_
            try simp only [Act.put, List.setIfInBounds_toArray, List.set_cons_zero, List.set_cons_succ]
            refine held_skip (i := 20) rfl (by kernel_rfl) (by kernel_rfl) (by kernel_rfl) (by rfl) (by first | assumption | exact True.intro) ?_
            try simp only [Act.put, List.setIfInBounds_toArray, List.set_cons_zero, List.set_cons_succ]
            refine held_skip (i := 21) rfl (by kernel_rfl) (by kernel_rfl) (by kernel_rfl) (by rfl) (by first | assumption | exact True.intro) ?_
            try simp only [Act.put, List.setIfInBounds_toArray, List.set_cons_zero, List.set_cons_succ]
            refine held_skip (i := 22) rfl (by kernel_rfl) (by kernel_rfl) (by kernel_rfl) (by rfl) (by first | assumption | exact True.intro) ?_
            try simp only [Act.put, List.setIfInBounds_toArray, List.set_cons_zero, List.set_cons_succ]
            refine held_take (i := 23) (v := ?_) rfl (by kernel_rfl) (by kernel_rfl) (by kernel_rfl) (by rfl) (by first | assumption | exact True.intro) ?_ ?_
            rotate_left
            · (intro w hSw; (try dsimp only at hSw); go_simp; (try with_reducible rfl))
            try simp only [Act.put, List.setIfInBounds_toArray, List.set_cons_zero, List.set_cons_succ]
            refine held_take (i := 24) (v := ?_) rfl (by kernel_rfl) (by kernel_rfl) (by kernel_rfl) (by rfl) (by first | assumption | exact True.intro) ?_ ?_
            rotate_left
            · (intro w hSw; (try dsimp only at hSw); go_simp; (try with_reducible rfl))
            try simp only [Act.put, List.setIfInBounds_toArray, List.set_cons_zero, List.set_cons_succ]
            refine held_take (i := 25) (v := ?_) rfl (by kernel_rfl) (by kernel_rfl) (by kernel_rfl) (by rfl) (by first | assumption | exact True.intro) ?_ ?_
            rotate_left
            · (intro w hSw; (try dsimp only at hSw); go_simp; (try with_reducible rfl))
            try simp only [Act.put, List.setIfInBounds_toArray, List.set_cons_zero, List.set_cons_succ]
            refine wpAnyH_done (by kernel_rfl) ?_ _
            refine NoPanic.normal ?_
            clear hHeld2
            all_goals
              have HX9 := Lib.hid (HX5.out.trans y1)
              clear y1
              go_wp2
              go_ret
              exact ⟨rfl, HX9.out⟩
          · have hb := hbl heq
            have g2 : ((Ns : Int) == (n : Int)) = false := by rw [beq_eq_false_iff_ne]; omega
            have g2' : (Ns == n) = false := by rw [beq_eq_false_iff_ne]; omega
            have e1 : (bt sb n == 32) = true := by rw [hb]; rfl
            have hlt : n < Ns := by omega
            have hlt2 : n < sb.size := by rw [hsb]; exact hlt
            clear hbl heq hb
            go_wp2_with fail
            go_region_held3 (fun w' => w'.cell? ⟨w.heap.size, 0, none⟩ = some (.int .i64 k) ∧ w'.cell? ⟨w.heap.size, 1, none⟩ = some (.int .i64 a) ∧ w'.cell? ⟨w.heap.size, 2, none⟩ = some (.int .i64 b) ∧ w'.cell? ⟨w.heap.size, 3, none⟩ = some (.int .i64 c) ∧ w'.cell? ⟨w.heap.size, 4, none⟩ = some (.int .i64 d) ∧ w'.cell? ⟨w.heap.size, 5, none⟩ = some (.int .i64 e) ∧ w'.cell? ⟨w.heap.size, 6, none⟩ = some (.int .i64 f)) (first | go_keep | (exact HC.out _ y1)) (first | (go_at_call 18; (first | (with_reducible refine (KN.out _ (Ext.refl w5)).mono ?_) | (with_reducible refine (KN.out _ (ext_drew (Ext.refl w5))).mono ?_)); rintro e6 w6 ⟨rfl, y1⟩))
            all_goals
              have HX9 := Lib.hid (HX5.out.trans y1)
              clear y1
              go_wp2
              go_ret
              exact ⟨rfl, HX9.out⟩
      · have l1 : decide (x < 1) = false := decide_eq_false h1
        have l2 : decide (21 < x) = true := decide_eq_true (by omega)
        clear hx h1
        generalize strB (nameK x) = nx at *
        skip
        go_wp2_with (first | (go_at_call 18; (with_reducible refine K1.out.mono ?_); rintro e9 w9 ⟨rfl, rfl⟩))
        clear K1 KN HNE HNX
        refine (KR.out _ (HLD.out.ext HX2.out)).mono ?_
        rintro e3 w3 ⟨rfl, hx3⟩
        have HX3 := Lib.hid (HX2.out.trans hx3)
        have HB3 := Lib.hid (HB2.out.ext hx3)
        clear hx3 HX2 HB2 KR q0 q1 q2 q3 q4 q5 q6
        cases hR : rightO (k, a, b, c, d, e, f) with
        | false =>
          go_wp2
          go_ret
          exact ⟨rfl, HX3.out⟩
        | true =>
          obtain ⟨tl, htx⟩ := HTX.out hR
          obtain ⟨hn1, hn2⟩ := names_bound (rightO_iff.1 hR).1
          have hk1 := (rightO_iff.1 hR).1
          rw [htx] at KT
          clear htx hR HTX
          obtain ⟨q0, q1, q2, q3, q4, q5, q6⟩ := box_cells HB3.out
          go_wp2_with fail
          refine (Name_any k w3 (HLD.out.ext HX3.out)).mono ?_
          rintro e4 w4 ⟨rfl, rfl⟩
          go_wp2_with fail
          refine (KT.out _ (HLD.out.ext HX3.out)).mono ?_
          rintro e5 w5 ⟨rfl, hx5⟩
          have HX5 := Lib.hid (HX3.out.trans hx5)
          have HB5 := Lib.hid (HB3.out.ext hx5)
          have HL5 := Lib.hid (HLD.out.ext HX5.out)
          have HC : Hid (∀ w', Ext w5 w' → (w'.cell? ⟨w.heap.size, 0, none⟩ = some (.int .i64 k) ∧ w'.cell? ⟨w.heap.size, 1, none⟩ = some (.int .i64 a) ∧ w'.cell? ⟨w.heap.size, 2, none⟩ = some (.int .i64 b) ∧ w'.cell? ⟨w.heap.size, 3, none⟩ = some (.int .i64 c) ∧ w'.cell? ⟨w.heap.size, 4, none⟩ = some (.int .i64 d) ∧ w'.cell? ⟨w.heap.size, 5, none⟩ = some (.int .i64 e) ∧ w'.cell? ⟨w.heap.size, 6, none⟩ = some (.int .i64 f))) := Lib.hid fun w' hy => box_cells (HB5.out.ext hy)
          have KN : Hid (∀ W, Ext w5 W → Calls Tryd.prog 18 #[.int .i64 k] W fun e w' => e = .returned (.string (strB (nameK k))) ∧ Ext w5 w') := Lib.hid fun W h => (Name_any k W (HL5.out.ext h)).mono (by rintro e w' ⟨rfl, rfl⟩; exact ⟨rfl, h⟩)
          clear hx5 HX3 HB3 KT q0 q1 q2 q3 q4 q5 q6 hk1
          obtain ⟨q0, q1, q2, q3, q4, q5, q6⟩ := box_cells HB5.out
          obtain ⟨n, hnm⟩ : ∃ n, (strB (nameK k)).size = n := ⟨_, rfl⟩
          obtain ⟨Ns, hsb⟩ : ∃ n, (strB (nameK k ++ wordsB tl)).size = n := ⟨_, rfl⟩
          have hn : (nameK k).length = n := by rw [← hnm, strB_size]
          have hs : Ns = n + (wordsB tl).length := by rw [← hsb, strB_size, List.length_append, hn]
          have hex : (strB (nameK k ++ wordsB tl)).extract 0 n = strB (nameK k) := by
            have := Lib.extract_from_zero (strB (nameK k ++ wordsB tl)) n
            rw [strB_list, ← hn, List.take_left] at this
            rw [← strB_back ((strB (nameK k ++ wordsB tl)).extract 0 n), ← hn, this]
          have hbl : Ns ≠ n → bt (strB (nameK k ++ wordsB tl)) n = 32 := fun h => by
            cases htl : wordsB tl with
            | nil =>
              rw [htl] at hs
              exact absurd hs h
            | cons c r =>
              have hc := wordsB_head htl
              have := bt_strB (nameK k ++ c :: r) (n := n) (c := 32) (by rw [← hn, List.getElem?_append_right (Nat.le_refl _), Nat.sub_self, hc]; rfl)
              rw [this]
              rfl
          have g1 : decide ((n : Int) ≤ (Ns : Int)) = true := decide_eq_true (by omega)
          have g1' : decide (n ≤ Ns) = true := decide_eq_true (by omega)
          have hle : n ≤ Ns := by omega
          have HHS := Lib.hid hs
          clear hn1 hn2 hs hn
          have hgb := get_bt (strB (nameK k ++ wordsB tl))
          generalize strB (nameK k ++ wordsB tl) = sb at *
          generalize strB (nameK k) = nm at *
          have ge : (nm.toList == nm.toList) = true := beq_self_eq_true _
          by_cases heq : Ns = n
          · subst heq
            clear hbl
            have g3 : ((Ns : Int) == (Ns : Int)) = true := beq_self_eq_true _
            have c5 := And.intro q0 q1
            go_wp2_with fail
            refine held_begin (by kernel_rfl) ?_
            have hHeld0 : True := True.intro
            refine held_more (S' := fun (w' : World) => w'.cell? ⟨w.heap.size, 0, none⟩ = some (.int .i64 k) ∧ w'.cell? ⟨w.heap.size, 1, none⟩ = some (.int .i64 a) ∧ w'.cell? ⟨w.heap.size, 2, none⟩ = some (.int .i64 b) ∧ w'.cell? ⟨w.heap.size, 3, none⟩ = some (.int .i64 c) ∧ w'.cell? ⟨w.heap.size, 4, none⟩ = some (.int .i64 d) ∧ w'.cell? ⟨w.heap.size, 5, none⟩ = some (.int .i64 e) ∧ w'.cell? ⟨w.heap.size, 6, none⟩ = some (.int .i64 f)) (fun _ _ => trivial) ?_
            have hHeld1 : (fun (w' : World) => w'.cell? ⟨w.heap.size, 0, none⟩ = some (.int .i64 k) ∧ w'.cell? ⟨w.heap.size, 1, none⟩ = some (.int .i64 a) ∧ w'.cell? ⟨w.heap.size, 2, none⟩ = some (.int .i64 b) ∧ w'.cell? ⟨w.heap.size, 3, none⟩ = some (.int .i64 c) ∧ w'.cell? ⟨w.heap.size, 4, none⟩ = some (.int .i64 d) ∧ w'.cell? ⟨w.heap.size, 5, none⟩ = some (.int .i64 e) ∧ w'.cell? ⟨w.heap.size, 6, none⟩ = some (.int .i64 f)) _ := (HC.out _ (ext_drew (Ext.refl w5)))
            clear hHeld0
            refine held_take (i := 0) (v := ?_) rfl (by kernel_rfl) (by kernel_rfl) (by kernel_rfl) (by rfl) (by first | assumption | exact True.intro) ?_ ?_
            rotate_left
            · (intro w hSw; (try dsimp only at hSw); go_simp; (try with_reducible rfl))
            try simp only [Act.put, List.setIfInBounds_toArray, List.set_cons_zero, List.set_cons_succ]
            refine held_take (i := 1) (v := ?_) rfl (by kernel_rfl) (by kernel_rfl) (by kernel_rfl) (by rfl) (by first | assumption | exact True.intro) ?_ ?_
            rotate_left
            · (intro w hSw; (try dsimp only at hSw); go_simp; (try with_reducible rfl))
            try simp only [Act.put, List.setIfInBounds_toArray, List.set_cons_zero, List.set_cons_succ]
            refine held_take (i := 2) (v := ?_) rfl (by kernel_rfl) (by kernel_rfl) (by kernel_rfl) (by rfl) (by first | assumption | exact True.intro) ?_ ?_
            rotate_left
            · (intro w hSw; (try dsimp only at hSw); go_simp; (try with_reducible rfl))
            try simp only [Act.put, List.setIfInBounds_toArray, List.set_cons_zero, List.set_cons_succ]
            refine held_take (i := 3) (v := ?_) rfl (by kernel_rfl) (by kernel_rfl) (by kernel_rfl) (by rfl) (by first | assumption | exact True.intro) ?_ ?_
            rotate_left
            · (intro w hSw; (try dsimp only at hSw); go_simp; (try with_reducible rfl))
            try simp only [Act.put, List.setIfInBounds_toArray, List.set_cons_zero, List.set_cons_succ]
            refine held_take (i := 4) (v := ?_) rfl (by kernel_rfl) (by kernel_rfl) (by kernel_rfl) (by rfl) (by first | assumption | exact True.intro) ?_ ?_
            rotate_left
            · (intro w hSw; (try dsimp only at hSw); go_simp; (try with_reducible rfl))
            try simp only [Act.put, List.setIfInBounds_toArray, List.set_cons_zero, List.set_cons_succ]
            refine held_take (i := 5) (v := ?_) rfl (by kernel_rfl) (by kernel_rfl) (by kernel_rfl) (by rfl) (by first | assumption | exact True.intro) ?_ ?_
            rotate_left
            · (intro w hSw; (try dsimp only at hSw); go_simp; (try with_reducible rfl))
            try simp only [Act.put, List.setIfInBounds_toArray, List.set_cons_zero, List.set_cons_succ]
            refine held_take (i := 6) (v := ?_) rfl (by kernel_rfl) (by kernel_rfl) (by kernel_rfl) (by rfl) (by first | assumption | exact True.intro) ?_ ?_
            rotate_left
            · (intro w hSw; (try dsimp only at hSw); go_simp; (try with_reducible rfl))
            try simp only [Act.put, List.setIfInBounds_toArray, List.set_cons_zero, List.set_cons_succ]
            refine held_take (i := 7) (v := ?_) rfl (by kernel_rfl) (by kernel_rfl) (by kernel_rfl) (by rfl) (by first | assumption | exact True.intro) ?_ ?_
            rotate_left
            · (intro w hSw; (try dsimp only at hSw); go_simp; (try with_reducible rfl))
            try simp only [Act.put, List.setIfInBounds_toArray, List.set_cons_zero, List.set_cons_succ]
            refine held_take (i := 8) (v := ?_) rfl (by kernel_rfl) (by kernel_rfl) (by kernel_rfl) (by rfl) (by first | assumption | exact True.intro) ?_ ?_
            rotate_left
            · (intro w hSw; (try dsimp only at hSw); go_simp; (try with_reducible rfl))
            try simp only [Act.put, List.setIfInBounds_toArray, List.set_cons_zero, List.set_cons_succ]
            refine held_take (i := 9) (v := ?_) rfl (by kernel_rfl) (by kernel_rfl) (by kernel_rfl) (by rfl) (by first | assumption | exact True.intro) ?_ ?_
            rotate_left
            · (intro w hSw; (try dsimp only at hSw); go_simp; (try with_reducible rfl))
            try simp only [Act.put, List.setIfInBounds_toArray, List.set_cons_zero, List.set_cons_succ]
            refine held_op (i := 10) (by kernel_rfl) rfl (fun K hK => ?_)
            go_simp
            go_at_call 18
            (with_reducible refine (KN.out _ (ext_drew (Ext.refl w5))).mono ?_)
            rintro e6 w6 ⟨rfl, y1⟩
            refine hK _ _ ?_ (fun hHeld2 => ?_)
            · exact (HC.out _ y1)
            clear hK K hHeld1
            try simp only [Act.put, List.setIfInBounds_toArray, List.set_cons_zero, List.set_cons_succ]
            refine held_take (i := 11) (v := ?_) rfl (by kernel_rfl) (by kernel_rfl) (by kernel_rfl) (by rfl) (by first | assumption | exact True.intro) ?_ ?_
            rotate_left
            · (intro w hSw; (try dsimp only at hSw); go_simp; (try with_reducible rfl))
            try simp only [Act.put, List.setIfInBounds_toArray, List.set_cons_zero, List.set_cons_succ]
            refine held_take (i := 12) (v := ?_) rfl (by kernel_rfl) (by kernel_rfl) (by kernel_rfl) (by rfl) (by first | assumption | exact True.intro) ?_ ?_
            rotate_left
            · (intro w hSw; (try dsimp only at hSw); go_simp; (try with_reducible rfl))
            try simp only [Act.put, List.setIfInBounds_toArray, List.set_cons_zero, List.set_cons_succ]
            refine held_take (i := 13) (v := ?_) rfl (by kernel_rfl) (by kernel_rfl) (by kernel_rfl) (by rfl) (by first | assumption | exact True.intro) ?_ ?_
            rotate_left
            · (intro w hSw; (try dsimp only at hSw); go_simp; (try with_reducible rfl))
            try simp only [Act.put, List.setIfInBounds_toArray, List.set_cons_zero, List.set_cons_succ]
            refine held_take (i := 14) (v := ?_) rfl (by kernel_rfl) (by kernel_rfl) (by kernel_rfl) (by rfl) (by first | assumption | exact True.intro) ?_ ?_
            rotate_left
            · (intro w hSw; (try dsimp only at hSw); go_simp; (try with_reducible rfl))
            try simp only [Act.put, List.setIfInBounds_toArray, List.set_cons_zero, List.set_cons_succ]
            refine held_take (i := 15) (v := ?_) rfl (by kernel_rfl) (by kernel_rfl) (by kernel_rfl) (by rfl) (by first | assumption | exact True.intro) ?_ ?_
            rotate_left
            · (intro w hSw; (try dsimp only at hSw); go_simp; (try with_reducible rfl))
            try simp only [Act.put, List.setIfInBounds_toArray, List.set_cons_zero, List.set_cons_succ]
            refine held_take (i := 16) (v := ?_) rfl (by kernel_rfl) (by kernel_rfl) (by kernel_rfl) (by rfl) (by first | assumption | exact True.intro) ?_ ?_
            rotate_left
            · (intro w hSw; (try dsimp only at hSw); go_simp; (try with_reducible rfl))
            try simp only [Act.put, List.setIfInBounds_toArray, List.set_cons_zero, List.set_cons_succ]
            refine held_take (i := 17) (v := ?_) rfl (by kernel_rfl) (by kernel_rfl) (by kernel_rfl) (by rfl) (by first | assumption | exact True.intro) ?_ ?_
            rotate_left
            · (intro w hSw; (try dsimp only at hSw); go_simp; (try with_reducible rfl))
            try simp only [Act.put, List.setIfInBounds_toArray, List.set_cons_zero, List.set_cons_succ]
            refine held_take (i := 18) (v := ?_) rfl (by kernel_rfl) (by kernel_rfl) (by kernel_rfl) (by rfl) (by first | assumption | exact True.intro) ?_ ?_
            rotate_left
            · (intro w hSw; (try dsimp only at hSw); go_simp; (try with_reducible rfl))
            try simp only [Act.put, List.setIfInBounds_toArray, List.set_cons_zero, List.set_cons_succ]
            refine held_skip (i := 19) rfl (by kernel_rfl) (by kernel_rfl) (by kernel_rfl) (by rfl) (by first | assumption | exact True.intro) ?_
            try simp only [Act.put, List.setIfInBounds_toArray, List.set_cons_zero, List.set_cons_succ]
            refine held_skip (i := 20) rfl (by kernel_rfl) (by kernel_rfl) (by kernel_rfl) (by rfl) (by first | assumption | exact True.intro) ?_
            try simp only [Act.put, List.setIfInBounds_toArray, List.set_cons_zero, List.set_cons_succ]
            refine held_skip (i := 21) rfl (by kernel_rfl) (by kernel_rfl) (by kernel_rfl) (by rfl) (by first | assumption | exact True.intro) ?_
            try simp only [Act.put, List.setIfInBounds_toArray, List.set_cons_zero, List.set_cons_succ]
            refine held_skip (i := 22) rfl (by kernel_rfl) (by kernel_rfl) (by kernel_rfl) (by rfl) (by first | assumption | exact True.intro) ?_
            try simp only [Act.put, List.setIfInBounds_toArray, List.set_cons_zero, List.set_cons_succ]
            refine held_take (i := 23) (v := ?_) rfl (by kernel_rfl) (by kernel_rfl) (by kernel_rfl) (by rfl) (by first | assumption | exact True.intro) ?_ ?_
            rotate_left
            · (intro w hSw; (try dsimp only at hSw); go_simp; (try with_reducible rfl))
            try simp only [Act.put, List.setIfInBounds_toArray, List.set_cons_zero, List.set_cons_succ]
            refine held_take (i := 24) (v := ?_) rfl (by kernel_rfl) (by kernel_rfl) (by kernel_rfl) (by rfl) (by first | assumption | exact True.intro) ?_ ?_
            rotate_left
            · (intro w hSw; (try dsimp only at hSw); go_simp; (try with_reducible rfl))
            try simp only [Act.put, List.setIfInBounds_toArray, List.set_cons_zero, List.set_cons_succ]
            refine held_take (i := 25) (v := ?_) rfl (by kernel_rfl) (by kernel_rfl) (by kernel_rfl) (by rfl) (by first | assumption | exact True.intro) ?_ ?_
            rotate_left
            · (intro w hSw; (try dsimp only at hSw); go_simp; (try with_reducible rfl))
            try simp only [Act.put, List.setIfInBounds_toArray, List.set_cons_zero, List.set_cons_succ]
            refine wpAnyH_done (by kernel_rfl) ?_ _
            refine NoPanic.normal ?_
            clear hHeld2
            all_goals
              have HX9 := Lib.hid (HX5.out.trans y1)
              clear y1
              go_wp2
              go_ret
              exact ⟨rfl, HX9.out⟩
          · have hb := hbl heq
            have g2 : ((Ns : Int) == (n : Int)) = false := by rw [beq_eq_false_iff_ne]; omega
            have g2' : (Ns == n) = false := by rw [beq_eq_false_iff_ne]; omega
            have e1 : (bt sb n == 32) = true := by rw [hb]; rfl
            have hlt : n < Ns := by omega
            have hlt2 : n < sb.size := by rw [hsb]; exact hlt
            clear hbl heq hb
            go_wp2_with fail
            go_region_held3 (fun w' => w'.cell? ⟨w.heap.size, 0, none⟩ = some (.int .i64 k) ∧ w'.cell? ⟨w.heap.size, 1, none⟩ = some (.int .i64 a) ∧ w'.cell? ⟨w.heap.size, 2, none⟩ = some (.int .i64 b) ∧ w'.cell? ⟨w.heap.size, 3, none⟩ = some (.int .i64 c) ∧ w'.cell? ⟨w.heap.size, 4, none⟩ = some (.int .i64 d) ∧ w'.cell? ⟨w.heap.size, 5, none⟩ = some (.int .i64 e) ∧ w'.cell? ⟨w.heap.size, 6, none⟩ = some (.int .i64 f)) (first | go_keep | (exact HC.out _ y1)) (first | (go_at_call 18; (first | (with_reducible refine (KN.out _ (Ext.refl w5)).mono ?_) | (with_reducible refine (KN.out _ (ext_drew (Ext.refl w5))).mono ?_)); rintro e6 w6 ⟨rfl, y1⟩))
            all_goals
              have HX9 := Lib.hid (HX5.out.trans y1)
              clear y1
              go_wp2
              go_ret
              exact ⟨rfl, HX9.out⟩
  · have d0 : (x != y) = true := by rw [bne_iff_ne]; exact hxy
    have K1 := Lib.hid (KN.out x)
    have K2 := Lib.hid (KN.out y)
    by_cases hx : 1 ≤ x ∧ x ≤ 21
    · have hie : (strB (nameK x)).toList.isEmpty = false := str_some (HNX.out.1 hx)
      have l1 : decide (x < 1) = false := decide_eq_false (by omega)
      have l2 : decide (21 < x) = false := decide_eq_false (by omega)
      have hnn : ((strB (nameK x)).toList == (strB (nameK y)).toList) = false := (Lib.bytes_beq_false_iff _ _).2 (fun e => HNX.out.1 hx (HNE.out hxy (by have := congrArg (fun z => z.data.toList) e; simpa [strB] using this)))
      clear hx hxy
      generalize strB (nameK x) = nx at *
      generalize strB (nameK y) = ny at *
      skip
      go_wp2_with (first | (go_at_call 18; (with_reducible refine K1.out.mono ?_); rintro e9 w9 ⟨rfl, rfl⟩) | (go_at_call 18; (with_reducible refine K2.out.mono ?_); rintro e9 w9 ⟨rfl, rfl⟩))
      clear K1 K2 KN HNE HNX
      refine (KR.out _ (HLD.out.ext HX2.out)).mono ?_
      rintro e3 w3 ⟨rfl, hx3⟩
      have HX3 := Lib.hid (HX2.out.trans hx3)
      have HB3 := Lib.hid (HB2.out.ext hx3)
      clear hx3 HX2 HB2 KR q0 q1 q2 q3 q4 q5 q6
      cases hR : rightO (k, a, b, c, d, e, f) with
      | false =>
        go_wp2
        go_ret
        exact ⟨rfl, HX3.out⟩
      | true =>
        obtain ⟨tl, htx⟩ := HTX.out hR
        obtain ⟨hn1, hn2⟩ := names_bound (rightO_iff.1 hR).1
        have hk1 := (rightO_iff.1 hR).1
        rw [htx] at KT
        clear htx hR HTX
        obtain ⟨q0, q1, q2, q3, q4, q5, q6⟩ := box_cells HB3.out
        go_wp2_with fail
        refine (Name_any k w3 (HLD.out.ext HX3.out)).mono ?_
        rintro e4 w4 ⟨rfl, rfl⟩
        go_wp2_with fail
        refine (KT.out _ (HLD.out.ext HX3.out)).mono ?_
        rintro e5 w5 ⟨rfl, hx5⟩
        have HX5 := Lib.hid (HX3.out.trans hx5)
        have HB5 := Lib.hid (HB3.out.ext hx5)
        have HL5 := Lib.hid (HLD.out.ext HX5.out)
        have HC : Hid (∀ w', Ext w5 w' → (w'.cell? ⟨w.heap.size, 0, none⟩ = some (.int .i64 k) ∧ w'.cell? ⟨w.heap.size, 1, none⟩ = some (.int .i64 a) ∧ w'.cell? ⟨w.heap.size, 2, none⟩ = some (.int .i64 b) ∧ w'.cell? ⟨w.heap.size, 3, none⟩ = some (.int .i64 c) ∧ w'.cell? ⟨w.heap.size, 4, none⟩ = some (.int .i64 d) ∧ w'.cell? ⟨w.heap.size, 5, none⟩ = some (.int .i64 e) ∧ w'.cell? ⟨w.heap.size, 6, none⟩ = some (.int .i64 f))) := Lib.hid fun w' hy => box_cells (HB5.out.ext hy)
        have KN : Hid (∀ W, Ext w5 W → Calls Tryd.prog 18 #[.int .i64 k] W fun e w' => e = .returned (.string (strB (nameK k))) ∧ Ext w5 w') := Lib.hid fun W h => (Name_any k W (HL5.out.ext h)).mono (by rintro e w' ⟨rfl, rfl⟩; exact ⟨rfl, h⟩)
        clear hx5 HX3 HB3 KT q0 q1 q2 q3 q4 q5 q6 hk1
        obtain ⟨q0, q1, q2, q3, q4, q5, q6⟩ := box_cells HB5.out
        obtain ⟨n, hnm⟩ : ∃ n, (strB (nameK k)).size = n := ⟨_, rfl⟩
        obtain ⟨Ns, hsb⟩ : ∃ n, (strB (nameK k ++ wordsB tl)).size = n := ⟨_, rfl⟩
        have hn : (nameK k).length = n := by rw [← hnm, strB_size]
        have hs : Ns = n + (wordsB tl).length := by rw [← hsb, strB_size, List.length_append, hn]
        have hex : (strB (nameK k ++ wordsB tl)).extract 0 n = strB (nameK k) := by
          have := Lib.extract_from_zero (strB (nameK k ++ wordsB tl)) n
          rw [strB_list, ← hn, List.take_left] at this
          rw [← strB_back ((strB (nameK k ++ wordsB tl)).extract 0 n), ← hn, this]
        have hbl : Ns ≠ n → bt (strB (nameK k ++ wordsB tl)) n = 32 := fun h => by
          cases htl : wordsB tl with
          | nil =>
            rw [htl] at hs
            exact absurd hs h
          | cons c r =>
            have hc := wordsB_head htl
            have := bt_strB (nameK k ++ c :: r) (n := n) (c := 32) (by rw [← hn, List.getElem?_append_right (Nat.le_refl _), Nat.sub_self, hc]; rfl)
            rw [this]
            rfl
        have g1 : decide ((n : Int) ≤ (Ns : Int)) = true := decide_eq_true (by omega)
        have g1' : decide (n ≤ Ns) = true := decide_eq_true (by omega)
        have hle : n ≤ Ns := by omega
        have HHS := Lib.hid hs
        clear hn1 hn2 hs hn
        have hgb := get_bt (strB (nameK k ++ wordsB tl))
        generalize strB (nameK k ++ wordsB tl) = sb at *
        generalize strB (nameK k) = nm at *
        have ge : (nm.toList == nm.toList) = true := beq_self_eq_true _
        by_cases heq : Ns = n
        · subst heq
          clear hbl
          have g3 : ((Ns : Int) == (Ns : Int)) = true := beq_self_eq_true _
          have c5 := And.intro q0 q1
          go_wp2_with fail
          refine held_begin (by kernel_rfl) ?_
          have hHeld0 : True := True.intro
          refine held_more (S' := fun (w' : World) => w'.cell? ⟨w.heap.size, 0, none⟩ = some (.int .i64 k) ∧ w'.cell? ⟨w.heap.size, 1, none⟩ = some (.int .i64 a) ∧ w'.cell? ⟨w.heap.size, 2, none⟩ = some (.int .i64 b) ∧ w'.cell? ⟨w.heap.size, 3, none⟩ = some (.int .i64 c) ∧ w'.cell? ⟨w.heap.size, 4, none⟩ = some (.int .i64 d) ∧ w'.cell? ⟨w.heap.size, 5, none⟩ = some (.int .i64 e) ∧ w'.cell? ⟨w.heap.size, 6, none⟩ = some (.int .i64 f)) (fun _ _ => trivial) ?_
          have hHeld1 : (fun (w' : World) => w'.cell? ⟨w.heap.size, 0, none⟩ = some (.int .i64 k) ∧ w'.cell? ⟨w.heap.size, 1, none⟩ = some (.int .i64 a) ∧ w'.cell? ⟨w.heap.size, 2, none⟩ = some (.int .i64 b) ∧ w'.cell? ⟨w.heap.size, 3, none⟩ = some (.int .i64 c) ∧ w'.cell? ⟨w.heap.size, 4, none⟩ = some (.int .i64 d) ∧ w'.cell? ⟨w.heap.size, 5, none⟩ = some (.int .i64 e) ∧ w'.cell? ⟨w.heap.size, 6, none⟩ = some (.int .i64 f)) _ := (HC.out _ (ext_drew (Ext.refl w5)))
          clear hHeld0
          refine held_take (i := 0) (v := ?_) rfl (by kernel_rfl) (by kernel_rfl) (by kernel_rfl) (by rfl) (by first | assumption | exact True.intro) ?_ ?_
          rotate_left
          · (intro w hSw; (try dsimp only at hSw); go_simp; (try with_reducible rfl))
          try simp only [Act.put, List.setIfInBounds_toArray, List.set_cons_zero, List.set_cons_succ]
          refine held_take (i := 1) (v := ?_) rfl (by kernel_rfl) (by kernel_rfl) (by kernel_rfl) (by rfl) (by first | assumption | exact True.intro) ?_ ?_
          rotate_left
          · (intro w hSw; (try dsimp only at hSw); go_simp; (try with_reducible rfl))
          try simp only [Act.put, List.setIfInBounds_toArray, List.set_cons_zero, List.set_cons_succ]
          refine held_take (i := 2) (v := ?_) rfl (by kernel_rfl) (by kernel_rfl) (by kernel_rfl) (by rfl) (by first | assumption | exact True.intro) ?_ ?_
          rotate_left
          · (intro w hSw; (try dsimp only at hSw); go_simp; (try with_reducible rfl))
          try simp only [Act.put, List.setIfInBounds_toArray, List.set_cons_zero, List.set_cons_succ]
          refine held_take (i := 3) (v := ?_) rfl (by kernel_rfl) (by kernel_rfl) (by kernel_rfl) (by rfl) (by first | assumption | exact True.intro) ?_ ?_
          rotate_left
          · (intro w hSw; (try dsimp only at hSw); go_simp; (try with_reducible rfl))
          try simp only [Act.put, List.setIfInBounds_toArray, List.set_cons_zero, List.set_cons_succ]
          refine held_take (i := 4) (v := ?_) rfl (by kernel_rfl) (by kernel_rfl) (by kernel_rfl) (by rfl) (by first | assumption | exact True.intro) ?_ ?_
          rotate_left
          · (intro w hSw; (try dsimp only at hSw); go_simp; (try with_reducible rfl))
          try simp only [Act.put, List.setIfInBounds_toArray, List.set_cons_zero, List.set_cons_succ]
          refine held_take (i := 5) (v := ?_) rfl (by kernel_rfl) (by kernel_rfl) (by kernel_rfl) (by rfl) (by first | assumption | exact True.intro) ?_ ?_
          rotate_left
          · (intro w hSw; (try dsimp only at hSw); go_simp; (try with_reducible rfl))
          try simp only [Act.put, List.setIfInBounds_toArray, List.set_cons_zero, List.set_cons_succ]
          refine held_take (i := 6) (v := ?_) rfl (by kernel_rfl) (by kernel_rfl) (by kernel_rfl) (by rfl) (by first | assumption | exact True.intro) ?_ ?_
          rotate_left
          · (intro w hSw; (try dsimp only at hSw); go_simp; (try with_reducible rfl))
          try simp only [Act.put, List.setIfInBounds_toArray, List.set_cons_zero, List.set_cons_succ]
          refine held_take (i := 7) (v := ?_) rfl (by kernel_rfl) (by kernel_rfl) (by kernel_rfl) (by rfl) (by first | assumption | exact True.intro) ?_ ?_
          rotate_left
          · (intro w hSw; (try dsimp only at hSw); go_simp; (try with_reducible rfl))
          try simp only [Act.put, List.setIfInBounds_toArray, List.set_cons_zero, List.set_cons_succ]
          refine held_take (i := 8) (v := ?_) rfl (by kernel_rfl) (by kernel_rfl) (by kernel_rfl) (by rfl) (by first | assumption | exact True.intro) ?_ ?_
          rotate_left
          · (intro w hSw; (try dsimp only at hSw); go_simp; (try with_reducible rfl))
          try simp only [Act.put, List.setIfInBounds_toArray, List.set_cons_zero, List.set_cons_succ]
          refine held_take (i := 9) (v := ?_) rfl (by kernel_rfl) (by kernel_rfl) (by kernel_rfl) (by rfl) (by first | assumption | exact True.intro) ?_ ?_
          rotate_left
          · (intro w hSw; (try dsimp only at hSw); go_simp; (try with_reducible rfl))
          try simp only [Act.put, List.setIfInBounds_toArray, List.set_cons_zero, List.set_cons_succ]
          refine held_op (i := 10) (by kernel_rfl) rfl (fun K hK => ?_)
          go_simp
          go_at_call 18
          (with_reducible refine (KN.out _ (ext_drew (Ext.refl w5))).mono ?_)
          rintro e6 w6 ⟨rfl, y1⟩
          refine hK _ _ ?_ (fun hHeld2 => ?_)
          · exact (HC.out _ y1)
          clear hK K hHeld1
          try simp only [Act.put, List.setIfInBounds_toArray, List.set_cons_zero, List.set_cons_succ]
          refine held_take (i := 11) (v := ?_) rfl (by kernel_rfl) (by kernel_rfl) (by kernel_rfl) (by rfl) (by first | assumption | exact True.intro) ?_ ?_
          rotate_left
          · (intro w hSw; (try dsimp only at hSw); go_simp; (try with_reducible rfl))
          try simp only [Act.put, List.setIfInBounds_toArray, List.set_cons_zero, List.set_cons_succ]
          refine held_take (i := 12) (v := ?_) rfl (by kernel_rfl) (by kernel_rfl) (by kernel_rfl) (by rfl) (by first | assumption | exact True.intro) ?_ ?_
          rotate_left
          · (intro w hSw; (try dsimp only at hSw); go_simp; (try with_reducible rfl))
          try simp only [Act.put, List.setIfInBounds_toArray, List.set_cons_zero, List.set_cons_succ]
          refine held_take (i := 13) (v := ?_) rfl (by kernel_rfl) (by kernel_rfl) (by kernel_rfl) (by rfl) (by first | assumption | exact True.intro) ?_ ?_
          rotate_left
          · (intro w hSw; (try dsimp only at hSw); go_simp; (try with_reducible rfl))
          try simp only [Act.put, List.setIfInBounds_toArray, List.set_cons_zero, List.set_cons_succ]
          refine held_take (i := 14) (v := ?_) rfl (by kernel_rfl) (by kernel_rfl) (by kernel_rfl) (by rfl) (by first | assumption | exact True.intro) ?_ ?_
          rotate_left
          · (intro w hSw; (try dsimp only at hSw); go_simp; (try with_reducible rfl))
          try simp only [Act.put, List.setIfInBounds_toArray, List.set_cons_zero, List.set_cons_succ]
          refine held_take (i := 15) (v := ?_) rfl (by kernel_rfl) (by kernel_rfl) (by kernel_rfl) (by rfl) (by first | assumption | exact True.intro) ?_ ?_
          rotate_left
          · (intro w hSw; (try dsimp only at hSw); go_simp; (try with_reducible rfl))
          try simp only [Act.put, List.setIfInBounds_toArray, List.set_cons_zero, List.set_cons_succ]
          refine held_take (i := 16) (v := ?_) rfl (by kernel_rfl) (by kernel_rfl) (by kernel_rfl) (by rfl) (by first | assumption | exact True.intro) ?_ ?_
          rotate_left
          · (intro w hSw; (try dsimp only at hSw); go_simp; (try with_reducible rfl))
          try simp only [Act.put, List.setIfInBounds_toArray, List.set_cons_zero, List.set_cons_succ]
          refine held_take (i := 17) (v := ?_) rfl (by kernel_rfl) (by kernel_rfl) (by kernel_rfl) (by rfl) (by first | assumption | exact True.intro) ?_ ?_
          rotate_left
          · (intro w hSw; (try dsimp only at hSw); go_simp; (try with_reducible rfl))
          try simp only [Act.put, List.setIfInBounds_toArray, List.set_cons_zero, List.set_cons_succ]
          refine held_take (i := 18) (v := ?_) rfl (by kernel_rfl) (by kernel_rfl) (by kernel_rfl) (by rfl) (by first | assumption | exact True.intro) ?_ ?_
          rotate_left
          · (intro w hSw; (try dsimp only at hSw); go_simp; (try with_reducible rfl))
          try simp only [Act.put, List.setIfInBounds_toArray, List.set_cons_zero, List.set_cons_succ]
          refine held_skip (i := 19) rfl (by kernel_rfl) (by kernel_rfl) (by kernel_rfl) (by rfl) (by first | assumption | exact True.intro) ?_
          try simp only [Act.put, List.setIfInBounds_toArray, List.set_cons_zero, List.set_cons_succ]
          refine held_skip (i := 20) rfl (by kernel_rfl) (by kernel_rfl) (by kernel_rfl) (by rfl) (by first | assumption | exact True.intro) ?_
          try simp only [Act.put, List.setIfInBounds_toArray, List.set_cons_zero, List.set_cons_succ]
          refine held_skip (i := 21) rfl (by kernel_rfl) (by kernel_rfl) (by kernel_rfl) (by rfl) (by first | assumption | exact True.intro) ?_
          try simp only [Act.put, List.setIfInBounds_toArray, List.set_cons_zero, List.set_cons_succ]
          refine held_skip (i := 22) rfl (by kernel_rfl) (by kernel_rfl) (by kernel_rfl) (by rfl) (by first | assumption | exact True.intro) ?_
          try simp only [Act.put, List.setIfInBounds_toArray, List.set_cons_zero, List.set_cons_succ]
          refine held_take (i := 23) (v := ?_) rfl (by kernel_rfl) (by kernel_rfl) (by kernel_rfl) (by rfl) (by first | assumption | exact True.intro) ?_ ?_
          rotate_left
          · (intro w hSw; (try dsimp only at hSw); go_simp; (try with_reducible rfl))
          try simp only [Act.put, List.setIfInBounds_toArray, List.set_cons_zero, List.set_cons_succ]
          refine held_take (i := 24) (v := ?_) rfl (by kernel_rfl) (by kernel_rfl) (by kernel_rfl) (by rfl) (by first | assumption | exact True.intro) ?_ ?_
          rotate_left
          · (intro w hSw; (try dsimp only at hSw); go_simp; (try with_reducible rfl))
          try simp only [Act.put, List.setIfInBounds_toArray, List.set_cons_zero, List.set_cons_succ]
          refine held_take (i := 25) (v := ?_) rfl (by kernel_rfl) (by kernel_rfl) (by kernel_rfl) (by rfl) (by first | assumption | exact True.intro) ?_ ?_
          rotate_left
          · (intro w hSw; (try dsimp only at hSw); go_simp; (try with_reducible rfl))
          try simp only [Act.put, List.setIfInBounds_toArray, List.set_cons_zero, List.set_cons_succ]
          refine wpAnyH_done (by kernel_rfl) ?_ _
          refine NoPanic.normal ?_
          clear hHeld2
          all_goals
            have HX9 := Lib.hid (HX5.out.trans y1)
            clear y1
            go_wp2
            go_ret
            exact ⟨rfl, HX9.out⟩
        · have hb := hbl heq
          have g2 : ((Ns : Int) == (n : Int)) = false := by rw [beq_eq_false_iff_ne]; omega
          have g2' : (Ns == n) = false := by rw [beq_eq_false_iff_ne]; omega
          have e1 : (bt sb n == 32) = true := by rw [hb]; rfl
          have hlt : n < Ns := by omega
          have hlt2 : n < sb.size := by rw [hsb]; exact hlt
          clear hbl heq hb
          go_wp2_with fail
          go_region_held3 (fun w' => w'.cell? ⟨w.heap.size, 0, none⟩ = some (.int .i64 k) ∧ w'.cell? ⟨w.heap.size, 1, none⟩ = some (.int .i64 a) ∧ w'.cell? ⟨w.heap.size, 2, none⟩ = some (.int .i64 b) ∧ w'.cell? ⟨w.heap.size, 3, none⟩ = some (.int .i64 c) ∧ w'.cell? ⟨w.heap.size, 4, none⟩ = some (.int .i64 d) ∧ w'.cell? ⟨w.heap.size, 5, none⟩ = some (.int .i64 e) ∧ w'.cell? ⟨w.heap.size, 6, none⟩ = some (.int .i64 f)) (first | go_keep | (exact HC.out _ y1)) (first | (go_at_call 18; (first | (with_reducible refine (KN.out _ (Ext.refl w5)).mono ?_) | (with_reducible refine (KN.out _ (ext_drew (Ext.refl w5))).mono ?_)); rintro e6 w6 ⟨rfl, y1⟩))
          all_goals
            have HX9 := Lib.hid (HX5.out.trans y1)
            clear y1
            go_wp2
            go_ret
            exact ⟨rfl, HX9.out⟩
    · have hie : (strB (nameK x)).toList.isEmpty = true := str_none (HNX.out.2 hx)
      by_cases hnn : ((strB (nameK x)).toList == (strB (nameK y)).toList) = true
      · by_cases h1 : x < 1
        · have l1 : decide (x < 1) = true := decide_eq_true h1
          clear hx h1 hxy
          generalize strB (nameK x) = nx at *
          generalize strB (nameK y) = ny at *
          skip
          go_wp2_with (first | (go_at_call 18; (with_reducible refine K1.out.mono ?_); rintro e9 w9 ⟨rfl, rfl⟩) | (go_at_call 18; (with_reducible refine K2.out.mono ?_); rintro e9 w9 ⟨rfl, rfl⟩))
          clear K1 K2 KN HNE HNX
          refine (KR.out _ (HLD.out.ext HX2.out)).mono ?_
          rintro e3 w3 ⟨rfl, hx3⟩
          have HX3 := Lib.hid (HX2.out.trans hx3)
          have HB3 := Lib.hid (HB2.out.ext hx3)
          clear hx3 HX2 HB2 KR q0 q1 q2 q3 q4 q5 q6
          cases hR : rightO (k, a, b, c, d, e, f) with
          | false =>
            go_wp2
            go_ret
            exact ⟨rfl, HX3.out⟩
          | true =>
            obtain ⟨tl, htx⟩ := HTX.out hR
            obtain ⟨hn1, hn2⟩ := names_bound (rightO_iff.1 hR).1
            have hk1 := (rightO_iff.1 hR).1
            rw [htx] at KT
            clear htx hR HTX
            obtain ⟨q0, q1, q2, q3, q4, q5, q6⟩ := box_cells HB3.out
            go_wp2_with fail
            refine (Name_any k w3 (HLD.out.ext HX3.out)).mono ?_
            rintro e4 w4 ⟨rfl, rfl⟩
            go_wp2_with fail
            refine (KT.out _ (HLD.out.ext HX3.out)).mono ?_
            rintro e5 w5 ⟨rfl, hx5⟩
            have HX5 := Lib.hid (HX3.out.trans hx5)
            have HB5 := Lib.hid (HB3.out.ext hx5)
            have HL5 := Lib.hid (HLD.out.ext HX5.out)
            have HC : Hid (∀ w', Ext w5 w' → (w'.cell? ⟨w.heap.size, 0, none⟩ = some (.int .i64 k) ∧ w'.cell? ⟨w.heap.size, 1, none⟩ = some (.int .i64 a) ∧ w'.cell? ⟨w.heap.size, 2, none⟩ = some (.int .i64 b) ∧ w'.cell? ⟨w.heap.size, 3, none⟩ = some (.int .i64 c) ∧ w'.cell? ⟨w.heap.size, 4, none⟩ = some (.int .i64 d) ∧ w'.cell? ⟨w.heap.size, 5, none⟩ = some (.int .i64 e) ∧ w'.cell? ⟨w.heap.size, 6, none⟩ = some (.int .i64 f))) := Lib.hid fun w' hy => box_cells (HB5.out.ext hy)
            have KN : Hid (∀ W, Ext w5 W → Calls Tryd.prog 18 #[.int .i64 k] W fun e w' => e = .returned (.string (strB (nameK k))) ∧ Ext w5 w') := Lib.hid fun W h => (Name_any k W (HL5.out.ext h)).mono (by rintro e w' ⟨rfl, rfl⟩; exact ⟨rfl, h⟩)
            clear hx5 HX3 HB3 KT q0 q1 q2 q3 q4 q5 q6 hk1
            obtain ⟨q0, q1, q2, q3, q4, q5, q6⟩ := box_cells HB5.out
            obtain ⟨n, hnm⟩ : ∃ n, (strB (nameK k)).size = n := ⟨_, rfl⟩
            obtain ⟨Ns, hsb⟩ : ∃ n, (strB (nameK k ++ wordsB tl)).size = n := ⟨_, rfl⟩
            have hn : (nameK k).length = n := by rw [← hnm, strB_size]
            have hs : Ns = n + (wordsB tl).length := by rw [← hsb, strB_size, List.length_append, hn]
            have hex : (strB (nameK k ++ wordsB tl)).extract 0 n = strB (nameK k) := by
              have := Lib.extract_from_zero (strB (nameK k ++ wordsB tl)) n
              rw [strB_list, ← hn, List.take_left] at this
              rw [← strB_back ((strB (nameK k ++ wordsB tl)).extract 0 n), ← hn, this]
            have hbl : Ns ≠ n → bt (strB (nameK k ++ wordsB tl)) n = 32 := fun h => by
              cases htl : wordsB tl with
              | nil =>
                rw [htl] at hs
                exact absurd hs h
              | cons c r =>
                have hc := wordsB_head htl
                have := bt_strB (nameK k ++ c :: r) (n := n) (c := 32) (by rw [← hn, List.getElem?_append_right (Nat.le_refl _), Nat.sub_self, hc]; rfl)
                rw [this]
                rfl
            have g1 : decide ((n : Int) ≤ (Ns : Int)) = true := decide_eq_true (by omega)
            have g1' : decide (n ≤ Ns) = true := decide_eq_true (by omega)
            have hle : n ≤ Ns := by omega
            have HHS := Lib.hid hs
            clear hn1 hn2 hs hn
            have hgb := get_bt (strB (nameK k ++ wordsB tl))
            generalize strB (nameK k ++ wordsB tl) = sb at *
            generalize strB (nameK k) = nm at *
            have ge : (nm.toList == nm.toList) = true := beq_self_eq_true _
            by_cases heq : Ns = n
            · subst heq
              clear hbl
              have g3 : ((Ns : Int) == (Ns : Int)) = true := beq_self_eq_true _
              have c5 := And.intro q0 q1
              go_wp2_with fail
              refine held_begin (by kernel_rfl) ?_
              have hHeld0 : True := True.intro
              refine held_more (S' := fun (w' : World) => w'.cell? ⟨w.heap.size, 0, none⟩ = some (.int .i64 k) ∧ w'.cell? ⟨w.heap.size, 1, none⟩ = some (.int .i64 a) ∧ w'.cell? ⟨w.heap.size, 2, none⟩ = some (.int .i64 b) ∧ w'.cell? ⟨w.heap.size, 3, none⟩ = some (.int .i64 c) ∧ w'.cell? ⟨w.heap.size, 4, none⟩ = some (.int .i64 d) ∧ w'.cell? ⟨w.heap.size, 5, none⟩ = some (.int .i64 e) ∧ w'.cell? ⟨w.heap.size, 6, none⟩ = some (.int .i64 f)) (fun _ _ => trivial) ?_
              have hHeld1 : (fun (w' : World) => w'.cell? ⟨w.heap.size, 0, none⟩ = some (.int .i64 k) ∧ w'.cell? ⟨w.heap.size, 1, none⟩ = some (.int .i64 a) ∧ w'.cell? ⟨w.heap.size, 2, none⟩ = some (.int .i64 b) ∧ w'.cell? ⟨w.heap.size, 3, none⟩ = some (.int .i64 c) ∧ w'.cell? ⟨w.heap.size, 4, none⟩ = some (.int .i64 d) ∧ w'.cell? ⟨w.heap.size, 5, none⟩ = some (.int .i64 e) ∧ w'.cell? ⟨w.heap.size, 6, none⟩ = some (.int .i64 f)) _ := (HC.out _ (ext_drew (Ext.refl w5)))
              clear hHeld0
              refine held_take (i := 0) (v := ?_) rfl (by kernel_rfl) (by kernel_rfl) (by kernel_rfl) (by rfl) (by first | assumption | exact True.intro) ?_ ?_
              rotate_left
              · (intro w hSw; (try dsimp only at hSw); go_simp; (try with_reducible rfl))
              try simp only [Act.put, List.setIfInBounds_toArray, List.set_cons_zero, List.set_cons_succ]
              refine held_take (i := 1) (v := ?_) rfl (by kernel_rfl) (by kernel_rfl) (by kernel_rfl) (by rfl) (by first | assumption | exact True.intro) ?_ ?_
              rotate_left
              · (intro w hSw; (try dsimp only at hSw); go_simp; (try with_reducible rfl))
              try simp only [Act.put, List.setIfInBounds_toArray, List.set_cons_zero, List.set_cons_succ]
              refine held_take (i := 2) (v := ?_) rfl (by kernel_rfl) (by kernel_rfl) (by kernel_rfl) (by rfl) (by first | assumption | exact True.intro) ?_ ?_
              rotate_left
              · (intro w hSw; (try dsimp only at hSw); go_simp; (try with_reducible rfl))
              try simp only [Act.put, List.setIfInBounds_toArray, List.set_cons_zero, List.set_cons_succ]
              refine held_take (i := 3) (v := ?_) rfl (by kernel_rfl) (by kernel_rfl) (by kernel_rfl) (by rfl) (by first | assumption | exact True.intro) ?_ ?_
              rotate_left
              · (intro w hSw; (try dsimp only at hSw); go_simp; (try with_reducible rfl))
              try simp only [Act.put, List.setIfInBounds_toArray, List.set_cons_zero, List.set_cons_succ]
              refine held_take (i := 4) (v := ?_) rfl (by kernel_rfl) (by kernel_rfl) (by kernel_rfl) (by rfl) (by first | assumption | exact True.intro) ?_ ?_
              rotate_left
              · (intro w hSw; (try dsimp only at hSw); go_simp; (try with_reducible rfl))
              try simp only [Act.put, List.setIfInBounds_toArray, List.set_cons_zero, List.set_cons_succ]
              refine held_take (i := 5) (v := ?_) rfl (by kernel_rfl) (by kernel_rfl) (by kernel_rfl) (by rfl) (by first | assumption | exact True.intro) ?_ ?_
              rotate_left
              · (intro w hSw; (try dsimp only at hSw); go_simp; (try with_reducible rfl))
              try simp only [Act.put, List.setIfInBounds_toArray, List.set_cons_zero, List.set_cons_succ]
              refine held_take (i := 6) (v := ?_) rfl (by kernel_rfl) (by kernel_rfl) (by kernel_rfl) (by rfl) (by first | assumption | exact True.intro) ?_ ?_
              rotate_left
              · (intro w hSw; (try dsimp only at hSw); go_simp; (try with_reducible rfl))
              try simp only [Act.put, List.setIfInBounds_toArray, List.set_cons_zero, List.set_cons_succ]
              refine held_take (i := 7) (v := ?_) rfl (by kernel_rfl) (by kernel_rfl) (by kernel_rfl) (by rfl) (by first | assumption | exact True.intro) ?_ ?_
              rotate_left
              · (intro w hSw; (try dsimp only at hSw); go_simp; (try with_reducible rfl))
              try simp only [Act.put, List.setIfInBounds_toArray, List.set_cons_zero, List.set_cons_succ]
              refine held_take (i := 8) (v := ?_) rfl (by kernel_rfl) (by kernel_rfl) (by kernel_rfl) (by rfl) (by first | assumption | exact True.intro) ?_ ?_
              rotate_left
              · (intro w hSw; (try dsimp only at hSw); go_simp; (try with_reducible rfl))
              try simp only [Act.put, List.setIfInBounds_toArray, List.set_cons_zero, List.set_cons_succ]
              refine held_take (i := 9) (v := ?_) rfl (by kernel_rfl) (by kernel_rfl) (by kernel_rfl) (by rfl) (by first | assumption | exact True.intro) ?_ ?_
              rotate_left
              · (intro w hSw; (try dsimp only at hSw); go_simp; (try with_reducible rfl))
              try simp only [Act.put, List.setIfInBounds_toArray, List.set_cons_zero, List.set_cons_succ]
              refine held_op (i := 10) (by kernel_rfl) rfl (fun K hK => ?_)
              go_simp
              go_at_call 18
              (with_reducible refine (KN.out _ (ext_drew (Ext.refl w5))).mono ?_)
              rintro e6 w6 ⟨rfl, y1⟩
              refine hK _ _ ?_ (fun hHeld2 => ?_)
              · exact (HC.out _ y1)
              clear hK K hHeld1
              try simp only [Act.put, List.setIfInBounds_toArray, List.set_cons_zero, List.set_cons_succ]
              refine held_take (i := 11) (v := ?_) rfl (by kernel_rfl) (by kernel_rfl) (by kernel_rfl) (by rfl) (by first | assumption | exact True.intro) ?_ ?_
              rotate_left
              · (intro w hSw; (try dsimp only at hSw); go_simp; (try with_reducible rfl))
              try simp only [Act.put, List.setIfInBounds_toArray, List.set_cons_zero, List.set_cons_succ]
              refine held_take (i := 12) (v := ?_) rfl (by kernel_rfl) (by kernel_rfl) (by kernel_rfl) (by rfl) (by first | assumption | exact True.intro) ?_ ?_
              rotate_left
              · (intro w hSw; (try dsimp only at hSw); go_simp; (try with_reducible rfl))
              try simp only [Act.put, List.setIfInBounds_toArray, List.set_cons_zero, List.set_cons_succ]
              refine held_take (i := 13) (v := ?_) rfl (by kernel_rfl) (by kernel_rfl) (by kernel_rfl) (by rfl) (by first | assumption | exact True.intro) ?_ ?_
              rotate_left
              · (intro w hSw; (try dsimp only at hSw); go_simp; (try with_reducible rfl))
              try simp only [Act.put, List.setIfInBounds_toArray, List.set_cons_zero, List.set_cons_succ]
              refine held_take (i := 14) (v := ?_) rfl (by kernel_rfl) (by kernel_rfl) (by kernel_rfl) (by rfl) (by first | assumption | exact True.intro) ?_ ?_
              rotate_left
              · (intro w hSw; (try dsimp only at hSw); go_simp; (try with_reducible rfl))
              try simp only [Act.put, List.setIfInBounds_toArray, List.set_cons_zero, List.set_cons_succ]
              refine held_take (i := 15) (v := ?_) rfl (by kernel_rfl) (by kernel_rfl) (by kernel_rfl) (by rfl) (by first | assumption | exact True.intro) ?_ ?_
              rotate_left
              · (intro w hSw; (try dsimp only at hSw); go_simp; (try with_reducible rfl))
              try simp only [Act.put, List.setIfInBounds_toArray, List.set_cons_zero, List.set_cons_succ]
              refine held_take (i := 16) (v := ?_) rfl (by kernel_rfl) (by kernel_rfl) (by kernel_rfl) (by rfl) (by first | assumption | exact True.intro) ?_ ?_
              rotate_left
              · (intro w hSw; (try dsimp only at hSw); go_simp; (try with_reducible rfl))
              try simp only [Act.put, List.setIfInBounds_toArray, List.set_cons_zero, List.set_cons_succ]
              refine held_take (i := 17) (v := ?_) rfl (by kernel_rfl) (by kernel_rfl) (by kernel_rfl) (by rfl) (by first | assumption | exact True.intro) ?_ ?_
              rotate_left
              · (intro w hSw; (try dsimp only at hSw); go_simp; (try with_reducible rfl))
              try simp only [Act.put, List.setIfInBounds_toArray, List.set_cons_zero, List.set_cons_succ]
              refine held_take (i := 18) (v := ?_) rfl (by kernel_rfl) (by kernel_rfl) (by kernel_rfl) (by rfl) (by first | assumption | exact True.intro) ?_ ?_
              rotate_left
              · (intro w hSw; (try dsimp only at hSw); go_simp; (try with_reducible rfl))
              try simp only [Act.put, List.setIfInBounds_toArray, List.set_cons_zero, List.set_cons_succ]
              refine held_skip (i := 19) rfl (by kernel_rfl) (by kernel_rfl) (by kernel_rfl) (by rfl) (by first | assumption | exact True.intro) ?_
              try simp only [Act.put, List.setIfInBounds_toArray, List.set_cons_zero, List.set_cons_succ]
              refine held_skip (i := 20) rfl (by kernel_rfl) (by kernel_rfl) (by kernel_rfl) (by rfl) (by first | assumption | exact True.intro) ?_
              try simp only [Act.put, List.setIfInBounds_toArray, List.set_cons_zero, List.set_cons_succ]
              refine held_skip (i := 21) rfl (by kernel_rfl) (by kernel_rfl) (by kernel_rfl) (by rfl) (by first | assumption | exact True.intro) ?_
              try simp only [Act.put, List.setIfInBounds_toArray, List.set_cons_zero, List.set_cons_succ]
              refine held_skip (i := 22) rfl (by kernel_rfl) (by kernel_rfl) (by kernel_rfl) (by rfl) (by first | assumption | exact True.intro) ?_
              try simp only [Act.put, List.setIfInBounds_toArray, List.set_cons_zero, List.set_cons_succ]
              refine held_take (i := 23) (v := ?_) rfl (by kernel_rfl) (by kernel_rfl) (by kernel_rfl) (by rfl) (by first | assumption | exact True.intro) ?_ ?_
              rotate_left
              · (intro w hSw; (try dsimp only at hSw); go_simp; (try with_reducible rfl))
              try simp only [Act.put, List.setIfInBounds_toArray, List.set_cons_zero, List.set_cons_succ]
              refine held_take (i := 24) (v := ?_) rfl (by kernel_rfl) (by kernel_rfl) (by kernel_rfl) (by rfl) (by first | assumption | exact True.intro) ?_ ?_
              rotate_left
              · (intro w hSw; (try dsimp only at hSw); go_simp; (try with_reducible rfl))
              try simp only [Act.put, List.setIfInBounds_toArray, List.set_cons_zero, List.set_cons_succ]
              refine held_take (i := 25) (v := ?_) rfl (by kernel_rfl) (by kernel_rfl) (by kernel_rfl) (by rfl) (by first | assumption | exact True.intro) ?_ ?_
              rotate_left
              · (intro w hSw; (try dsimp only at hSw); go_simp; (try with_reducible rfl))
              try simp only [Act.put, List.setIfInBounds_toArray, List.set_cons_zero, List.set_cons_succ]
              refine wpAnyH_done (by kernel_rfl) ?_ _
              refine NoPanic.normal ?_
              clear hHeld2
              all_goals
                have HX9 := Lib.hid (HX5.out.trans y1)
                clear y1
                go_wp2
                go_ret
                exact ⟨rfl, HX9.out⟩
            · have hb := hbl heq
              have g2 : ((Ns : Int) == (n : Int)) = false := by rw [beq_eq_false_iff_ne]; omega
              have g2' : (Ns == n) = false := by rw [beq_eq_false_iff_ne]; omega
              have e1 : (bt sb n == 32) = true := by rw [hb]; rfl
              have hlt : n < Ns := by omega
              have hlt2 : n < sb.size := by rw [hsb]; exact hlt
              clear hbl heq hb
              go_wp2_with fail
              go_region_held3 (fun w' => w'.cell? ⟨w.heap.size, 0, none⟩ = some (.int .i64 k) ∧ w'.cell? ⟨w.heap.size, 1, none⟩ = some (.int .i64 a) ∧ w'.cell? ⟨w.heap.size, 2, none⟩ = some (.int .i64 b) ∧ w'.cell? ⟨w.heap.size, 3, none⟩ = some (.int .i64 c) ∧ w'.cell? ⟨w.heap.size, 4, none⟩ = some (.int .i64 d) ∧ w'.cell? ⟨w.heap.size, 5, none⟩ = some (.int .i64 e) ∧ w'.cell? ⟨w.heap.size, 6, none⟩ = some (.int .i64 f)) (first | go_keep | (exact HC.out _ y1)) (first | (go_at_call 18; (first | (with_reducible refine (KN.out _ (Ext.refl w5)).mono ?_) | (with_reducible refine (KN.out _ (ext_drew (Ext.refl w5))).mono ?_)); rintro e6 w6 ⟨rfl, y1⟩))
              all_goals
                have HX9 := Lib.hid (HX5.out.trans y1)
                clear y1
                go_wp2
                go_ret
                exact ⟨rfl, HX9.out⟩
        · have l1 : decide (x < 1) = false := decide_eq_false h1
          have l2 : decide (21 < x) = true := decide_eq_true (by omega)
          clear hx h1 hxy
          generalize strB (nameK x) = nx at *
          generalize strB (nameK y) = ny at *
          skip
          go_wp2_with (first | (go_at_call 18; (with_reducible refine K1.out.mono ?_); rintro e9 w9 ⟨rfl, rfl⟩) | (go_at_call 18; (with_reducible refine K2.out.mono ?_); rintro e9 w9 ⟨rfl, rfl⟩))
          clear K1 K2 KN HNE HNX
          refine (KR.out _ (HLD.out.ext HX2.out)).mono ?_
          rintro e3 w3 ⟨rfl, hx3⟩
          have HX3 := Lib.hid (HX2.out.trans hx3)
          have HB3 := Lib.hid (HB2.out.ext hx3)
          clear hx3 HX2 HB2 KR q0 q1 q2 q3 q4 q5 q6
          cases hR : rightO (k, a, b, c, d, e, f) with
          | false =>
            go_wp2
            go_ret
            exact ⟨rfl, HX3.out⟩
          | true =>
            obtain ⟨tl, htx⟩ := HTX.out hR
            obtain ⟨hn1, hn2⟩ := names_bound (rightO_iff.1 hR).1
            have hk1 := (rightO_iff.1 hR).1
            rw [htx] at KT
            clear htx hR HTX
            obtain ⟨q0, q1, q2, q3, q4, q5, q6⟩ := box_cells HB3.out
            go_wp2_with fail
            refine (Name_any k w3 (HLD.out.ext HX3.out)).mono ?_
            rintro e4 w4 ⟨rfl, rfl⟩
            go_wp2_with fail
            refine (KT.out _ (HLD.out.ext HX3.out)).mono ?_
            rintro e5 w5 ⟨rfl, hx5⟩
            have HX5 := Lib.hid (HX3.out.trans hx5)
            have HB5 := Lib.hid (HB3.out.ext hx5)
            have HL5 := Lib.hid (HLD.out.ext HX5.out)
            have HC : Hid (∀ w', Ext w5 w' → (w'.cell? ⟨w.heap.size, 0, none⟩ = some (.int .i64 k) ∧ w'.cell? ⟨w.heap.size, 1, none⟩ = some (.int .i64 a) ∧ w'.cell? ⟨w.heap.size, 2, none⟩ = some (.int .i64 b) ∧ w'.cell? ⟨w.heap.size, 3, none⟩ = some (.int .i64 c) ∧ w'.cell? ⟨w.heap.size, 4, none⟩ = some (.int .i64 d) ∧ w'.cell? ⟨w.heap.size, 5, none⟩ = some (.int .i64 e) ∧ w'.cell? ⟨w.heap.size, 6, none⟩ = some (.int .i64 f))) := Lib.hid fun w' hy => box_cells (HB5.out.ext hy)
            have KN : Hid (∀ W, Ext w5 W → Calls Tryd.prog 18 #[.int .i64 k] W fun e w' => e = .returned (.string (strB (nameK k))) ∧ Ext w5 w') := Lib.hid fun W h => (Name_any k W (HL5.out.ext h)).mono (by rintro e w' ⟨rfl, rfl⟩; exact ⟨rfl, h⟩)
            clear hx5 HX3 HB3 KT q0 q1 q2 q3 q4 q5 q6 hk1
            obtain ⟨q0, q1, q2, q3, q4, q5, q6⟩ := box_cells HB5.out
            obtain ⟨n, hnm⟩ : ∃ n, (strB (nameK k)).size = n := ⟨_, rfl⟩
            obtain ⟨Ns, hsb⟩ : ∃ n, (strB (nameK k ++ wordsB tl)).size = n := ⟨_, rfl⟩
            have hn : (nameK k).length = n := by rw [← hnm, strB_size]
            have hs : Ns = n + (wordsB tl).length := by rw [← hsb, strB_size, List.length_append, hn]
            have hex : (strB (nameK k ++ wordsB tl)).extract 0 n = strB (nameK k) := by
              have := Lib.extract_from_zero (strB (nameK k ++ wordsB tl)) n
              rw [strB_list, ← hn, List.take_left] at this
              rw [← strB_back ((strB (nameK k ++ wordsB tl)).extract 0 n), ← hn, this]
            have hbl : Ns ≠ n → bt (strB (nameK k ++ wordsB tl)) n = 32 := fun h => by
              cases htl : wordsB tl with
              | nil =>
                rw [htl] at hs
                exact absurd hs h
              | cons c r =>
                have hc := wordsB_head htl
                have := bt_strB (nameK k ++ c :: r) (n := n) (c := 32) (by rw [← hn, List.getElem?_append_right (Nat.le_refl _), Nat.sub_self, hc]; rfl)
                rw [this]
                rfl
            have g1 : decide ((n : Int) ≤ (Ns : Int)) = true := decide_eq_true (by omega)
            have g1' : decide (n ≤ Ns) = true := decide_eq_true (by omega)
            have hle : n ≤ Ns := by omega
            have HHS := Lib.hid hs
            clear hn1 hn2 hs hn
            have hgb := get_bt (strB (nameK k ++ wordsB tl))
            generalize strB (nameK k ++ wordsB tl) = sb at *
            generalize strB (nameK k) = nm at *
            have ge : (nm.toList == nm.toList) = true := beq_self_eq_true _
            by_cases heq : Ns = n
            · subst heq
              clear hbl
              have g3 : ((Ns : Int) == (Ns : Int)) = true := beq_self_eq_true _
              have c5 := And.intro q0 q1
              go_wp2_with fail
              refine held_begin (by kernel_rfl) ?_
              have hHeld0 : True := True.intro
              refine held_more (S' := fun (w' : World) => w'.cell? ⟨w.heap.size, 0, none⟩ = some (.int .i64 k) ∧ w'.cell? ⟨w.heap.size, 1, none⟩ = some (.int .i64 a) ∧ w'.cell? ⟨w.heap.size, 2, none⟩ = some (.int .i64 b) ∧ w'.cell? ⟨w.heap.size, 3, none⟩ = some (.int .i64 c) ∧ w'.cell? ⟨w.heap.size, 4, none⟩ = some (.int .i64 d) ∧ w'.cell? ⟨w.heap.size, 5, none⟩ = some (.int .i64 e) ∧ w'.cell? ⟨w.heap.size, 6, none⟩ = some (.int .i64 f)) (fun _ _ => trivial) ?_
              have hHeld1 : (fun (w' : World) => w'.cell? ⟨w.heap.size, 0, none⟩ = some (.int .i64 k) ∧ w'.cell? ⟨w.heap.size, 1, none⟩ = some (.int .i64 a) ∧ w'.cell? ⟨w.heap.size, 2, none⟩ = some (.int .i64 b) ∧ w'.cell? ⟨w.heap.size, 3, none⟩ = some (.int .i64 c) ∧ w'.cell? ⟨w.heap.size, 4, none⟩ = some (.int .i64 d) ∧ w'.cell? ⟨w.heap.size, 5, none⟩ = some (.int .i64 e) ∧ w'.cell? ⟨w.heap.size, 6, none⟩ = some (.int .i64 f)) _ := (HC.out _ (ext_drew (Ext.refl w5)))
              clear hHeld0
              refine held_take (i := 0) (v := ?_) rfl (by kernel_rfl) (by kernel_rfl) (by kernel_rfl) (by rfl) (by first | assumption | exact True.intro) ?_ ?_
              rotate_left
              · (intro w hSw; (try dsimp only at hSw); go_simp; (try with_reducible rfl))
              try simp only [Act.put, List.setIfInBounds_toArray, List.set_cons_zero, List.set_cons_succ]
              refine held_take (i := 1) (v := ?_) rfl (by kernel_rfl) (by kernel_rfl) (by kernel_rfl) (by rfl) (by first | assumption | exact True.intro) ?_ ?_
              rotate_left
              · (intro w hSw; (try dsimp only at hSw); go_simp; (try with_reducible rfl))
              try simp only [Act.put, List.setIfInBounds_toArray, List.set_cons_zero, List.set_cons_succ]
              refine held_take (i := 2) (v := ?_) rfl (by kernel_rfl) (by kernel_rfl) (by kernel_rfl) (by rfl) (by first | assumption | exact True.intro) ?_ ?_
              rotate_left
              · (intro w hSw; (try dsimp only at hSw); go_simp; (try with_reducible rfl))
              try simp only [Act.put, List.setIfInBounds_toArray, List.set_cons_zero, List.set_cons_succ]
              refine held_take (i := 3) (v := ?_) rfl (by kernel_rfl) (by kernel_rfl) (by kernel_rfl) (by rfl) (by first | assumption | exact True.intro) ?_ ?_
              rotate_left
              · (intro w hSw; (try dsimp only at hSw); go_simp; (try with_reducible rfl))
              try simp only [Act.put, List.setIfInBounds_toArray, List.set_cons_zero, List.set_cons_succ]
              refine held_take (i := 4) (v := ?_) rfl (by kernel_rfl) (by kernel_rfl) (by kernel_rfl) (by rfl) (by first | assumption | exact True.intro) ?_ ?_
              rotate_left
              · (intro w hSw; (try dsimp only at hSw); go_simp; (try with_reducible rfl))
              try simp only [Act.put, List.setIfInBounds_toArray, List.set_cons_zero, List.set_cons_succ]
              refine held_take (i := 5) (v := ?_) rfl (by kernel_rfl) (by kernel_rfl) (by kernel_rfl) (by rfl) (by first | assumption | exact True.intro) ?_ ?_
              rotate_left
              · (intro w hSw; (try dsimp only at hSw); go_simp; (try with_reducible rfl))
              try simp only [Act.put, List.setIfInBounds_toArray, List.set_cons_zero, List.set_cons_succ]
              refine held_take (i := 6) (v := ?_) rfl (by kernel_rfl) (by kernel_rfl) (by kernel_rfl) (by rfl) (by first | assumption | exact True.intro) ?_ ?_
              rotate_left
              · (intro w hSw; (try dsimp only at hSw); go_simp; (try with_reducible rfl))
              try simp only [Act.put, List.setIfInBounds_toArray, List.set_cons_zero, List.set_cons_succ]
              refine held_take (i := 7) (v := ?_) rfl (by kernel_rfl) (by kernel_rfl) (by kernel_rfl) (by rfl) (by first | assumption | exact True.intro) ?_ ?_
              rotate_left
              · (intro w hSw; (try dsimp only at hSw); go_simp; (try with_reducible rfl))
              try simp only [Act.put, List.setIfInBounds_toArray, List.set_cons_zero, List.set_cons_succ]
              refine held_take (i := 8) (v := ?_) rfl (by kernel_rfl) (by kernel_rfl) (by kernel_rfl) (by rfl) (by first | assumption | exact True.intro) ?_ ?_
              rotate_left
              · (intro w hSw; (try dsimp only at hSw); go_simp; (try with_reducible rfl))
              try simp only [Act.put, List.setIfInBounds_toArray, List.set_cons_zero, List.set_cons_succ]
              refine held_take (i := 9) (v := ?_) rfl (by kernel_rfl) (by kernel_rfl) (by kernel_rfl) (by rfl) (by first | assumption | exact True.intro) ?_ ?_
              rotate_left
              · (intro w hSw; (try dsimp only at hSw); go_simp; (try with_reducible rfl))
              try simp only [Act.put, List.setIfInBounds_toArray, List.set_cons_zero, List.set_cons_succ]
              refine held_op (i := 10) (by kernel_rfl) rfl (fun K hK => ?_)
              go_simp
              go_at_call 18
              (with_reducible refine (KN.out _ (ext_drew (Ext.refl w5))).mono ?_)
              rintro e6 w6 ⟨rfl, y1⟩
              refine hK _ _ ?_ (fun hHeld2 => ?_)
              · exact (HC.out _ y1)
              clear hK K hHeld1
              try simp only [Act.put, List.setIfInBounds_toArray, List.set_cons_zero, List.set_cons_succ]
              refine held_take (i := 11) (v := ?_) rfl (by kernel_rfl) (by kernel_rfl) (by kernel_rfl) (by rfl) (by first | assumption | exact True.intro) ?_ ?_
              rotate_left
              · (intro w hSw; (try dsimp only at hSw); go_simp; (try with_reducible rfl))
              try simp only [Act.put, List.setIfInBounds_toArray, List.set_cons_zero, List.set_cons_succ]
              refine held_take (i := 12) (v := ?_) rfl (by kernel_rfl) (by kernel_rfl) (by kernel_rfl) (by rfl) (by first | assumption | exact True.intro) ?_ ?_
              rotate_left
              · (intro w hSw; (try dsimp only at hSw); go_simp; (try with_reducible rfl))
              try simp only [Act.put, List.setIfInBounds_toArray, List.set_cons_zero, List.set_cons_succ]
              refine held_take (i := 13) (v := ?_) rfl (by kernel_rfl) (by kernel_rfl) (by kernel_rfl) (by rfl) (by first | assumption | exact True.intro) ?_ ?_
              rotate_left
              · (intro w hSw; (try dsimp only at hSw); go_simp; (try with_reducible rfl))
              try simp only [Act.put, List.setIfInBounds_toArray, List.set_cons_zero, List.set_cons_succ]
              refine held_take (i := 14) (v := ?_) rfl (by kernel_rfl) (by kernel_rfl) (by kernel_rfl) (by rfl) (by first | assumption | exact True.intro) ?_ ?_
              rotate_left
              · (intro w hSw; (try dsimp only at hSw); go_simp; (try with_reducible rfl))
              try simp only [Act.put, List.setIfInBounds_toArray, List.set_cons_zero, List.set_cons_succ]
              refine held_take (i := 15) (v := ?_) rfl (by kernel_rfl) (by kernel_rfl) (by kernel_rfl) (by rfl) (by first | assumption | exact True.intro) ?_ ?_
              rotate_left
              · (intro w hSw; (try dsimp only at hSw); go_simp; (try with_reducible rfl))
              try simp only [Act.put, List.setIfInBounds_toArray, List.set_cons_zero, List.set_cons_succ]
              refine held_take (i := 16) (v := ?_) rfl (by kernel_rfl) (by kernel_rfl) (by kernel_rfl) (by rfl) (by first | assumption | exact True.intro) ?_ ?_
              rotate_left
              · (intro w hSw; (try dsimp only at hSw); go_simp; (try with_reducible rfl))
              try simp only [Act.put, List.setIfInBounds_toArray, List.set_cons_zero, List.set_cons_succ]
              refine held_take (i := 17) (v := ?_) rfl (by kernel_rfl) (by kernel_rfl) (by kernel_rfl) (by rfl) (by first | assumption | exact True.intro) ?_ ?_
              rotate_left
              · (intro w hSw; (try dsimp only at hSw); go_simp; (try with_reducible rfl))
              try simp only [Act.put, List.setIfInBounds_toArray, List.set_cons_zero, List.set_cons_succ]
              refine held_take (i := 18) (v := ?_) rfl (by kernel_rfl) (by kernel_rfl) (by kernel_rfl) (by rfl) (by first | assumption | exact True.intro) ?_ ?_
              rotate_left
              · (intro w hSw; (try dsimp only at hSw); go_simp; (try with_reducible rfl))
              try simp only [Act.put, List.setIfInBounds_toArray, List.set_cons_zero, List.set_cons_succ]
              refine held_skip (i := 19) rfl (by kernel_rfl) (by kernel_rfl) (by kernel_rfl) (by rfl) (by first | assumption | exact True.intro) ?_
              try simp only [Act.put, List.setIfInBounds_toArray, List.set_cons_zero, List.set_cons_succ]
              refine held_skip (i := 20) rfl (by kernel_rfl) (by kernel_rfl) (by kernel_rfl) (by rfl) (by first | assumption | exact True.intro) ?_
              try simp only [Act.put, List.setIfInBounds_toArray, List.set_cons_zero, List.set_cons_succ]
              refine held_skip (i := 21) rfl (by kernel_rfl) (by kernel_rfl) (by kernel_rfl) (by rfl) (by first | assumption | exact True.intro) ?_
              try simp only [Act.put, List.setIfInBounds_toArray, List.set_cons_zero, List.set_cons_succ]
              refine held_skip (i := 22) rfl (by kernel_rfl) (by kernel_rfl) (by kernel_rfl) (by rfl) (by first | assumption | exact True.intro) ?_
              try simp only [Act.put, List.setIfInBounds_toArray, List.set_cons_zero, List.set_cons_succ]
              refine held_take (i := 23) (v := ?_) rfl (by kernel_rfl) (by kernel_rfl) (by kernel_rfl) (by rfl) (by first | assumption | exact True.intro) ?_ ?_
              rotate_left
              · (intro w hSw; (try dsimp only at hSw); go_simp; (try with_reducible rfl))
              try simp only [Act.put, List.setIfInBounds_toArray, List.set_cons_zero, List.set_cons_succ]
              refine held_take (i := 24) (v := ?_) rfl (by kernel_rfl) (by kernel_rfl) (by kernel_rfl) (by rfl) (by first | assumption | exact True.intro) ?_ ?_
              rotate_left
              · (intro w hSw; (try dsimp only at hSw); go_simp; (try with_reducible rfl))
              try simp only [Act.put, List.setIfInBounds_toArray, List.set_cons_zero, List.set_cons_succ]
              refine held_take (i := 25) (v := ?_) rfl (by kernel_rfl) (by kernel_rfl) (by kernel_rfl) (by rfl) (by first | assumption | exact True.intro) ?_ ?_
              rotate_left
              · (intro w hSw; (try dsimp only at hSw); go_simp; (try with_reducible rfl))
              try simp only [Act.put, List.setIfInBounds_toArray, List.set_cons_zero, List.set_cons_succ]
              refine wpAnyH_done (by kernel_rfl) ?_ _
              refine NoPanic.normal ?_
              clear hHeld2
              all_goals
                have HX9 := Lib.hid (HX5.out.trans y1)
                clear y1
                go_wp2
                go_ret
                exact ⟨rfl, HX9.out⟩
            · have hb := hbl heq
              have g2 : ((Ns : Int) == (n : Int)) = false := by rw [beq_eq_false_iff_ne]; omega
              have g2' : (Ns == n) = false := by rw [beq_eq_false_iff_ne]; omega
              have e1 : (bt sb n == 32) = true := by rw [hb]; rfl
              have hlt : n < Ns := by omega
              have hlt2 : n < sb.size := by rw [hsb]; exact hlt
              clear hbl heq hb
              go_wp2_with fail
              go_region_held3 (fun w' => w'.cell? ⟨w.heap.size, 0, none⟩ = some (.int .i64 k) ∧ w'.cell? ⟨w.heap.size, 1, none⟩ = some (.int .i64 a) ∧ w'.cell? ⟨w.heap.size, 2, none⟩ = some (.int .i64 b) ∧ w'.cell? ⟨w.heap.size, 3, none⟩ = some (.int .i64 c) ∧ w'.cell? ⟨w.heap.size, 4, none⟩ = some (.int .i64 d) ∧ w'.cell? ⟨w.heap.size, 5, none⟩ = some (.int .i64 e) ∧ w'.cell? ⟨w.heap.size, 6, none⟩ = some (.int .i64 f)) (first | go_keep | (exact HC.out _ y1)) (first | (go_at_call 18; (first | (with_reducible refine (KN.out _ (Ext.refl w5)).mono ?_) | (with_reducible refine (KN.out _ (ext_drew (Ext.refl w5))).mono ?_)); rintro e6 w6 ⟨rfl, y1⟩))
              all_goals
                have HX9 := Lib.hid (HX5.out.trans y1)
                clear y1
                go_wp2
                go_ret
                exact ⟨rfl, HX9.out⟩
      · rw [Bool.not_eq_true] at hnn
        by_cases h1 : x < 1
        · have l1 : decide (x < 1) = true := decide_eq_true h1
          clear hx h1 hxy
          generalize strB (nameK x) = nx at *
          generalize strB (nameK y) = ny at *
          skip
          go_wp2_with (first | (go_at_call 18; (with_reducible refine K1.out.mono ?_); rintro e9 w9 ⟨rfl, rfl⟩) | (go_at_call 18; (with_reducible refine K2.out.mono ?_); rintro e9 w9 ⟨rfl, rfl⟩))
          clear K1 K2 KN HNE HNX
          refine (KR.out _ (HLD.out.ext HX2.out)).mono ?_
          rintro e3 w3 ⟨rfl, hx3⟩
          have HX3 := Lib.hid (HX2.out.trans hx3)
          have HB3 := Lib.hid (HB2.out.ext hx3)
          clear hx3 HX2 HB2 KR q0 q1 q2 q3 q4 q5 q6
          cases hR : rightO (k, a, b, c, d, e, f) with
          | false =>
            go_wp2
            go_ret
            exact ⟨rfl, HX3.out⟩
          | true =>
            obtain ⟨tl, htx⟩ := HTX.out hR
            obtain ⟨hn1, hn2⟩ := names_bound (rightO_iff.1 hR).1
            have hk1 := (rightO_iff.1 hR).1
            rw [htx] at KT
            clear htx hR HTX
            obtain ⟨q0, q1, q2, q3, q4, q5, q6⟩ := box_cells HB3.out
            go_wp2_with fail
            refine (Name_any k w3 (HLD.out.ext HX3.out)).mono ?_
            rintro e4 w4 ⟨rfl, rfl⟩
            go_wp2_with fail
            refine (KT.out _ (HLD.out.ext HX3.out)).mono ?_
            rintro e5 w5 ⟨rfl, hx5⟩
            have HX5 := Lib.hid (HX3.out.trans hx5)
            have HB5 := Lib.hid (HB3.out.ext hx5)
            have HL5 := Lib.hid (HLD.out.ext HX5.out)
            have HC : Hid (∀ w', Ext w5 w' → (w'.cell? ⟨w.heap.size, 0, none⟩ = some (.int .i64 k) ∧ w'.cell? ⟨w.heap.size, 1, none⟩ = some (.int .i64 a) ∧ w'.cell? ⟨w.heap.size, 2, none⟩ = some (.int .i64 b) ∧ w'.cell? ⟨w.heap.size, 3, none⟩ = some (.int .i64 c) ∧ w'.cell? ⟨w.heap.size, 4, none⟩ = some (.int .i64 d) ∧ w'.cell? ⟨w.heap.size, 5, none⟩ = some (.int .i64 e) ∧ w'.cell? ⟨w.heap.size, 6, none⟩ = some (.int .i64 f))) := Lib.hid fun w' hy => box_cells (HB5.out.ext hy)
            have KN : Hid (∀ W, Ext w5 W → Calls Tryd.prog 18 #[.int .i64 k] W fun e w' => e = .returned (.string (strB (nameK k))) ∧ Ext w5 w') := Lib.hid fun W h => (Name_any k W (HL5.out.ext h)).mono (by rintro e w' ⟨rfl, rfl⟩; exact ⟨rfl, h⟩)
            clear hx5 HX3 HB3 KT q0 q1 q2 q3 q4 q5 q6 hk1
            obtain ⟨q0, q1, q2, q3, q4, q5, q6⟩ := box_cells HB5.out
            obtain ⟨n, hnm⟩ : ∃ n, (strB (nameK k)).size = n := ⟨_, rfl⟩
            obtain ⟨Ns, hsb⟩ : ∃ n, (strB (nameK k ++ wordsB tl)).size = n := ⟨_, rfl⟩
            have hn : (nameK k).length = n := by rw [← hnm, strB_size]
            have hs : Ns = n + (wordsB tl).length := by rw [← hsb, strB_size, List.length_append, hn]
            have hex : (strB (nameK k ++ wordsB tl)).extract 0 n = strB (nameK k) := by
              have := Lib.extract_from_zero (strB (nameK k ++ wordsB tl)) n
              rw [strB_list, ← hn, List.take_left] at this
              rw [← strB_back ((strB (nameK k ++ wordsB tl)).extract 0 n), ← hn, this]
            have hbl : Ns ≠ n → bt (strB (nameK k ++ wordsB tl)) n = 32 := fun h => by
              cases htl : wordsB tl with
              | nil =>
                rw [htl] at hs
                exact absurd hs h
              | cons c r =>
                have hc := wordsB_head htl
                have := bt_strB (nameK k ++ c :: r) (n := n) (c := 32) (by rw [← hn, List.getElem?_append_right (Nat.le_refl _), Nat.sub_self, hc]; rfl)
                rw [this]
                rfl
            have g1 : decide ((n : Int) ≤ (Ns : Int)) = true := decide_eq_true (by omega)
            have g1' : decide (n ≤ Ns) = true := decide_eq_true (by omega)
            have hle : n ≤ Ns := by omega
            have HHS := Lib.hid hs
            clear hn1 hn2 hs hn
            have hgb := get_bt (strB (nameK k ++ wordsB tl))
            generalize strB (nameK k ++ wordsB tl) = sb at *
            generalize strB (nameK k) = nm at *
            have ge : (nm.toList == nm.toList) = true := beq_self_eq_true _
            by_cases heq : Ns = n
            · subst heq
              clear hbl
              have g3 : ((Ns : Int) == (Ns : Int)) = true := beq_self_eq_true _
              have c5 := And.intro q0 q1
              go_wp2_with fail
              refine held_begin (by kernel_rfl) ?_
              have hHeld0 : True := True.intro
              refine held_more (S' := fun (w' : World) => w'.cell? ⟨w.heap.size, 0, none⟩ = some (.int .i64 k) ∧ w'.cell? ⟨w.heap.size, 1, none⟩ = some (.int .i64 a) ∧ w'.cell? ⟨w.heap.size, 2, none⟩ = some (.int .i64 b) ∧ w'.cell? ⟨w.heap.size, 3, none⟩ = some (.int .i64 c) ∧ w'.cell? ⟨w.heap.size, 4, none⟩ = some (.int .i64 d) ∧ w'.cell? ⟨w.heap.size, 5, none⟩ = some (.int .i64 e) ∧ w'.cell? ⟨w.heap.size, 6, none⟩ = some (.int .i64 f)) (fun _ _ => trivial) ?_
              have hHeld1 : (fun (w' : World) => w'.cell? ⟨w.heap.size, 0, none⟩ = some (.int .i64 k) ∧ w'.cell? ⟨w.heap.size, 1, none⟩ = some (.int .i64 a) ∧ w'.cell? ⟨w.heap.size, 2, none⟩ = some (.int .i64 b) ∧ w'.cell? ⟨w.heap.size, 3, none⟩ = some (.int .i64 c) ∧ w'.cell? ⟨w.heap.size, 4, none⟩ = some (.int .i64 d) ∧ w'.cell? ⟨w.heap.size, 5, none⟩ = some (.int .i64 e) ∧ w'.cell? ⟨w.heap.size, 6, none⟩ = some (.int .i64 f)) _ := (HC.out _ (ext_drew (Ext.refl w5)))
              clear hHeld0
              refine held_take (i := 0) (v := ?_) rfl (by kernel_rfl) (by kernel_rfl) (by kernel_rfl) (by rfl) (by first | assumption | exact True.intro) ?_ ?_
              rotate_left
              · (intro w hSw; (try dsimp only at hSw); go_simp; (try with_reducible rfl))
              try simp only [Act.put, List.setIfInBounds_toArray, List.set_cons_zero, List.set_cons_succ]
              refine held_take (i := 1) (v := ?_) rfl (by kernel_rfl) (by kernel_rfl) (by kernel_rfl) (by rfl) (by first | assumption | exact True.intro) ?_ ?_
              rotate_left
              · (intro w hSw; (try dsimp only at hSw); go_simp; (try with_reducible rfl))
              try simp only [Act.put, List.setIfInBounds_toArray, List.set_cons_zero, List.set_cons_succ]
              refine held_take (i := 2) (v := ?_) rfl (by kernel_rfl) (by kernel_rfl) (by kernel_rfl) (by rfl) (by first | assumption | exact True.intro) ?_ ?_
              rotate_left
              · (intro w hSw; (try dsimp only at hSw); go_simp; (try with_reducible rfl))
              try simp only [Act.put, List.setIfInBounds_toArray, List.set_cons_zero, List.set_cons_succ]
              refine held_take (i := 3) (v := ?_) rfl (by kernel_rfl) (by kernel_rfl) (by kernel_rfl) (by rfl) (by first | assumption | exact True.intro) ?_ ?_
              rotate_left
              · (intro w hSw; (try dsimp only at hSw); go_simp; (try with_reducible rfl))
              try simp only [Act.put, List.setIfInBounds_toArray, List.set_cons_zero, List.set_cons_succ]
              refine held_take (i := 4) (v := ?_) rfl (by kernel_rfl) (by kernel_rfl) (by kernel_rfl) (by rfl) (by first | assumption | exact True.intro) ?_ ?_
              rotate_left
              · (intro w hSw; (try dsimp only at hSw); go_simp; (try with_reducible rfl))
              try simp only [Act.put, List.setIfInBounds_toArray, List.set_cons_zero, List.set_cons_succ]
              refine held_take (i := 5) (v := ?_) rfl (by kernel_rfl) (by kernel_rfl) (by kernel_rfl) (by rfl) (by first | assumption | exact True.intro) ?_ ?_
              rotate_left
              · (intro w hSw; (try dsimp only at hSw); go_simp; (try with_reducible rfl))
              try simp only [Act.put, List.setIfInBounds_toArray, List.set_cons_zero, List.set_cons_succ]
              refine held_take (i := 6) (v := ?_) rfl (by kernel_rfl) (by kernel_rfl) (by kernel_rfl) (by rfl) (by first | assumption | exact True.intro) ?_ ?_
              rotate_left
              · (intro w hSw; (try dsimp only at hSw); go_simp; (try with_reducible rfl))
              try simp only [Act.put, List.setIfInBounds_toArray, List.set_cons_zero, List.set_cons_succ]
              refine held_take (i := 7) (v := ?_) rfl (by kernel_rfl) (by kernel_rfl) (by kernel_rfl) (by rfl) (by first | assumption | exact True.intro) ?_ ?_
              rotate_left
              · (intro w hSw; (try dsimp only at hSw); go_simp; (try with_reducible rfl))
              try simp only [Act.put, List.setIfInBounds_toArray, List.set_cons_zero, List.set_cons_succ]
              refine held_take (i := 8) (v := ?_) rfl (by kernel_rfl) (by kernel_rfl) (by kernel_rfl) (by rfl) (by first | assumption | exact True.intro) ?_ ?_
              rotate_left
              · (intro w hSw; (try dsimp only at hSw); go_simp; (try with_reducible rfl))
              try simp only [Act.put, List.setIfInBounds_toArray, List.set_cons_zero, List.set_cons_succ]
              refine held_take (i := 9) (v := ?_) rfl (by kernel_rfl) (by kernel_rfl) (by kernel_rfl) (by rfl) (by first | assumption | exact True.intro) ?_ ?_
              rotate_left
              · (intro w hSw; (try dsimp only at hSw); go_simp; (try with_reducible rfl))
              try simp only [Act.put, List.setIfInBounds_toArray, List.set_cons_zero, List.set_cons_succ]
              refine held_op (i := 10) (by kernel_rfl) rfl (fun K hK => ?_)
              go_simp
              go_at_call 18
              (with_reducible refine (KN.out _ (ext_drew (Ext.refl w5))).mono ?_)
              rintro e6 w6 ⟨rfl, y1⟩
              refine hK _ _ ?_ (fun hHeld2 => ?_)
              · exact (HC.out _ y1)
              clear hK K hHeld1
              try simp only [Act.put, List.setIfInBounds_toArray, List.set_cons_zero, List.set_cons_succ]
              refine held_take (i := 11) (v := ?_) rfl (by kernel_rfl) (by kernel_rfl) (by kernel_rfl) (by rfl) (by first | assumption | exact True.intro) ?_ ?_
              rotate_left
              · (intro w hSw; (try dsimp only at hSw); go_simp; (try with_reducible rfl))
              try simp only [Act.put, List.setIfInBounds_toArray, List.set_cons_zero, List.set_cons_succ]
              refine held_take (i := 12) (v := ?_) rfl (by kernel_rfl) (by kernel_rfl) (by kernel_rfl) (by rfl) (by first | assumption | exact True.intro) ?_ ?_
              rotate_left
              · (intro w hSw; (try dsimp only at hSw); go_simp; (try with_reducible rfl))
              try simp only [Act.put, List.setIfInBounds_toArray, List.set_cons_zero, List.set_cons_succ]
              refine held_take (i := 13) (v := ?_) rfl (by kernel_rfl) (by kernel_rfl) (by kernel_rfl) (by rfl) (by first | assumption | exact True.intro) ?_ ?_
              rotate_left
              · (intro w hSw; (try dsimp only at hSw); go_simp; (try with_reducible rfl))
              try simp only [Act.put, List.setIfInBounds_toArray, List.set_cons_zero, List.set_cons_succ]
              refine held_take (i := 14) (v := ?_) rfl (by kernel_rfl) (by kernel_rfl) (by kernel_rfl) (by rfl) (by first | assumption | exact True.intro) ?_ ?_
              rotate_left
              · (intro w hSw; (try dsimp only at hSw); go_simp; (try with_reducible rfl))
              try simp only [Act.put, List.setIfInBounds_toArray, List.set_cons_zero, List.set_cons_succ]
              refine held_take (i := 15) (v := ?_) rfl (by kernel_rfl) (by kernel_rfl) (by kernel_rfl) (by rfl) (by first | assumption | exact True.intro) ?_ ?_
              rotate_left
              · (intro w hSw; (try dsimp only at hSw); go_simp; (try with_reducible rfl))
              try simp only [Act.put, List.setIfInBounds_toArray, List.set_cons_zero, List.set_cons_succ]
              refine held_take (i := 16) (v := ?_) rfl (by kernel_rfl) (by kernel_rfl) (by kernel_rfl) (by rfl) (by first | assumption | exact True.intro) ?_ ?_
              rotate_left
              · (intro w hSw; (try dsimp only at hSw); go_simp; (try with_reducible rfl))
              try simp only [Act.put, List.setIfInBounds_toArray, List.set_cons_zero, List.set_cons_succ]
              refine held_take (i := 17) (v := ?_) rfl (by kernel_rfl) (by kernel_rfl) (by kernel_rfl) (by rfl) (by first | assumption | exact True.intro) ?_ ?_
              rotate_left
              · (intro w hSw; (try dsimp only at hSw); go_simp; (try with_reducible rfl))
              try simp only [Act.put, List.setIfInBounds_toArray, List.set_cons_zero, List.set_cons_succ]
              refine held_take (i := 18) (v := ?_) rfl (by kernel_rfl) (by kernel_rfl) (by kernel_rfl) (by rfl) (by first | assumption | exact True.intro) ?_ ?_
              rotate_left
              · (intro w hSw; (try dsimp only at hSw); go_simp; (try with_reducible rfl))
              try simp only [Act.put, List.setIfInBounds_toArray, List.set_cons_zero, List.set_cons_succ]
              refine held_skip (i := 19) rfl (by kernel_rfl) (by kernel_rfl) (by kernel_rfl) (by rfl) (by first | assumption | exact True.intro) ?_
              try simp only [Act.put, List.setIfInBounds_toArray, List.set_cons_zero, List.set_cons_succ]
              refine held_skip (i := 20) rfl (by kernel_rfl) (by kernel_rfl) (by kernel_rfl) (by rfl) (by first | assumption | exact True.intro) ?_
              try simp only [Act.put, List.setIfInBounds_toArray, List.set_cons_zero, List.set_cons_succ]
              refine held_skip (i := 21) rfl (by kernel_rfl) (by kernel_rfl) (by kernel_rfl) (by rfl) (by first | assumption | exact True.intro) ?_
              try simp only [Act.put, List.setIfInBounds_toArray, List.set_cons_zero, List.set_cons_succ]
              refine held_skip (i := 22) rfl (by kernel_rfl) (by kernel_rfl) (by kernel_rfl) (by rfl) (by first | assumption | exact True.intro) ?_
              try simp only [Act.put, List.setIfInBounds_toArray, List.set_cons_zero, List.set_cons_succ]
              refine held_take (i := 23) (v := ?_) rfl (by kernel_rfl) (by kernel_rfl) (by kernel_rfl) (by rfl) (by first | assumption | exact True.intro) ?_ ?_
              rotate_left
              · (intro w hSw; (try dsimp only at hSw); go_simp; (try with_reducible rfl))
              try simp only [Act.put, List.setIfInBounds_toArray, List.set_cons_zero, List.set_cons_succ]
              refine held_take (i := 24) (v := ?_) rfl (by kernel_rfl) (by kernel_rfl) (by kernel_rfl) (by rfl) (by first | assumption | exact True.intro) ?_ ?_
              rotate_left
              · (intro w hSw; (try dsimp only at hSw); go_simp; (try with_reducible rfl))
              try simp only [Act.put, List.setIfInBounds_toArray, List.set_cons_zero, List.set_cons_succ]
              refine held_take (i := 25) (v := ?_) rfl (by kernel_rfl) (by kernel_rfl) (by kernel_rfl) (by rfl) (by first | assumption | exact True.intro) ?_ ?_
              rotate_left
              · (intro w hSw; (try dsimp only at hSw); go_simp; (try with_reducible rfl))
              try simp only [Act.put, List.setIfInBounds_toArray, List.set_cons_zero, List.set_cons_succ]
              refine wpAnyH_done (by kernel_rfl) ?_ _
              refine NoPanic.normal ?_
              clear hHeld2
              all_goals
                have HX9 := Lib.hid (HX5.out.trans y1)
                clear y1
                go_wp2
                go_ret
                exact ⟨rfl, HX9.out⟩
            · have hb := hbl heq
              have g2 : ((Ns : Int) == (n : Int)) = false := by rw [beq_eq_false_iff_ne]; omega
              have g2' : (Ns == n) = false := by rw [beq_eq_false_iff_ne]; omega
              have e1 : (bt sb n == 32) = true := by rw [hb]; rfl
              have hlt : n < Ns := by omega
              have hlt2 : n < sb.size := by rw [hsb]; exact hlt
              clear hbl heq hb
              go_wp2_with fail
              go_region_held3 (fun w' => w'.cell? ⟨w.heap.size, 0, none⟩ = some (.int .i64 k) ∧ w'.cell? ⟨w.heap.size, 1, none⟩ = some (.int .i64 a) ∧ w'.cell? ⟨w.heap.size, 2, none⟩ = some (.int .i64 b) ∧ w'.cell? ⟨w.heap.size, 3, none⟩ = some (.int .i64 c) ∧ w'.cell? ⟨w.heap.size, 4, none⟩ = some (.int .i64 d) ∧ w'.cell? ⟨w.heap.size, 5, none⟩ = some (.int .i64 e) ∧ w'.cell? ⟨w.heap.size, 6, none⟩ = some (.int .i64 f)) (first | go_keep | (exact HC.out _ y1)) (first | (go_at_call 18; (first | (with_reducible refine (KN.out _ (Ext.refl w5)).mono ?_) | (with_reducible refine (KN.out _ (ext_drew (Ext.refl w5))).mono ?_)); rintro e6 w6 ⟨rfl, y1⟩))
              all_goals
                have HX9 := Lib.hid (HX5.out.trans y1)
                clear y1
                go_wp2
                go_ret
                exact ⟨rfl, HX9.out⟩
        · have l1 : decide (x < 1) = false := decide_eq_false h1
          have l2 : decide (21 < x) = true := decide_eq_true (by omega)
          clear hx h1 hxy
          generalize strB (nameK x) = nx at *
          generalize strB (nameK y) = ny at *
          skip
          go_wp2_with (first | (go_at_call 18; (with_reducible refine K1.out.mono ?_); rintro e9 w9 ⟨rfl, rfl⟩) | (go_at_call 18; (with_reducible refine K2.out.mono ?_); rintro e9 w9 ⟨rfl, rfl⟩))
          clear K1 K2 KN HNE HNX
          refine (KR.out _ (HLD.out.ext HX2.out)).mono ?_
          rintro e3 w3 ⟨rfl, hx3⟩
          have HX3 := Lib.hid (HX2.out.trans hx3)
          have HB3 := Lib.hid (HB2.out.ext hx3)
          clear hx3 HX2 HB2 KR q0 q1 q2 q3 q4 q5 q6
          cases hR : rightO (k, a, b, c, d, e, f) with
          | false =>
            go_wp2
            go_ret
            exact ⟨rfl, HX3.out⟩
          | true =>
            obtain ⟨tl, htx⟩ := HTX.out hR
            obtain ⟨hn1, hn2⟩ := names_bound (rightO_iff.1 hR).1
            have hk1 := (rightO_iff.1 hR).1
            rw [htx] at KT
            clear htx hR HTX
            obtain ⟨q0, q1, q2, q3, q4, q5, q6⟩ := box_cells HB3.out
            go_wp2_with fail
            refine (Name_any k w3 (HLD.out.ext HX3.out)).mono ?_
            rintro e4 w4 ⟨rfl, rfl⟩
            go_wp2_with fail
            refine (KT.out _ (HLD.out.ext HX3.out)).mono ?_
            rintro e5 w5 ⟨rfl, hx5⟩
            have HX5 := Lib.hid (HX3.out.trans hx5)
            have HB5 := Lib.hid (HB3.out.ext hx5)
            have HL5 := Lib.hid (HLD.out.ext HX5.out)
            have HC : Hid (∀ w', Ext w5 w' → (w'.cell? ⟨w.heap.size, 0, none⟩ = some (.int .i64 k) ∧ w'.cell? ⟨w.heap.size, 1, none⟩ = some (.int .i64 a) ∧ w'.cell? ⟨w.heap.size, 2, none⟩ = some (.int .i64 b) ∧ w'.cell? ⟨w.heap.size, 3, none⟩ = some (.int .i64 c) ∧ w'.cell? ⟨w.heap.size, 4, none⟩ = some (.int .i64 d) ∧ w'.cell? ⟨w.heap.size, 5, none⟩ = some (.int .i64 e) ∧ w'.cell? ⟨w.heap.size, 6, none⟩ = some (.int .i64 f))) := Lib.hid fun w' hy => box_cells (HB5.out.ext hy)
            have KN : Hid (∀ W, Ext w5 W → Calls Tryd.prog 18 #[.int .i64 k] W fun e w' => e = .returned (.string (strB (nameK k))) ∧ Ext w5 w') := Lib.hid fun W h => (Name_any k W (HL5.out.ext h)).mono (by rintro e w' ⟨rfl, rfl⟩; exact ⟨rfl, h⟩)
            clear hx5 HX3 HB3 KT q0 q1 q2 q3 q4 q5 q6 hk1
            obtain ⟨q0, q1, q2, q3, q4, q5, q6⟩ := box_cells HB5.out
            obtain ⟨n, hnm⟩ : ∃ n, (strB (nameK k)).size = n := ⟨_, rfl⟩
            obtain ⟨Ns, hsb⟩ : ∃ n, (strB (nameK k ++ wordsB tl)).size = n := ⟨_, rfl⟩
            have hn : (nameK k).length = n := by rw [← hnm, strB_size]
            have hs : Ns = n + (wordsB tl).length := by rw [← hsb, strB_size, List.length_append, hn]
            have hex : (strB (nameK k ++ wordsB tl)).extract 0 n = strB (nameK k) := by
              have := Lib.extract_from_zero (strB (nameK k ++ wordsB tl)) n
              rw [strB_list, ← hn, List.take_left] at this
              rw [← strB_back ((strB (nameK k ++ wordsB tl)).extract 0 n), ← hn, this]
            have hbl : Ns ≠ n → bt (strB (nameK k ++ wordsB tl)) n = 32 := fun h => by
              cases htl : wordsB tl with
              | nil =>
                rw [htl] at hs
                exact absurd hs h
              | cons c r =>
                have hc := wordsB_head htl
                have := bt_strB (nameK k ++ c :: r) (n := n) (c := 32) (by rw [← hn, List.getElem?_append_right (Nat.le_refl _), Nat.sub_self, hc]; rfl)
                rw [this]
                rfl
            have g1 : decide ((n : Int) ≤ (Ns : Int)) = true := decide_eq_true (by omega)
            have g1' : decide (n ≤ Ns) = true := decide_eq_true (by omega)
            have hle : n ≤ Ns := by omega
            have HHS := Lib.hid hs
            clear hn1 hn2 hs hn
            have hgb := get_bt (strB (nameK k ++ wordsB tl))
            generalize strB (nameK k ++ wordsB tl) = sb at *
            generalize strB (nameK k) = nm at *
            have ge : (nm.toList == nm.toList) = true := beq_self_eq_true _
            by_cases heq : Ns = n
            · subst heq
              clear hbl
              have g3 : ((Ns : Int) == (Ns : Int)) = true := beq_self_eq_true _
              have c5 := And.intro q0 q1
              go_wp2_with fail
              refine held_begin (by kernel_rfl) ?_
              have hHeld0 : True := True.intro
              refine held_more (S' := fun (w' : World) => w'.cell? ⟨w.heap.size, 0, none⟩ = some (.int .i64 k) ∧ w'.cell? ⟨w.heap.size, 1, none⟩ = some (.int .i64 a) ∧ w'.cell? ⟨w.heap.size, 2, none⟩ = some (.int .i64 b) ∧ w'.cell? ⟨w.heap.size, 3, none⟩ = some (.int .i64 c) ∧ w'.cell? ⟨w.heap.size, 4, none⟩ = some (.int .i64 d) ∧ w'.cell? ⟨w.heap.size, 5, none⟩ = some (.int .i64 e) ∧ w'.cell? ⟨w.heap.size, 6, none⟩ = some (.int .i64 f)) (fun _ _ => trivial) ?_
              have hHeld1 : (fun (w' : World) => w'.cell? ⟨w.heap.size, 0, none⟩ = some (.int .i64 k) ∧ w'.cell? ⟨w.heap.size, 1, none⟩ = some (.int .i64 a) ∧ w'.cell? ⟨w.heap.size, 2, none⟩ = some (.int .i64 b) ∧ w'.cell? ⟨w.heap.size, 3, none⟩ = some (.int .i64 c) ∧ w'.cell? ⟨w.heap.size, 4, none⟩ = some (.int .i64 d) ∧ w'.cell? ⟨w.heap.size, 5, none⟩ = some (.int .i64 e) ∧ w'.cell? ⟨w.heap.size, 6, none⟩ = some (.int .i64 f)) _ := (HC.out _ (ext_drew (Ext.refl w5)))
              clear hHeld0
              refine held_take (i := 0) (v := ?_) rfl (by kernel_rfl) (by kernel_rfl) (by kernel_rfl) (by rfl) (by first | assumption | exact True.intro) ?_ ?_
              rotate_left
              · (intro w hSw; (try dsimp only at hSw); go_simp; (try with_reducible rfl))
              try simp only [Act.put, List.setIfInBounds_toArray, List.set_cons_zero, List.set_cons_succ]
              refine held_take (i := 1) (v := ?_) rfl (by kernel_rfl) (by kernel_rfl) (by kernel_rfl) (by rfl) (by first | assumption | exact True.intro) ?_ ?_
              rotate_left
              · (intro w hSw; (try dsimp only at hSw); go_simp; (try with_reducible rfl))
              try simp only [Act.put, List.setIfInBounds_toArray, List.set_cons_zero, List.set_cons_succ]
              refine held_take (i := 2) (v := ?_) rfl (by kernel_rfl) (by kernel_rfl) (by kernel_rfl) (by rfl) (by first | assumption | exact True.intro) ?_ ?_
              rotate_left
              · (intro w hSw; (try dsimp only at hSw); go_simp; (try with_reducible rfl))
              try simp only [Act.put, List.setIfInBounds_toArray, List.set_cons_zero, List.set_cons_succ]
              refine held_take (i := 3) (v := ?_) rfl (by kernel_rfl) (by kernel_rfl) (by kernel_rfl) (by rfl) (by first | assumption | exact True.intro) ?_ ?_
              rotate_left
              · (intro w hSw; (try dsimp only at hSw); go_simp; (try with_reducible rfl))
              try simp only [Act.put, List.setIfInBounds_toArray, List.set_cons_zero, List.set_cons_succ]
              refine held_take (i := 4) (v := ?_) rfl (by kernel_rfl) (by kernel_rfl) (by kernel_rfl) (by rfl) (by first | assumption | exact True.intro) ?_ ?_
              rotate_left
              · (intro w hSw; (try dsimp only at hSw); go_simp; (try with_reducible rfl))
              try simp only [Act.put, List.setIfInBounds_toArray, List.set_cons_zero, List.set_cons_succ]
              refine held_take (i := 5) (v := ?_) rfl (by kernel_rfl) (by kernel_rfl) (by kernel_rfl) (by rfl) (by first | assumption | exact True.intro) ?_ ?_
              rotate_left
              · (intro w hSw; (try dsimp only at hSw); go_simp; (try with_reducible rfl))
              try simp only [Act.put, List.setIfInBounds_toArray, List.set_cons_zero, List.set_cons_succ]
              refine held_take (i := 6) (v := ?_) rfl (by kernel_rfl) (by kernel_rfl) (by kernel_rfl) (by rfl) (by first | assumption | exact True.intro) ?_ ?_
              rotate_left
              · (intro w hSw; (try dsimp only at hSw); go_simp; (try with_reducible rfl))
              try simp only [Act.put, List.setIfInBounds_toArray, List.set_cons_zero, List.set_cons_succ]
              refine held_take (i := 7) (v := ?_) rfl (by kernel_rfl) (by kernel_rfl) (by kernel_rfl) (by rfl) (by first | assumption | exact True.intro) ?_ ?_
              rotate_left
              · (intro w hSw; (try dsimp only at hSw); go_simp; (try with_reducible rfl))
              try simp only [Act.put, List.setIfInBounds_toArray, List.set_cons_zero, List.set_cons_succ]
              refine held_take (i := 8) (v := ?_) rfl (by kernel_rfl) (by kernel_rfl) (by kernel_rfl) (by rfl) (by first | assumption | exact True.intro) ?_ ?_
              rotate_left
              · (intro w hSw; (try dsimp only at hSw); go_simp; (try with_reducible rfl))
              try simp only [Act.put, List.setIfInBounds_toArray, List.set_cons_zero, List.set_cons_succ]
              refine held_take (i := 9) (v := ?_) rfl (by kernel_rfl) (by kernel_rfl) (by kernel_rfl) (by rfl) (by first | assumption | exact True.intro) ?_ ?_
              rotate_left
              · (intro w hSw; (try dsimp only at hSw); go_simp; (try with_reducible rfl))
              try simp only [Act.put, List.setIfInBounds_toArray, List.set_cons_zero, List.set_cons_succ]
              refine held_op (i := 10) (by kernel_rfl) rfl (fun K hK => ?_)
              go_simp
              go_at_call 18
              (with_reducible refine (KN.out _ (ext_drew (Ext.refl w5))).mono ?_)
              rintro e6 w6 ⟨rfl, y1⟩
              refine hK _ _ ?_ (fun hHeld2 => ?_)
              · exact (HC.out _ y1)
              clear hK K hHeld1
              try simp only [Act.put, List.setIfInBounds_toArray, List.set_cons_zero, List.set_cons_succ]
              refine held_take (i := 11) (v := ?_) rfl (by kernel_rfl) (by kernel_rfl) (by kernel_rfl) (by rfl) (by first | assumption | exact True.intro) ?_ ?_
              rotate_left
              · (intro w hSw; (try dsimp only at hSw); go_simp; (try with_reducible rfl))
              try simp only [Act.put, List.setIfInBounds_toArray, List.set_cons_zero, List.set_cons_succ]
              refine held_take (i := 12) (v := ?_) rfl (by kernel_rfl) (by kernel_rfl) (by kernel_rfl) (by rfl) (by first | assumption | exact True.intro) ?_ ?_
              rotate_left
              · (intro w hSw; (try dsimp only at hSw); go_simp; (try with_reducible rfl))
              try simp only [Act.put, List.setIfInBounds_toArray, List.set_cons_zero, List.set_cons_succ]
              refine held_take (i := 13) (v := ?_) rfl (by kernel_rfl) (by kernel_rfl) (by kernel_rfl) (by rfl) (by first | assumption | exact True.intro) ?_ ?_
              rotate_left
              · (intro w hSw; (try dsimp only at hSw); go_simp; (try with_reducible rfl))
              try simp only [Act.put, List.setIfInBounds_toArray, List.set_cons_zero, List.set_cons_succ]
              refine held_take (i := 14) (v := ?_) rfl (by kernel_rfl) (by kernel_rfl) (by kernel_rfl) (by rfl) (by first | assumption | exact True.intro) ?_ ?_
              rotate_left
              · (intro w hSw; (try dsimp only at hSw); go_simp; (try with_reducible rfl))
              try simp only [Act.put, List.setIfInBounds_toArray, List.set_cons_zero, List.set_cons_succ]
              refine held_take (i := 15) (v := ?_) rfl (by kernel_rfl) (by kernel_rfl) (by kernel_rfl) (by rfl) (by first | assumption | exact True.intro) ?_ ?_
              rotate_left
              · (intro w hSw; (try dsimp only at hSw); go_simp; (try with_reducible rfl))
              try simp only [Act.put, List.setIfInBounds_toArray, List.set_cons_zero, List.set_cons_succ]
              refine held_take (i := 16) (v := ?_) rfl (by kernel_rfl) (by kernel_rfl) (by kernel_rfl) (by rfl) (by first | assumption | exact True.intro) ?_ ?_
              rotate_left
              · (intro w hSw; (try dsimp only at hSw); go_simp; (try with_reducible rfl))
              try simp only [Act.put, List.setIfInBounds_toArray, List.set_cons_zero, List.set_cons_succ]
              refine held_take (i := 17) (v := ?_) rfl (by kernel_rfl) (by kernel_rfl) (by kernel_rfl) (by rfl) (by first | assumption | exact True.intro) ?_ ?_
              rotate_left
              · (intro w hSw; (try dsimp only at hSw); go_simp; (try with_reducible rfl))
              try simp only [Act.put, List.setIfInBounds_toArray, List.set_cons_zero, List.set_cons_succ]
              refine held_take (i := 18) (v := ?_) rfl (by kernel_rfl) (by kernel_rfl) (by kernel_rfl) (by rfl) (by first | assumption | exact True.intro) ?_ ?_
              rotate_left
              · (intro w hSw; (try dsimp only at hSw); go_simp; (try with_reducible rfl))
              try simp only [Act.put, List.setIfInBounds_toArray, List.set_cons_zero, List.set_cons_succ]
              refine held_skip (i := 19) rfl (by kernel_rfl) (by kernel_rfl) (by kernel_rfl) (by rfl) (by first | assumption | exact True.intro) ?_
              try simp only [Act.put, List.setIfInBounds_toArray, List.set_cons_zero, List.set_cons_succ]
              refine held_skip (i := 20) rfl (by kernel_rfl) (by kernel_rfl) (by kernel_rfl) (by rfl) (by first | assumption | exact True.intro) ?_
              try simp only [Act.put, List.setIfInBounds_toArray, List.set_cons_zero, List.set_cons_succ]
              refine held_skip (i := 21) rfl (by kernel_rfl) (by kernel_rfl) (by kernel_rfl) (by rfl) (by first | assumption | exact True.intro) ?_
              try simp only [Act.put, List.setIfInBounds_toArray, List.set_cons_zero, List.set_cons_succ]
              refine held_skip (i := 22) rfl (by kernel_rfl) (by kernel_rfl) (by kernel_rfl) (by rfl) (by first | assumption | exact True.intro) ?_
              try simp only [Act.put, List.setIfInBounds_toArray, List.set_cons_zero, List.set_cons_succ]
              refine held_take (i := 23) (v := ?_) rfl (by kernel_rfl) (by kernel_rfl) (by kernel_rfl) (by rfl) (by first | assumption | exact True.intro) ?_ ?_
              rotate_left
              · (intro w hSw; (try dsimp only at hSw); go_simp; (try with_reducible rfl))
              try simp only [Act.put, List.setIfInBounds_toArray, List.set_cons_zero, List.set_cons_succ]
              refine held_take (i := 24) (v := ?_) rfl (by kernel_rfl) (by kernel_rfl) (by kernel_rfl) (by rfl) (by first | assumption | exact True.intro) ?_ ?_
              rotate_left
              · (intro w hSw; (try dsimp only at hSw); go_simp; (try with_reducible rfl))
              try simp only [Act.put, List.setIfInBounds_toArray, List.set_cons_zero, List.set_cons_succ]
              refine held_take (i := 25) (v := ?_) rfl (by kernel_rfl) (by kernel_rfl) (by kernel_rfl) (by rfl) (by first | assumption | exact True.intro) ?_ ?_
              rotate_left
              · (intro w hSw; (try dsimp only at hSw); go_simp; (try with_reducible rfl))
              try simp only [Act.put, List.setIfInBounds_toArray, List.set_cons_zero, List.set_cons_succ]
              refine wpAnyH_done (by kernel_rfl) ?_ _
              refine NoPanic.normal ?_
              clear hHeld2
              all_goals
                have HX9 := Lib.hid (HX5.out.trans y1)
                clear y1
                go_wp2
                go_ret
                exact ⟨rfl, HX9.out⟩
            · have hb := hbl heq
              have g2 : ((Ns : Int) == (n : Int)) = false := by rw [beq_eq_false_iff_ne]; omega
              have g2' : (Ns == n) = false := by rw [beq_eq_false_iff_ne]; omega
              have e1 : (bt sb n == 32) = true := by rw [hb]; rfl
              have hlt : n < Ns := by omega
              have hlt2 : n < sb.size := by rw [hsb]; exact hlt
              clear hbl heq hb
              go_wp2_with fail
              go_region_held3 (fun w' => w'.cell? ⟨w.heap.size, 0, none⟩ = some (.int .i64 k) ∧ w'.cell? ⟨w.heap.size, 1, none⟩ = some (.int .i64 a) ∧ w'.cell? ⟨w.heap.size, 2, none⟩ = some (.int .i64 b) ∧ w'.cell? ⟨w.heap.size, 3, none⟩ = some (.int .i64 c) ∧ w'.cell? ⟨w.heap.size, 4, none⟩ = some (.int .i64 d) ∧ w'.cell? ⟨w.heap.size, 5, none⟩ = some (.int .i64 e) ∧ w'.cell? ⟨w.heap.size, 6, none⟩ = some (.int .i64 f)) (first | go_keep | (exact HC.out _ y1)) (first | (go_at_call 18; (first | (with_reducible refine (KN.out _ (Ext.refl w5)).mono ?_) | (with_reducible refine (KN.out _ (ext_drew (Ext.refl w5))).mono ?_)); rintro e6 w6 ⟨rfl, y1⟩))
              all_goals
                have HX9 := Lib.hid (HX5.out.trans y1)
                clear y1
                go_wp2
                go_ret
                exact ⟨rfl, HX9.out⟩

set_option maxRecDepth 100000 in
theorem OpsNames_lifted (os : Os) (started : os.Started) (H : Type) (enc : TypeId × Value → H) :
    ReturnsInHanded {} Tryd.checked os 6 .any (fun w args => (Rows.opsNamesSpec.pre enc Tryd.prog Tryd.f6 [] false w args ∧ laidMetH Tryd.prog Rows.opsNamesRow.laid w) ∧ sizedMet enc Tryd.prog Tryd.f6 (OpenSpec.ofChange Rows.opsNamesSpec) false w args) (Rows.opsNamesSpec.post enc Tryd.prog Tryd.f6 false true false false) := by
  refine law_liftL (C := Tryd.checked) (tb := 4) Rows.opsNamesRow.laid Tryd.ownKnob started (by kernel_rfl) Tryd.func6 Tryd.laidOut (by kernel_rfl) rfl Tryd.underlying4 rfl rfl ?_
    (ChangeSpec.witness_shaped (enc := enc) (C := Tryd.checked) (os := os) (X := fun w _ => laidMetH Tryd.prog Rows.opsNamesRow.laid w) false (World.laidAll Tryd.prog os Rows.opsNamesRow.laid) #[.int .i64 0, .int .i64 0, .agg #[.int .i64 0, .int .i64 0, .int .i64 0, .int .i64 0, .int .i64 0, .int .i64 0, .int .i64 0]] 8 (World.laidAll_os _ _ _)
      (World.shaped_of_ZipB (by kernel_rfl) (by kernel_rfl)) (by kernel_rfl) (by kernel_rfl) (by kernel_rfl)
      (by rw [MakeChecks.laidMetH_plain _ _ _ (by kernel_rfl)]; exact laidMet_laidAll _ (by kernel_rfl) (by kernel_rfl))) ?_
  · intro ds hd
    rw [Tryd.params6] at hd
    match ds, hd with
    | [d0, d1, d2], _ => rfl
  · intro W base args ds p hval hA hsz hL0 hsh
    have hL : laidMetH Tryd.prog Rows.opsNamesRow.laid W := hL0
    rw [MakeChecks.laidMetH_plain _ _ _ (by kernel_rfl)] at hL
    have hLd : Laid W := laid_of _ hL hsh (by repeat (first | exact List.Mem.head _ | apply List.Mem.tail)) (by repeat (first | exact List.Mem.head _ | apply List.Mem.tail)) (by repeat (first | exact List.Mem.head _ | apply List.Mem.tail)) (by repeat (first | exact List.Mem.head _ | apply List.Mem.tail)) (by repeat (first | exact List.Mem.head _ | apply List.Mem.tail))
    rw [Tryd.params6] at hA hval hsz
    obtain ⟨v0, vs0, d0, ds0, p0, q0, hargs, rfl, rfl, h0, r0_⟩ := trodAll_cons hA
    obtain ⟨v1, vs1, d1, ds1, p1, q1, rfl, rfl, rfl, h1, r1_⟩ := trodAll_cons r0_
    obtain ⟨v2, vs2, d2, ds2, p2, q2, rfl, rfl, rfl, h2, r2_⟩ := trodAll_cons r1_
    obtain ⟨rfl, rfl, rfl⟩ := trodAll_nil r2_
    obtain rfl : args = #[v0, v1, v2] := by cases args; simp_all
    obtain ⟨a0, rfl, lo0, hi0⟩ := dec_int Tryd.underlying3 (hval 0 3 v0 rfl rfl) h0
    obtain ⟨a1, rfl, lo1, hi1⟩ := dec_int Tryd.underlying3 (hval 1 3 v1 rfl rfl) h1
    obtain ⟨a2, rfl⟩ := dec_op Tryd.underlying23 (by kernel_rfl) (by kernel_rfl) ⟨rfl, rfl, rfl, rfl, rfl, rfl, rfl⟩ Tryd.underlying3 (hval 2 23 v2 rfl rfl) h2
    exact OpsNames_calls a0 a1 a2 W hLd

theorem OpsNames_row : Rows.OpsNamesSaid :=
  OpenClaim.holds_of_wide 6 Tryd.f6 rfl rfl rfl rfl rfl rfl rfl ⟨rfl, rfl, rfl, rfl, rfl⟩ rfl rfl rfl rfl rfl (by kernel_rfl) Tryd.func6 (by kernel_rfl)
    (of_decide_eq_true (by kernel_rfl)) (by unfold Func.isWrapper; first | (rw [if_pos (by decide +kernel)]; kernel_rfl) | (rw [if_neg (by decide +kernel)]; exact ⟨rfl, rfl⟩))
    (fun os started H enc _ => OpsNames_lifted os started H enc)

/-- THE TIED CARD. -/
theorem OpsNames_holds : Rows.OpsNamesCardSaid :=
  Claim7.holds_tied_plain_at .later [] Rows.opsNamesCard.laidKinds true Rows.opsNamesCard.stood.harness Rows.opsNamesCard.stood.looks
    OpsNames_row (fun _ h => by cases h) (by kernel_rfl) (fun _ h => by cases h) opsNames_row_tie rfl ⟨rfl, rfl⟩ (by kernel_rfl) rfl
    (fun f fn hf hfn => by
      obtain rfl : f = 6 := Option.some.inj ((show Tryd.prog.funcNamed "dunnage/dunnagelaw08.OpsNames" = some 6 by kernel_rfl).symm.trans hf) |>.symm
      obtain rfl : fn = Tryd.f6 := (Option.some.inj (Tryd.func6.symm.trans hfn)).symm
      exact ⟨by kernel_rfl, fun j t ht => by
        rw [Tryd.params6] at ht
        have hm : t ∈ [3, 3, 23] := by simpa using Array.mem_of_getElem? ht
        have hall : ([3, 3, 23].all fun u => !Tryd.prog.wantsStandIn u) = true := by kernel_rfl
        exact (show Tryd.prog.wantsStandIn t = false by simpa using List.all_eq_true.1 hall t hm)⟩)
    (by kernel_rfl)


end Go.Proofs.YtngenbolpnckhaaDoor
