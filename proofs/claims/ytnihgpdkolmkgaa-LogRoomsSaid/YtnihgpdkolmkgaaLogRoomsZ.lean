/- For every input LogRooms returns true: a payload is appended, if it has room, and not otherwise, and what is used grows by its frame. No condition. -/
import Derived.Test.YtnihgpdkolmkgaaLogRoomsQ7
import Derived.Deep.RegionLaw
namespace Go.Proofs.Ytnihgpdkolmkgaa
open Go.ChangeShapes Go.WideShapes Go.ChangeAt Go.RowKit

theorem frameB_small {p : List UInt8} (h : okP p) (h2 : p.length ≤ 120) : (frameB p).length = 6 + p.length := by
  have := frameB_len h
  rw [numB_lo (by omega)] at this
  simp only [List.length_singleton] at this
  omega

/-- How far it has come. -/
def RoomSt (w1 : World) (h g : Nat) (k z : Nat) (wr : World) (s : DkS) (u : Nat) (F : Fp) : Prop :=
  LgW w1 wr h g s 0 z u F ∧ u ≤ z ∧ s.2.1 = [] ∧ s.1.length = 300 ∧ 0 ≤ s.2.2 ∧ s.2.2 ≤ k + 1

set_option maxRecDepth 100000 in
set_option maxHeartbeats 4000000 in
theorem LogRooms_main (n : Nat) (ls : List (List UInt8)) (v : Value) (w : World) (hn : n ≤ 255) (hr : RdL w v ls) (h40 : ls.length ≤ 40) :
    Calls Try.prog 5 #[.int .u8 (n : Int), v] w fun e w' => e = .returned (.bool true) ∧ Ext w w' := by
  obtain ⟨A, c, rfl, hlc, hcm⟩ := hr.sliceN rfl
  unfold maxLen at hcm
  go_enter Try.func5, Try.ntmps5
  go_wp2_with fail
  refine (alive_any w).mono ?_
  rintro e w1 ⟨rfl, hx1⟩
  have hr1 := hr.ext hx1
  go_wp2_with fail
  refine (DkW.new (Ext.refl w1) 300 (by decide) (by decide)).mono ?_
  rintro e w2 ⟨g, rfl, hd2, -⟩
  obtain ⟨s0, hs0, sl0, sw0, sn0, hnew⟩ := newD 300
  rw [← hs0] at hd2
  clear hs0 hnew
  obtain ⟨z, hz⟩ : ∃ z, z = 1 + n := ⟨_, rfl⟩
  have HZI : Hid ((1 : Int) + (n : Int) = (z : Int)) := Lib.hid (show (1 : Int) + (n : Int) = (z : Int) by omega)
  have hzb : z ≤ 256 := by omega
  have hzc : 1 ≤ z := by omega
  clear hz
  go_wp2_with fail
  rw [HZI.out]
  refine (hd2.open_ (f := 0) (z := z) (by omega) (by omega) (by rw [sw0]; decide) (by omega) (by omega)).mono ?_
  rintro e w3 ⟨h, v3, rfl, hl3, -, -⟩
  have hle := endD_le (s := s0) (f := 0) (z := z) (by omega)
  have hlen1 : (opD s0 0 z).1.length = 300 := by rw [opD_len, sl0]
  have hn1 : (opD s0 0 z).2.2 = 1 := by rw [opD_n, sn0]; rfl
  have hw1 := opD_waits s0 0 z
  have HL3 := Lib.hid hl3
  have HH := Lib.hid (And.intro hlen1 (And.intro hn1 (And.intro hw1 hle)))
  clear hd2 hl3 hlen1 hn1 hw1 sl0 sw0 sn0 hle
  generalize opD s0 0 z = s3 at *
  generalize endD s0 0 z = u3 at *
  generalize (Fp.since _ w2 w3) = F3 at *
  go_wp2
  go_loopw [9] (fun i wr => ∃ k : Nat, i = .int .i64 k ∧ k ≤ ls.length ∧ ∃ s u F, RoomSt w1 h g k z wr s u F) (fun i _ => ls.length - (intOf i).toNat)
  case atStart => exact ⟨0, rfl, Nat.zero_le _, s3, u3, F3, HL3.out, HH.out.2.2.2, HH.out.2.2.1, HH.out.1, by rw [HH.out.2.1]; decide, by rw [HH.out.2.1]; decide⟩
  case round =>
    obtain ⟨k, rfl, hk, s, u, F, hlg, hu, hws, hsl, hn0, hn1⟩ := hrel
    have hu256 : u ≤ 65536 := by omega
    by_cases hlt : k < ls.length
    · obtain ⟨b, o, rfl, hb, hcl⟩ := hr1.at (by omega)
      obtain ⟨q, eq, hq⟩ := hcl k _ (List.getElem?_eq_getElem hlt)
      generalize ls[k] = p at *
      obtain ⟨Au, cu, rfl, hcu, hcmu⟩ := hq.sliceN (List.length_map _)
      unfold maxLen at hcmu
      have cells : ∀ w', Ext w1 w' → w'.cell? ⟨b, o + k, none⟩ = some (.slice Au p.length cu) := fun w' hx => hx.cellOf eq hb
      have d0 := cells wr hlg.2.2
      have HCE := Lib.hid cells
      have HQ := Lib.hid hq
      clear hcl eq cells hq
      by_cases hp : 120 < p.length
      · have hx := hx1.trans hlg.2.2
        have hpd : decide (120 < p.length) = true := by simp; omega
        clear hlg hws hsl hn0 hn1
        go_wp2
        go_ret
        exact ⟨rfl, hx⟩
      · have hpd : decide (120 < p.length) = false := by simp; omega
        have hz256 : z ≤ 65536 := by omega
        have hp0 : -9223372036854775808 ≤ (p.length : Int) := by omega
        have hp1 : (p.length : Int) ≤ 9223372036854775807 := by omega
        have HS := Lib.hid (And.intro hws (And.intro hsl (And.intro hn0 hn1)))
        have hlg1 := hlg.ext (Ext.dr (Ext.refl wr))
        clear hlg hws hsl hn0 hn1
        go_wp2_with fail
        refine held_begin (by kernel_rfl) ?_
        have hHeld0 : True := True.intro
        refine held_more (S' := fun w' : World => w'.cell? ⟨b, o + k, none⟩ = some (.slice Au p.length cu)) (fun _ _ => trivial) ?_
        have hHeld1 : (fun w' : World => w'.cell? ⟨b, o + k, none⟩ = some (.slice Au p.length cu)) _ := (HCE.out _ hlg1.2.2)
        clear hHeld0
        refine held_take (i := 0) (v := ?_) rfl (by kernel_rfl) (by kernel_rfl) (by kernel_rfl) (by rfl) (by first | assumption | exact True.intro) ?_ ?_
        rotate_left
        · (intro w hSw; (try dsimp only at hSw); go_simp; (try with_reducible rfl))
        try simp only [Act.put, List.setIfInBounds_toArray, List.set_cons_zero, List.set_cons_succ]
        refine held_take (i := 2) (v := ?_) rfl (by kernel_rfl) (by kernel_rfl) (by kernel_rfl) (by rfl) (by first | assumption | exact True.intro) ?_ ?_
        rotate_left
        · (intro w hSw; (try dsimp only at hSw); go_simp; (try with_reducible rfl))
        try simp only [Act.put, List.setIfInBounds_toArray, List.set_cons_zero, List.set_cons_succ]
        refine held_take (i := 3) (v := ?_) rfl (by kernel_rfl) (by kernel_rfl) (by kernel_rfl) (by rfl) (by first | assumption | exact True.intro) ?_ ?_
        rotate_left
        · (intro w hSw; (try dsimp only at hSw); go_simp; (try with_reducible rfl))
        try simp only [Act.put, List.setIfInBounds_toArray, List.set_cons_zero, List.set_cons_succ]
        refine held_take (i := 4) (v := ?_) rfl (by kernel_rfl) (by kernel_rfl) (by kernel_rfl) (by rfl) (by first | assumption | exact True.intro) ?_ ?_
        rotate_left
        · (intro w hSw; (try dsimp only at hSw); go_simp; (try with_reducible rfl))
        try simp only [Act.put, List.setIfInBounds_toArray, List.set_cons_zero, List.set_cons_succ]
        refine held_take (i := 5) (v := ?_) rfl (by kernel_rfl) (by kernel_rfl) (by kernel_rfl) (by rfl) (by first | assumption | exact True.intro) ?_ ?_
        rotate_left
        · (intro w hSw; (try dsimp only at hSw); go_simp; (try with_reducible rfl))
        try simp only [Act.put, List.setIfInBounds_toArray, List.set_cons_zero, List.set_cons_succ]
        refine held_take (i := 6) (v := ?_) rfl (by kernel_rfl) (by kernel_rfl) (by kernel_rfl) (by rfl) (by first | assumption | exact True.intro) ?_ ?_
        rotate_left
        · (intro w hSw; (try dsimp only at hSw); go_simp; (try with_reducible rfl))
        try simp only [Act.put, List.setIfInBounds_toArray, List.set_cons_zero, List.set_cons_succ]
        refine held_take (i := 7) (v := ?_) rfl (by kernel_rfl) (by kernel_rfl) (by kernel_rfl) (by rfl) (by first | assumption | exact True.intro) ?_ ?_
        rotate_left
        · (intro w hSw; (try dsimp only at hSw); go_simp; (try with_reducible rfl))
        try simp only [Act.put, List.setIfInBounds_toArray, List.set_cons_zero, List.set_cons_succ]
        refine held_op (i := 1) (by kernel_rfl) rfl (fun K hK => ?_)
        go_simp
        go_at_call 17
        (with_reducible refine (hlg1.used hu256).mono ?_)
        rintro e w4 ⟨rfl, hl4, hx4⟩
        refine hK _ _ ?_ (fun hHeld2 => ?_)
        · exact (HCE.out _ hl4.2.2)
        clear hK K hHeld1
        try simp only [Act.put, List.setIfInBounds_toArray, List.set_cons_zero, List.set_cons_succ]
        refine held_op (i := 8) (by kernel_rfl) rfl (fun K hK => ?_)
        go_simp
        go_at_call 18
        (with_reducible refine (hl4.room (p.length : Int) hz256 hu hp0 hp1).mono ?_)
        rintro e w5 ⟨he5, hl5, hx5⟩
        obtain rfl := he5.trans (congrArg (fun n => Ending.returned (.bool n)) (roomB_put z u p))
        refine hK _ _ ?_ (fun hHeld3 => ?_)
        · exact (HCE.out _ hl5.2.2)
        clear hK K hHeld2
        try simp only [Act.put, List.setIfInBounds_toArray, List.set_cons_zero, List.set_cons_succ]
        refine held_take (i := 9) (v := ?_) rfl (by kernel_rfl) (by kernel_rfl) (by kernel_rfl) (by rfl) (by first | assumption | exact True.intro) ?_ ?_
        rotate_left
        · (intro w hSw; (try dsimp only at hSw); go_simp; (try with_reducible rfl))
        try simp only [Act.put, List.setIfInBounds_toArray, List.set_cons_zero, List.set_cons_succ]
        refine held_take (i := 10) (v := ?_) rfl (by kernel_rfl) (by kernel_rfl) (by kernel_rfl) (by rfl) (by first | assumption | exact True.intro) ?_ ?_
        rotate_left
        · (intro w hSw; (try dsimp only at hSw); go_simp; (try with_reducible rfl))
        try simp only [Act.put, List.setIfInBounds_toArray, List.set_cons_zero, List.set_cons_succ]
        refine wpAnyH_done (by kernel_rfl) ?_ _
        refine NoPanic.normal ?_
        clear hHeld3
        have HL5 := Lib.hid hl5
        clear hl5 hl4 hlg1 hx4 hx5 he5
        have d5 := HCE.out w5 HL5.out.2.2
        go_wp2_with fail
        refine (HL5.out.append (p := p) HQ.out (by rw [HS.out.2.1]; omega) hu (by rw [HS.out.1]; exact Nat.zero_le _) HS.out.2.2.1 (by have := HS.out.2.2; omega)).mono ?_
        rintro e w6 ⟨rfl, hl6, -⟩
        have hsl6 := appS_len s 0 z u p
        have hn6 := appS_n s 0 z u p
        have hw6 := appS_waits s 0 z u p
        have hu6 := putU_le (p := p) hu
        have H6 := Lib.hid (And.intro hsl6 (And.intro hn6 (And.intro hw6 hu6)))
        have hu65 : putU z u p ≤ 65536 := by omega
        have hl6d := hl6.ext (Ext.dr (Ext.refl w6))
        have d6 : w6.drew.cell? ⟨b, o + k, none⟩ = some (.slice Au p.length cu) := HCE.out w6.drew hl6d.2.2
        clear hsl6 hn6 hw6 hu6 d5 HL5
        have hdw : w6.drew.heap.size = w6.heap.size := rfl
        by_cases he : putE z u p = 0
        · have hpu : putU z u p = u + 6 + p.length := by rw [putU, if_pos he, frameB_small (putE_yes he).1 (by omega)]; omega
          obtain ⟨U2, hU2⟩ : ∃ U2, U2 = u + 6 + p.length := ⟨_, rfl⟩
          obtain ⟨X1, hX1⟩ : ∃ X1 : Int, X1 = (u : Int) + 6 := ⟨_, rfl⟩
          have ww1 : IntKind.i64.wrap ((u : Int) + 6) = X1 := by rw [IntKind.wrap_i64]; omega
          have ww2 : IntKind.i64.wrap (X1 + (p.length : Int)) = (U2 : Int) := by rw [IntKind.wrap_i64]; omega
          have hU3 : U2 ≤ z := by rw [hU2, ← hpu]; exact H6.out.2.2.2
          rw [he]
          have KU := hl6d.used hu65
          rw [hpu, ← hU2] at KU
          rw [hpu, ← hU2] at hl6
          have HKU := Lib.hid KU
          have HL6 := Lib.hid hl6
          have HX6 := Lib.hid hl6d.2.2
          clear he hl6 hl6d hu65 KU hX1 hU2 hpu
          go_wp2_with fail
          refine held_begin (by kernel_rfl) ?_
          have hHeld0 : True := True.intro
          refine held_more (S' := fun w' : World => w'.cell? ⟨b, o + k, none⟩ = some (.slice Au p.length cu)) (fun _ _ => trivial) ?_
          have hHeld1 : (fun w' : World => w'.cell? ⟨b, o + k, none⟩ = some (.slice Au p.length cu)) _ := d6
          clear hHeld0
          refine held_take (i := 0) (v := ?_) rfl (by kernel_rfl) (by kernel_rfl) (by kernel_rfl) (by rfl) (by first | assumption | exact True.intro) ?_ ?_
          rotate_left
          · (intro w hSw; (try dsimp only at hSw); go_simp; (try with_reducible rfl))
          try simp only [Act.put, List.setIfInBounds_toArray, List.set_cons_zero, List.set_cons_succ]
          refine held_take (i := 1) (v := ?_) rfl (by kernel_rfl) (by kernel_rfl) (by kernel_rfl) (by rfl) (by first | assumption | exact True.intro) ?_ ?_
          rotate_left
          · (intro w hSw; (try dsimp only at hSw); go_simp; (try with_reducible rfl))
          try simp only [Act.put, List.setIfInBounds_toArray, List.set_cons_zero, List.set_cons_succ]
          refine held_take (i := 2) (v := ?_) rfl (by kernel_rfl) (by kernel_rfl) (by kernel_rfl) (by rfl) (by first | assumption | exact True.intro) ?_ ?_
          rotate_left
          · (intro w hSw; (try dsimp only at hSw); go_simp; (try with_reducible rfl))
          try simp only [Act.put, List.setIfInBounds_toArray, List.set_cons_zero, List.set_cons_succ]
          refine held_take (i := 3) (v := ?_) rfl (by kernel_rfl) (by kernel_rfl) (by kernel_rfl) (by rfl) (by first | assumption | exact True.intro) ?_ ?_
          rotate_left
          · (intro w hSw; (try dsimp only at hSw); go_simp; (try with_reducible rfl))
          try simp only [Act.put, List.setIfInBounds_toArray, List.set_cons_zero, List.set_cons_succ]
          refine held_take (i := 4) (v := ?_) rfl (by kernel_rfl) (by kernel_rfl) (by kernel_rfl) (by rfl) (by first | assumption | exact True.intro) ?_ ?_
          rotate_left
          · (intro w hSw; (try dsimp only at hSw); go_simp; (try with_reducible rfl))
          try simp only [Act.put, List.setIfInBounds_toArray, List.set_cons_zero, List.set_cons_succ]
          refine held_take (i := 5) (v := ?_) rfl (by kernel_rfl) (by kernel_rfl) (by kernel_rfl) (by rfl) (by first | assumption | exact True.intro) ?_ ?_
          rotate_left
          · (intro w hSw; (try dsimp only at hSw); go_simp; (try with_reducible rfl))
          try simp only [Act.put, List.setIfInBounds_toArray, List.set_cons_zero, List.set_cons_succ]
          refine held_take (i := 6) (v := ?_) rfl (by kernel_rfl) (by kernel_rfl) (by kernel_rfl) (by rfl) (by first | assumption | exact True.intro) ?_ ?_
          rotate_left
          · (intro w hSw; (try dsimp only at hSw); go_simp; (try with_reducible rfl))
          try simp only [Act.put, List.setIfInBounds_toArray, List.set_cons_zero, List.set_cons_succ]
          refine held_take (i := 7) (v := ?_) rfl (by kernel_rfl) (by kernel_rfl) (by kernel_rfl) (by rfl) (by first | assumption | exact True.intro) ?_ ?_
          rotate_left
          · (intro w hSw; (try dsimp only at hSw); go_simp; (try with_reducible rfl))
          try simp only [Act.put, List.setIfInBounds_toArray, List.set_cons_zero, List.set_cons_succ]
          refine held_skip (i := 8) rfl (by kernel_rfl) (by kernel_rfl) (by kernel_rfl) (by rfl) (by first | assumption | exact True.intro) ?_
          try simp only [Act.put, List.setIfInBounds_toArray, List.set_cons_zero, List.set_cons_succ]
          refine held_skip (i := 9) rfl (by kernel_rfl) (by kernel_rfl) (by kernel_rfl) (by rfl) (by first | assumption | exact True.intro) ?_
          try simp only [Act.put, List.setIfInBounds_toArray, List.set_cons_zero, List.set_cons_succ]
          refine held_skip (i := 10) rfl (by kernel_rfl) (by kernel_rfl) (by kernel_rfl) (by rfl) (by first | assumption | exact True.intro) ?_
          try simp only [Act.put, List.setIfInBounds_toArray, List.set_cons_zero, List.set_cons_succ]
          refine held_skip (i := 11) rfl (by kernel_rfl) (by kernel_rfl) (by kernel_rfl) (by rfl) (by first | assumption | exact True.intro) ?_
          try simp only [Act.put, List.setIfInBounds_toArray, List.set_cons_zero, List.set_cons_succ]
          refine held_take (i := 12) (v := ?_) rfl (by kernel_rfl) (by kernel_rfl) (by kernel_rfl) (by rfl) (by first | assumption | exact True.intro) ?_ ?_
          rotate_left
          · (intro w hSw; (try dsimp only at hSw); go_simp; (try with_reducible rfl))
          try simp only [Act.put, List.setIfInBounds_toArray, List.set_cons_zero, List.set_cons_succ]
          refine held_take (i := 13) (v := ?_) rfl (by kernel_rfl) (by kernel_rfl) (by kernel_rfl) (by rfl) (by first | assumption | exact True.intro) ?_ ?_
          rotate_left
          · (intro w hSw; (try dsimp only at hSw); go_simp; (try with_reducible rfl))
          try simp only [Act.put, List.setIfInBounds_toArray, List.set_cons_zero, List.set_cons_succ]
          refine held_take (i := 14) (v := ?_) rfl (by kernel_rfl) (by kernel_rfl) (by kernel_rfl) (by rfl) (by first | assumption | exact True.intro) ?_ ?_
          rotate_left
          · (intro w hSw; (try dsimp only at hSw); go_simp; (try with_reducible rfl))
          try simp only [Act.put, List.setIfInBounds_toArray, List.set_cons_zero, List.set_cons_succ]
          refine held_take (i := 15) (v := ?_) rfl (by kernel_rfl) (by kernel_rfl) (by kernel_rfl) (by rfl) (by first | assumption | exact True.intro) ?_ ?_
          rotate_left
          · (intro w hSw; (try dsimp only at hSw); go_simp; (try with_reducible rfl))
          try simp only [Act.put, List.setIfInBounds_toArray, List.set_cons_zero, List.set_cons_succ]
          refine held_take (i := 16) (v := ?_) rfl (by kernel_rfl) (by kernel_rfl) (by kernel_rfl) (by rfl) (by first | assumption | exact True.intro) ?_ ?_
          rotate_left
          · (intro w hSw; (try dsimp only at hSw); go_simp; (try with_reducible rfl))
          try simp only [Act.put, List.setIfInBounds_toArray, List.set_cons_zero, List.set_cons_succ]
          refine held_take (i := 17) (v := ?_) rfl (by kernel_rfl) (by kernel_rfl) (by kernel_rfl) (by rfl) (by first | assumption | exact True.intro) ?_ ?_
          rotate_left
          · (intro w hSw; (try dsimp only at hSw); go_simp; (try with_reducible rfl))
          try simp only [Act.put, List.setIfInBounds_toArray, List.set_cons_zero, List.set_cons_succ]
          refine held_take (i := 18) (v := ?_) rfl (by kernel_rfl) (by kernel_rfl) (by kernel_rfl) (by rfl) (by first | assumption | exact True.intro) ?_ ?_
          rotate_left
          · (intro w hSw; (try dsimp only at hSw); go_simp; (try with_reducible rfl))
          try simp only [Act.put, List.setIfInBounds_toArray, List.set_cons_zero, List.set_cons_succ]
          refine held_take (i := 20) (v := ?_) rfl (by kernel_rfl) (by kernel_rfl) (by kernel_rfl) (by rfl) (by first | assumption | exact True.intro) ?_ ?_
          rotate_left
          · (intro w hSw; (try dsimp only at hSw); go_simp; (try with_reducible rfl))
          try simp only [Act.put, List.setIfInBounds_toArray, List.set_cons_zero, List.set_cons_succ]
          refine held_take (i := 21) (v := ?_) rfl (by kernel_rfl) (by kernel_rfl) (by kernel_rfl) (by rfl) (by first | assumption | exact True.intro) ?_ ?_
          rotate_left
          · (intro w hSw; (try dsimp only at hSw); go_simp; (try with_reducible rfl))
          try simp only [Act.put, List.setIfInBounds_toArray, List.set_cons_zero, List.set_cons_succ]
          refine held_take (i := 22) (v := ?_) rfl (by kernel_rfl) (by kernel_rfl) (by kernel_rfl) (by rfl) (by first | assumption | exact True.intro) ?_ ?_
          rotate_left
          · (intro w hSw; (try dsimp only at hSw); go_simp; (try with_reducible rfl))
          try simp only [Act.put, List.setIfInBounds_toArray, List.set_cons_zero, List.set_cons_succ]
          refine held_take (i := 23) (v := ?_) rfl (by kernel_rfl) (by kernel_rfl) (by kernel_rfl) (by rfl) (by first | assumption | exact True.intro) ?_ ?_
          rotate_left
          · (intro w hSw; (try dsimp only at hSw); go_simp; (try with_reducible rfl))
          try simp only [Act.put, List.setIfInBounds_toArray, List.set_cons_zero, List.set_cons_succ]
          refine held_take (i := 24) (v := ?_) rfl (by kernel_rfl) (by kernel_rfl) (by kernel_rfl) (by rfl) (by first | assumption | exact True.intro) ?_ ?_
          rotate_left
          · (intro w hSw; (try dsimp only at hSw); go_simp; (try with_reducible rfl))
          try simp only [Act.put, List.setIfInBounds_toArray, List.set_cons_zero, List.set_cons_succ]
          refine held_take (i := 25) (v := ?_) rfl (by kernel_rfl) (by kernel_rfl) (by kernel_rfl) (by rfl) (by first | assumption | exact True.intro) ?_ ?_
          rotate_left
          · (intro w hSw; (try dsimp only at hSw); go_simp; (try with_reducible rfl))
          try simp only [Act.put, List.setIfInBounds_toArray, List.set_cons_zero, List.set_cons_succ]
          refine held_take (i := 26) (v := ?_) rfl (by kernel_rfl) (by kernel_rfl) (by kernel_rfl) (by rfl) (by first | assumption | exact True.intro) ?_ ?_
          rotate_left
          · (intro w hSw; (try dsimp only at hSw); go_simp; (try with_reducible rfl))
          try simp only [Act.put, List.setIfInBounds_toArray, List.set_cons_zero, List.set_cons_succ]
          refine held_take (i := 27) (v := ?_) rfl (by kernel_rfl) (by kernel_rfl) (by kernel_rfl) (by rfl) (by first | assumption | exact True.intro) ?_ ?_
          rotate_left
          · (intro w hSw; (try dsimp only at hSw); go_simp; (try with_reducible rfl))
          try simp only [Act.put, List.setIfInBounds_toArray, List.set_cons_zero, List.set_cons_succ]
          refine held_op (i := 19) (by kernel_rfl) rfl (fun K hK => ?_)
          go_simp
          go_at_call 17
          (with_reducible refine (HKU.out).mono ?_)
          rintro e w7 ⟨rfl, hl7, hx7⟩
          refine hK _ _ ?_ (fun hHeld2 => ?_)
          · exact (HCE.out _ hl7.2.2)
          clear hK K hHeld1
          try simp only [Act.put, List.setIfInBounds_toArray, List.set_cons_zero, List.set_cons_succ]
          refine held_take (i := 28) (v := ?_) rfl (by kernel_rfl) (by kernel_rfl) (by kernel_rfl) (by rfl) (by first | assumption | exact True.intro) ?_ ?_
          rotate_left
          · (intro w hSw; (try dsimp only at hSw); go_simp; (try with_reducible rfl))
          try simp only [Act.put, List.setIfInBounds_toArray, List.set_cons_zero, List.set_cons_succ]
          refine held_take (i := 29) (v := ?_) rfl (by kernel_rfl) (by kernel_rfl) (by kernel_rfl) (by rfl) (by first | assumption | exact True.intro) ?_ ?_
          rotate_left
          · (intro w hSw; (try dsimp only at hSw); go_simp; (try with_reducible rfl))
          try simp only [Act.put, List.setIfInBounds_toArray, List.set_cons_zero, List.set_cons_succ]
          refine held_take (i := 30) (v := ?_) rfl (by kernel_rfl) (by kernel_rfl) (by kernel_rfl) (by rfl) (by first | assumption | exact True.intro) ?_ ?_
          rotate_left
          · (intro w hSw; (try dsimp only at hSw); go_simp; (try with_reducible rfl))
          try simp only [Act.put, List.setIfInBounds_toArray, List.set_cons_zero, List.set_cons_succ]
          refine wpAnyH_done (by kernel_rfl) ?_ _
          refine NoPanic.normal ?_
          clear hHeld2
          have HL7 := Lib.hid hl7
          clear hl7 hx7 d6
          go_wp2
          go_roundw
          case rel => exact ⟨k + 1, by go_num, by omega, _, U2, _, HL7.out, hU3, List.eq_nil_of_length_eq_zero (by have := H6.out.2.2.1; rw [HS.out.1] at this; simpa using this), by rw [H6.out.1]; exact HS.out.2.1, by have := H6.out.2.1; have := HS.out.2.2; omega, by have := H6.out.2.1; have := HS.out.2.2; omega⟩
          case measure => simp [intOf]; omega
        · have hpu : putU z u p = u := by rw [putU, if_neg he]
          have hde : decide (putE z u p = 0) = false := decide_eq_false he
          have hbe : (putE z u p == 0) = false := by rw [beq_eq_false_iff_ne]; exact he
          have KU := hl6d.used hu65
          rw [hpu] at KU hl6
          have HKU := Lib.hid KU
          have HL6 := Lib.hid hl6
          have hbn : (putE z u p != 0) = true := by rw [bne_iff_ne]; exact he
          clear hl6 hl6d hu65 KU hpu
          rw [hde]
          generalize putE z u p = e6 at *
          go_wp2_with fail
          refine held_begin (by kernel_rfl) ?_
          have hHeld0 : True := True.intro
          refine held_take (i := 0) (v := ?_) rfl (by kernel_rfl) (by kernel_rfl) (by kernel_rfl) (by rfl) (by first | assumption | exact True.intro) ?_ ?_
          rotate_left
          · (intro w hSw; (try dsimp only at hSw); go_simp; (try with_reducible rfl))
          try simp only [Act.put, List.setIfInBounds_toArray, List.set_cons_zero, List.set_cons_succ]
          refine held_take (i := 1) (v := ?_) rfl (by kernel_rfl) (by kernel_rfl) (by kernel_rfl) (by rfl) (by first | assumption | exact True.intro) ?_ ?_
          rotate_left
          · (intro w hSw; (try dsimp only at hSw); go_simp; (try with_reducible rfl))
          try simp only [Act.put, List.setIfInBounds_toArray, List.set_cons_zero, List.set_cons_succ]
          refine held_take (i := 2) (v := ?_) rfl (by kernel_rfl) (by kernel_rfl) (by kernel_rfl) (by rfl) (by first | assumption | exact True.intro) ?_ ?_
          rotate_left
          · (intro w hSw; (try dsimp only at hSw); go_simp; (try with_reducible rfl))
          try simp only [Act.put, List.setIfInBounds_toArray, List.set_cons_zero, List.set_cons_succ]
          refine held_take (i := 3) (v := ?_) rfl (by kernel_rfl) (by kernel_rfl) (by kernel_rfl) (by rfl) (by first | assumption | exact True.intro) ?_ ?_
          rotate_left
          · (intro w hSw; (try dsimp only at hSw); go_simp; (try with_reducible rfl))
          try simp only [Act.put, List.setIfInBounds_toArray, List.set_cons_zero, List.set_cons_succ]
          refine held_take (i := 4) (v := ?_) rfl (by kernel_rfl) (by kernel_rfl) (by kernel_rfl) (by rfl) (by first | assumption | exact True.intro) ?_ ?_
          rotate_left
          · (intro w hSw; (try dsimp only at hSw); go_simp; (try with_reducible rfl))
          try simp only [Act.put, List.setIfInBounds_toArray, List.set_cons_zero, List.set_cons_succ]
          refine held_take (i := 5) (v := ?_) rfl (by kernel_rfl) (by kernel_rfl) (by kernel_rfl) (by rfl) (by first | assumption | exact True.intro) ?_ ?_
          rotate_left
          · (intro w hSw; (try dsimp only at hSw); go_simp; (try with_reducible rfl))
          try simp only [Act.put, List.setIfInBounds_toArray, List.set_cons_zero, List.set_cons_succ]
          refine held_take (i := 6) (v := ?_) rfl (by kernel_rfl) (by kernel_rfl) (by kernel_rfl) (by rfl) (by first | assumption | exact True.intro) ?_ ?_
          rotate_left
          · (intro w hSw; (try dsimp only at hSw); go_simp; (try with_reducible rfl))
          try simp only [Act.put, List.setIfInBounds_toArray, List.set_cons_zero, List.set_cons_succ]
          refine held_take (i := 7) (v := ?_) rfl (by kernel_rfl) (by kernel_rfl) (by kernel_rfl) (by rfl) (by first | assumption | exact True.intro) ?_ ?_
          rotate_left
          · (intro w hSw; (try dsimp only at hSw); go_simp; (try with_reducible rfl))
          try simp only [Act.put, List.setIfInBounds_toArray, List.set_cons_zero, List.set_cons_succ]
          refine held_take (i := 8) (v := ?_) rfl (by kernel_rfl) (by kernel_rfl) (by kernel_rfl) (by rfl) (by first | assumption | exact True.intro) ?_ ?_
          rotate_left
          · (intro w hSw; (try dsimp only at hSw); go_simp; (try with_reducible rfl))
          try simp only [Act.put, List.setIfInBounds_toArray, List.set_cons_zero, List.set_cons_succ]
          refine held_take (i := 10) (v := ?_) rfl (by kernel_rfl) (by kernel_rfl) (by kernel_rfl) (by rfl) (by first | assumption | exact True.intro) ?_ ?_
          rotate_left
          · (intro w hSw; (try dsimp only at hSw); go_simp; (try with_reducible rfl))
          try simp only [Act.put, List.setIfInBounds_toArray, List.set_cons_zero, List.set_cons_succ]
          refine held_op (i := 9) (by kernel_rfl) rfl (fun K hK => ?_)
          go_simp
          go_at_call 17
          (with_reducible refine (HKU.out).mono ?_)
          rintro e w7 ⟨rfl, hl7, hx7⟩
          refine hK _ _ ?_ (fun hHeld1 => ?_)
          · exact True.intro
          clear hK K hHeld0
          try simp only [Act.put, List.setIfInBounds_toArray, List.set_cons_zero, List.set_cons_succ]
          refine held_take (i := 11) (v := ?_) rfl (by kernel_rfl) (by kernel_rfl) (by kernel_rfl) (by rfl) (by first | assumption | exact True.intro) ?_ ?_
          rotate_left
          · (intro w hSw; (try dsimp only at hSw); go_simp; (try with_reducible rfl))
          try simp only [Act.put, List.setIfInBounds_toArray, List.set_cons_zero, List.set_cons_succ]
          refine held_take (i := 12) (v := ?_) rfl (by kernel_rfl) (by kernel_rfl) (by kernel_rfl) (by rfl) (by first | assumption | exact True.intro) ?_ ?_
          rotate_left
          · (intro w hSw; (try dsimp only at hSw); go_simp; (try with_reducible rfl))
          try simp only [Act.put, List.setIfInBounds_toArray, List.set_cons_zero, List.set_cons_succ]
          refine held_take (i := 13) (v := ?_) rfl (by kernel_rfl) (by kernel_rfl) (by kernel_rfl) (by rfl) (by first | assumption | exact True.intro) ?_ ?_
          rotate_left
          · (intro w hSw; (try dsimp only at hSw); go_simp; (try with_reducible rfl))
          try simp only [Act.put, List.setIfInBounds_toArray, List.set_cons_zero, List.set_cons_succ]
          refine held_take (i := 14) (v := ?_) rfl (by kernel_rfl) (by kernel_rfl) (by kernel_rfl) (by rfl) (by first | assumption | exact True.intro) ?_ ?_
          rotate_left
          · (intro w hSw; (try dsimp only at hSw); go_simp; (try with_reducible rfl))
          try simp only [Act.put, List.setIfInBounds_toArray, List.set_cons_zero, List.set_cons_succ]
          refine held_take (i := 15) (v := ?_) rfl (by kernel_rfl) (by kernel_rfl) (by kernel_rfl) (by rfl) (by first | assumption | exact True.intro) ?_ ?_
          rotate_left
          · (intro w hSw; (try dsimp only at hSw); go_simp; (try with_reducible rfl))
          try simp only [Act.put, List.setIfInBounds_toArray, List.set_cons_zero, List.set_cons_succ]
          refine held_take (i := 16) (v := ?_) rfl (by kernel_rfl) (by kernel_rfl) (by kernel_rfl) (by rfl) (by first | assumption | exact True.intro) ?_ ?_
          rotate_left
          · (intro w hSw; (try dsimp only at hSw); go_simp; (try with_reducible rfl))
          try simp only [Act.put, List.setIfInBounds_toArray, List.set_cons_zero, List.set_cons_succ]
          refine held_take (i := 17) (v := ?_) rfl (by kernel_rfl) (by kernel_rfl) (by kernel_rfl) (by rfl) (by first | assumption | exact True.intro) ?_ ?_
          rotate_left
          · (intro w hSw; (try dsimp only at hSw); go_simp; (try with_reducible rfl))
          try simp only [Act.put, List.setIfInBounds_toArray, List.set_cons_zero, List.set_cons_succ]
          refine held_skip (i := 18) rfl (by kernel_rfl) (by kernel_rfl) (by kernel_rfl) (by rfl) (by first | assumption | exact True.intro) ?_
          try simp only [Act.put, List.setIfInBounds_toArray, List.set_cons_zero, List.set_cons_succ]
          refine held_skip (i := 19) rfl (by kernel_rfl) (by kernel_rfl) (by kernel_rfl) (by rfl) (by first | assumption | exact True.intro) ?_
          try simp only [Act.put, List.setIfInBounds_toArray, List.set_cons_zero, List.set_cons_succ]
          refine held_skip (i := 20) rfl (by kernel_rfl) (by kernel_rfl) (by kernel_rfl) (by rfl) (by first | assumption | exact True.intro) ?_
          try simp only [Act.put, List.setIfInBounds_toArray, List.set_cons_zero, List.set_cons_succ]
          refine held_skip (i := 21) rfl (by kernel_rfl) (by kernel_rfl) (by kernel_rfl) (by rfl) (by first | assumption | exact True.intro) ?_
          try simp only [Act.put, List.setIfInBounds_toArray, List.set_cons_zero, List.set_cons_succ]
          refine held_skip (i := 22) rfl (by kernel_rfl) (by kernel_rfl) (by kernel_rfl) (by rfl) (by first | assumption | exact True.intro) ?_
          try simp only [Act.put, List.setIfInBounds_toArray, List.set_cons_zero, List.set_cons_succ]
          refine held_skip (i := 23) rfl (by kernel_rfl) (by kernel_rfl) (by kernel_rfl) (by rfl) (by first | assumption | exact True.intro) ?_
          try simp only [Act.put, List.setIfInBounds_toArray, List.set_cons_zero, List.set_cons_succ]
          refine held_skip (i := 24) rfl (by kernel_rfl) (by kernel_rfl) (by kernel_rfl) (by rfl) (by first | assumption | exact True.intro) ?_
          try simp only [Act.put, List.setIfInBounds_toArray, List.set_cons_zero, List.set_cons_succ]
          refine held_skip (i := 25) rfl (by kernel_rfl) (by kernel_rfl) (by kernel_rfl) (by rfl) (by first | assumption | exact True.intro) ?_
          try simp only [Act.put, List.setIfInBounds_toArray, List.set_cons_zero, List.set_cons_succ]
          refine held_skip (i := 26) rfl (by kernel_rfl) (by kernel_rfl) (by kernel_rfl) (by rfl) (by first | assumption | exact True.intro) ?_
          try simp only [Act.put, List.setIfInBounds_toArray, List.set_cons_zero, List.set_cons_succ]
          refine held_skip (i := 27) rfl (by kernel_rfl) (by kernel_rfl) (by kernel_rfl) (by rfl) (by first | assumption | exact True.intro) ?_
          try simp only [Act.put, List.setIfInBounds_toArray, List.set_cons_zero, List.set_cons_succ]
          refine held_skip (i := 28) rfl (by kernel_rfl) (by kernel_rfl) (by kernel_rfl) (by rfl) (by first | assumption | exact True.intro) ?_
          try simp only [Act.put, List.setIfInBounds_toArray, List.set_cons_zero, List.set_cons_succ]
          refine held_take (i := 29) (v := ?_) rfl (by kernel_rfl) (by kernel_rfl) (by kernel_rfl) (by rfl) (by first | assumption | exact True.intro) ?_ ?_
          rotate_left
          · (intro w hSw; (try dsimp only at hSw); go_simp; (try with_reducible rfl))
          try simp only [Act.put, List.setIfInBounds_toArray, List.set_cons_zero, List.set_cons_succ]
          refine held_take (i := 30) (v := ?_) rfl (by kernel_rfl) (by kernel_rfl) (by kernel_rfl) (by rfl) (by first | assumption | exact True.intro) ?_ ?_
          rotate_left
          · (intro w hSw; (try dsimp only at hSw); go_simp; (try with_reducible rfl))
          try simp only [Act.put, List.setIfInBounds_toArray, List.set_cons_zero, List.set_cons_succ]
          refine wpAnyH_done (by kernel_rfl) ?_ _
          refine NoPanic.normal ?_
          clear hHeld1
          have HL7 := Lib.hid hl7
          clear hl7 hx7 d6
          go_wp2
          go_roundw
          case rel => exact ⟨k + 1, by go_num, by omega, _, u, _, HL7.out, hu, List.eq_nil_of_length_eq_zero (by have := H6.out.2.2.1; rw [HS.out.1] at this; simpa using this), by rw [H6.out.1]; exact HS.out.2.1, by have := H6.out.2.1; have := HS.out.2.2; omega, by have := H6.out.2.1; have := HS.out.2.2; omega⟩
          case measure => simp [intOf]; omega
    · obtain rfl : k = ls.length := by omega
      have KU := Lib.hid (hlg.used hu256)
      have hzd : (u : Int) ≤ (z : Int) := by omega
      have hx := hx1.trans hlg.2.2
      clear hlg hws hsl hn0 hn1
      go_wp2_with fail
      refine KU.out.mono ?_
      rintro e w4 ⟨rfl, hl4, hx4⟩
      have hx' := hx.trans hx4
      have hd : decide ((u : Int) ≤ 1 + (n : Int)) = true := by rw [HZI.out]; exact decide_eq_true hzd
      clear hl4 hx hx4 hzd
      go_wp2
      go_ret
      exact ⟨rfl, hx'⟩

theorem LogRooms_calls (n : Nat) (ls : List (List UInt8)) (v : Value) (w : World) (hn : n ≤ 255) (hr : RdL w v ls) :
    Calls Try.prog 5 #[.int .u8 (n : Int), v] w fun e w' => e = .returned (.bool true) ∧ Ext w w' := by
  by_cases h : ls.length ≤ 40
  · exact LogRooms_main n ls v w hn hr h
  · obtain ⟨A, c, rfl, hlc, hcm⟩ := hr.sliceN rfl
    unfold maxLen at hcm
    have hd : decide (40 < ls.length) = true := by simp; omega
    clear hr
    go_enter Try.func5, Try.ntmps5
    go_wp2_with fail
    refine (alive_any w).mono ?_
    rintro e w1 ⟨rfl, hx1⟩
    go_wp2
    go_ret
    exact ⟨rfl, hx1⟩

set_option maxRecDepth 100000 in
theorem LogRooms_lifted (os : Os) (started : os.Started) (H : Type) (enc : TypeId × Value → H) :
    ReturnsInHanded {} Try.checked os 5 .any (Rows.logRoomsSpec.pre6 enc Try.prog Try.f5 Rows.logRoomsRow.domain false) (Rows.logRoomsSpec.post enc Try.prog Try.f5 false true false false) := by
  refine law_lift (C := Try.checked) (tb := 4) Try.ownKnob started (by kernel_rfl) Try.func5 Try.laidOut (by kernel_rfl) rfl Try.underlying4 rfl rfl ?_
    (ChangeSpec.witness6 (enc := enc) (C := Try.checked) false ⟨#[], #[.int .u8 0, .slice none 0 0], []⟩ 8 (by kernel_rfl) (by kernel_rfl) (by kernel_rfl) (by kernel_rfl)) ?_
  · intro ds hd
    rw [Try.params5] at hd
    match ds, hd with
    | [d0, d1], _ => rfl
  · intro W base args ds p hval hA hsz
    rw [Try.params5] at hA hval hsz
    obtain ⟨v0, vs0, d0, ds0, p0, q0, hargs, rfl, rfl, h0, r0_⟩ := trodAll_cons hA
    obtain ⟨v1, vs1, d1, ds1, p1, q1, rfl, rfl, rfl, h1, r1_⟩ := trodAll_cons r0_
    obtain ⟨rfl, rfl, rfl⟩ := trodAll_nil r1_
    obtain rfl : args = #[v0, v1] := by cases args; simp_all
    obtain ⟨a0, rfl⟩ := dec_u8 Try.underlying5 (hval 0 5 v0 rfl rfl) h0
    obtain ⟨a1, r1⟩ := dec_rows Try.underlying30 Try.underlying38 Try.underlying5 (by kernel_rfl) (by kernel_rfl) (hval 1 30 v1 rfl rfl) h1
    exact LogRooms_calls a0.toNat a1 _ W (by have := a0.toNat_lt; omega) r1

theorem LogRooms_holds : Rows.LogRoomsSaid :=
  OpenClaim.holds_of_wide 5 Try.f5 rfl rfl rfl rfl rfl rfl rfl ⟨rfl, rfl, rfl, rfl, rfl⟩ rfl rfl rfl rfl rfl (by kernel_rfl) Try.func5 (by kernel_rfl)
    (of_decide_eq_true (by kernel_rfl)) (by unfold Func.isWrapper; first | (rw [if_pos (by decide +kernel)]; kernel_rfl) | (rw [if_neg (by decide +kernel)]; exact ⟨rfl, rfl⟩))
    (fun os started H enc _ => LogRooms_lifted os started H enc)

end Go.Proofs.Ytnihgpdkolmkgaa
