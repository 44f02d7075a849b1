/- Layer 2, the reference: the register behind some bytes, sums, four bytes, and whether bytes end with their sum. -/
import Derived.Test.YtdhfnacifahoaaaTu8
import Derived.Test.YtdhfnacifahoaaaP02c
import Derived.Test.YtdhfnacifahoaaaLift
import Derived.Test.YtdhfnacifahoaaaMem2
import Derived.Deep.QuietTactic
import Derived.BigQuiet
import Derived.Deep.LoopGhost
import Derived.Deep.RegionWith
import Derived.Outline
namespace Go.Proofs.Ytdhfnacifahoaaa
open Go.RowKit

set_option maxHeartbeats 1000000 in
theorem Behind_any (l : List UInt8) (v : Value) (r : BitVec 32) (w : World) (hr : Rd w v (l.map B)) :
    Calls Try.prog 18 #[.int .i64 (r.toNat : Int), v] w fun e w' => e = .returned (.int .i64 ((crcAll r l).toNat : Int)) ∧ w = w' := by
  obtain ⟨A, c, rfl, hlc, hcm, hca⟩ := hr
  simp only [List.length_map] at *
  unfold maxLen at hcm
  go_enter Try.func18, Try.ntmps18
  go_wp2
  go_loop [0, 5] (fun s i => ∃ k : Nat, k ≤ l.length ∧ i = .int .i64 k ∧ s = .int .i64 ((crcAll r (l.take k)).toNat : Int)) (fun _ i => l.length - (intOf i).toNat)
  case atStart => exact ⟨0, Nat.zero_le _, rfl, rfl⟩
  case round =>
    obtain ⟨k, hk, rfl, rfl⟩ := hrel
    by_cases hlt : k < l.length
    · obtain ⟨b, o, rfl, hb, hc1⟩ := hca (by omega)
      have e1 : w.cell? ⟨b, o + k, none⟩ = some (B l[k]) := hc1 k _ (by simp [hlt])
      clear hc1 hca
      have hs := crcAll_snoc hlt r
      have HS := Lib.hid hs
      clear hs
      generalize hx : l[k] = x at e1
      have HX := Lib.hid hx
      clear hx
      simp only [B] at e1
      generalize crcAll r (List.take k l) = q at *
      have hxo := xorI64 q x
      have hx8 : x.toNat ≤ 255 := by have := x.toNat_lt; omega
      generalize hy : q ^^^ BitVec.ofNat 32 x.toNat = y at hxo
      have HY := Lib.hid hy
      clear hy
      go_wp2
      clear hxo
      go_loop [0, 6] (fun s i => ∃ j : Nat, j ≤ 8 ∧ i = .int .i64 j ∧ s = .int .i64 ((crcBits j y).toNat : Int)) (fun _ i => 8 - (intOf i).toNat)
      case atStart => exact ⟨0, Nat.zero_le _, rfl, rfl⟩
      case round =>
        obtain ⟨j, hj, rfl, rfl⟩ := hrel
        by_cases hlj : j < 8
        · have hbs := crcBits_succ j y
          have HB := Lib.hid hbs
          clear hbs
          generalize crcBits j y = z at *
          have hz : z.toNat ≤ 4294967295 := by have := z.isLt; omega
          rcases Nat.mod_two_eq_zero_or_one z.toNat with h0 | h1
          · have hev := crcBit_even h0
            have HE := Lib.hid hev
            have hlow : ((z.toNat : Int) % 2 == 1) = false := by rw [beq_eq_false_iff_ne]; omega
            clear hev h0
            go_wp2
            go_round
            case rel => exact ⟨j + 1, by omega, by go_num, by rw [HB.out, ← HE.out]; go_num⟩
            case measure => simp [intOf]; omega
          · have hod := polyI64 h1
            have hlow : ((z.toNat : Int) % 2 == 1) = true := by rw [beq_iff_eq]; omega
            clear h1
            go_wp2
            go_round
            case rel => exact ⟨j + 1, by omega, by go_num, by rw [HB.out]⟩
            case measure => simp [intOf]; omega
        · obtain rfl : j = 8 := by omega
          go_wp2
          go_round
          case rel => exact ⟨k + 1, by omega, by go_num, by rw [HS.out, HX.out]; rw [crcByte, HY.out]⟩
          case measure => simp [intOf]; omega
    · obtain rfl : k = l.length := by omega
      rw [List.take_length]
      go_wp2
      go_ret
      exact ⟨rfl, rfl⟩

theorem RefPut_any (n : Int) (w : World) (h0 : -9223372036854775808 ≤ n) (h1 : n ≤ 9223372036854775807) :
    Calls Try.prog 15 #[.int .i64 n] w fun e w' => ∃ v', e = .returned v' ∧ Rd w' v' ((putB n).map B) ∧ Ext w w' := by
  go_enter Try.func15, Try.ntmps15
  go_wp2
  go_ret
  obtain ⟨e1, e2, e3, e4⟩ := ref_put n
  rw [e1, e2, e3, e4]
  have h := Rd.litB w (putB n) #[Value.int .u8 (n / 16777216 % 256), Value.int .u8 (n / 65536 % 256), Value.int .u8 (n / 256 % 256), Value.int .u8 (n % 256)] 5 4 w.heap.size (by simp [putB]) (by simp only [putB, B, u8_mod, List.map_cons, List.map_nil]) rfl rfl
  exact ⟨_, rfl, h, (Below.refl _ _).alloc (Nat.le_refl _) _⟩

theorem RefOf_any (l : List UInt8) (v : Value) (w : World) (hr : Rd w v (l.map B)) :
    Calls Try.prog 10 #[v] w fun e w' => e = .returned (.int .i64 ((crcOf l).toNat : Int)) ∧ w = w' := by
  have hq : (4294967295 : Int) - ((crcAll (~~~ 0#32) l).toNat : Int) = ((crcOf l).toNat : Int) := by rw [crcOf, not_nat]; have := (crcAll (~~~ 0#32) l).isLt; omega
  have hb : (crcAll (~~~ 0#32) l).toNat ≤ 4294967295 := by have := (crcAll (~~~ 0#32) l).isLt; omega
  have H := Lib.hid hq
  clear hq
  go_enter Try.func10, Try.ntmps10
  go_wp2_with fail
  refine (Behind_any l v (~~~ 0#32) _ hr).mono ?_
  rintro e w' ⟨rfl, rfl⟩
  go_wp2
  go_ret
  exact ⟨by rw [← H.out]; rfl, rfl⟩

theorem RefMore_yes (l : List UInt8) (v : Value) (s : BitVec 32) (w : World) (hr : Rd w v (l.map B)) :
    Calls Try.prog 12 #[.int .i64 (s.toNat : Int), v] w fun e w' => e = .returned (.int .i64 ((crcMore s l).toNat : Int)) ∧ w = w' := by
  have hs : decide (4294967295 < (s.toNat : Int)) = false := by simp; have := s.isLt; omega
  have hq : (4294967295 : Int) - ((crcAll (~~~ s) l).toNat : Int) = ((crcMore s l).toNat : Int) := by rw [crcMore, not_nat]; have := (crcAll (~~~ s) l).isLt; omega
  have hb : (crcAll (~~~ s) l).toNat ≤ 4294967295 := by have := (crcAll (~~~ s) l).isLt; omega
  have hn : (4294967295 : Int) - (s.toNat : Int) = ((~~~ s).toNat : Int) := by rw [not_nat]; have := s.isLt; omega
  have hs2 : s.toNat ≤ 4294967295 := by have := s.isLt; omega
  generalize ~~~ s = t at *
  have H := Lib.hid hq
  have HN := Lib.hid hn
  clear hq hn
  go_enter Try.func12, Try.ntmps12
  go_wp2_with fail
  rw [HN.out]
  refine (Behind_any l v t _ hr).mono ?_
  rintro e w' ⟨rfl, rfl⟩
  go_wp2
  go_ret
  exact ⟨by rw [← H.out]; rfl, rfl⟩

theorem RefMore_no (n : Int) (v : Value) (w : World) (h : ¬ (0 ≤ n ∧ n ≤ 4294967295)) :
    Calls Try.prog 12 #[.int .i64 n, v] w fun e w' => e = .returned (.int .i64 0) ∧ w = w' := by
  by_cases h0 : n < 0
  · clear h
    go_enter Try.func12, Try.ntmps12
    go_wp2
    go_ret
    exact ⟨rfl, rfl⟩
  · have hs : decide (4294967295 < n) = true := by simp; omega
    clear h
    go_enter Try.func12, Try.ntmps12
    go_wp2
    go_ret
    exact ⟨rfl, rfl⟩

theorem RefIs_any (l : List UInt8) (v : Value) (w : World) (hr : Rd w v (l.map B)) :
    Calls Try.prog 17 #[v] w fun e w' => e = .returned (.bool (isB l)) ∧ Ext w w' := by
  have hr0 := hr
  obtain ⟨A, c, rfl, hlc, hcm, _⟩ := hr0
  simp only [List.length_map] at *
  unfold maxLen at hcm
  by_cases h4 : l.length < 4
  · go_enter Try.func17, Try.ntmps17
    go_wp2
    go_ret
    exact ⟨by rw [show isB l = false by rw [isB, decide_eq_false (by omega)]; rfl]; rfl, Ext.refl _⟩
  · obtain ⟨n, hn⟩ : ∃ n, l.length = n + 4 := ⟨l.length - 4, by omega⟩
    have hp := hr.prefix_ n (by simp; omega)
    rw [← List.map_take] at hp
    have he : isB l = decide (l.drop n = putB ((crcOf (l.take n)).toNat : Int)) := by
      rw [isB, decide_eq_true (show 4 ≤ l.length by omega), Bool.true_and, show l.length - 4 = n by omega]
    have HE := Lib.hid he
    clear he
    have hs1 : ((crcOf (l.take n)).toNat : Int) ≤ 9223372036854775807 := by have := (crcOf (l.take n)).isLt; omega
    have hs0 : -9223372036854775808 ≤ ((crcOf (l.take n)).toNat : Int) := by omega
    obtain ⟨b, o, rfl, hblt, hcl⟩ := hr.get (by simp; omega)
    have hd : l.drop n = [l[n], l[n+1], l[n+2], l[n+3]] := by
      rw [List.drop_eq_getElem_cons (by omega), List.drop_eq_getElem_cons (by omega), List.drop_eq_getElem_cons (by omega), List.drop_eq_getElem_cons (by omega), List.drop_of_length_le (by omega)]
    have t0 : w.cell? ⟨b, o + n, none⟩ = some (B l[n]) := hcl n _ (by rw [List.getElem?_map, List.getElem?_eq_getElem (by omega)]; rfl)
    have t1 : w.cell? ⟨b, o + (n + 1), none⟩ = some (B l[n+1]) := hcl (n+1) _ (by rw [List.getElem?_map, List.getElem?_eq_getElem (by omega)]; rfl)
    have t2 : w.cell? ⟨b, o + (n + 2), none⟩ = some (B l[n+2]) := hcl (n+2) _ (by rw [List.getElem?_map, List.getElem?_eq_getElem (by omega)]; rfl)
    have t3 : w.cell? ⟨b, o + (n + 3), none⟩ = some (B l[n+3]) := hcl (n+3) _ (by rw [List.getElem?_map, List.getElem?_eq_getElem (by omega)]; rfl)
    clear hcl
    have hE : isB l = isB l := rfl
    conv at hE => rhs; rw [HE.out, hd]
    clear hd HE
    generalize l[n] = a0 at *
    generalize l[n+1] = a1 at *
    generalize l[n+2] = a2 at *
    generalize l[n+3] = a3 at *
    have HE := Lib.hid hE
    clear hE
    rw [hn] at hlc ⊢
    clear hn h4
    go_enter Try.func17, Try.ntmps17
    go_wp2_with fail
    refine (RefOf_any (l.take n) _ _ hp).mono ?_
    rintro e w1 ⟨rfl, rfl⟩
    go_wp2_with fail
    refine (RefPut_any _ _ hs0 hs1).mono ?_
    rintro e w1 ⟨v1, rfl, hr1, hx1⟩
    obtain ⟨A1, c1, rfl, hlc1, hcm1⟩ := hr1.sliceN (n := 4) rfl
    obtain ⟨b1, o1, rfl, hb1, hcl⟩ := hr1.get (by simp [putB])
    obtain ⟨p0, p1, p2, p3, hput⟩ : ∃ p0 p1 p2 p3, putB ((crcOf (l.take n)).toNat : Int) = [p0, p1, p2, p3] := ⟨_, _, _, _, rfl⟩
    rw [hput] at hcl
    have x0 : w1.cell? ⟨b1, o1, none⟩ = some (B p0) := hcl 0 _ rfl
    have x1 := hcl 1 _ rfl
    have x2 := hcl 2 _ rfl
    have x3 := hcl 3 _ rfl
    have HP := Lib.hid hput
    clear hcl hput hr1
    unfold maxLen at hcm1
    have t0 := hx1.cellOf t0 hblt
    have t1 := hx1.cellOf t1 hblt
    have t2 := hx1.cellOf t2 hblt
    have t3 := hx1.cellOf t3 hblt
    clear hr
    simp only [B] at *
    have hfin : isB l = (decide (a0 = p0) && (decide (a1 = p1) && (decide (a2 = p2) && decide (a3 = p3)))) := by
      rw [HE.out, HP.out, Bool.eq_iff_iff]
      simp
    have HF := Lib.hid hfin
    clear hfin
    have q0 := u8_beq p0 a0
    have q1 := u8_beq p1 a1
    have q2 := u8_beq p2 a2
    have q3 := u8_beq p3 a3
    generalize decide (a0 = p0) = B0 at *
    generalize decide (a1 = p1) = B1 at *
    generalize decide (a2 = p2) = B2 at *
    generalize decide (a3 = p3) = B3 at *
    cases B0
    case' true => cases B1
    case' true.true => cases B2
    case' true.true.true => cases B3
    all_goals
      go_wp2_with fail
      go_quiet (fail)
      go_wp2
      go_ret
      exact ⟨by rw [HF.out]; rfl, Below.drewN' hx1 _⟩

end Go.Proofs.Ytdhfnacifahoaaa
