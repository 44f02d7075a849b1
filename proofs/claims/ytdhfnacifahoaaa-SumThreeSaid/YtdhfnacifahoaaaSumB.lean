/- Layer 2, package sum: sums, a number's four bytes, and whether bytes end with their sum. -/
import Derived.Test.YtdhfnacifahoaaaSumA
import Derived.Test.YtdhfnacifahoaaaP02c
import Derived.Deep.RegionWith
import Derived.WalkSpells
import Derived.Test.YtdhfnacifahoaaaTstr
import Derived.Test.YtdhfnacifahoaaaLift
namespace Go.Proofs.Ytdhfnacifahoaaa
open Go.RowKit

set_option maxHeartbeats 400000 in
theorem More_yes (l : List UInt8) (v : Value) (s : BitVec 32) (w : World) (hr : Rd w v (l.map B)) :
    Calls Try.prog 11 #[.int .i64 (s.toNat : Int), v] w fun e w' => e = .returned (.int .i64 ((crcMore s l).toNat : Int)) ∧ w = w' := by
  have hs : decide (4294967295 < (s.toNat : Int)) = false := by simp; have := s.isLt; omega
  have hs0 : s.toNat % 4294967296 = s.toNat := by have := s.isLt; omega
  have hn1 := notMax s
  have hn2 : bits .xor .u32 IntKind.u32.max ((crcAll (~~~ s) l).toNat : Int) = ((crcMore s l).toNat : Int) := notMax _
  generalize ~~~ s = t at *
  have hle : ((crcMore s l).toNat : Int) ≤ 4294967295 := by have := (crcMore s l).isLt; omega
  go_enter Try.func11, Try.ntmps11
  go_wp2_with fail
  refine (goOn_any l v t _ hr).mono ?_
  rintro e w' ⟨rfl, rfl⟩
  go_wp2
  go_ret
  exact ⟨rfl, rfl⟩

theorem More_no (n : Int) (v : Value) (w : World) (h : ¬ (0 ≤ n ∧ n ≤ 4294967295)) :
    Calls Try.prog 11 #[.int .i64 n, v] w fun e w' => e = .returned (.int .i64 0) ∧ w = w' := by
  by_cases h0 : n < 0
  · clear h
    go_enter Try.func11, Try.ntmps11
    go_wp2
    go_ret
    exact ⟨rfl, rfl⟩
  · have hs : decide (4294967295 < n) = true := by simp; omega
    clear h
    go_enter Try.func11, Try.ntmps11
    go_wp2
    go_ret
    exact ⟨rfl, rfl⟩

theorem Of_any (l : List UInt8) (v : Value) (w : World) (hr : Rd w v (l.map B)) :
    Calls Try.prog 9 #[v] w fun e w' => e = .returned (.int .i64 ((crcOf l).toNat : Int)) ∧ w = w' := by
  go_enter Try.func9, Try.ntmps9
  go_wp2_with fail
  refine (More_yes l v 0#32 _ hr).mono ?_
  rintro e w' ⟨rfl, rfl⟩
  go_wp2
  go_ret
  exact ⟨rfl, rfl⟩

theorem Put_any (n : Int) (w : World) (h0 : -9223372036854775808 ≤ n) (h1 : n ≤ 9223372036854775807) :
    Calls Try.prog 13 #[.int .i64 n] w fun e w' => ∃ v', e = .returned v' ∧ Rd w' v' ((putB n).map B) ∧ Ext w w' := by
  go_enter Try.func13, Try.ntmps13
  go_wp2
  go_ret
  have h := Rd.litB w (putB n) #[Value.int .u8 (n / 16777216 % 256), Value.int .u8 (n / 65536 % 256), Value.int .u8 (n / 256 % 256), Value.int .u8 (n % 256)] 5 4 w.heap.size (by simp [putB]) (by simp only [putB, B, u8_mod, List.map_cons, List.map_nil]) rfl rfl
  exact ⟨_, rfl, h, (Below.refl _ _).alloc (Nat.le_refl _) _⟩

theorem Equal_any (xs ys : List UInt8) (u v : Value) (w : World) (hu : Rd w u (xs.map B)) (hv : Rd w v (ys.map B)) :
    Calls Try.prog 20 #[u, v] w fun e w' => e = .returned (.bool (decide (xs = ys))) ∧ w = w' := by
  go_enter Try.func20, Try.ntmps20
  go_wp2_with (first | (refine conv_u8 rfl _ rfl _ xs rfl hu ?_) | (refine conv_u8 rfl _ rfl _ ys rfl hv ?_))
  go_ret
  exact ⟨by rw [show (xs == ys) = decide (xs = ys) by rw [Bool.eq_iff_iff]; simp]; rfl, rfl⟩

set_option maxHeartbeats 400000 in
theorem Is_any (l : List UInt8) (v : Value) (w : World) (hr : Rd w v (l.map B)) :
    Calls Try.prog 16 #[v] w fun e w' => e = .returned (.bool (isB l)) ∧ Ext w w' := by
  have hr0 := hr
  obtain ⟨A, c, rfl, hlc, hcm, _⟩ := hr0
  simp only [List.length_map] at *
  unfold maxLen at hcm
  by_cases h4 : l.length < 4
  · go_enter Try.func16, Try.ntmps16
    go_wp2
    go_ret
    exact ⟨by rw [show isB l = false by rw [isB, decide_eq_false (by omega)]; rfl]; rfl, Ext.refl _⟩
  · obtain ⟨n, hn⟩ : ∃ n, l.length = n + 4 := ⟨l.length - 4, by omega⟩
    have hp := hr.prefix_ n (by simp; omega)
    have hq := hr.cut n 4 (by simp; omega)
    rw [← List.map_take] at hp
    rw [← List.map_drop, ← List.map_take, List.take_of_length_le (by simp; omega)] at hq
    have he : isB l = decide (l.drop n = putB ((crcOf (l.take n)).toNat : Int)) := by
      rw [isB, decide_eq_true (show 4 ≤ l.length by omega), Bool.true_and, show l.length - 4 = n by omega]
    have HE := Lib.hid he
    clear he
    have hs1 : ((crcOf (l.take n)).toNat : Int) ≤ 9223372036854775807 := by have := (crcOf (l.take n)).isLt; omega
    have hs0 : -9223372036854775808 ≤ ((crcOf (l.take n)).toNat : Int) := by omega
    rw [hn] at hlc ⊢
    rw [if_neg (by omega)] at hq
    clear hr hn h4
    go_enter Try.func16, Try.ntmps16
    go_wp2_with fail
    go_region_with (first | (go_at_call 9; refine (Of_any (l.take n) _ _ (hp.ext (Below.drewN' (Ext.refl _) _))).mono ?_; rintro e w1 ⟨rfl, rfl⟩) | (go_at_call 13; refine (Put_any _ _ hs0 hs1).mono ?_; rintro e w2 ⟨v2, rfl, hr2, hx2⟩; have hx3 := (Below.drewN' (Ext.refl w) 1).trans hx2; have hq3 := hq.ext hx3) | (go_at_call 20; refine (Equal_any _ _ _ _ _ hq3 hr2).mono ?_; rintro e w3 ⟨rfl, rfl⟩))
    all_goals go_wp2
    all_goals go_ret
    all_goals exact ⟨by rw [HE.out]; rfl, hx3⟩

end Go.Proofs.Ytdhfnacifahoaaa
