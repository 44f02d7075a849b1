/- Layer 1, package code: a number's bytes. -/
import Derived.Test.YticgpldpbbfklaaTu8
import Derived.Test.YticgpldpbbfklaaP01
import Derived.Deep.QuietTactic
import Derived.BigQuiet
namespace Go.Proofs.Yticgpldpbbfklaa
open Go.RowKit

theorem isNum_yes (n : Int) (w : World) (h0 : 0 ≤ n) (h1 : n < 9007199254740992) :
    Calls Try.prog 29 #[.int .i64 n] w fun e w' => e = .returned (.bool true) ∧ w = w' := by
  go_enter Try.func29, Try.ntmps29
  go_wp2
  go_ret
  exact ⟨rfl, rfl⟩

theorem isNum_no (n : Int) (w : World) (h : ¬ (0 ≤ n ∧ n < 9007199254740992)) :
    Calls Try.prog 29 #[.int .i64 n] w fun e w' => e = .returned (.bool false) ∧ w = w' := by
  by_cases h0 : 0 ≤ n
  · have h1 : 9007199254740992 ≤ n := by omega
    have h2 : decide (n < 9007199254740992) = false := by simp; omega
    clear h
    go_enter Try.func29, Try.ntmps29
    go_wp2
    go_ret
    exact ⟨rfl, rfl⟩
  · clear h
    go_enter Try.func29, Try.ntmps29
    go_wp2
    go_ret
    exact ⟨rfl, rfl⟩

set_option maxRecDepth 100000 in
set_option maxHeartbeats 1000000 in
theorem addNum_any (base : Nat) (v : Value) (l : List UInt8) (n : Nat) (w : World) (hown : w.ownsRow base 5 1 v (l.map B).length (l.map B)) (hb : base ≤ w.heap.size)
    (hn : n < 9223372036854775808) (hl : l.length ≤ 140737488355318) :
    Calls Try.prog 30 #[v, .int .i64 n] w fun e w' => ∃ v', e = .returned v' ∧ Grew base 5 v w ((l ++ numB n).map B) v' w' := by
  obtain ⟨i0, hi, hz0, hz1, hz2⟩ := info_parts Try.infoU8
  have hlen := numB_len10 hn
  go_enter Try.func30, Try.ntmps30
  go_wp2
  go_loopw [0, 1] (fun v' n' wr => ∃ (m : Nat) (l' : List UInt8), n' = .int .i64 m ∧ m ≤ n ∧ l' ++ numB m = l ++ numB n ∧ Grew base 5 v w (l'.map B) v' wr) (fun _ n' _ => (intOf n').toNat)
  case atStart => exact ⟨n, l, rfl, Nat.le_refl _, rfl, Grew.start hown⟩
  case round =>
    obtain ⟨m, l', rfl, hmn, hmm, hg⟩ := hrel
    have hlt : (List.map B l').length < 140737488355328 := by
      have := congrArg List.length hmm
      have := numB_pos m
      simp only [List.length_append, List.length_map] at *
      omega
    have hbw : base ≤ wr.heap.size := Nat.le_trans hb hg.size
    have hML := Lib.hid hmm
    clear hmm
    by_cases h128 : m < 128
    · go_wp2_with (at_builtin; refine push_u8 rfl _ _ rfl base _ _ rfl hg.1 _ rfl rfl hlt hbw ?_; intro v' w' hg')
      go_ret
      refine ⟨_, rfl, ?_⟩
      have hgg := hg.trans hg'
      rw [← hML.out, numB_lo h128, List.map_append]
      rw [B_eq (n := (m : Int)) (u := UInt8.ofNat m) (by rw [u8_toNat]; omega)] at hgg
      exact hgg
    · have ho := or128 m
      have hO := Lib.hid ho
      clear ho
      go_wp2_with (at_builtin; refine push_u8 rfl _ _ rfl base _ _ rfl hg.1 _ rfl rfl hlt hbw ?_; intro v' w' hg')
      go_roundw
      case rel =>
        have hgg := hg.trans hg'
        rw [B_eq hO.out] at hgg
        refine ⟨m / 128, l' ++ [UInt8.ofNat (m % 128 + 128)], by go_num, by omega, ?_, by simpa using hgg⟩
        rw [← hML.out, numB_hi h128]
        simp
      case measure => simp [intOf]; omega

theorem Num_yes (n : Nat) (w : World) (hn : n < 9007199254740992) :
    Calls Try.prog 19 #[.int .i64 n] w fun e w' => ∃ v', e = .returned v' ∧ Grew w.heap.size 5 (.slice none 0 0) w ((numB n).map B) v' w' := by
  go_enter Try.func19, Try.ntmps19
  go_wp2_with (first | (go_at_call 29; refine (isNum_yes _ _ (by omega) (by omega)).mono ?_; rintro e w' ⟨rfl, rfl⟩) | (go_at_call 30; refine (addNum_any w.heap.size _ [] _ _ (World.ownsRow_nil _ _ _ _) (Nat.le_refl _) (by omega) (by simp)).mono ?_; rintro e w' ⟨v', rfl, hg⟩))
  go_ret
  exact ⟨_, rfl, hg⟩

theorem Num_no (n : Int) (w : World) (hn : ¬ (0 ≤ n ∧ n < 9007199254740992)) :
    Calls Try.prog 19 #[.int .i64 n] w fun e w' => e = .returned (.slice none 0 0) ∧ w = w' := by
  have H := Lib.hid hn
  clear hn
  go_enter Try.func19, Try.ntmps19
  go_wp2_with (first | (go_at_call 29; refine (isNum_no _ _ H.out).mono ?_; rintro e w' ⟨rfl, rfl⟩))
  go_ret
  exact ⟨rfl, rfl⟩

end Go.Proofs.Yticgpldpbbfklaa
