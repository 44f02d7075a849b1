/- Layer 1, package code: the number at a place. -/
import Derived.Test.YticgpldpbbfklaaRows
import Derived.Test.YticgpldpbbfklaaMem
import Derived.Test.YticgpldpbbfklaaP01
import Derived.Test.YticgpldpbbfklaaT01
import Derived.Deep.QuietTactic
import Derived.BigQuiet
namespace Go.Proofs.Yticgpldpbbfklaa
open Go.RowKit

set_option maxRecDepth 100000 in
set_option maxHeartbeats 2000000 in
theorem GetNum_at (bs : List UInt8) (v : Value) (p : Nat) (w : World) (hr : Rd w v (bs.map B)) (hp63 : p < 9223372036854775808) :
    Calls Try.prog 34 #[v, .int .i64 p] w fun e w' => e = .returned (numAt bs p) ∧ w = w' := by
  obtain ⟨A, c, rfl, hlc, hcm, hcell⟩ := hr
  simp only [List.length_map] at *
  unfold maxLen at hcm
  go_enter Try.func34, Try.ntmps34
  go_wp2
  go_loop [7, 8] (fun n' i' => ∃ (i acc : Nat), i' = .int .i64 i ∧ n' = .int .i64 acc ∧ i ≤ 8 ∧ acc < 128 ^ i ∧ (p + i < 9223372036854775808) ∧ scanN (8 - i) (bs.drop (p + i)) i acc = getN (bs.drop p)) (fun _ i' => 8 - (intOf i').toNat)
  case atStart => exact ⟨0, 0, rfl, rfl, by omega, by omega, by omega, rfl⟩
  case round =>
    obtain ⟨i, acc, rfl, rfl, hi, hacc, hp6, hsc⟩ := hrel
    by_cases h8 : i < 8
    · by_cases hp : p + i < bs.length
      · obtain ⟨b, o, rfl, hbl, hce⟩ := hcell (by omega)
        have hc1 : w.cell? ⟨b, o + (p + i), none⟩ = some (B bs[p + i]) := hce (p + i) _ (by simp [hp])
        clear hce hcell
        rw [show 8 - i = (7 - i) + 1 by omega, scanN_step i acc (drop_cons hp)] at hsc
        have hcl := bs[p + i].toNat_lt
        unfold B at hc1
        generalize bs[p + i].toNat = c at hc1 hsc hcl
        have hor := or_group i acc c h8 hacc
        have hlt := group_lt i acc c h8 hacc
        have hl8 := pow128_le (show i + 1 ≤ 8 by omega)
        generalize hN : acc + 128 ^ i * (c % 128) = N at hor hsc hlt
        have HN := Lib.hid hN
        clear hN
        by_cases hc : 128 ≤ c
        · rw [if_pos hc] at hsc
          have hSC := Lib.hid hsc
          clear hsc
          go_wp2
          go_roundw
          case rel => exact ⟨i + 1, N, by go_num, rfl, by omega, hlt, by omega, by rw [← hSC.out, show 8 - (i + 1) = 7 - i by omega]; rfl⟩
          case measure => simp [intOf]; omega
        · rw [if_neg hc] at hsc
          by_cases hn : 9007199254740992 ≤ N
          · rw [if_pos (.inl hn)] at hsc
            have hF : Hid (numAt bs p = .tuple #[.int .i64 0, .int .i64 0, .bool false]) := by unfold Hid; rw [numAt, ← hsc]
            have hni : (9007199254740992 : Int) ≤ (N : Int) := by omega
            clear hsc hn
            go_wp2
            go_ret3
            exact ⟨by rw [hF.out]; rfl, rfl⟩
          · have hni : decide ((9007199254740992 : Int) ≤ (N : Int)) = false := by simp; omega
            by_cases hc0 : c = 0
            · subst hc0
              have hor0 : bits .or .i64 (acc : Int) (wrap64 0) = (N : Int) := by simpa using hor
              have hor1 : bits .or .i64 (acc : Int) 0 = (N : Int) := by simpa [wrap64] using hor
              by_cases hi0 : 0 < i
              · rw [if_pos (.inr ⟨rfl, hi0⟩)] at hsc
                have hF : Hid (numAt bs p = .tuple #[.int .i64 0, .int .i64 0, .bool false]) := by unfold Hid; rw [numAt, ← hsc]
                clear hsc hn
                go_wp2
                go_ret3
                exact ⟨by rw [hF.out]; rfl, rfl⟩
              · rw [if_neg (by omega)] at hsc
                have hF : Hid (numAt bs p = .tuple #[.int .i64 (N : Int), .int .i64 ((p + (i + 1) : Nat) : Int), .bool true]) := by unfold Hid; rw [numAt, ← hsc]
                clear hsc hn
                go_wp2
                go_ret3
                exact ⟨by rw [hF.out]; simp; omega, rfl⟩
            · rw [if_neg (by omega)] at hsc
              have hF : Hid (numAt bs p = .tuple #[.int .i64 (N : Int), .int .i64 ((p + (i + 1) : Nat) : Int), .bool true]) := by unfold Hid; rw [numAt, ← hsc]
              have hcb : ((c : Int) == 0) = false := by simpa using hc0
              clear hsc hn
              go_wp2
              go_ret3
              exact ⟨by rw [hF.out]; simp; omega, rfl⟩
      · rw [List.drop_eq_nil_of_le (by omega), show 8 - i = (7 - i) + 1 by omega, scanN] at hsc
        have hF : Hid (numAt bs p = .tuple #[.int .i64 0, .int .i64 0, .bool false]) := by unfold Hid; rw [numAt, ← hsc]
        clear hsc
        go_wp2
        go_ret3
        exact ⟨by rw [hF.out]; rfl, rfl⟩
    · rw [show 8 - i = 0 by omega, scanN] at hsc
      have hF : Hid (numAt bs p = .tuple #[.int .i64 0, .int .i64 0, .bool false]) := by unfold Hid; rw [numAt, ← hsc]
      clear hsc
      go_wp2
      go_ret3
      exact ⟨by rw [hF.out]; rfl, rfl⟩

theorem GetNum_neg (v : Value) (p : Int) (w : World) (hp : p < 0) :
    Calls Try.prog 34 #[v, .int .i64 p] w fun e w' => e = .returned (.tuple #[.int .i64 0, .int .i64 0, .bool false]) ∧ w = w' := by
  go_enter Try.func34, Try.ntmps34
  go_wp2
  go_ret3
  exact ⟨rfl, rfl⟩

theorem GetNum_some (bs : List UInt8) (v : Value) (p n j : Nat) (w : World) (hr : Rd w v (bs.map B)) (hp63 : p < 9223372036854775808) (h : getN (bs.drop p) = some (n, j)) :
    Calls Try.prog 34 #[v, .int .i64 p] w fun e w' => e = .returned (.tuple #[.int .i64 n, .int .i64 ((p + j : Nat) : Int), .bool true]) ∧ w = w' := by
  have e : numAt bs p = .tuple #[.int .i64 n, .int .i64 ((p + j : Nat) : Int), .bool true] := by rw [numAt, h]
  rw [← e]
  exact GetNum_at bs v p w hr hp63

theorem GetNum_none (bs : List UInt8) (v : Value) (p : Nat) (w : World) (hr : Rd w v (bs.map B)) (hp63 : p < 9223372036854775808) (h : getN (bs.drop p) = none) :
    Calls Try.prog 34 #[v, .int .i64 p] w fun e w' => e = .returned (.tuple #[.int .i64 0, .int .i64 0, .bool false]) ∧ w = w' := by
  have e : numAt bs p = .tuple #[.int .i64 0, .int .i64 0, .bool false] := by rw [numAt, h]
  rw [← e]
  exact GetNum_at bs v p w hr hp63

end Go.Proofs.Yticgpldpbbfklaa
