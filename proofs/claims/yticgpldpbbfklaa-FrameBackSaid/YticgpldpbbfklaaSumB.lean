/- Layer 2, package sum: sums, and a number's four bytes. -/
import Derived.Test.YticgpldpbbfklaaSumA
import Derived.Test.YticgpldpbbfklaaP02c
namespace Go.Proofs.Yticgpldpbbfklaa
open Go.RowKit

set_option maxHeartbeats 400000 in
theorem More_yes (l : List UInt8) (v : Value) (s : BitVec 32) (w : World) (hr : Rd w v (l.map B)) :
    Calls Try.prog 31 #[.int .i64 (s.toNat : Int), v] w fun e w' => e = .returned (.int .i64 ((crcMore s l).toNat : Int)) ∧ w = w' := by
  have hs : decide (4294967295 < (s.toNat : Int)) = false := by simp; have := s.isLt; omega
  have hs0 : s.toNat % 4294967296 = s.toNat := by have := s.isLt; omega
  have hn1 := notMax s
  have hn2 : bits .xor .u32 IntKind.u32.max ((crcAll (~~~ s) l).toNat : Int) = ((crcMore s l).toNat : Int) := notMax _
  generalize ~~~ s = t at *
  have hle : ((crcMore s l).toNat : Int) ≤ 4294967295 := by have := (crcMore s l).isLt; omega
  go_enter Try.func31, Try.ntmps31
  go_wp2_with fail
  refine (goOn_any l v t _ hr).mono ?_
  rintro e w' ⟨rfl, rfl⟩
  go_wp2
  go_ret
  exact ⟨rfl, rfl⟩

theorem More_no (n : Int) (v : Value) (w : World) (h : ¬ (0 ≤ n ∧ n ≤ 4294967295)) :
    Calls Try.prog 31 #[.int .i64 n, v] w fun e w' => e = .returned (.int .i64 0) ∧ w = w' := by
  by_cases h0 : n < 0
  · clear h
    go_enter Try.func31, Try.ntmps31
    go_wp2
    go_ret
    exact ⟨rfl, rfl⟩
  · have hs : decide (4294967295 < n) = true := by simp; omega
    clear h
    go_enter Try.func31, Try.ntmps31
    go_wp2
    go_ret
    exact ⟨rfl, rfl⟩

theorem Of_any (l : List UInt8) (v : Value) (w : World) (hr : Rd w v (l.map B)) :
    Calls Try.prog 21 #[v] w fun e w' => e = .returned (.int .i64 ((crcOf l).toNat : Int)) ∧ w = w' := by
  go_enter Try.func21, Try.ntmps21
  go_wp2_with fail
  refine (More_yes l v 0#32 _ hr).mono ?_
  rintro e w' ⟨rfl, rfl⟩
  go_wp2
  go_ret
  exact ⟨rfl, rfl⟩

theorem Put_any (n : Int) (w : World) (h0 : -9223372036854775808 ≤ n) (h1 : n ≤ 9223372036854775807) :
    Calls Try.prog 20 #[.int .i64 n] w fun e w' => ∃ v', e = .returned v' ∧ Rd w' v' ((putB n).map B) ∧ Ext w w' := by
  go_enter Try.func20, Try.ntmps20
  go_wp2
  go_ret
  have h := Rd.litB w (putB n) #[Value.int .u8 (n / 16777216 % 256), Value.int .u8 (n / 65536 % 256), Value.int .u8 (n / 256 % 256), Value.int .u8 (n % 256)] 5 4 w.heap.size (by simp [putB]) (by simp only [putB, B, u8_mod, List.map_cons, List.map_nil]) rfl rfl
  exact ⟨_, rfl, h, (Below.refl _ _).alloc (Nat.le_refl _) _⟩

end Go.Proofs.Yticgpldpbbfklaa
