/- The reference's layer 1: a number's bytes. -/
import Derived.Test.YticgpldpbbfklaaTu8
import Derived.Test.YticgpldpbbfklaaP01b
import Derived.Test.YticgpldpbbfklaaMem2
import Derived.Test.YticgpldpbbfklaaLift
namespace Go.Proofs.Yticgpldpbbfklaa
open Go.RowKit

theorem RefIs_yes (n : Int) (w : World) (h0 : 0 ≤ n) (h1 : n < 9007199254740992) :
    Calls Try.prog 32 #[.int .i64 n] w fun e w' => e = .returned (.bool true) ∧ w = w' := by
  go_enter Try.func32, Try.ntmps32
  go_wp2
  go_ret
  exact ⟨rfl, rfl⟩

theorem RefIs_no (n : Int) (w : World) (h : ¬ (0 ≤ n ∧ n < 9007199254740992)) :
    Calls Try.prog 32 #[.int .i64 n] w fun e w' => e = .returned (.bool false) ∧ w = w' := by
  by_cases h0 : 0 ≤ n
  · have h1 : 9007199254740992 ≤ n := by omega
    have h2 : decide (n < 9007199254740992) = false := by simp; omega
    clear h
    go_enter Try.func32, Try.ntmps32
    go_wp2
    go_ret
    exact ⟨rfl, rfl⟩
  · clear h
    go_enter Try.func32, Try.ntmps32
    go_wp2
    go_ret
    exact ⟨rfl, rfl⟩

theorem RefNum_no (n : Int) (w : World) (hn : ¬ (0 ≤ n ∧ n < 9007199254740992)) :
    Calls Try.prog 22 #[.int .i64 n] w fun e w' => e = .returned (.slice none 0 0) ∧ w = w' := by
  have H := Lib.hid hn
  clear hn
  go_enter Try.func22, Try.ntmps22
  go_wp2
  refine wp_loop_rounds 1 ?_
  rw [rounds_succ]
  go_wp2_with (first | (go_at_call 32; refine (RefIs_no _ _ H.out).mono ?_; rintro e w' ⟨rfl, rfl⟩))
  go_ret
  exact ⟨rfl, rfl⟩

def ifz : Nat → Nat
  | 0 => 1
  | _ + 1 => 0

/-- The reference's bytes while it goes: of n, l has been put, m is left; the last byte is without its bit. -/
def NumSt (n : Nat) (l : List UInt8) (m : Nat) : Prop :=
  (l = [] ∧ m = n) ∨ ∃ l0 c, l = l0 ++ [c] ∧ c.toNat < 128 ∧ ((m = 0 ∧ l = numB n) ∨ (0 < m ∧ l0 ++ (c + 128) :: numB m = numB n))

theorem u8_add128 {c : UInt8} (h : c.toNat < 128) : ((c + 128).toNat : Int) = (c.toNat : Int) + 128 := by
  rw [UInt8.toNat_add]
  have : (128 : UInt8).toNat = 128 := rfl
  omega

theorem u8_ofNat_add (m : Nat) : UInt8.ofNat (m % 128) + 128 = UInt8.ofNat (m % 128 + 128) := by
  apply UInt8.toNat_inj.1
  rw [UInt8.toNat_add, u8_toNat, u8_toNat]
  have : (128 : UInt8).toNat = 128 := rfl
  omega

theorem numB_end (m : Nat) (pre : List UInt8) : (m / 128 = 0 → pre ++ [UInt8.ofNat (m % 128)] = pre ++ numB m) ∧ (0 < m / 128 → pre ++ (UInt8.ofNat (m % 128) + 128) :: numB (m / 128) = pre ++ numB m) := by
  refine ⟨fun h => ?_, fun h => ?_⟩
  · rw [numB_lo (by omega), Nat.mod_eq_of_lt (by omega)]
  · rw [numB_hi (n := m) (by omega), u8_ofNat_add]

theorem NumSt.first (n : Nat) : NumSt n [UInt8.ofNat (n % 128)] (n / 128) := by
  have he := numB_end n []
  refine .inr ⟨[], _, rfl, by rw [u8_toNat]; omega, ?_⟩
  rcases Nat.eq_zero_or_pos (n / 128) with h | h
  · exact .inl ⟨h, by simpa using he.1 h⟩
  · exact .inr ⟨h, by simpa using he.2 h⟩

theorem NumSt.next {n m : Nat} {l0 : List UInt8} {c : UInt8} (h : l0 ++ (c + 128) :: numB m = numB n) : NumSt n ((l0 ++ [c + 128]) ++ [UInt8.ofNat (m % 128)]) (m / 128) := by
  have he := numB_end m (l0 ++ [c + 128])
  refine .inr ⟨l0 ++ [c + 128], _, rfl, by rw [u8_toNat]; omega, ?_⟩
  rcases Nat.eq_zero_or_pos (m / 128) with h0 | h0
  · refine .inl ⟨h0, ?_⟩
    rw [he.1 h0, ← h]
    simp
  · refine .inr ⟨h0, ?_⟩
    rw [he.2 h0, ← h]
    simp

set_option maxRecDepth 100000 in
set_option maxHeartbeats 2000000 in
theorem RefNum_yes (n : Nat) (w : World) (hn : n < 9007199254740992) :
    Calls Try.prog 22 #[.int .i64 n] w fun e w' => ∃ v', e = .returned v' ∧ Grew w.heap.size 5 (.slice none 0 0) w ((numB n).map B) v' w' := by
  go_enter Try.func22, Try.ntmps22
  go_wp2
  go_loopw [0, 3, 4] (fun n' v' i' wr => ∃ (m : Nat) (l : List UInt8), n' = .int .i64 m ∧ i' = .int .i64 l.length ∧ m < 9007199254740992 ∧ NumSt n l m ∧ Grew w.heap.size 5 (.slice none 0 0) w (l.map B) v' wr) (fun n' _ i' _ => (intOf n').toNat + ifz (intOf i').toNat)
  case atStart => exact ⟨n, [], rfl, rfl, hn, .inl ⟨rfl, rfl⟩, Grew.nil w⟩
  case round =>
    obtain ⟨m, l, rfl, rfl, hm, hst, hg⟩ := hrel
    rcases hst with ⟨rfl, rfl⟩ | ⟨l0, c, rfl, hc, hst⟩
    · have hbw := hg.size
      simp only [List.length_nil]
      go_wp2_with (first | (go_at_call 32; refine (RefIs_yes _ _ (by omega) (by omega)).mono ?_; rintro e w' ⟨rfl, rfl⟩) | (at_builtin; refine push_u8 rfl _ _ rfl w.heap.size _ _ rfl hg.1 _ rfl rfl (by simp) hbw ?_; intro v' w' hg'))
      go_roundw
      case rel =>
        have hgg := hg.trans hg'
        rw [B_eq (u := UInt8.ofNat (m % 128)) (by rw [u8_toNat]; omega)] at hgg
        exact ⟨m / 128, [UInt8.ofNat (m % 128)], by go_num, rfl, by omega, NumSt.first m, by simpa using hgg⟩
      case measure => simp [intOf, ifz]; omega
    · have hlb : l0.length < 8 := by
        have h8 := numB_len8 hn
        rcases hst with ⟨_, h⟩ | ⟨_, h⟩
        · have := congrArg List.length h
          simp only [List.length_append, List.length_singleton] at this
          omega
        · have := congrArg List.length h
          simp only [List.length_append, List.length_cons] at this
          omega
      have hib : ((l0.length : Int) + 1 == 0) = false := by rw [beq_eq_false_iff_ne]; omega
      simp only [List.length_append, List.length_singleton, Int.natCast_add, Int.natCast_one]
      rcases hst with ⟨rfl, hfin⟩ | ⟨hpos, hst⟩
      · have hF := Lib.hid hfin
        clear hfin
        simp only [Int.natCast_zero]
        go_wp2_with (first | (go_at_call 32; refine (RefIs_yes _ _ (by omega) (by omega)).mono ?_; rintro e w' ⟨rfl, rfl⟩))
        go_ret
        exact ⟨_, rfl, by rw [← hF.out]; exact hg⟩
      · have hS := Lib.hid hst
        clear hst
        obtain ⟨g, cap, rfl, hcap, hgb, hgl⟩ := hg.form (by simp)
        have hc1 : wr.cell? ⟨g, l0.length, none⟩ = some (.int .u8 (c.toNat : Int)) := by
          rw [hg.cellAt _ (by simp)]
          simp
        have hf1 := hg.frozenAt l0.length
        have hcc : (c.toNat : Int) < 128 := by omega
        have HC := Lib.hid (u8_add128 hc)
        have hg2 := hg.set l0.length (.int .u8 ((c.toNat : Int) + 128))
        have hbw := hg2.size
        rw [show ((l0 ++ [c]).map B).set l0.length (.int .u8 ((c.toNat : Int) + 128)) = (l0 ++ [c + 128]).map B by
          rw [B_eq (u := c + 128) HC.out.symm]
          simp [List.set_append_right]] at hg2
        have hlt : ((l0 ++ [c + 128]).map B).length < 140737488355328 := by simp; omega
        generalize hcn : c.toNat = cn at hc1 hcc hc hg2 hbw
        have HCN := Lib.hid hcn
        clear hcn
        rw [List.length_map, List.length_append, List.length_singleton] at hg2 ⊢
        go_wp2_with (first | (go_at_call 32; refine (RefIs_yes _ _ (by omega) (by omega)).mono ?_; rintro e w' ⟨rfl, rfl⟩) | (at_builtin; refine push_u8 rfl _ _ rfl w.heap.size _ _ rfl hg2.1 _ rfl rfl hlt hbw ?_; intro v' w' hg'))
        go_roundw
        case rel =>
          have hgg := hg2.trans hg'
          rw [B_eq (u := UInt8.ofNat (m % 128)) (by rw [u8_toNat]; omega)] at hgg
          exact ⟨m / 128, (l0 ++ [c + 128]) ++ [UInt8.ofNat (m % 128)], by go_num, by simp; omega, by omega, NumSt.next hS.out, by simpa using hgg⟩
        case measure =>
          simp only [intOf]
          rw [show ((l0.length : Int) + 1 + 1).toNat = l0.length + 1 + 1 by omega, show ((l0.length : Int) + 1).toNat = l0.length + 1 by omega, ifz, ifz]
          omega

end Go.Proofs.Yticgpldpbbfklaa
