/- Layer 2, package sum: the register behind some bytes. -/
import Derived.Test.YticgpldpbbfklaaTu8
import Derived.Test.YticgpldpbbfklaaP02b
import Derived.Deep.QuietTactic
import Derived.BigQuiet
import Derived.Deep.LoopGhost
import Derived.Outline
namespace Go.Proofs.Yticgpldpbbfklaa
open Go.RowKit

set_option maxHeartbeats 1000000 in
theorem goOn_any (l : List UInt8) (v : Value) (r : BitVec 32) (w : World) (hr : Rd w v (l.map B)) :
    Calls Try.prog 36 #[.int .u32 (r.toNat : Int), v] w fun e w' => e = .returned (.int .u32 ((crcAll r l).toNat : Int)) ∧ w = w' := by
  obtain ⟨A, c, rfl, hlc, hcm, hca⟩ := hr
  simp only [List.length_map] at *
  unfold maxLen at hcm
  go_enter Try.func36, Try.ntmps36
  go_wp2
  go_loop [0, 10] (fun s i => ∃ k : Nat, k ≤ l.length ∧ i = .int .i64 k ∧ s = .int .u32 ((crcAll r (l.take k)).toNat : Int)) (fun _ i => l.length - (intOf i).toNat)
  case atStart => exact ⟨0, Nat.zero_le _, rfl, rfl⟩
  case round =>
    obtain ⟨k, hk, rfl, rfl⟩ := hrel
    by_cases hlt : k < l.length
    · obtain ⟨b, o, rfl, hb, hc1⟩ := hca (by omega)
      have e1 : w.cell? ⟨b, o + k, none⟩ = some (B l[k]) := hc1 k _ (by simp [hlt])
      clear hc1 hca
      have hs := crcAll_snoc hlt r
      have HS := Lib.hid hs
      clear hs
      generalize hx : l[k] = x at e1
      have HX := Lib.hid hx
      clear hx
      simp only [B] at e1
      generalize hq : crcAll r (List.take k l) = q at *
      have HQ := Lib.hid hq
      clear hq
      have hxo := xorU32m q x
      generalize hy : q ^^^ BitVec.ofNat 32 x.toNat = y at hxo
      have HY := Lib.hid hy
      clear hy
      go_wp2
      go_step3
      go_wp2
      go_step3
      go_wp2
      clear hxo
      go_loop [0, 18] (fun s i => ∃ j : Nat, j ≤ 8 ∧ i = .int .i64 j ∧ s = .int .u32 ((crcBits j y).toNat : Int)) (fun _ i => 8 - (intOf i).toNat)
      case atStart => exact ⟨0, Nat.zero_le _, rfl, rfl⟩
      case round =>
        obtain ⟨j, hj, rfl, rfl⟩ := hrel
        by_cases hlj : j < 8
        · have hbs := crcBits_succ j y
          have HB := Lib.hid hbs
          clear hbs
          generalize crcBits j y = z at *
          have hz := z.isLt
          have hlow := lowU32 z
          rcases Nat.mod_two_eq_zero_or_one z.toNat with h0 | h1
          · have hev := crcBit_even h0
            have HE := Lib.hid hev
            rw [h0] at hlow
            clear hev h0
            go_wp2
            go_round
            case rel => exact ⟨j + 1, by omega, by go_num, by rw [HB.out, ← HE.out]; go_num⟩
            case measure => simp [intOf]; omega
          · have hod := polyU32 h1
            rw [h1] at hlow
            clear h1
            go_wp2
            go_round
            case rel => exact ⟨j + 1, by omega, by go_num, by rw [HB.out]⟩
            case measure => simp [intOf]; omega
        · obtain rfl : j = 8 := by omega
          go_wp2
          go_round
          case rel => exact ⟨k + 1, by omega, by go_num, by rw [HS.out, HX.out]; rw [crcByte, HY.out]⟩
          case measure => simp [intOf]; omega
    · obtain rfl : k = l.length := by omega
      rw [List.take_length]
      go_wp2
      go_ret
      exact ⟨rfl, rfl⟩

end Go.Proofs.Yticgpldpbbfklaa
