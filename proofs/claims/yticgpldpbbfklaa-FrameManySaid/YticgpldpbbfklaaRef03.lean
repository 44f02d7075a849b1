/- Layer 3, the reference: a payload's frame. -/
import Derived.Test.YticgpldpbbfklaaRef02
import Derived.Test.YticgpldpbbfklaaRefNum
import Derived.Test.YticgpldpbbfklaaRefBytes
import Derived.Test.YticgpldpbbfklaaLift
import Derived.Test.YticgpldpbbfklaaMem2
import Derived.Test.YticgpldpbbfklaaP03
import Derived.Deep.RegionWith
import Derived.Outline
namespace Go.Proofs.Yticgpldpbbfklaa
open Go.RowKit

theorem B_one : Value.int .u8 1 = B 1 := rfl

set_option maxHeartbeats 1000000 in
theorem RefFrame_yes (p : List UInt8) (v : Value) (w : World) (hr : Rd w v (p.map B)) (hp : 1 ≤ p.length ∧ p.length ≤ 4000) :
    Calls Try.prog 12 #[v] w fun e w' => ∃ v', e = .returned v' ∧ Grew w.heap.size 5 (.slice none 0 0) w ((frameB p).map B) v' w' := by
  obtain ⟨A, c, rfl, hlc, hcm⟩ := hr.sliceN (List.length_map _)
  unfold maxLen at hcm
  have hl8 := numB_len8 (n := p.length) (by omega)
  have hd1 : decide ((p.length : Int) < 1) = false := by simp; omega
  have hd2 : decide (4000 < (p.length : Int)) = false := by simp; omega
  have hs1 : ((crcOf p).toNat : Int) ≤ 9223372036854775807 := by have := (crcOf p).isLt; omega
  have hs0 : -9223372036854775808 ≤ ((crcOf p).toNat : Int) := by omega
  have hle := hp.2
  have HP := Lib.hid hp
  have hp2 : p.length < 9007199254740992 := by omega
  clear hp
  go_enter Try.func12, Try.ntmps12
  go_wp2_with fail
  refine (RefNum_yes p.length _ hp2).mono ?_
  rintro e w2 ⟨v2, rfl, hg2⟩
  obtain ⟨A2, c2, rfl⟩ := hg2.slice_ (n := (numB p.length).length) (List.length_map _)
  have hr2 := Rd.own hg2.own
  have hx2 := hg2.ext
  have hp2 := hr.ext hx2
  clear hg2
  go_wp2_with (first | (at_builtin; refine app_u8 rfl _ _ rfl w2.heap.size _ [] rfl (World.ownsRow_nil _ _ _ _) _ (numB p.length) rfl hr2 (by simp; omega) (Nat.le_refl _) ?_; intro v3 w3 hg3; rw [List.nil_append] at hg3; obtain ⟨A3, c3, rfl⟩ := hg3.slice_ (n := (numB p.length).length) (by rw [List.length_map])) | (at_builtin; refine app_u8 rfl _ _ rfl w2.heap.size _ _ rfl hg3.1 _ p rfl (hp2.ext hg3.ext) (by rw [List.length_map]; omega) hg3.size ?_; intro v4 w4 hh4; have hg4 := hg3.trans hh4; rw [← List.map_append] at hg4; obtain ⟨A4, c4, rfl⟩ := hg4.slice_ (n := (numB p.length).length + p.length) (by rw [List.length_map, List.length_append]); clear hh4))
  have hp4 := hp2.ext hg4.ext
  refine (RefOf_any p _ _ hp4).mono ?_
  rintro e w5 ⟨rfl, rfl⟩
  go_wp2_with fail
  refine (RefPut_any _ _ hs0 hs1).mono ?_
  rintro e w5 ⟨v5, rfl, hr5, hx5⟩
  obtain ⟨A5, c5, rfl, _, _⟩ := hr5.sliceN (n := 4) rfl
  have hg5 := hg4.step hx5
  clear hg3 hg4 hp4 hx5
  go_wp2_with (first | (at_builtin; refine app_u8 rfl _ _ rfl w2.heap.size _ _ rfl hg5.1 _ (putB ((crcOf p).toNat : Int)) rfl hr5 (by rw [List.length_map, List.length_append, putB_len]; omega) hg5.size ?_; intro v6 w6 hh6; have hg6 := hg5.trans hh6; rw [← List.map_append] at hg6; obtain ⟨A6, c6, rfl⟩ := hg6.slice_ (n := (numB p.length).length + p.length + 4) (by rw [List.length_map, List.length_append, List.length_append, putB_len]); clear hh6) | (at_builtin; refine push_u8 rfl _ _ rfl w2.heap.size _ _ rfl hg6.1 _ rfl rfl (by rw [List.length_map, List.length_append, List.length_append, putB_len]; omega) hg6.size ?_; intro v7 w7 hg7))
  have hg8 := hg6.trans hg7
  rw [B_one] at hg8
  go_ret
  refine ⟨_, rfl, ?_⟩
  have e : (frameB p).map B = List.map B (numB p.length ++ p ++ putB ((crcOf p).toNat : Int)) ++ [B 1] := by
    rw [frameB_yes HP.out]
    simp
  rw [e]
  exact Grew.from_ext hx2 hg8

theorem RefFrame_no (p : List UInt8) (v : Value) (w : World) (hr : Rd w v (p.map B)) (hp : ¬ (1 ≤ p.length ∧ p.length ≤ 4000)) :
    Calls Try.prog 12 #[v] w fun e w' => e = .returned (.slice none 0 0) ∧ w = w' := by
  obtain ⟨A, c, rfl, hlc, hcm⟩ := hr.sliceN (List.length_map _)
  unfold maxLen at hcm
  by_cases h1 : p.length < 1
  · have hd1 : decide ((p.length : Int) < 1) = true := by simp; omega
    clear hp
    go_enter Try.func12, Try.ntmps12
    go_wp2
    go_ret
    exact ⟨rfl, rfl⟩
  · have hd1 : decide ((p.length : Int) < 1) = false := by simp; omega
    have hd2 : decide (4000 < (p.length : Int)) = true := by simp; omega
    clear hp
    go_enter Try.func12, Try.ntmps12
    go_wp2
    go_ret
    exact ⟨rfl, rfl⟩

theorem RefFrame_any (p : List UInt8) (v : Value) (w : World) (hr : Rd w v (p.map B)) :
    Calls Try.prog 12 #[v] w fun e w' => ∃ v', e = .returned v' ∧ Grew w.heap.size 5 (.slice none 0 0) w ((frameB p).map B) v' w' := by
  by_cases hp : 1 ≤ p.length ∧ p.length ≤ 4000
  · exact RefFrame_yes p v w hr hp
  · refine (RefFrame_no p v w hr hp).mono ?_
    rintro e w' ⟨rfl, rfl⟩
    rw [frameB_no hp]
    exact ⟨_, rfl, Grew.nil w⟩

end Go.Proofs.Yticgpldpbbfklaa
