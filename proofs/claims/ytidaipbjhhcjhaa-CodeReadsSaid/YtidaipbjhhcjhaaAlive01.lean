/- Layer 1, the statements: what all of them ask first. -/
import Derived.Test.YtidaipbjhhcjhaaRefEq
namespace Go.Proofs.Ytidaipbjhhcjhaa
open Go.RowKit

theorem lit_a : #[Value.int .u8 172, Value.int .u8 2] = (([172, 2] : List UInt8).map B).toArray := by simp [B]
theorem lit_b : #[Value.int .u8 2, Value.int .u8 97, Value.int .u8 98] = (([2, 97, 98] : List UInt8).map B).toArray := by simp [B]
theorem lit_c : #[Value.int .u8 1, Value.int .u8 7] = (([1, 7] : List UInt8).map B).toArray := by simp [B]
theorem lit_d : #[Value.int .u8 128, Value.int .u8 0] = (([128, 0] : List UInt8).map B).toArray := by simp [B]
theorem get_a : getN (List.drop 0 [172, 2]) = some (300, 2) := by decide +kernel
theorem get_b : getN (List.drop 0 [2, 97, 98]) = some (2, 1) := by decide +kernel
theorem get_c : listAt [1, 7] 0 3 = some ([7], 2) := by decide +kernel
theorem get_d : getN (List.drop 0 [128, 0]) = none := by decide +kernel

theorem numB_300 : numB 300 = [172, 2] := by rw [numB_hi (by omega), numB_lo (by omega)]; rfl
theorem listB_c : listB [1, 300] = [2, 1, 172, 2] := by
  simp only [listB, numsB, List.length_cons, List.length_nil, List.flatMap_cons, List.flatMap_nil, Int.toNat_one, show (300 : Int).toNat = 300 from rfl, numB_300, numB_lo (show 0 + 1 + 1 < 128 by omega), numB_lo (show 1 < 128 by omega)]
  rfl
theorem lit_e : #[Value.int .i64 1, Value.int .i64 300] = (([1, 300] : List Int).map I).toArray := by simp [I]

set_option maxHeartbeats 300000 in
theorem alive_any (w : World) : Calls Try.prog 8 #[] w fun e w' => e = .returned (.bool true) ∧ Ext w w' := by
  go_enter Try.func8, Try.ntmps8
  go_wp2_with fail
  refine (GetNum_some [172, 2] _ 0 300 2 _ (Rd.litB _ [172, 2] _ _ _ _ (by decide) lit_a rfl rfl) (by omega) get_a).mono ?_
  rintro e w1 ⟨rfl, rfl⟩
  go_wp2_with fail
  refine (GetText_some [2, 97, 98] _ 0 2 1 _ (Rd.litB _ [2, 97, 98] _ _ _ _ (by decide) lit_b rfl (by simp)) (by omega) get_b (by decide)).mono ?_
  rintro e w1 ⟨rfl, rfl⟩
  go_wp2_with fail
  have hgl := GetList_any [1, 7] (.slice (some ⟨w.heap.size + 1 + 1, 0, none⟩) 2 2) 0 3 _ (Rd.litB ((w.alloc (Obj.cells #[Value.int IntKind.u8 172, Value.int IntKind.u8 2] 5)).alloc
    (Obj.cells #[Value.int IntKind.u8 2, Value.int IntKind.u8 97, Value.int IntKind.u8 98] 5)) [1, 7] _ 5 2 _ (by decide) lit_c rfl (by simp)) (by omega) (by decide)
  rw [get_c] at hgl
  refine hgl.mono ?_
  clear hgl
  rintro e w1 ⟨v1, rfl, hown, hx⟩
  obtain ⟨A1, c1, rfl⟩ := own_slice hown
  have hx1 : Ext w w1 := Below.trans (((((Below.refl _ _).alloc (Nat.le_refl _) _).alloc (by simp) _).alloc (by simp; omega) _)) (hx.mono (by simp; omega))
  clear hx hown
  go_wp2_with fail
  refine (GetNum_none [128, 0] _ 0 _ (Rd.litB _ [128, 0] _ _ _ _ (by decide) lit_d rfl rfl) (by omega) get_d).mono ?_
  rintro e w2 ⟨rfl, rfl⟩
  go_wp2_with fail
  refine (Num_yes 300 _ (by omega)).mono ?_
  rintro e w2 ⟨v2, rfl, hg⟩
  have ho2 := hg.own
  rw [numB_300] at ho2
  have hx2 : Ext w w2 := Ext.trans (hx1.alloc hx1.size _) hg.ext
  have hr2 := Rd.own ho2
  obtain ⟨A2, c2, rfl⟩ := own_slice (n := 2) ho2
  clear ho2
  clear hg hx1
  go_wp2_with fail
  refine (Bytes_any [172, 2] [172, 2] _ _ _ (hr2.ext ((Below.refl _ _).alloc (Nat.le_refl _) _)) (Rd.litB _ [172, 2] _ _ _ _ (by decide) lit_a rfl rfl)).mono ?_
  rintro e w3 ⟨rfl, n3, rfl⟩
  go_wp2_with fail
  refine (Text_any _ _ (by decide)).mono ?_
  rintro e w3 ⟨v3, rfl, hg3⟩
  have hx3 : Ext w w3 := Ext.trans (Below.drewN' (hx2.alloc hx2.size _) _) hg3.ext
  have ho3 := hg3.own
  rw [numB_lo (by decide)] at ho3
  obtain ⟨A3, c3, rfl⟩ := own_slice (n := 3) ho3
  clear hg3 ho3
  go_wp2_with fail
  refine (List_any [1, 300] _ _ (Rd.litI _ [1, 300] _ _ _ _ (by decide) lit_e rfl rfl) (by decide)).mono ?_
  rintro e w4 (⟨v4, rfl, _, hg4⟩ | ⟨_, h4, _⟩)
  · have hx4 : Ext w w4 := Ext.trans (hx3.alloc hx3.size _) hg4.ext
    have ho4 := hg4.own
    rw [listB_c] at ho4
    obtain ⟨A4, c4, rfl⟩ := own_slice (n := 4) ho4
    clear hg4 ho4
    go_wp2
    go_ret
    exact ⟨rfl, hx4⟩
  · exact absurd h4 (by decide)

theorem Try.ownKnob : ownKnob Try.prog.godebug = none := by kernel_rfl
theorem Try.laidOut : laidOutB Try.prog = true := by kernel_rfl

end Go.Proofs.Ytidaipbjhhcjhaa
