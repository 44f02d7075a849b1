/- Layer 3, the statements: what all of them ask first. -/
import Derived.Test.YticgpldpbbfklaaFrameCon
import Derived.Test.YticgpldpbbfklaaRefBytes
import Derived.Test.YticgpldpbbfklaaTop
import Derived.Lib.SlBytesConst
namespace Go.Proofs.Yticgpldpbbfklaa
open Go.RowKit

theorem frame_a : frameB [97] = [1, 0x61, 0xe8, 0xb7, 0xbe, 0x43, 1] := by decide +kernel
theorem get_a7 : getF [1, 0x61, 0xe8, 0xb7, 0xbe, 0x43, 1] 0 = ([97], 7, 1) := by decide +kernel
theorem get_a6 : getF [1, 0x61, 0xe8, 0xb7, 0xbe, 0x43] 0 = ([], 0, 2) := by decide +kernel
theorem all_a7 : allB [1, 0x61, 0xe8, 0xb7, 0xbe, 0x43, 1] 0 = ([[97]], 7) := by decide +kernel

theorem lit_f : #[Value.int .u8 1, .int .u8 97, .int .u8 232, .int .u8 183, .int .u8 190, .int .u8 67, .int .u8 1] = (([1, 0x61, 0xe8, 0xb7, 0xbe, 0x43, 1] : List UInt8).map B).toArray := by simp [B]

theorem Rd.litM (w : World) (l : List UInt8) (cs : Array Value) (e : TypeId) (n g : Nat) (m : Nat × Nat) (h : l.length ≤ 4096) (hc : cs = (l.map B).toArray) (hn : n = l.length) (hg : g = w.heap.size) : Rd (w.alloc (.cells cs e m)) (.slice (some ⟨g, 0, none⟩) n n) (l.map B) := by
  subst hc hn hg
  have h0 : Rd (w.alloc (.cells (l.map B).toArray e m)) (.slice (some ⟨w.heap.size, 0, none⟩) (l.map B).length (l.map B).length) (l.map B) :=
    ⟨some ⟨w.heap.size, 0, none⟩, (l.map B).length, rfl, Nat.le_refl _, by unfold maxLen; simp; omega, fun _ => ⟨w.heap.size, 0, rfl, by simp, fun j u hu => by
      rw [Nat.zero_add, cell_of_row _ _ _ (l.map B).toArray e m (heap_alloc_new w _)]
      simpa using hu⟩⟩
  simpa using h0

set_option maxHeartbeats 1000000 in
theorem alive_any (w : World) : Calls Try.prog 9 #[] w fun e w' => e = .returned (.bool true) ∧ Ext w w' := by
  have kc := fun (w : World) (C : Array Value) (n c : Nat) => Lib.run_convert_bytes_const (P := Try.prog) w 22 5 C n c Try.underlying22 Try.underlying5
  have hd := Rd.litM w [97] #[.int .u8 97] 5 1 w.heap.size (1, 2) (by decide) (by simp [B]) rfl rfl
  have hx0 : Ext w (w.alloc (.cells #[.int .u8 97] 5 (1, 2))) := (Below.refl _ _).alloc (Nat.le_refl _) _
  go_enter Try.func9, Try.ntmps9
  go_wp2_with fail
  clear kc
  generalize w.alloc _ = w0 at *
  refine (FramePut_rd [97] _ _ hd).mono ?_
  rintro e w1 ⟨v1, rfl, hr1, hx1⟩
  rw [frame_a] at hr1
  obtain ⟨A1, c1, rfl, hlc1, hcm1⟩ := hr1.sliceN (n := 7) rfl
  have hx1 := Ext.trans hx0 hx1
  unfold maxLen at hcm1
  clear hd hx0
  go_wp2_with fail
  refine (FrameGet_rd _ _ 0 _ hr1).mono ?_
  rintro e w2 ⟨v2, rfl, hr2, hx2⟩
  rw [get_a7] at hr2 ⊢
  obtain ⟨A2, c2, rfl, _, _⟩ := hr2.sliceN (n := 1) rfl
  have hr1 := hr1.ext hx2
  have hx2 := Ext.trans hx1 hx2
  clear hx1 hr2
  go_wp2_with fail
  have hp6 := hr1.prefix_ 6 (by decide)
  refine (FrameGet_rd [1, 0x61, 0xe8, 0xb7, 0xbe, 0x43] _ 0 _ hp6).mono ?_
  rintro e w3 ⟨v3, rfl, hr3, hx3⟩
  rw [get_a6] at hr3 ⊢
  obtain ⟨A3, c3, rfl, _, _⟩ := hr3.sliceN (n := 0) rfl
  have hr1 := hr1.ext hx3
  have hx3 := Ext.trans hx2 hx3
  clear hx2 hr3 hp6
  go_wp2_with fail
  refine (FrameAll_rd _ _ 0 _ hr1 (by decide)).mono ?_
  rintro e w4 ⟨v4, rfl, hr4, hx4⟩
  rw [all_a7] at hr4 ⊢
  obtain ⟨A4, c4, rfl, _, _⟩ := hr4.sliceN (n := 1) rfl
  have hr1 := hr1.ext hx4
  have hx4 := Ext.trans hx3 hx4
  clear hx3 hr4
  go_wp2_with fail
  have hE : Ext w4 (w4.alloc (.cells #[.int .u8 1, .int .u8 97, .int .u8 232, .int .u8 183, .int .u8 190, .int .u8 67, .int .u8 1] 5)) := (Below.refl _ _).alloc (Nat.le_refl _) _
  refine (Bytes_any [1, 0x61, 0xe8, 0xb7, 0xbe, 0x43, 1] [1, 0x61, 0xe8, 0xb7, 0xbe, 0x43, 1] _ _ _ (hr1.ext hE) (Rd.litB _ [1, 0x61, 0xe8, 0xb7, 0xbe, 0x43, 1] _ _ _ _ (by decide) lit_f rfl rfl)).mono ?_
  rintro e w5 ⟨rfl, n5, rfl⟩
  simp only [decide_true]
  go_wp2
  go_ret
  exact ⟨rfl, Below.drewN' (Ext.trans hx4 hE) _⟩

end Go.Proofs.Yticgpldpbbfklaa
