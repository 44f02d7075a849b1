/- Layer 2, the statements: what all of them ask first. -/
import Derived.Test.YtdhfnacifahoaaaSumB
import Derived.Test.YtdhfnacifahoaaaRef02
import Derived.Test.YtdhfnacifahoaaaRefBytes
import Derived.Test.YtdhfnacifahoaaaTop
import Derived.Test.YtdhfnacifahoaaaStep
import Derived.Lib.SlBytesConst
namespace Go.Proofs.Ytdhfnacifahoaaa
open Go.RowKit

theorem sum_9 : crcOf [49, 50, 51, 52, 53, 54, 55, 56, 57] = 3421780262#32 := by decide +kernel
theorem sum_4 : crcOf [49, 50, 51, 52] = 2615402659#32 := by decide +kernel
theorem more_5 : crcMore 2615402659#32 [53, 54, 55, 56, 57] = 3421780262#32 := by decide +kernel
theorem is_13 : isB ([49, 50, 51, 52, 53, 54, 55, 56, 57] ++ putB 3421780262) = true := by decide +kernel
theorem is_0 : isB [] = false := by decide +kernel

theorem Of_9 (v : Value) (w : World) (hr : Rd w v (([49, 50, 51, 52, 53, 54, 55, 56, 57] : List UInt8).map B)) :
    Calls Try.prog 9 #[v] w fun e w' => e = .returned (.int .i64 3421780262) ∧ w = w' := by
  have := Of_any _ v w hr
  rw [sum_9] at this
  exact this
theorem Of_0 (w : World) : Calls Try.prog 9 #[.slice none 0 0] w fun e w' => e = .returned (.int .i64 0) ∧ w = w' :=
  Of_any [] _ w (Rd.nil w)
theorem Of_4 (v : Value) (w : World) (hr : Rd w v (([49, 50, 51, 52] : List UInt8).map B)) :
    Calls Try.prog 9 #[v] w fun e w' => e = .returned (.int .i64 2615402659) ∧ w = w' := by
  have := Of_any _ v w hr
  rw [sum_4] at this
  exact this
theorem More_5 (v : Value) (w : World) (hr : Rd w v (([53, 54, 55, 56, 57] : List UInt8).map B)) :
    Calls Try.prog 11 #[.int .i64 2615402659, v] w fun e w' => e = .returned (.int .i64 3421780262) ∧ w = w' := by
  have := More_yes _ v 2615402659#32 w hr
  rw [more_5] at this
  exact this
theorem Is_13 (v : Value) (w : World) (hr : Rd w v ((([49, 50, 51, 52, 53, 54, 55, 56, 57] : List UInt8) ++ putB 3421780262).map B)) :
    Calls Try.prog 16 #[v] w fun e w' => e = .returned (.bool true) ∧ Ext w w' := by
  have := Is_any _ v w hr
  rw [is_13] at this
  exact this
theorem Is_0 (w : World) : Calls Try.prog 16 #[.slice none 0 0] w fun e w' => e = .returned (.bool false) ∧ Ext w w' := by
  have := Is_any [] _ w (Rd.nil w)
  rw [is_0] at this
  exact this

theorem Rd.litM (w : World) (l : List UInt8) (cs : Array Value) (e : TypeId) (n g : Nat) (m : Nat × Nat) (h : l.length ≤ 4096) (hc : cs = (l.map B).toArray) (hn : n = l.length) (hg : g = w.heap.size) : Rd (w.alloc (.cells cs e m)) (.slice (some ⟨g, 0, none⟩) n n) (l.map B) := by
  subst hc hn hg
  have h0 : Rd (w.alloc (.cells (l.map B).toArray e m)) (.slice (some ⟨w.heap.size, 0, none⟩) (l.map B).length (l.map B).length) (l.map B) :=
    ⟨some ⟨w.heap.size, 0, none⟩, (l.map B).length, rfl, Nat.le_refl _, by unfold maxLen; simp; omega, fun _ => ⟨w.heap.size, 0, rfl, by simp, fun j u hu => by
      rw [Nat.zero_add, cell_of_row _ _ _ (l.map B).toArray e m (heap_alloc_new w _)]
      simpa using hu⟩⟩
  simpa using h0

set_option maxHeartbeats 2000000 in
theorem alive_any (w : World) : Calls Try.prog 8 #[] w fun e w' => e = .returned (.bool true) ∧ Ext w w' := by
  have kc := fun (w : World) (C : Array Value) (n c : Nat) => Lib.run_convert_bytes_const (P := Try.prog) w 22 5 C n c Try.underlying22 Try.underlying5
  have hd := Rd.litM w [49, 50, 51, 52, 53, 54, 55, 56, 57] #[.int .u8 49, .int .u8 50, .int .u8 51, .int .u8 52, .int .u8 53, .int .u8 54, .int .u8 55, .int .u8 56, .int .u8 57] 5 9 w.heap.size (9, 10) (by decide) (by simp [B]) rfl rfl
  have hd4 := hd.prefix_ 4 (by decide)
  have hd5 := hd.cut 4 5 (by decide)
  rw [if_neg (by decide)] at hd5
  have hx0 : Ext w (w.alloc (.cells #[.int .u8 49, .int .u8 50, .int .u8 51, .int .u8 52, .int .u8 53, .int .u8 54, .int .u8 55, .int .u8 56, .int .u8 57] 5 (9, 10))) := (Below.refl _ _).alloc (Nat.le_refl _) _
  go_enter Try.func8, Try.ntmps8
  go_wp2_with fail
  clear kc
  generalize w.alloc _ = w0 at *
  generalize w.heap.size = g0 at *
  have hd5' : Rd w0 (.slice (some ⟨g0, 4, none⟩) 5 5) (([53, 54, 55, 56, 57] : List UInt8).map B) := by simpa [Addr.add] using hd5
  have hd4' : Rd w0 (.slice (some ⟨g0, 0, none⟩) 4 9) (([49, 50, 51, 52] : List UInt8).map B) := hd4
  clear hd5 hd4
  go_region_law (first | (go_simp; (first | (go_at_call 9; (first | ((with_reducible refine (Of_9 (.slice (some ⟨g0, 0, none⟩) 9 9) _ ?_).mono ?_); exact hd.ext (Below.drewN' (Ext.refl _) 1)) | ((with_reducible refine (Of_4 (.slice (some ⟨g0, 0, none⟩) 4 9) _ ?_).mono ?_); exact hd4'.ext (Below.drewN' (Ext.refl _) 1)) | (with_reducible refine (Of_0 _).mono ?_)); rintro e w1 ⟨rfl, rfl⟩) | (go_at_call 11; refine (More_5 _ _ ?_).mono ?_; exact hd5'.ext (Below.drewN' (Ext.refl _) 1); rintro e w1 ⟨rfl, rfl⟩) | (go_at_call 13; refine (Put_any _ _ (by omega) (by omega)).mono ?_; rintro e w2 ⟨v2, rfl, hr2, hx2⟩; have hx3 := (Below.drewN' (Ext.refl w0) 1).trans hx2; have hd3 := hd.ext hx3) | (go_at_call 16; (first | ((with_reducible refine (Is_13 _ _ hr4).mono ?_); rintro e w5 ⟨rfl, hx5⟩; have hx5' := Ext.trans hx4 hx5) | ((with_reducible refine (Is_0 _).mono ?_); rintro e w6 ⟨rfl, hx6⟩; have hx6' := Ext.trans hx5' hx6))))) | (refine stepG_u8 (.tmp 23) (.tmp 24) ?_ ?_ g0 0 9 9 [49, 50, 51, 52, 53, 54, 55, 56, 57] ?_ ?_ v2 (putB 3421780262) ?_ ?_ ?_ ?_ ?_; rfl; rfl; rfl; exact hd3; rfl; exact hr2; decide; decide; intro v4 w4 hg4; have hr4 := Rd.own hg4.own; have hx4 := Ext.trans hx3 hg4.ext))
  all_goals go_wp2
  all_goals go_ret
  all_goals exact ⟨rfl, Ext.trans hx0 hx6'⟩

end Go.Proofs.Ytdhfnacifahoaaa
