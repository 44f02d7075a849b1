/- DiskActs, where there is no disk to look at: sizes and acts that are passed by, and sizes of which there is no disk. -/
import Derived.Test.YtkoppdhmbhgnfaaDiskDo
import Derived.Test.YtkoppdhmbhgnfaaAlive04
namespace Go.Proofs.Ytkoppdhmbhgnfaa
open Go.RowKit

theorem DiskActs_out (n : Int) (l : List ActS) (v : Value) (w : World) (hr : RdActs w v l) (h : (300 < n ∧ n ≤ 65536) ∨ (¬ (300 < n ∧ n ≤ 65536) ∧ fewB l = false)) :
    Calls Try.prog 3 #[.int .i64 n, v] w fun e w' => e = .returned (.bool true) ∧ Ext w w' := by
  have alive := alive_any w
  rcases h with ⟨h1, h2⟩ | ⟨h1, h2⟩
  · go_enter Try.func3, Try.ntmps3
    go_wp2_with fail
    refine alive.mono ?_
    rintro e w1 ⟨rfl, hx1⟩
    go_wp2
    go_ret
    exact ⟨rfl, hx1⟩
  · have HF := Lib.hid h2
    clear h2
    by_cases h3 : 300 < n
    · have h4 : decide (n ≤ 65536) = false := by simp; omega
      clear h1
      go_enter Try.func3, Try.ntmps3
      go_wp2_with fail
      refine alive.mono ?_
      rintro e w1 ⟨rfl, hx1⟩
      go_wp2_with fail
      refine (few_any l _ _ (hr.ext hx1)).mono ?_
      rintro e w1' ⟨rfl, rfl⟩
      rw [HF.out]
      go_wp2
      go_ret
      exact ⟨rfl, hx1⟩
    · clear h1
      go_enter Try.func3, Try.ntmps3
      go_wp2_with fail
      refine alive.mono ?_
      rintro e w1 ⟨rfl, hx1⟩
      go_wp2_with fail
      refine (few_any l _ _ (hr.ext hx1)).mono ?_
      rintro e w1' ⟨rfl, rfl⟩
      rw [HF.out]
      go_wp2
      go_ret
      exact ⟨rfl, hx1⟩

set_option maxHeartbeats 1000000 in
theorem DiskActs_no (n : Int) (l : List ActS) (v : Value) (w : World) (hr : RdActs w v l) (h : n < 1 ∨ (1 ≤ n ∧ 65536 < n)) (hf : fewB l = true) :
    Calls Try.prog 3 #[.int .i64 n, v] w fun e w' => e = .returned (.bool true) ∧ Ext w w' := by
  have alive := alive_any w
  have hno := fun w => DkNew_no n w (by omega)
  have HNO := Lib.hid hno
  have HF := Lib.hid hf
  clear hno hf
  rcases h with h | ⟨h1, h⟩
  all_goals
    go_enter Try.func3, Try.ntmps3
    go_wp2_with fail
    refine alive.mono ?_
    rintro e w1 ⟨rfl, hx1⟩
    go_wp2_with fail
    refine (few_any l _ _ (hr.ext hx1)).mono ?_
    rintro e w1' ⟨rfl, rfl⟩
    rw [HF.out]
    go_wp2_with fail
    refine (HNO.out _).mono ?_
    rintro e w2 ⟨rfl, rfl⟩
    go_wp2_with fail
    refine (DkSync_nil _).mono ?_
    rintro e w2 ⟨rfl, rfl⟩
    go_wp2_with fail
    refine (DkCrash_nil 1 _).mono ?_
    rintro e w2 ⟨rfl, rfl⟩
    go_wp2_with fail
    refine (DkWrite_nil 0 _ [] _ (Rd.nil _)).mono ?_
    rintro e w2 ⟨rfl, rfl⟩
    go_wp2_with fail
    refine (DkBytes_nil _).mono ?_
    rintro e w2 ⟨rfl, rfl⟩
    go_wp2_with fail
    refine (DkSize_nil _).mono ?_
    rintro e w2 ⟨rfl, rfl⟩
    go_wp2_with fail
    refine (DkWaits_nil _).mono ?_
    rintro e w2 ⟨rfl, rfl⟩
    go_wp2_with fail
    refine (DkSyncs_nil _).mono ?_
    rintro e w2 ⟨rfl, rfl⟩
    go_wp2
    go_ret
    exact ⟨rfl, hx1⟩

end Go.Proofs.Ytkoppdhmbhgnfaa
