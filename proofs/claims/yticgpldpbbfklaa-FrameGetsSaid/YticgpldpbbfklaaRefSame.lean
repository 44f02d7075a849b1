/- Layer 3, the reference: the same lists of bytes? -/
import Derived.Test.YticgpldpbbfklaaRefBytes
import Derived.Test.YticgpldpbbfklaaMem3
import Derived.Deep.RegionWith
import Derived.Deep.QuietTactic
import Derived.BigQuiet
namespace Go.Proofs.Yticgpldpbbfklaa
open Go.RowKit

set_option maxHeartbeats 1000000 in
theorem RefSame_any (xs ys : List (List UInt8)) (u v : Value) (w : World) (hu : RdL w u xs) (hv : RdL w v ys) :
    Calls Try.prog 17 #[u, v] w fun e w' => e = .returned (.bool (decide (xs = ys))) ∧ ∃ n, w' = w.drewN n := by
  obtain ⟨A, c, rfl, hlc, hcm⟩ := hu.sliceN rfl
  obtain ⟨A', c', rfl, hlc', hcm'⟩ := hv.sliceN rfl
  unfold maxLen at hcm hcm'
  by_cases hl : xs.length = ys.length
  · have HL := Lib.hid hl
    rw [hl] at hlc hu ⊢
    clear hl
    go_enter Try.func17, Try.ntmps17
    go_wp2
    go_loopw [5] (fun i' wr => ∃ i k : Nat, i' = .int .i64 i ∧ i ≤ ys.length ∧ xs.take i = ys.take i ∧ wr = w.drewN k) (fun i' _ => ys.length - (intOf i').toNat)
    case atStart => exact ⟨0, 0, rfl, by omega, rfl, rfl⟩
    case round =>
      obtain ⟨i, k, rfl, hi, htk, hwk⟩ := hrel
      have hu1 := hu.ext (Below.drewN' (Ext.refl w) k)
      have hv1 := hv.ext (Below.drewN' (Ext.refl w) k)
      rw [← hwk] at hu1 hv1
      have HW := Lib.hid hwk
      have HT := Lib.hid htk
      clear htk hwk
      by_cases hlt : i < ys.length
      · have hlx : i < xs.length := by have := HL.out; omega
        obtain ⟨b, o, rfl, hb, hc1⟩ := hu1.at (by have := HL.out; omega)
        obtain ⟨b', o', rfl, hb', hc2⟩ := hv1.at (by omega)
        obtain ⟨p, e1, hp⟩ := hc1 i xs[i] (List.getElem?_eq_getElem hlx)
        obtain ⟨q, e2, hq⟩ := hc2 i ys[i] (List.getElem?_eq_getElem hlt)
        obtain ⟨P, cp, rfl, _, _⟩ := hp.sliceN (List.length_map _)
        obtain ⟨Q, cq, rfl, _, _⟩ := hq.sliceN (List.length_map _)
        clear hc1 hc2
        generalize hx : xs[i] = x at *
        generalize hy : ys[i] = y at *
        have HX := Lib.hid hx
        have HY := Lib.hid hy
        clear hx hy
        have hcall : ∀ n, Calls Try.prog 10 #[.slice P x.length cp, .slice Q y.length cq] (wr.drewN n) fun e w' => e = .returned (.bool (decide (x = y))) ∧ ∃ m, w' = (wr.drewN n).drewN m :=
          fun n => Bytes_any x y _ _ _ (hp.ext (Below.drewN' (Ext.refl wr) n)) (hq.ext (Below.drewN' (Ext.refl wr) n))
        have HC := Lib.hid hcall
        clear hcall
        by_cases hxy : x = y
        · have hd : decide (x = y) = true := decide_eq_true hxy
          rw [hd] at HC
          have HXY := Lib.hid hxy
          clear hxy hd
          go_wp2_with fail
          go_quiet ((go_at_call 10; exact Calls.quiet_of (HC.out _)))
          go_wp2
          go_roundw
          case rel => exact ⟨i + 1, _, by go_num, by omega, by rw [take_snoc _ _ hlx, take_snoc _ _ hlt, HT.out, HX.out, HY.out, HXY.out], by rw [HW.out]; exact World.drewN_drewN _ _ _⟩
          case measure => simp [intOf]; omega
        · have hd : decide (x = y) = false := decide_eq_false hxy
          rw [hd] at HC
          have HXY := Lib.hid hxy
          clear hxy hd
          go_wp2_with fail
          go_quiet ((go_at_call 10; exact Calls.quiet_of (HC.out _)))
          go_wp2
          go_ret
          refine ⟨?_, _, by rw [HW.out]; exact World.drewN_drewN _ _ _⟩
          rw [decide_eq_false (fun e => HXY.out (by rw [← HX.out, ← HY.out]; simp only [e]))]
          rfl
      · obtain rfl : i = ys.length := by omega
        go_wp2
        go_ret
        refine ⟨?_, _, HW.out⟩
        have := HT.out
        rw [List.take_length, ← HL.out, List.take_length] at this
        rw [decide_eq_true this]
        rfl
  · have hlb : ((xs.length : Int) == (ys.length : Int)) = false := by rw [beq_eq_false_iff_ne]; omega
    have H := Lib.hid hl
    clear hl
    go_enter Try.func17, Try.ntmps17
    go_wp2
    go_ret
    exact ⟨by rw [decide_eq_false (fun e => H.out (by rw [e]))]; rfl, 0, rfl⟩

end Go.Proofs.Yticgpldpbbfklaa
