/- Texts that the proof of R rests on, one behind the other. -/
import Derived.Test.YtdijinboopdheaaRQ10
import Derived.Test.YtdijinboopdheaaRows
import Derived.Deep.LoopGhost
import Derived.BigQuiet

/- Layer 12's statement NetBytes, walked. -/
namespace Go.Proofs.Ytdijinboopdheaa
open Go.RowKit

theorem getA_form (r : Option Ms) : ∃ (X : Ms) (o : Bool), getA r = .tuple #[msV X, .bool o] := by
  cases r with
  | none => exact ⟨zMs, false, rfl⟩
  | some m => exact ⟨m, true, rfl⟩

set_option maxRecDepth 100000 in
set_option maxHeartbeats 4000000 in
theorem NetBytes_calls (m : Ms) (bs : List UInt8) (v : Value) (w : World) (h : Rd w v (bs.map B)) : Calls Try.prog 4 #[msV m, v] w fun e w' => e = .returned (.bool true) ∧ Ext w w' := by
  obtain ⟨W, hW⟩ : ∃ W, W = w.alloc (.cells #[.int .i64 m.node, .int .i64 m.kind, .int .i64 m.term, .int .i64 m.gen, .int .i64 m.job, .int .i64 m.inc, .int .i64 m.ver, .int .i64 m.epoch, .int .i64 m.til, .int .i64 m.mode, .int .i64 m.work] 49) := ⟨_, rfl⟩
  have HM := Lib.hid (show MsAt W w.heap.size m by rw [hW]; exact ⟨Blk.new _ _ _⟩)
  have HX := Lib.hid (show Ext w W by rw [hW]; exact Ext.alloc_ _ _)
  obtain ⟨Av, cv, rfl, -, -⟩ := h.sliceN (List.length_map _)
  have HR := Lib.hid h
  clear h
  unfold msV
  go_enter Try.func4, Try.ntmps4
  go_wp2_with fail
  rw [← hW]
  clear hW
  refine (alive12_any W).mono ?_
  rintro e1 w1 ⟨rfl, hx1⟩
  replace HX := Lib.hid (HX.out.trans hx1)
  replace HM := Lib.hid (HM.out.ext hx1)
  clear hx1
  by_cases h3 : bs.length ≤ 300
  rotate_left
  · have d3 : decide ((300 : Int) < (bs.length : Int)) = true := decide_eq_true (by omega)
    have d3' : decide (300 < bs.length) = true := decide_eq_true (by omega)
    clear h3
    go_wp2
    go_ret
    exact ⟨rfl, HX.out⟩
  have d3 : decide ((300 : Int) < (bs.length : Int)) = false := decide_eq_false (by omega)
  have d3' : decide (300 < bs.length) = false := decide_eq_false (by omega)
  clear h3
  obtain ⟨X, okb, hX⟩ := getA_form (getM bs)
  have HC := Lib.hid (Get12_any bs _ w1 (HR.out.ext HX.out))
  rw [hX] at HC
  unfold msV at HC
  go_wp2_with fail
  refine HC.out.mono ?_
  rintro e2 w2 ⟨rfl, hx2⟩
  replace HX := Lib.hid (HX.out.trans hx2)
  replace HM := Lib.hid (HM.out.ext hx2)
  clear hx2 HC
  obtain ⟨W3, hW3⟩ : ∃ W, W = w2.alloc (.cells #[.int .i64 X.node, .int .i64 X.kind, .int .i64 X.term, .int .i64 X.gen, .int .i64 X.job, .int .i64 X.inc, .int .i64 X.ver, .int .i64 X.epoch, .int .i64 X.til, .int .i64 X.mode, .int .i64 X.work] 49) := ⟨_, rfl⟩
  have HA3 := Lib.hid (show MsAt W3 w2.heap.size X by rw [hW3]; exact ⟨Blk.new _ _ _⟩)
  have hx3 : Ext w2 W3 := by rw [hW3]; exact Ext.alloc_ _ _
  replace HX := Lib.hid (HX.out.trans hx3)
  replace HM := Lib.hid (HM.out.ext hx3)
  clear hx3
  have HC := Lib.hid (RefGet12_any bs _ W3 (HR.out.ext HX.out))
  rw [hX] at HC
  unfold msV at HC
  clear hX d3 d3'
  go_upto_region 6 with (fail)
  rw [← hW3]
  clear hW3
  go_wp2_with fail
  refine HC.out.mono ?_
  rintro e4 w4 ⟨rfl, hx4⟩
  replace HX := Lib.hid (HX.out.trans hx4)
  replace HM := Lib.hid (HM.out.ext hx4)
  replace HA3 := Lib.hid (HA3.out.ext hx4)
  clear hx4 HC
  obtain ⟨W6, hW6⟩ : ∃ W, W = w4.alloc (.cells #[.int .i64 X.node, .int .i64 X.kind, .int .i64 X.term, .int .i64 X.gen, .int .i64 X.job, .int .i64 X.inc, .int .i64 X.ver, .int .i64 X.epoch, .int .i64 X.til, .int .i64 X.mode, .int .i64 X.work] 49) := ⟨_, rfl⟩
  have HY6 := Lib.hid (show MsAt W6 w4.heap.size X by rw [hW6]; exact ⟨Blk.new _ _ _⟩)
  have hx6 : Ext w4 W6 := by rw [hW6]; exact Ext.alloc_ _ _
  have HX6 := Lib.hid (HX.out.trans hx6)
  have HM6 := Lib.hid (HM.out.ext hx6)
  have HA6 := Lib.hid (HA3.out.ext hx6)
  clear hx6 HX HM HA3
  go_upto_region 7 with (fail)
  rw [← hW6]
  clear hW6
  obtain ⟨r, hr⟩ : ∃ r, r = rightM m := ⟨_, rfl⟩
  have HC1 := Lib.hid (fun W => Right12_any m W)
  have HC2 := Lib.hid (fun W => RefRight12_any m W)
  have HC3 := Lib.hid (fun W => Put12_any m W)
  have HC4 := Lib.hid (fun W => RefPut12_any m W)
  rw [← hr] at HC1 HC2
  unfold msV at HC1 HC2 HC3 HC4
  clear hr
  have hrr : (r == r) = true := by simp
  have hoo : (okb == okb) = true := by simp
  have HXD : Hid (Ext W6 W6.drew) := Lib.hid (Below.drewN' (Ext.refl W6) 1)
  refine held_begin (by kernel_rfl) ?_
  refine held_more (S' := fun W' : World => Ext W6 W') (fun _ _ => True.intro) ?_
  have hSx : (fun W' : World => Ext W6 W') W6.drew := HXD.out
  refine held_take (i := 0) (v := ?_) rfl (by kernel_rfl) (by kernel_rfl) (by kernel_rfl) (by rfl) (by first | assumption | exact True.intro) ?_ ?_
  rotate_left
  · (intro W hSw; obtain ⟨m0, m1, m2, m3, m4, m5, m6, m7, m8, m9, m10⟩ := (HM6.out.ext hSw).cells; go_simp; (try with_reducible rfl))
  try simp only [Act.put, List.setIfInBounds_toArray, List.set_cons_zero, List.set_cons_succ]
  refine held_take (i := 2) (v := ?_) rfl (by kernel_rfl) (by kernel_rfl) (by kernel_rfl) (by rfl) (by first | assumption | exact True.intro) ?_ ?_
  rotate_left
  · (intro W hSw; obtain ⟨m0, m1, m2, m3, m4, m5, m6, m7, m8, m9, m10⟩ := (HM6.out.ext hSw).cells; go_simp; (try with_reducible rfl))
  try simp only [Act.put, List.setIfInBounds_toArray, List.set_cons_zero, List.set_cons_succ]
  clear hSx
  refine held_op (i := 1) (by kernel_rfl) rfl (fun K hK => ?_)
  go_simp
  go_at_call 31
  refine (HC1.out _).mono ?_
  rintro e7 w7 ⟨rfl, hx7⟩
  have HX7 := Lib.hid (HXD.out.trans hx7)
  clear hx7
  refine hK _ _ HX7.out (fun _ => ?_)
  clear hK K
  try simp only [Act.put, List.setIfInBounds_toArray, List.set_cons_zero, List.set_cons_succ]
  refine held_op (i := 3) (by kernel_rfl) rfl (fun K hK => ?_)
  go_simp
  go_at_call 32
  refine (HC2.out _).mono ?_
  rintro e8 w8 ⟨rfl, hx8⟩
  have HX8 := Lib.hid (HX7.out.trans hx8)
  clear hx8
  refine hK _ _ HX8.out (fun _ => ?_)
  clear hK K
  try simp only [Act.put, List.setIfInBounds_toArray, List.set_cons_zero, List.set_cons_succ]
  have hSx : (fun W' : World => Ext W6 W') w8 := HX8.out
  refine held_take (i := 4) (v := ?_) rfl (by kernel_rfl) (by kernel_rfl) (by kernel_rfl) (by rfl) (by first | assumption | exact True.intro) ?_ ?_
  rotate_left
  · (intro W hSw; go_simp; (try with_reducible rfl))
  try simp only [Act.put, List.setIfInBounds_toArray, List.set_cons_zero, List.set_cons_succ]
  refine held_take (i := 5) (v := ?_) rfl (by kernel_rfl) (by kernel_rfl) (by kernel_rfl) (by rfl) (by first | assumption | exact True.intro) ?_ ?_
  rotate_left
  · (intro W hSw; go_simp; (try with_reducible rfl))
  try simp only [Act.put, List.setIfInBounds_toArray, List.set_cons_zero, List.set_cons_succ]
  refine held_take (i := 6) (v := ?_) rfl (by kernel_rfl) (by kernel_rfl) (by kernel_rfl) (by rfl) (by first | assumption | exact True.intro) ?_ ?_
  rotate_left
  · (intro W hSw; obtain ⟨m0, m1, m2, m3, m4, m5, m6, m7, m8, m9, m10⟩ := (HM6.out.ext hSw).cells; go_simp; (try with_reducible rfl))
  try simp only [Act.put, List.setIfInBounds_toArray, List.set_cons_zero, List.set_cons_succ]
  refine held_take (i := 8) (v := ?_) rfl (by kernel_rfl) (by kernel_rfl) (by kernel_rfl) (by rfl) (by first | assumption | exact True.intro) ?_ ?_
  rotate_left
  · (intro W hSw; obtain ⟨m0, m1, m2, m3, m4, m5, m6, m7, m8, m9, m10⟩ := (HM6.out.ext hSw).cells; go_simp; (try with_reducible rfl))
  try simp only [Act.put, List.setIfInBounds_toArray, List.set_cons_zero, List.set_cons_succ]
  clear hSx
  refine held_op (i := 7) (by kernel_rfl) rfl (fun K hK => ?_)
  go_simp
  go_at_call 33
  refine (HC3.out _).mono ?_
  rintro e9 w9 ⟨v9, rfl, hr9, hx9⟩
  have HX9 := Lib.hid (HX8.out.trans hx9)
  have HR9 := Lib.hid hr9.rd
  clear hr9 hx9
  refine hK _ _ HX9.out (fun _ => ?_)
  clear hK K
  try simp only [Act.put, List.setIfInBounds_toArray, List.set_cons_zero, List.set_cons_succ]
  refine held_op (i := 9) (by kernel_rfl) rfl (fun K hK => ?_)
  go_simp
  go_at_call 34
  refine (HC4.out _).mono ?_
  rintro e10 w10 ⟨v10, rfl, hr10, hx10⟩
  have HX10 := Lib.hid (HX9.out.trans hx10)
  have HB := Lib.hid (Bytes_any (putM m) (putM m) _ _ w10 (HR9.out.ext hx10) hr10)
  rw [decide_eq_true rfl] at HB
  clear hr10 hx10
  refine hK _ _ HX10.out (fun _ => ?_)
  clear hK K
  try simp only [Act.put, List.setIfInBounds_toArray, List.set_cons_zero, List.set_cons_succ]
  refine held_op (i := 10) (by kernel_rfl) rfl (fun K hK => ?_)
  go_simp
  go_at_call 25
  refine (HB.out).mono ?_
  rintro e11 w11 ⟨rfl, n11, hw11⟩
  have HX11 : Hid (Ext W6 w11) := Lib.hid (by rw [hw11]; exact Below.drewN' HX10.out n11)
  clear hw11 HB
  refine hK _ _ HX11.out (fun _ => ?_)
  clear hK K
  try simp only [Act.put, List.setIfInBounds_toArray, List.set_cons_zero, List.set_cons_succ]
  have hSx : (fun W' : World => Ext W6 W') w11 := HX11.out
  refine held_take (i := 11) (v := ?_) rfl (by kernel_rfl) (by kernel_rfl) (by kernel_rfl) (by rfl) (by first | assumption | exact True.intro) ?_ ?_
  rotate_left
  · (intro W hSw; go_simp; (try with_reducible rfl))
  try simp only [Act.put, List.setIfInBounds_toArray, List.set_cons_zero, List.set_cons_succ]
  refine held_take (i := 12) (v := ?_) rfl (by kernel_rfl) (by kernel_rfl) (by kernel_rfl) (by rfl) (by first | assumption | exact True.intro) ?_ ?_
  rotate_left
  · (intro W hSw; go_simp; (try with_reducible rfl))
  try simp only [Act.put, List.setIfInBounds_toArray, List.set_cons_zero, List.set_cons_succ]
  refine held_take (i := 13) (v := ?_) rfl (by kernel_rfl) (by kernel_rfl) (by kernel_rfl) (by rfl) (by first | assumption | exact True.intro) ?_ ?_
  rotate_left
  · (intro W hSw; obtain ⟨u0, u1, u2, u3, u4, u5, u6, u7, u8, u9, u10⟩ := (HA6.out.ext hSw).cells; go_simp; (try with_reducible rfl))
  try simp only [Act.put, List.setIfInBounds_toArray, List.set_cons_zero, List.set_cons_succ]
  refine held_take (i := 14) (v := ?_) rfl (by kernel_rfl) (by kernel_rfl) (by kernel_rfl) (by rfl) (by first | assumption | exact True.intro) ?_ ?_
  rotate_left
  · (intro W hSw; obtain ⟨t0, t1, t2, t3, t4, t5, t6, t7, t8, t9, t10⟩ := (HY6.out.ext hSw).cells; go_simp; (try with_reducible rfl))
  try simp only [Act.put, List.setIfInBounds_toArray, List.set_cons_zero, List.set_cons_succ]
  refine held_take (i := 15) (v := ?_) rfl (by kernel_rfl) (by kernel_rfl) (by kernel_rfl) (by rfl) (by first | assumption | exact True.intro) ?_ ?_
  rotate_left
  · (intro W hSw; go_simp; (try with_reducible rfl))
  try simp only [Act.put, List.setIfInBounds_toArray, List.set_cons_zero, List.set_cons_succ]
  refine held_take (i := 16) (v := ?_) rfl (by kernel_rfl) (by kernel_rfl) (by kernel_rfl) (by rfl) (by first | assumption | exact True.intro) ?_ ?_
  rotate_left
  · (intro W hSw; go_simp; (try with_reducible rfl))
  try simp only [Act.put, List.setIfInBounds_toArray, List.set_cons_zero, List.set_cons_succ]
  refine held_take (i := 17) (v := ?_) rfl (by kernel_rfl) (by kernel_rfl) (by kernel_rfl) (by rfl) (by first | assumption | exact True.intro) ?_ ?_
  rotate_left
  · (intro W hSw; go_simp; (try with_reducible rfl))
  try simp only [Act.put, List.setIfInBounds_toArray, List.set_cons_zero, List.set_cons_succ]
  refine held_take (i := 18) (v := ?_) rfl (by kernel_rfl) (by kernel_rfl) (by kernel_rfl) (by rfl) (by first | assumption | exact True.intro) ?_ ?_
  rotate_left
  · (intro W hSw; go_simp; (try with_reducible rfl))
  try simp only [Act.put, List.setIfInBounds_toArray, List.set_cons_zero, List.set_cons_succ]
  refine held_take (i := 19) (v := ?_) rfl (by kernel_rfl) (by kernel_rfl) (by kernel_rfl) (by rfl) (by first | assumption | exact True.intro) ?_ ?_
  rotate_left
  · (intro W hSw; go_simp; (try with_reducible rfl))
  try simp only [Act.put, List.setIfInBounds_toArray, List.set_cons_zero, List.set_cons_succ]
  refine held_take (i := 20) (v := ?_) rfl (by kernel_rfl) (by kernel_rfl) (by kernel_rfl) (by rfl) (by first | assumption | exact True.intro) ?_ ?_
  rotate_left
  · (intro W hSw; go_simp; (try with_reducible rfl))
  try simp only [Act.put, List.setIfInBounds_toArray, List.set_cons_zero, List.set_cons_succ]
  refine held_take (i := 21) (v := ?_) rfl (by kernel_rfl) (by kernel_rfl) (by kernel_rfl) (by rfl) (by first | assumption | exact True.intro) ?_ ?_
  rotate_left
  · (intro W hSw; go_simp; (try with_reducible rfl))
  try simp only [Act.put, List.setIfInBounds_toArray, List.set_cons_zero, List.set_cons_succ]
  refine held_take (i := 22) (v := ?_) rfl (by kernel_rfl) (by kernel_rfl) (by kernel_rfl) (by rfl) (by first | assumption | exact True.intro) ?_ ?_
  rotate_left
  · (intro W hSw; go_simp; (try with_reducible rfl))
  try simp only [Act.put, List.setIfInBounds_toArray, List.set_cons_zero, List.set_cons_succ]
  refine wpAnyH_done (by kernel_rfl) ?_ _
  refine NoPanic.normal ?_
  have HXF := Lib.hid (HX6.out.trans HX11.out)
  clear hSx
  go_wp2
  go_ret
  exact ⟨rfl, HXF.out⟩

end Go.Proofs.Ytdijinboopdheaa

/- The reference's Same, of the same messages. -/
namespace Go.Proofs.Ytdijinboopdheaa
open Go.RowKit

set_option maxRecDepth 100000 in
set_option maxHeartbeats 4000000 in
theorem RefSame12_same (l : List Ms) (u v : Value) (w : World) (hu : RdI 11 w u (l.map msL)) (hv : RdI 11 w v (l.map msL)) (hl : l.length ≤ 1000000) :
    Calls Try.prog 48 #[u, v] w fun e w' => e = .returned (.bool true) ∧ Ext w w' := by
  obtain ⟨A, c, rfl, -, -⟩ := hu.slice_
  obtain ⟨B', d, rfl, -, -⟩ := hv.slice_
  rw [List.length_map] at hu hv ⊢
  have HU := Lib.hid hu
  have HV := Lib.hid hv
  clear hu hv
  obtain ⟨n, hn1⟩ : ∃ n, n = l.length := ⟨_, rfl⟩
  rw [← hn1] at HU HV ⊢
  have HN := Lib.hid hn1
  have HL := Lib.hid (show n ≤ 1000000 by omega)
  clear hn1 hl
  go_enter Try.func48, Try.ntmps48
  go_wp2_with fail
  go_loopg [5] n (fun gg i wr => ∃ q : Nat, i = .int .i64 q ∧ q ≤ n ∧ gg = n - q ∧ Hid (∃ z, wr = w.drewN z))
  case atStart => exact ⟨0, rfl, Nat.zero_le _, rfl, Lib.hid ⟨0, rfl⟩⟩
  case round =>
    obtain ⟨q, rfl, hq, rfl, HK⟩ := hrel
    obtain ⟨z, rfl⟩ := HK.out
    clear HK
    by_cases hlt : q < n
    · have e1 : decide ((q : Int) < (n : Int)) = true := decide_eq_true (by omega)
      have e1' : decide (q < n) = true := decide_eq_true hlt
      have HLT := Lib.hid hlt
      obtain ⟨x, hx⟩ : ∃ x, l[q]? = some x := ⟨_, List.getElem?_eq_getElem (by rw [← HN.out]; exact hlt)⟩
      obtain ⟨b1, o1, rfl, -, hc1⟩ := HU.out.get (by rw [List.length_map]; have := HN.out; omega)
      obtain ⟨b2, o2, rfl, -, hc2⟩ := HV.out.get (by rw [List.length_map]; have := HN.out; omega)
      have u0 := hc1 q _ 0 x.node (by rw [List.getElem?_map, hx]; rfl) rfl
      have u1 := hc1 q _ 1 x.kind (by rw [List.getElem?_map, hx]; rfl) rfl
      have u2 := hc1 q _ 2 x.term (by rw [List.getElem?_map, hx]; rfl) rfl
      have u3 := hc1 q _ 3 x.gen (by rw [List.getElem?_map, hx]; rfl) rfl
      have u4 := hc1 q _ 4 x.job (by rw [List.getElem?_map, hx]; rfl) rfl
      have u5 := hc1 q _ 5 x.inc (by rw [List.getElem?_map, hx]; rfl) rfl
      have u6 := hc1 q _ 6 x.ver (by rw [List.getElem?_map, hx]; rfl) rfl
      have u7 := hc1 q _ 7 x.epoch (by rw [List.getElem?_map, hx]; rfl) rfl
      have u8 := hc1 q _ 8 x.til (by rw [List.getElem?_map, hx]; rfl) rfl
      have u9 := hc1 q _ 9 x.mode (by rw [List.getElem?_map, hx]; rfl) rfl
      have u10 := hc1 q _ 10 x.work (by rw [List.getElem?_map, hx]; rfl) rfl
      have t0 := hc2 q _ 0 x.node (by rw [List.getElem?_map, hx]; rfl) rfl
      have t1 := hc2 q _ 1 x.kind (by rw [List.getElem?_map, hx]; rfl) rfl
      have t2 := hc2 q _ 2 x.term (by rw [List.getElem?_map, hx]; rfl) rfl
      have t3 := hc2 q _ 3 x.gen (by rw [List.getElem?_map, hx]; rfl) rfl
      have t4 := hc2 q _ 4 x.job (by rw [List.getElem?_map, hx]; rfl) rfl
      have t5 := hc2 q _ 5 x.inc (by rw [List.getElem?_map, hx]; rfl) rfl
      have t6 := hc2 q _ 6 x.ver (by rw [List.getElem?_map, hx]; rfl) rfl
      have t7 := hc2 q _ 7 x.epoch (by rw [List.getElem?_map, hx]; rfl) rfl
      have t8 := hc2 q _ 8 x.til (by rw [List.getElem?_map, hx]; rfl) rfl
      have t9 := hc2 q _ 9 x.mode (by rw [List.getElem?_map, hx]; rfl) rfl
      have t10 := hc2 q _ 10 x.work (by rw [List.getElem?_map, hx]; rfl) rfl
      rw [Nat.add_zero] at u0 t0
      have x1 : (0 : Int) ≤ (q : Int) ∧ (q : Int) < (n : Int) := by omega
      have hwq : wrap64 ((q : Int) + 1) = (q : Int) + 1 := IntWalk.wrap64_in _ (by have := HLT.out; have := HL.out; omega)
      clear hc1 hc2 hx hlt
      go_wp2_with fail
      go_quiet (fail)
      go_wp2_with fail
      go_roundg (n - (q + 1))
      case measure => have := HLT.out; omega
      case rel => exact ⟨q + 1, by go_num, HLT.out, rfl, Lib.hid ⟨_, rfl⟩⟩
    · obtain rfl : q = n := by omega
      have e1 : decide ((q : Int) < (q : Int)) = false := decide_eq_false (by omega)
      have e1' : decide (q < q) = false := decide_eq_false (by omega)
      have HX := Lib.hid (show Ext w (w.drewN z) from Below.drewN' (Ext.refl w) z)
      clear hlt hq
      go_wp2
      go_ret
      exact ⟨rfl, HX.out⟩

end Go.Proofs.Ytdijinboopdheaa

/- Layer 12's statement NetActs, walked. -/
namespace Go.Proofs.Ytdijinboopdheaa
open Go.RowKit

def exK12 : Ms := ⟨0, 1, 0, 0, 0, 0, 0, 0, 0, 0, 0⟩
/-- The net and the reference's, alike. -/
structure Act2 (W1 : World) (g h k : Nat) (S : NtP) (F G : Fp) (w : World) : Prop where
  nx : NX G W1 w g S k
  rn : RnAt F w h S
  sub : ∀ q, F q → G q
def ActR (W1 : World) (g h k : Nat) (w : World) : Prop := ∃ (S : NtP) (F G : Fp), Act2 W1 g h k S F G w
section
variable {W1 w w' w2 w3 : World} {g h k k' : Nat} {S S' : NtP} {F G : Fp}
theorem Act2.r (a : Act2 W1 g h k S F G w) : ActR W1 g h k w := ⟨S, F, G, a⟩
theorem Act2.more (a : Act2 W1 g h k S F G w) (hx : Ext w w') : Act2 W1 g h k S F G w' := ⟨a.nx.more hx, a.rn.ext hx, a.sub⟩
theorem Act2.le (a : Act2 W1 g h k S F G w) (hk : k ≤ k') : Act2 W1 g h k' S F G w := ⟨a.nx.le hk, a.rn, a.sub⟩
/-- Another block is made, and kept beside them. -/
theorem Act2.since (a : Act2 W1 g h k S F G w) (hx : Ext w w') : Act2 W1 g h k S F (G.since w w') w' := ⟨a.nx.since hx, a.rn.ext hx, fun q hq => .inl (a.sub q hq)⟩
/-- Behind a call of the net, and one of the reference's. -/
theorem Act2.both (hn : NX G W1 w2 g S' k') (hc : Chg (fun q => ¬ G q) w w2) (hr : RnAt (F.since w2 w3) w3 h S') (hc3 : Chg F w2 w3) (hs : ∀ q, F q → G q) : Act2 W1 g h k' S' (F.since w2 w3) (G.since w2 w3) w3 :=
  ⟨hn.other (hc3.mono (fun q _ hq => hs q hq)), hr, fun q hq => by rcases hq with hq | hq; exact .inl (hs q hq); exact .inr hq⟩
theorem Act2.mid (hs : ∀ q, F q → G q) (hr : RnAt F w h S) (hc : Chg (fun q => ¬ G q) w w2) : RnAt F w2 h S := hr.chg hc (fun q hq hn => hn (hs q hq))
end

set_option maxRecDepth 100000 in
set_option maxHeartbeats 8000000 in
theorem NetActs_calls (l : List A12) (v : Value) (w : World) (h : RdI 14 w v (l.map a12L)) : Calls Try.prog 5 #[v] w fun e w' => e = .returned (.bool true) ∧ Ext w w' := by
  obtain ⟨A, c, rfl, hlc, hcm⟩ := h.slice_
  rw [List.length_map] at hlc h ⊢
  have HR := Lib.hid h
  clear h hlc hcm
  go_enter Try.func5, Try.ntmps5
  go_wp2_with fail
  refine (alive12_any w).mono ?_
  rintro e0 w0 ⟨rfl, hx0⟩
  have HX0 := Lib.hid hx0
  clear hx0
  by_cases h40 : l.length ≤ 100
  rotate_left
  · have d40 : decide ((100 : Int) < (l.length : Int)) = true := decide_eq_true (by omega)
    have d40' : decide (100 < l.length) = true := decide_eq_true (by omega)
    clear h40
    go_wp2
    go_ret
    exact ⟨rfl, HX0.out⟩
  have d40 : decide ((100 : Int) < (l.length : Int)) = false := decide_eq_false (by omega)
  have d40' : decide (100 < l.length) = false := decide_eq_false (by omega)
  have H40 := Lib.hid h40
  clear h40
  have HC := Lib.hid (NDeliver_nil 0 w0)
  rw [show getA none = .tuple #[.agg #[.int .i64 0, .int .i64 0, .int .i64 0, .int .i64 0, .int .i64 0, .int .i64 0, .int .i64 0, .int .i64 0, .int .i64 0, .int .i64 0, .int .i64 0], .bool false] from rfl] at HC
  go_wp2_with fail
  refine HC.out.mono ?_
  rintro e1 w1 ⟨rfl, hx⟩
  replace HX0 := Lib.hid (HX0.out.trans hx)
  clear hx HC d40 d40'
  obtain ⟨W2, hW2⟩ : ∃ W, W = w1.alloc (.cells #[.int .i64 0, .int .i64 0, .int .i64 0, .int .i64 0, .int .i64 0, .int .i64 0, .int .i64 0, .int .i64 0, .int .i64 0, .int .i64 0, .int .i64 0] 49) := ⟨_, rfl⟩
  replace HX0 := Lib.hid (HX0.out.trans (show Ext w1 W2 by rw [hW2]; exact Ext.alloc_ _ _))
  go_upto_region 7 with (fail)
  rw [← hW2]
  clear hW2
  have HC := Lib.hid (NSend_nil exK12 W2)
  rw [show msV exK12 = .agg #[.int .i64 0, .int .i64 1, .int .i64 0, .int .i64 0, .int .i64 0, .int .i64 0, .int .i64 0, .int .i64 0, .int .i64 0, .int .i64 0, .int .i64 0] from rfl] at HC
  go_wp2_with fail
  refine HC.out.mono ?_
  rintro e3 w3 ⟨rfl, hx⟩
  replace HX0 := Lib.hid (HX0.out.trans hx)
  clear hx
  clear HC
  go_wp2_with fail
  refine (NDrop_nil 0 w3).mono ?_
  rintro e4 w4 ⟨rfl, hx⟩
  replace HX0 := Lib.hid (HX0.out.trans hx)
  clear hx
  go_wp2_with fail
  refine (NTwice_nil 0 w4).mono ?_
  rintro e5 w5 ⟨rfl, hx⟩
  replace HX0 := Lib.hid (HX0.out.trans hx)
  clear hx
  go_wp2_with fail
  refine (NFlip_nil 0 0 w5).mono ?_
  rintro e6 w6 ⟨rfl, hx⟩
  replace HX0 := Lib.hid (HX0.out.trans hx)
  clear hx
  go_wp2_with fail
  refine (NLen_nil w6).mono ?_
  rintro e7 w7 ⟨rfl, hx⟩
  replace HX0 := Lib.hid (HX0.out.trans hx)
  clear hx
  go_wp2_with fail
  refine (NSent_nil w7).mono ?_
  rintro e8 w8 ⟨rfl, hx⟩
  replace HX0 := Lib.hid (HX0.out.trans hx)
  clear hx
  go_wp2_with fail
  refine (NList_nil w8).mono ?_
  rintro e9 w9 ⟨rfl, hx⟩
  replace HX0 := Lib.hid (HX0.out.trans hx)
  clear hx
  obtain ⟨W1, hW1⟩ : ∃ W, W = w9.alloc (.cells #[.slice none 0 0, .int .i64 0] 69) := ⟨_, rfl⟩
  have HN1 := Lib.hid (NX.new (show Blk W1 w9.heap.size 69 #[.slice none 0 0, .int .i64 0] by rw [hW1]; exact Blk.new _ _ _))
  have HX1 := Lib.hid (HX0.out.trans (show Ext w9 W1 by rw [hW1]; exact Ext.alloc_ _ _))
  go_upto_region 10 with (fail)
  rw [← hW1]
  clear hW1
  obtain ⟨g, hg⟩ : ∃ q, q = w9.heap.size := ⟨_, rfl⟩
  rw [← hg]
  rw [← hg] at HN1
  have HGL : Hid (w.heap.size ≤ g) := Lib.hid (by rw [hg]; exact HX0.out.size)
  clear hg HX0
  obtain ⟨W3, hW3⟩ : ∃ W, W = W1.alloc (.cells #[.slice none 0 0, .slice none 0 0, .int .i64 0] 72) := ⟨_, rfl⟩
  have HXR := Lib.hid (show Ext W1 W3 by rw [hW3]; exact Ext.alloc_ _ _)
  have HBR : Hid (Blk W3 W1.heap.size 72 #[.slice none 0 0, .slice none 0 0, .int .i64 0]) := Lib.hid (by rw [hW3]; exact Blk.new _ _ _)
  go_upto_region 11 with (fail)
  rw [← hW3]
  clear hW3
  obtain ⟨h, hh⟩ : ∃ q, q = W1.heap.size := ⟨_, rfl⟩
  rw [← hh]
  rw [← hh] at HBR
  have HK0 : Hid (ActR W1 g h 0 W3) := Lib.hid ⟨newN12, (Fp.since (fun _ => False) W1 W3), (Fp.since (fun _ => False) W1 W3), HN1.out.since HXR.out, ⟨⟨_, _, ⟨HBR.out, LsF.nil _ _, BsF.nil _ _, fun _ h => (by cases h)⟩⟩, fun q hq => by rcases hq with hq | hq; exact hq.elim; exact hq.2, .inr ⟨by omega, HBR.out.lt⟩⟩, fun _ h => h⟩
  clear hh HN1 HXR HBR
  go_wp2_with fail
  go_loopg [8] l.length (fun gg i wr => ∃ q : Nat, i = .int .i64 q ∧ q ≤ l.length ∧ gg = l.length - q ∧ Hid (ActR W1 g h q wr))
  case atStart => exact ⟨0, rfl, Nat.zero_le _, rfl, HK0⟩
  case round =>
    obtain ⟨q, rfl, hq, rfl, HK⟩ := hrel
    clear HK0
    obtain ⟨S, F, G0, ha0⟩ := HK.out
    have HA0 := Lib.hid ha0
    clear HK ha0
    by_cases hlt : q < l.length
    · have e1 : decide ((q : Int) < (l.length : Int)) = true := decide_eq_true (by omega)
      have e1' : decide (q < l.length) = true := decide_eq_true hlt
      have HLT := Lib.hid hlt
      obtain ⟨a, hm⟩ : ∃ m, l[q]? = some m := ⟨_, List.getElem?_eq_getElem hlt⟩
      have HGET : Hid (∃ b o, A = some ⟨b, o, none⟩ ∧ ∀ W, Ext w W → ∀ i z, (a12L a)[i]? = some z → W.cell? ⟨b, o + q * 14 + i, none⟩ = some (.int .i64 z)) := Lib.hid (by obtain ⟨b, o, rfl, hb, hcl⟩ := HR.out.get (by rw [List.length_map]; have := HLT.out; omega); exact ⟨b, o, rfl, fun W hx i z hz => (hx.cell (p := ⟨b, o + q * 14 + i, none⟩) hb).trans (hcl q (a12L a) i z (by rw [List.getElem?_map, hm]; rfl) hz)⟩)
      obtain ⟨b, o, rfl, hcl⟩ := HGET.out
      have hcw := hcl wr (HA0.out.nx.ext_ HX1.out HGL.out)
      clear hcl hm hlt HGET
      have k0 := hcw 0 (a.kind) rfl
      have k1 := hcw 1 (a.i) rfl
      have k2 := hcw 2 (a.bit) rfl
      have k3 := hcw 3 (a.m.node) rfl
      have k4 := hcw 4 (a.m.kind) rfl
      have k5 := hcw 5 (a.m.term) rfl
      have k6 := hcw 6 (a.m.gen) rfl
      have k7 := hcw 7 (a.m.job) rfl
      have k8 := hcw 8 (a.m.inc) rfl
      have k9 := hcw 9 (a.m.ver) rfl
      have k10 := hcw 10 (a.m.epoch) rfl
      have k11 := hcw 11 (a.m.til) rfl
      have k12 := hcw 12 (a.m.mode) rfl
      have k13 := hcw 13 (a.m.work) rfl
      rw [Nat.add_zero] at k0
      clear hcw
      have x1 : (0 : Int) ≤ (q : Int) ∧ (q : Int) < (l.length : Int) := by have := HLT.out; omega
      obtain ⟨gb, hgb⟩ : ∃ q, q = wr.heap.size := ⟨_, rfl⟩
      obtain ⟨wb, hwb⟩ : ∃ W, W = wr.alloc (.cells #[.int .i64 a.kind, .int .i64 a.i, .int .i64 a.bit, .int .i64 a.m.node, .int .i64 a.m.kind, .int .i64 a.m.term, .int .i64 a.m.gen, .int .i64 a.m.job, .int .i64 a.m.inc, .int .i64 a.m.ver, .int .i64 a.m.epoch, .int .i64 a.m.til, .int .i64 a.m.mode, .int .i64 a.m.work] 74) := ⟨_, rfl⟩
      have HB : Hid (Blk wb gb 74 #[.int .i64 a.kind, .int .i64 a.i, .int .i64 a.bit, .int .i64 a.m.node, .int .i64 a.m.kind, .int .i64 a.m.term, .int .i64 a.m.gen, .int .i64 a.m.job, .int .i64 a.m.inc, .int .i64 a.m.ver, .int .i64 a.m.epoch, .int .i64 a.m.til, .int .i64 a.m.mode, .int .i64 a.m.work]) := Lib.hid (by rw [hgb, hwb]; exact Blk.new _ _ _)
      have HXB := Lib.hid (show Ext wr wb by rw [hwb]; exact Ext.alloc_ _ _)
      have HA := Lib.hid (HA0.out.since HXB.out)
      have HGB : Hid ((G0.since wr wb) gb) := Lib.hid (.inr ⟨by omega, HB.out.lt⟩)
      have HNF : Hid (¬ F gb) := Lib.hid (fun hf => by have := HA0.out.rn.isIn gb hf; omega)
      generalize G0.since wr wb = G at HA HGB
      go_upto_region 15 with (fail)
      rw [← hwb, ← hgb]
      clear hwb hgb HA0 HXB
      clear k0 k1 k2 k3 k4 k5 k6 k7 k8 k9 k10 k11 k12 k13
      have k0 := HB.out.cell 0
      go_upto_block 2 with (fail)
      clear k0
      go_cut [10] (fun s wx => s = .bool true ∧ Hid (ActR W1 g h (q + 1) wx))
      case first =>
        by_cases h0 : a.kind = 0
        · have g0 : (a.kind == 0) = true := by rw [h0]; rfl
          clear h0
          have k0 := HB.out.cell 0
          have HXD : Hid (Ext wb wb.drew) := Lib.hid (Below.drewN' (Ext.refl wb) 1)
          have HAD := Lib.hid (HA.out.more HXD.out)
          have HBD := Lib.hid (HB.out.ext HXD.out)
          obtain ⟨bb, hbb⟩ : ∃ b, b = (sendN S a.m).1 := ⟨_, rfl⟩
          have HC := Lib.hid (HAD.out.nx.send (by have := HLT.out; have := H40.out; omega) a.m)
          rw [← hbb] at HC
          have HC2 := Lib.hid (fun (W : World) (hr : RnAt F W h S) => RnSend_any F h S a.m W hr (by have := HAD.out.nx.sent; have := HLT.out; have := H40.out; omega))
          rw [← hbb] at HC2
          unfold msV at HC HC2
          clear hbb
          have hqq : (bb == bb) = true := by simp
          go_upto_region 18 with (fail)
          clear k0
          refine held_begin (by kernel_rfl) ?_
          refine held_more (S' := fun W' : World => Blk W' gb 74 #[.int .i64 a.kind, .int .i64 a.i, .int .i64 a.bit, .int .i64 a.m.node, .int .i64 a.m.kind, .int .i64 a.m.term, .int .i64 a.m.gen, .int .i64 a.m.job, .int .i64 a.m.inc, .int .i64 a.m.ver, .int .i64 a.m.epoch, .int .i64 a.m.til, .int .i64 a.m.mode, .int .i64 a.m.work]) (fun _ _ => True.intro) ?_
          have hSx : (fun W' : World => Blk W' gb 74 #[.int .i64 a.kind, .int .i64 a.i, .int .i64 a.bit, .int .i64 a.m.node, .int .i64 a.m.kind, .int .i64 a.m.term, .int .i64 a.m.gen, .int .i64 a.m.job, .int .i64 a.m.inc, .int .i64 a.m.ver, .int .i64 a.m.epoch, .int .i64 a.m.til, .int .i64 a.m.mode, .int .i64 a.m.work]) wb.drew := HBD.out
          refine held_take (i := 0) (v := ?_) rfl (by kernel_rfl) (by kernel_rfl) (by kernel_rfl) (by rfl) (by first | assumption | exact True.intro) ?_ ?_
          rotate_left
          · (intro W hSw; have k3 := hSw.cell 3; have k4 := hSw.cell 4; have k5 := hSw.cell 5; have k6 := hSw.cell 6; have k7 := hSw.cell 7; have k8 := hSw.cell 8; have k9 := hSw.cell 9; have k10 := hSw.cell 10; have k11 := hSw.cell 11; have k12 := hSw.cell 12; have k13 := hSw.cell 13; go_simp; (try with_reducible rfl))
          try simp only [Act.put, List.setIfInBounds_toArray, List.set_cons_zero, List.set_cons_succ]
          refine held_take (i := 1) (v := ?_) rfl (by kernel_rfl) (by kernel_rfl) (by kernel_rfl) (by rfl) (by first | assumption | exact True.intro) ?_ ?_
          rotate_left
          · (intro W hSw; have k3 := hSw.cell 3; have k4 := hSw.cell 4; have k5 := hSw.cell 5; have k6 := hSw.cell 6; have k7 := hSw.cell 7; have k8 := hSw.cell 8; have k9 := hSw.cell 9; have k10 := hSw.cell 10; have k11 := hSw.cell 11; have k12 := hSw.cell 12; have k13 := hSw.cell 13; go_simp; (try with_reducible rfl))
          try simp only [Act.put, List.setIfInBounds_toArray, List.set_cons_zero, List.set_cons_succ]
          refine held_take (i := 3) (v := ?_) rfl (by kernel_rfl) (by kernel_rfl) (by kernel_rfl) (by rfl) (by first | assumption | exact True.intro) ?_ ?_
          rotate_left
          · (intro W hSw; have k3 := hSw.cell 3; have k4 := hSw.cell 4; have k5 := hSw.cell 5; have k6 := hSw.cell 6; have k7 := hSw.cell 7; have k8 := hSw.cell 8; have k9 := hSw.cell 9; have k10 := hSw.cell 10; have k11 := hSw.cell 11; have k12 := hSw.cell 12; have k13 := hSw.cell 13; go_simp; (try with_reducible rfl))
          try simp only [Act.put, List.setIfInBounds_toArray, List.set_cons_zero, List.set_cons_succ]
          refine held_take (i := 4) (v := ?_) rfl (by kernel_rfl) (by kernel_rfl) (by kernel_rfl) (by rfl) (by first | assumption | exact True.intro) ?_ ?_
          rotate_left
          · (intro W hSw; have k3 := hSw.cell 3; have k4 := hSw.cell 4; have k5 := hSw.cell 5; have k6 := hSw.cell 6; have k7 := hSw.cell 7; have k8 := hSw.cell 8; have k9 := hSw.cell 9; have k10 := hSw.cell 10; have k11 := hSw.cell 11; have k12 := hSw.cell 12; have k13 := hSw.cell 13; go_simp; (try with_reducible rfl))
          try simp only [Act.put, List.setIfInBounds_toArray, List.set_cons_zero, List.set_cons_succ]
          clear hSx
          refine held_op (i := 2) (by kernel_rfl) rfl (fun K hK => ?_)
          go_simp
          go_at_call 36
          refine (HC.out).mono ?_
          rintro e3 w3 ⟨rfl, hn3, hc3⟩
          have HN3 := Lib.hid hn3
          have HC3 := Lib.hid hc3
          have HR3 := Lib.hid (Act2.mid HAD.out.sub HAD.out.rn hc3)
          have HB3 : Hid (Blk w3 gb 74 #[.int .i64 a.kind, .int .i64 a.i, .int .i64 a.bit, .int .i64 a.m.node, .int .i64 a.m.kind, .int .i64 a.m.term, .int .i64 a.m.gen, .int .i64 a.m.job, .int .i64 a.m.inc, .int .i64 a.m.ver, .int .i64 a.m.epoch, .int .i64 a.m.til, .int .i64 a.m.mode, .int .i64 a.m.work]) := Lib.hid ((hc3.block gb HBD.out.lt (fun hn => hn HGB.out)).trans HBD.out)
          clear hn3 hc3 HC
          refine hK _ _ (HB3.out) (fun hSx => ?_)
          clear hK K
          try simp only [Act.put, List.setIfInBounds_toArray, List.set_cons_zero, List.set_cons_succ]
          clear hSx
          refine held_op (i := 5) (by kernel_rfl) rfl (fun K hK => ?_)
          go_simp
          go_at_call 43
          refine (HC2.out _ HR3.out).mono ?_
          rintro e4 w4 ⟨rfl, hn4, hc4⟩
          have HT : Hid (ActR W1 g h (q + 1) w4) := Lib.hid ((Act2.both HN3.out HC3.out hn4 hc4 HAD.out.sub).le (by omega)).r
          have HB4 : Hid (Blk w4 gb 74 #[.int .i64 a.kind, .int .i64 a.i, .int .i64 a.bit, .int .i64 a.m.node, .int .i64 a.m.kind, .int .i64 a.m.term, .int .i64 a.m.gen, .int .i64 a.m.job, .int .i64 a.m.inc, .int .i64 a.m.ver, .int .i64 a.m.epoch, .int .i64 a.m.til, .int .i64 a.m.mode, .int .i64 a.m.work]) := Lib.hid ((hc4.block gb HB3.out.lt HNF.out).trans HB3.out)
          clear hn4 hc4 HC2
          refine hK _ _ (HB4.out) (fun hSx => ?_)
          clear hK K
          try simp only [Act.put, List.setIfInBounds_toArray, List.set_cons_zero, List.set_cons_succ]
          refine held_take (i := 6) (v := ?_) rfl (by kernel_rfl) (by kernel_rfl) (by kernel_rfl) (by rfl) (by first | assumption | exact True.intro) ?_ ?_
          rotate_left
          · (intro W hSw; go_simp; (try with_reducible rfl))
          try simp only [Act.put, List.setIfInBounds_toArray, List.set_cons_zero, List.set_cons_succ]
          refine held_take (i := 7) (v := ?_) rfl (by kernel_rfl) (by kernel_rfl) (by kernel_rfl) (by rfl) (by first | assumption | exact True.intro) ?_ ?_
          rotate_left
          · (intro W hSw; go_simp; (try with_reducible rfl))
          try simp only [Act.put, List.setIfInBounds_toArray, List.set_cons_zero, List.set_cons_succ]
          clear hSx
          refine wpAnyH_done (by kernel_rfl) ?_ _
          refine NoPanic.normal ?_
          go_wp2_with fail
          go_meet
          exact ⟨rfl, HT⟩
        by_cases h1 : a.kind = 1
        · have g0 : (a.kind == 0) = false := by simpa using h0
          have g1 : (a.kind == 1) = true := by rw [h1]; rfl
          clear h0 h1
          have k0 := HB.out.cell 0
          have k1 := HB.out.cell 1
          obtain ⟨X, okb, hX⟩ := getA_form (delivN S a.i)
          have HC := Lib.hid (HA.out.nx.deliver a.i)
          rw [hX] at HC
          unfold msV at HC
          go_wp2_with fail
          refine HC.out.mono ?_
          rintro e3 w3 ⟨rfl, hn3, hc3⟩
          have HN3 := Lib.hid hn3
          have HC3 := Lib.hid hc3
          have HR3 := Lib.hid (Act2.mid HA.out.sub HA.out.rn hc3)
          have HB3 : Hid (Blk w3 gb 74 #[.int .i64 a.kind, .int .i64 a.i, .int .i64 a.bit, .int .i64 a.m.node, .int .i64 a.m.kind, .int .i64 a.m.term, .int .i64 a.m.gen, .int .i64 a.m.job, .int .i64 a.m.inc, .int .i64 a.m.ver, .int .i64 a.m.epoch, .int .i64 a.m.til, .int .i64 a.m.mode, .int .i64 a.m.work]) := Lib.hid ((hc3.block gb HB.out.lt (fun hn => hn HGB.out)).trans HB.out)
          clear hn3 hc3 HC k0 k1
          obtain ⟨W4, hW4⟩ : ∃ W, W = w3.alloc (.cells #[.int .i64 X.node, .int .i64 X.kind, .int .i64 X.term, .int .i64 X.gen, .int .i64 X.job, .int .i64 X.inc, .int .i64 X.ver, .int .i64 X.epoch, .int .i64 X.til, .int .i64 X.mode, .int .i64 X.work] 49) := ⟨_, rfl⟩
          have HX4 := Lib.hid (show Ext w3 W4 by rw [hW4]; exact Ext.alloc_ _ _)
          have HU4 := Lib.hid (show MsAt W4 w3.heap.size X by rw [hW4]; exact ⟨Blk.new _ _ _⟩)
          have HNU : Hid (¬ F w3.heap.size) := Lib.hid (fun hf => Nat.lt_irrefl _ (HR3.out.isIn _ hf))
          have HR4 := Lib.hid (HR3.out.ext HX4.out)
          have HN4 := Lib.hid (HN3.out.more HX4.out)
          go_upto_region 21 with (fail)
          rw [← hW4]
          clear hW4
          have HC := Lib.hid (RnDeliver_any F h S a.i W4 HR4.out (by have := HA.out.nx.ok.most; omega))
          rw [hX] at HC
          unfold msV at HC
          have k1 := (HB3.out.ext HX4.out).cell 1
          clear hX
          go_wp2_with fail
          refine HC.out.mono ?_
          rintro e5 w5 ⟨rfl, hn5, hc5⟩
          have HU5 := Lib.hid (show MsAt w5 w3.heap.size X from ⟨(hc5.block _ HU4.out.blk.lt HNU.out).trans HU4.out.blk⟩)
          have HA5 := Lib.hid (Act2.both HN4.out (HC3.out.trans (Chg.of_ext (F := fun _ => False) HX4.out) (fun _ _ h => h.elim)) hn5 hc5 HA.out.sub)
          clear hn5 hc5 HC k1
          obtain ⟨W6, hW6⟩ : ∃ W, W = w5.alloc (.cells #[.int .i64 X.node, .int .i64 X.kind, .int .i64 X.term, .int .i64 X.gen, .int .i64 X.job, .int .i64 X.inc, .int .i64 X.ver, .int .i64 X.epoch, .int .i64 X.til, .int .i64 X.mode, .int .i64 X.work] 49) := ⟨_, rfl⟩
          have HX6 := Lib.hid (show Ext w5 W6 by rw [hW6]; exact Ext.alloc_ _ _)
          have HY6 := Lib.hid (show MsAt W6 w5.heap.size X by rw [hW6]; exact ⟨Blk.new _ _ _⟩)
          have HU6 := Lib.hid (HU5.out.ext HX6.out)
          have HT : Hid (ActR W1 g h (q + 1) W6) := Lib.hid ((HA5.out.more HX6.out).le (by omega)).r
          go_upto_region 22 with (fail)
          rw [← hW6]
          clear hW6
          obtain ⟨m0, m1, m2, m3, m4, m5, m6, m7, m8, m9, m10⟩ := HU6.out.cells
          obtain ⟨t0, t1, t2, t3, t4, t5, t6, t7, t8, t9, t10⟩ := HY6.out.cells
          have hoo : (okb == okb) = true := by simp
          go_wp2_with fail
          go_meet
          exact ⟨rfl, HT⟩
        by_cases h2 : a.kind = 2
        · have g0 : (a.kind == 0) = false := by simpa using h0
          have g1 : (a.kind == 1) = false := by simpa using h1
          have g2 : (a.kind == 2) = true := by rw [h2]; rfl
          clear h0 h1 h2
          have k0 := HB.out.cell 0
          have HXD : Hid (Ext wb wb.drew) := Lib.hid (Below.drewN' (Ext.refl wb) 1)
          have HAD := Lib.hid (HA.out.more HXD.out)
          have HBD := Lib.hid (HB.out.ext HXD.out)
          obtain ⟨bb, hbb⟩ : ∃ b, b = (dropN S a.i).1 := ⟨_, rfl⟩
          have HC := Lib.hid (HAD.out.nx.drop a.i)
          rw [← hbb] at HC
          have HC2 := Lib.hid (fun (W : World) (hr : RnAt F W h S) => RnDrop_any F h S a.i W hr (by have := HAD.out.nx.ok.most; omega))
          rw [← hbb] at HC2
          clear hbb
          have hqq : (bb == bb) = true := by simp
          go_upto_region 24 with (fail)
          clear k0
          refine held_begin (by kernel_rfl) ?_
          refine held_more (S' := fun W' : World => Blk W' gb 74 #[.int .i64 a.kind, .int .i64 a.i, .int .i64 a.bit, .int .i64 a.m.node, .int .i64 a.m.kind, .int .i64 a.m.term, .int .i64 a.m.gen, .int .i64 a.m.job, .int .i64 a.m.inc, .int .i64 a.m.ver, .int .i64 a.m.epoch, .int .i64 a.m.til, .int .i64 a.m.mode, .int .i64 a.m.work]) (fun _ _ => True.intro) ?_
          have hSx : (fun W' : World => Blk W' gb 74 #[.int .i64 a.kind, .int .i64 a.i, .int .i64 a.bit, .int .i64 a.m.node, .int .i64 a.m.kind, .int .i64 a.m.term, .int .i64 a.m.gen, .int .i64 a.m.job, .int .i64 a.m.inc, .int .i64 a.m.ver, .int .i64 a.m.epoch, .int .i64 a.m.til, .int .i64 a.m.mode, .int .i64 a.m.work]) wb.drew := HBD.out
          refine held_take (i := 0) (v := ?_) rfl (by kernel_rfl) (by kernel_rfl) (by kernel_rfl) (by rfl) (by first | assumption | exact True.intro) ?_ ?_
          rotate_left
          · (intro W hSw; have k1 := hSw.cell 1; go_simp; (try with_reducible rfl))
          try simp only [Act.put, List.setIfInBounds_toArray, List.set_cons_zero, List.set_cons_succ]
          refine held_take (i := 1) (v := ?_) rfl (by kernel_rfl) (by kernel_rfl) (by kernel_rfl) (by rfl) (by first | assumption | exact True.intro) ?_ ?_
          rotate_left
          · (intro W hSw; have k1 := hSw.cell 1; go_simp; (try with_reducible rfl))
          try simp only [Act.put, List.setIfInBounds_toArray, List.set_cons_zero, List.set_cons_succ]
          refine held_take (i := 3) (v := ?_) rfl (by kernel_rfl) (by kernel_rfl) (by kernel_rfl) (by rfl) (by first | assumption | exact True.intro) ?_ ?_
          rotate_left
          · (intro W hSw; have k1 := hSw.cell 1; go_simp; (try with_reducible rfl))
          try simp only [Act.put, List.setIfInBounds_toArray, List.set_cons_zero, List.set_cons_succ]
          refine held_take (i := 4) (v := ?_) rfl (by kernel_rfl) (by kernel_rfl) (by kernel_rfl) (by rfl) (by first | assumption | exact True.intro) ?_ ?_
          rotate_left
          · (intro W hSw; have k1 := hSw.cell 1; go_simp; (try with_reducible rfl))
          try simp only [Act.put, List.setIfInBounds_toArray, List.set_cons_zero, List.set_cons_succ]
          clear hSx
          refine held_op (i := 2) (by kernel_rfl) rfl (fun K hK => ?_)
          go_simp
          go_at_call 37
          refine (HC.out).mono ?_
          rintro e3 w3 ⟨rfl, hn3, hc3⟩
          have HN3 := Lib.hid hn3
          have HC3 := Lib.hid hc3
          have HR3 := Lib.hid (Act2.mid HAD.out.sub HAD.out.rn hc3)
          have HB3 : Hid (Blk w3 gb 74 #[.int .i64 a.kind, .int .i64 a.i, .int .i64 a.bit, .int .i64 a.m.node, .int .i64 a.m.kind, .int .i64 a.m.term, .int .i64 a.m.gen, .int .i64 a.m.job, .int .i64 a.m.inc, .int .i64 a.m.ver, .int .i64 a.m.epoch, .int .i64 a.m.til, .int .i64 a.m.mode, .int .i64 a.m.work]) := Lib.hid ((hc3.block gb HBD.out.lt (fun hn => hn HGB.out)).trans HBD.out)
          clear hn3 hc3 HC
          refine hK _ _ (HB3.out) (fun hSx => ?_)
          clear hK K
          try simp only [Act.put, List.setIfInBounds_toArray, List.set_cons_zero, List.set_cons_succ]
          clear hSx
          refine held_op (i := 5) (by kernel_rfl) rfl (fun K hK => ?_)
          go_simp
          go_at_call 45
          refine (HC2.out _ HR3.out).mono ?_
          rintro e4 w4 ⟨rfl, hn4, hc4⟩
          have HT : Hid (ActR W1 g h (q + 1) w4) := Lib.hid ((Act2.both HN3.out HC3.out hn4 hc4 HAD.out.sub).le (by omega)).r
          have HB4 : Hid (Blk w4 gb 74 #[.int .i64 a.kind, .int .i64 a.i, .int .i64 a.bit, .int .i64 a.m.node, .int .i64 a.m.kind, .int .i64 a.m.term, .int .i64 a.m.gen, .int .i64 a.m.job, .int .i64 a.m.inc, .int .i64 a.m.ver, .int .i64 a.m.epoch, .int .i64 a.m.til, .int .i64 a.m.mode, .int .i64 a.m.work]) := Lib.hid ((hc4.block gb HB3.out.lt HNF.out).trans HB3.out)
          clear hn4 hc4 HC2
          refine hK _ _ (HB4.out) (fun hSx => ?_)
          clear hK K
          try simp only [Act.put, List.setIfInBounds_toArray, List.set_cons_zero, List.set_cons_succ]
          refine held_take (i := 6) (v := ?_) rfl (by kernel_rfl) (by kernel_rfl) (by kernel_rfl) (by rfl) (by first | assumption | exact True.intro) ?_ ?_
          rotate_left
          · (intro W hSw; go_simp; (try with_reducible rfl))
          try simp only [Act.put, List.setIfInBounds_toArray, List.set_cons_zero, List.set_cons_succ]
          refine held_take (i := 7) (v := ?_) rfl (by kernel_rfl) (by kernel_rfl) (by kernel_rfl) (by rfl) (by first | assumption | exact True.intro) ?_ ?_
          rotate_left
          · (intro W hSw; go_simp; (try with_reducible rfl))
          try simp only [Act.put, List.setIfInBounds_toArray, List.set_cons_zero, List.set_cons_succ]
          clear hSx
          refine wpAnyH_done (by kernel_rfl) ?_ _
          refine NoPanic.normal ?_
          go_wp2_with fail
          go_meet
          exact ⟨rfl, HT⟩
        by_cases h3 : a.kind = 3
        · have g0 : (a.kind == 0) = false := by simpa using h0
          have g1 : (a.kind == 1) = false := by simpa using h1
          have g2 : (a.kind == 2) = false := by simpa using h2
          have g3 : (a.kind == 3) = true := by rw [h3]; rfl
          clear h0 h1 h2 h3
          have k0 := HB.out.cell 0
          have HXD : Hid (Ext wb wb.drew) := Lib.hid (Below.drewN' (Ext.refl wb) 1)
          have HAD := Lib.hid (HA.out.more HXD.out)
          have HBD := Lib.hid (HB.out.ext HXD.out)
          obtain ⟨bb, hbb⟩ : ∃ b, b = (twiceN S a.i).1 := ⟨_, rfl⟩
          have HC := Lib.hid (HAD.out.nx.twice a.i)
          rw [← hbb] at HC
          have HC2 := Lib.hid (fun (W : World) (hr : RnAt F W h S) => RnTwice_any F h S a.i W hr)
          rw [← hbb] at HC2
          clear hbb
          have hqq : (bb == bb) = true := by simp
          go_upto_region 26 with (fail)
          clear k0
          refine held_begin (by kernel_rfl) ?_
          refine held_more (S' := fun W' : World => Blk W' gb 74 #[.int .i64 a.kind, .int .i64 a.i, .int .i64 a.bit, .int .i64 a.m.node, .int .i64 a.m.kind, .int .i64 a.m.term, .int .i64 a.m.gen, .int .i64 a.m.job, .int .i64 a.m.inc, .int .i64 a.m.ver, .int .i64 a.m.epoch, .int .i64 a.m.til, .int .i64 a.m.mode, .int .i64 a.m.work]) (fun _ _ => True.intro) ?_
          have hSx : (fun W' : World => Blk W' gb 74 #[.int .i64 a.kind, .int .i64 a.i, .int .i64 a.bit, .int .i64 a.m.node, .int .i64 a.m.kind, .int .i64 a.m.term, .int .i64 a.m.gen, .int .i64 a.m.job, .int .i64 a.m.inc, .int .i64 a.m.ver, .int .i64 a.m.epoch, .int .i64 a.m.til, .int .i64 a.m.mode, .int .i64 a.m.work]) wb.drew := HBD.out
          refine held_take (i := 0) (v := ?_) rfl (by kernel_rfl) (by kernel_rfl) (by kernel_rfl) (by rfl) (by first | assumption | exact True.intro) ?_ ?_
          rotate_left
          · (intro W hSw; have k1 := hSw.cell 1; go_simp; (try with_reducible rfl))
          try simp only [Act.put, List.setIfInBounds_toArray, List.set_cons_zero, List.set_cons_succ]
          refine held_take (i := 1) (v := ?_) rfl (by kernel_rfl) (by kernel_rfl) (by kernel_rfl) (by rfl) (by first | assumption | exact True.intro) ?_ ?_
          rotate_left
          · (intro W hSw; have k1 := hSw.cell 1; go_simp; (try with_reducible rfl))
          try simp only [Act.put, List.setIfInBounds_toArray, List.set_cons_zero, List.set_cons_succ]
          refine held_take (i := 3) (v := ?_) rfl (by kernel_rfl) (by kernel_rfl) (by kernel_rfl) (by rfl) (by first | assumption | exact True.intro) ?_ ?_
          rotate_left
          · (intro W hSw; have k1 := hSw.cell 1; go_simp; (try with_reducible rfl))
          try simp only [Act.put, List.setIfInBounds_toArray, List.set_cons_zero, List.set_cons_succ]
          refine held_take (i := 4) (v := ?_) rfl (by kernel_rfl) (by kernel_rfl) (by kernel_rfl) (by rfl) (by first | assumption | exact True.intro) ?_ ?_
          rotate_left
          · (intro W hSw; have k1 := hSw.cell 1; go_simp; (try with_reducible rfl))
          try simp only [Act.put, List.setIfInBounds_toArray, List.set_cons_zero, List.set_cons_succ]
          clear hSx
          refine held_op (i := 2) (by kernel_rfl) rfl (fun K hK => ?_)
          go_simp
          go_at_call 38
          refine (HC.out).mono ?_
          rintro e3 w3 ⟨rfl, hn3, hc3⟩
          have HN3 := Lib.hid hn3
          have HC3 := Lib.hid hc3
          have HR3 := Lib.hid (Act2.mid HAD.out.sub HAD.out.rn hc3)
          have HB3 : Hid (Blk w3 gb 74 #[.int .i64 a.kind, .int .i64 a.i, .int .i64 a.bit, .int .i64 a.m.node, .int .i64 a.m.kind, .int .i64 a.m.term, .int .i64 a.m.gen, .int .i64 a.m.job, .int .i64 a.m.inc, .int .i64 a.m.ver, .int .i64 a.m.epoch, .int .i64 a.m.til, .int .i64 a.m.mode, .int .i64 a.m.work]) := Lib.hid ((hc3.block gb HBD.out.lt (fun hn => hn HGB.out)).trans HBD.out)
          clear hn3 hc3 HC
          refine hK _ _ (HB3.out) (fun hSx => ?_)
          clear hK K
          try simp only [Act.put, List.setIfInBounds_toArray, List.set_cons_zero, List.set_cons_succ]
          clear hSx
          refine held_op (i := 5) (by kernel_rfl) rfl (fun K hK => ?_)
          go_simp
          go_at_call 46
          refine (HC2.out _ HR3.out).mono ?_
          rintro e4 w4 ⟨rfl, hn4, hc4⟩
          have HT : Hid (ActR W1 g h (q + 1) w4) := Lib.hid ((Act2.both HN3.out HC3.out hn4 hc4 HAD.out.sub).le (by omega)).r
          have HB4 : Hid (Blk w4 gb 74 #[.int .i64 a.kind, .int .i64 a.i, .int .i64 a.bit, .int .i64 a.m.node, .int .i64 a.m.kind, .int .i64 a.m.term, .int .i64 a.m.gen, .int .i64 a.m.job, .int .i64 a.m.inc, .int .i64 a.m.ver, .int .i64 a.m.epoch, .int .i64 a.m.til, .int .i64 a.m.mode, .int .i64 a.m.work]) := Lib.hid ((hc4.block gb HB3.out.lt HNF.out).trans HB3.out)
          clear hn4 hc4 HC2
          refine hK _ _ (HB4.out) (fun hSx => ?_)
          clear hK K
          try simp only [Act.put, List.setIfInBounds_toArray, List.set_cons_zero, List.set_cons_succ]
          refine held_take (i := 6) (v := ?_) rfl (by kernel_rfl) (by kernel_rfl) (by kernel_rfl) (by rfl) (by first | assumption | exact True.intro) ?_ ?_
          rotate_left
          · (intro W hSw; go_simp; (try with_reducible rfl))
          try simp only [Act.put, List.setIfInBounds_toArray, List.set_cons_zero, List.set_cons_succ]
          refine held_take (i := 7) (v := ?_) rfl (by kernel_rfl) (by kernel_rfl) (by kernel_rfl) (by rfl) (by first | assumption | exact True.intro) ?_ ?_
          rotate_left
          · (intro W hSw; go_simp; (try with_reducible rfl))
          try simp only [Act.put, List.setIfInBounds_toArray, List.set_cons_zero, List.set_cons_succ]
          clear hSx
          refine wpAnyH_done (by kernel_rfl) ?_ _
          refine NoPanic.normal ?_
          go_wp2_with fail
          go_meet
          exact ⟨rfl, HT⟩
        by_cases h4 : a.kind = 4
        · have g0 : (a.kind == 0) = false := by simpa using h0
          have g1 : (a.kind == 1) = false := by simpa using h1
          have g2 : (a.kind == 2) = false := by simpa using h2
          have g3 : (a.kind == 3) = false := by simpa using h3
          have g4 : (a.kind == 4) = true := by rw [h4]; rfl
          clear h0 h1 h2 h3 h4
          have k0 := HB.out.cell 0
          have HXD : Hid (Ext wb wb.drew) := Lib.hid (Below.drewN' (Ext.refl wb) 1)
          have HAD := Lib.hid (HA.out.more HXD.out)
          have HBD := Lib.hid (HB.out.ext HXD.out)
          obtain ⟨bb, hbb⟩ : ∃ b, b = (flipN S a.i a.bit).1 := ⟨_, rfl⟩
          have HC := Lib.hid (HAD.out.nx.flip a.i a.bit)
          rw [← hbb] at HC
          have HC2 := Lib.hid (fun (W : World) (hr : RnAt F W h S) => RnFlip_any F h S a.i a.bit W hr HAD.out.nx.ok)
          rw [← hbb] at HC2
          clear hbb
          have hqq : (bb == bb) = true := by simp
          go_upto_region 28 with (fail)
          clear k0
          refine held_begin (by kernel_rfl) ?_
          refine held_more (S' := fun W' : World => Blk W' gb 74 #[.int .i64 a.kind, .int .i64 a.i, .int .i64 a.bit, .int .i64 a.m.node, .int .i64 a.m.kind, .int .i64 a.m.term, .int .i64 a.m.gen, .int .i64 a.m.job, .int .i64 a.m.inc, .int .i64 a.m.ver, .int .i64 a.m.epoch, .int .i64 a.m.til, .int .i64 a.m.mode, .int .i64 a.m.work]) (fun _ _ => True.intro) ?_
          have hSx : (fun W' : World => Blk W' gb 74 #[.int .i64 a.kind, .int .i64 a.i, .int .i64 a.bit, .int .i64 a.m.node, .int .i64 a.m.kind, .int .i64 a.m.term, .int .i64 a.m.gen, .int .i64 a.m.job, .int .i64 a.m.inc, .int .i64 a.m.ver, .int .i64 a.m.epoch, .int .i64 a.m.til, .int .i64 a.m.mode, .int .i64 a.m.work]) wb.drew := HBD.out
          refine held_take (i := 0) (v := ?_) rfl (by kernel_rfl) (by kernel_rfl) (by kernel_rfl) (by rfl) (by first | assumption | exact True.intro) ?_ ?_
          rotate_left
          · (intro W hSw; have k1 := hSw.cell 1; have k2 := hSw.cell 2; go_simp; (try with_reducible rfl))
          try simp only [Act.put, List.setIfInBounds_toArray, List.set_cons_zero, List.set_cons_succ]
          refine held_take (i := 1) (v := ?_) rfl (by kernel_rfl) (by kernel_rfl) (by kernel_rfl) (by rfl) (by first | assumption | exact True.intro) ?_ ?_
          rotate_left
          · (intro W hSw; have k1 := hSw.cell 1; have k2 := hSw.cell 2; go_simp; (try with_reducible rfl))
          try simp only [Act.put, List.setIfInBounds_toArray, List.set_cons_zero, List.set_cons_succ]
          refine held_take (i := 2) (v := ?_) rfl (by kernel_rfl) (by kernel_rfl) (by kernel_rfl) (by rfl) (by first | assumption | exact True.intro) ?_ ?_
          rotate_left
          · (intro W hSw; have k1 := hSw.cell 1; have k2 := hSw.cell 2; go_simp; (try with_reducible rfl))
          try simp only [Act.put, List.setIfInBounds_toArray, List.set_cons_zero, List.set_cons_succ]
          refine held_take (i := 3) (v := ?_) rfl (by kernel_rfl) (by kernel_rfl) (by kernel_rfl) (by rfl) (by first | assumption | exact True.intro) ?_ ?_
          rotate_left
          · (intro W hSw; have k1 := hSw.cell 1; have k2 := hSw.cell 2; go_simp; (try with_reducible rfl))
          try simp only [Act.put, List.setIfInBounds_toArray, List.set_cons_zero, List.set_cons_succ]
          refine held_take (i := 5) (v := ?_) rfl (by kernel_rfl) (by kernel_rfl) (by kernel_rfl) (by rfl) (by first | assumption | exact True.intro) ?_ ?_
          rotate_left
          · (intro W hSw; have k1 := hSw.cell 1; have k2 := hSw.cell 2; go_simp; (try with_reducible rfl))
          try simp only [Act.put, List.setIfInBounds_toArray, List.set_cons_zero, List.set_cons_succ]
          refine held_take (i := 6) (v := ?_) rfl (by kernel_rfl) (by kernel_rfl) (by kernel_rfl) (by rfl) (by first | assumption | exact True.intro) ?_ ?_
          rotate_left
          · (intro W hSw; have k1 := hSw.cell 1; have k2 := hSw.cell 2; go_simp; (try with_reducible rfl))
          try simp only [Act.put, List.setIfInBounds_toArray, List.set_cons_zero, List.set_cons_succ]
          refine held_take (i := 7) (v := ?_) rfl (by kernel_rfl) (by kernel_rfl) (by kernel_rfl) (by rfl) (by first | assumption | exact True.intro) ?_ ?_
          rotate_left
          · (intro W hSw; have k1 := hSw.cell 1; have k2 := hSw.cell 2; go_simp; (try with_reducible rfl))
          try simp only [Act.put, List.setIfInBounds_toArray, List.set_cons_zero, List.set_cons_succ]
          refine held_take (i := 8) (v := ?_) rfl (by kernel_rfl) (by kernel_rfl) (by kernel_rfl) (by rfl) (by first | assumption | exact True.intro) ?_ ?_
          rotate_left
          · (intro W hSw; have k1 := hSw.cell 1; have k2 := hSw.cell 2; go_simp; (try with_reducible rfl))
          try simp only [Act.put, List.setIfInBounds_toArray, List.set_cons_zero, List.set_cons_succ]
          clear hSx
          refine held_op (i := 4) (by kernel_rfl) rfl (fun K hK => ?_)
          go_simp
          go_at_call 39
          refine (HC.out).mono ?_
          rintro e3 w3 ⟨rfl, hn3, hc3⟩
          have HN3 := Lib.hid hn3
          have HC3 := Lib.hid hc3
          have HR3 := Lib.hid (Act2.mid HAD.out.sub HAD.out.rn hc3)
          have HB3 : Hid (Blk w3 gb 74 #[.int .i64 a.kind, .int .i64 a.i, .int .i64 a.bit, .int .i64 a.m.node, .int .i64 a.m.kind, .int .i64 a.m.term, .int .i64 a.m.gen, .int .i64 a.m.job, .int .i64 a.m.inc, .int .i64 a.m.ver, .int .i64 a.m.epoch, .int .i64 a.m.til, .int .i64 a.m.mode, .int .i64 a.m.work]) := Lib.hid ((hc3.block gb HBD.out.lt (fun hn => hn HGB.out)).trans HBD.out)
          clear hn3 hc3 HC
          refine hK _ _ (HB3.out) (fun hSx => ?_)
          clear hK K
          try simp only [Act.put, List.setIfInBounds_toArray, List.set_cons_zero, List.set_cons_succ]
          clear hSx
          refine held_op (i := 9) (by kernel_rfl) rfl (fun K hK => ?_)
          go_simp
          go_at_call 47
          refine (HC2.out _ HR3.out).mono ?_
          rintro e4 w4 ⟨rfl, hn4, hc4⟩
          have HT : Hid (ActR W1 g h (q + 1) w4) := Lib.hid ((Act2.both HN3.out HC3.out hn4 hc4 HAD.out.sub).le (by omega)).r
          have HB4 : Hid (Blk w4 gb 74 #[.int .i64 a.kind, .int .i64 a.i, .int .i64 a.bit, .int .i64 a.m.node, .int .i64 a.m.kind, .int .i64 a.m.term, .int .i64 a.m.gen, .int .i64 a.m.job, .int .i64 a.m.inc, .int .i64 a.m.ver, .int .i64 a.m.epoch, .int .i64 a.m.til, .int .i64 a.m.mode, .int .i64 a.m.work]) := Lib.hid ((hc4.block gb HB3.out.lt HNF.out).trans HB3.out)
          clear hn4 hc4 HC2
          refine hK _ _ (HB4.out) (fun hSx => ?_)
          clear hK K
          try simp only [Act.put, List.setIfInBounds_toArray, List.set_cons_zero, List.set_cons_succ]
          refine held_take (i := 10) (v := ?_) rfl (by kernel_rfl) (by kernel_rfl) (by kernel_rfl) (by rfl) (by first | assumption | exact True.intro) ?_ ?_
          rotate_left
          · (intro W hSw; go_simp; (try with_reducible rfl))
          try simp only [Act.put, List.setIfInBounds_toArray, List.set_cons_zero, List.set_cons_succ]
          refine held_take (i := 11) (v := ?_) rfl (by kernel_rfl) (by kernel_rfl) (by kernel_rfl) (by rfl) (by first | assumption | exact True.intro) ?_ ?_
          rotate_left
          · (intro W hSw; go_simp; (try with_reducible rfl))
          try simp only [Act.put, List.setIfInBounds_toArray, List.set_cons_zero, List.set_cons_succ]
          clear hSx
          refine wpAnyH_done (by kernel_rfl) ?_ _
          refine NoPanic.normal ?_
          go_wp2_with fail
          go_meet
          exact ⟨rfl, HT⟩
        have g0 : (a.kind == 0) = false := by simpa using h0
        have g1 : (a.kind == 1) = false := by simpa using h1
        have g2 : (a.kind == 2) = false := by simpa using h2
        have g3 : (a.kind == 3) = false := by simpa using h3
        have g4 : (a.kind == 4) = false := by simpa using h4
        have k0 := HB.out.cell 0
        clear h0 h1 h2 h3 h4
        have HT := Lib.hid (HA.out.le (show q ≤ q + 1 by omega)).r
        go_wp2_with fail
        go_meet
        exact ⟨rfl, HT⟩
      case rest =>
        obtain ⟨rfl, HK⟩ := hcut
        clear HA HB HGB HNF
        obtain ⟨S2, F2, G2, ha⟩ := HK.out
        have HA := Lib.hid ha
        have HKR := Lib.hid HK.out
        clear HK
        obtain ⟨w8, hw8⟩ : ∃ W, W = wc := ⟨_, rfl⟩
        rw [← hw8] at HA HKR ha ⊢
        clear hw8
        obtain ⟨vL, vT, hi⟩ := ha.rn.out
        obtain ⟨AL, cL, rfl, -, -, -⟩ := hi.rowL.slice_
        rw [List.length_map] at hi
        obtain ⟨n, hn⟩ : ∃ n, n = S2.way.length := ⟨_, rfl⟩
        rw [← hn] at hi
        have HI := Lib.hid hi
        clear hi ha
        have HLC : Hid (∀ W', Ext w8 W' → W'.cell? ⟨h, 0, none⟩ = some (.slice AL n cL) ∧ W'.cell? ⟨h, 2, none⟩ = some (.int .i64 (S2.sent : Int))) := Lib.hid fun W' q => ⟨(HI.out.blk.ext q).cell 0, (HI.out.blk.ext q).cell 2⟩
        have HC1 := Lib.hid (fun (W : World) (hx : Ext w8 W) => (HA.out.nx.more hx).len)
        rw [← hn] at HC1
        have HC2 := Lib.hid (fun (W : World) (hx : Ext w8 W) => (HA.out.nx.more hx).sent_)
        have HC3 := Lib.hid (fun (W : World) (hx : Ext w8 W) => (HA.out.nx.more hx).list)
        have HC4 := Lib.hid (fun (W : World) (hx : Ext w8 W) => RnList_any F2 h S2 W (HA.out.rn.ext hx) (by have := HA.out.nx.ok.most; omega))
        have HLL : Hid ((listN S2).length ≤ 40) := Lib.hid (Nat.le_trans (List.length_filterMap_le _ _) HA.out.nx.ok.most)
        clear hn
        have hnn : ((n : Int) != (n : Int)) = false := by simp
        have hss : ((S2.sent : Int) != (S2.sent : Int)) = false := by simp
        have HXD : Hid (Ext w8 w8.drew) := Lib.hid (Below.drewN' (Ext.refl w8) 1)
        go_upto_region 29 with (fail)
        refine held_begin (by kernel_rfl) ?_
        refine held_more (S' := fun W' : World => Ext w8 W') (fun _ _ => True.intro) ?_
        have hSx : (fun W' : World => Ext w8 W') w8.drew := HXD.out
        refine held_take (i := 0) (v := ?_) rfl (by kernel_rfl) (by kernel_rfl) (by kernel_rfl) (by rfl) (by first | assumption | exact True.intro) ?_ ?_
        rotate_left
        · (intro W hSw; go_simp; (try with_reducible rfl))
        try simp only [Act.put, List.setIfInBounds_toArray, List.set_cons_zero, List.set_cons_succ]
        refine held_take (i := 1) (v := ?_) rfl (by kernel_rfl) (by kernel_rfl) (by kernel_rfl) (by rfl) (by first | assumption | exact True.intro) ?_ ?_
        rotate_left
        · (intro W hSw; go_simp; (try with_reducible rfl))
        try simp only [Act.put, List.setIfInBounds_toArray, List.set_cons_zero, List.set_cons_succ]
        refine held_take (i := 2) (v := ?_) rfl (by kernel_rfl) (by kernel_rfl) (by kernel_rfl) (by rfl) (by first | assumption | exact True.intro) ?_ ?_
        rotate_left
        · (intro W hSw; go_simp; (try with_reducible rfl))
        try simp only [Act.put, List.setIfInBounds_toArray, List.set_cons_zero, List.set_cons_succ]
        refine held_take (i := 4) (v := ?_) rfl (by kernel_rfl) (by kernel_rfl) (by kernel_rfl) (by rfl) (by first | assumption | exact True.intro) ?_ ?_
        rotate_left
        · (intro W hSw; go_simp; (try with_reducible rfl))
        try simp only [Act.put, List.setIfInBounds_toArray, List.set_cons_zero, List.set_cons_succ]
        refine held_take (i := 5) (v := ?_) rfl (by kernel_rfl) (by kernel_rfl) (by kernel_rfl) (by rfl) (by first | assumption | exact True.intro) ?_ ?_
        rotate_left
        · (intro W hSw; obtain ⟨k0, k2⟩ := HLC.out W hSw; go_simp; (try with_reducible rfl))
        try simp only [Act.put, List.setIfInBounds_toArray, List.set_cons_zero, List.set_cons_succ]
        refine held_take (i := 6) (v := ?_) rfl (by kernel_rfl) (by kernel_rfl) (by kernel_rfl) (by rfl) (by first | assumption | exact True.intro) ?_ ?_
        rotate_left
        · (intro W hSw; go_simp; (try with_reducible rfl))
        try simp only [Act.put, List.setIfInBounds_toArray, List.set_cons_zero, List.set_cons_succ]
        clear hSx
        refine held_op (i := 3) (by kernel_rfl) rfl (fun K hK => ?_)
        go_simp
        go_at_call 40
        refine (HC1.out _ HXD.out).mono ?_
        rintro e3 w3 ⟨rfl, hx3⟩
        have HX3 := Lib.hid (HXD.out.trans hx3)
        clear hx3
        refine hK _ _ (HX3.out) (fun hSx => ?_)
        clear hK K
        try simp only [Act.put, List.setIfInBounds_toArray, List.set_cons_zero, List.set_cons_succ]
        refine held_take (i := 7) (v := ?_) rfl (by kernel_rfl) (by kernel_rfl) (by kernel_rfl) (by rfl) (by first | assumption | exact True.intro) ?_ ?_
        rotate_left
        · (intro W hSw; go_simp; (try with_reducible rfl))
        try simp only [Act.put, List.setIfInBounds_toArray, List.set_cons_zero, List.set_cons_succ]
        refine held_take (i := 8) (v := ?_) rfl (by kernel_rfl) (by kernel_rfl) (by kernel_rfl) (by rfl) (by first | assumption | exact True.intro) ?_ ?_
        rotate_left
        · (intro W hSw; go_simp; (try with_reducible rfl))
        try simp only [Act.put, List.setIfInBounds_toArray, List.set_cons_zero, List.set_cons_succ]
        refine held_take (i := 9) (v := ?_) rfl (by kernel_rfl) (by kernel_rfl) (by kernel_rfl) (by rfl) (by first | assumption | exact True.intro) ?_ ?_
        rotate_left
        · (intro W hSw; go_simp; (try with_reducible rfl))
        try simp only [Act.put, List.setIfInBounds_toArray, List.set_cons_zero, List.set_cons_succ]
        refine held_take (i := 11) (v := ?_) rfl (by kernel_rfl) (by kernel_rfl) (by kernel_rfl) (by rfl) (by first | assumption | exact True.intro) ?_ ?_
        rotate_left
        · (intro W hSw; go_simp; (try with_reducible rfl))
        try simp only [Act.put, List.setIfInBounds_toArray, List.set_cons_zero, List.set_cons_succ]
        refine held_take (i := 12) (v := ?_) rfl (by kernel_rfl) (by kernel_rfl) (by kernel_rfl) (by rfl) (by first | assumption | exact True.intro) ?_ ?_
        rotate_left
        · (intro W hSw; obtain ⟨k0, k2⟩ := HLC.out W hSw; go_simp; (try with_reducible rfl))
        try simp only [Act.put, List.setIfInBounds_toArray, List.set_cons_zero, List.set_cons_succ]
        clear hSx
        refine held_op (i := 10) (by kernel_rfl) rfl (fun K hK => ?_)
        go_simp
        go_at_call 41
        refine (HC2.out _ HX3.out).mono ?_
        rintro e4 w4 ⟨rfl, hx4⟩
        have HX4 := Lib.hid (HX3.out.trans hx4)
        clear hx4
        refine hK _ _ (HX4.out) (fun hSx => ?_)
        clear hK K
        try simp only [Act.put, List.setIfInBounds_toArray, List.set_cons_zero, List.set_cons_succ]
        refine held_take (i := 13) (v := ?_) rfl (by kernel_rfl) (by kernel_rfl) (by kernel_rfl) (by rfl) (by first | assumption | exact True.intro) ?_ ?_
        rotate_left
        · (intro W hSw; go_simp; (try with_reducible rfl))
        try simp only [Act.put, List.setIfInBounds_toArray, List.set_cons_zero, List.set_cons_succ]
        refine held_take (i := 14) (v := ?_) rfl (by kernel_rfl) (by kernel_rfl) (by kernel_rfl) (by rfl) (by first | assumption | exact True.intro) ?_ ?_
        rotate_left
        · (intro W hSw; go_simp; (try with_reducible rfl))
        try simp only [Act.put, List.setIfInBounds_toArray, List.set_cons_zero, List.set_cons_succ]
        refine held_take (i := 15) (v := ?_) rfl (by kernel_rfl) (by kernel_rfl) (by kernel_rfl) (by rfl) (by first | assumption | exact True.intro) ?_ ?_
        rotate_left
        · (intro W hSw; go_simp; (try with_reducible rfl))
        try simp only [Act.put, List.setIfInBounds_toArray, List.set_cons_zero, List.set_cons_succ]
        clear hSx
        refine held_op (i := 16) (by kernel_rfl) rfl (fun K hK => ?_)
        go_simp
        go_at_call 42
        refine (HC3.out _ HX4.out).mono ?_
        rintro e5 w5 ⟨v5, rfl, hr5, hx5⟩
        have HX5 := Lib.hid (HX4.out.trans hx5)
        have HR5 := Lib.hid hr5
        clear hx5 hr5
        refine hK _ _ (HX5.out) (fun hSx => ?_)
        clear hK K
        try simp only [Act.put, List.setIfInBounds_toArray, List.set_cons_zero, List.set_cons_succ]
        clear hSx
        refine held_op (i := 17) (by kernel_rfl) rfl (fun K hK => ?_)
        go_simp
        go_at_call 49
        refine (HC4.out _ HX5.out).mono ?_
        rintro e6 w6 ⟨v6, rfl, hr6, hx6⟩
        have HX6 := Lib.hid (HX5.out.trans hx6)
        have HC5 := Lib.hid (RefSame12_same (listN S2) v5 v6 w6 (HR5.out.ext hx6) hr6 (by have := HLL.out; omega))
        clear hx6 hr6
        refine hK _ _ (HX6.out) (fun hSx => ?_)
        clear hK K
        try simp only [Act.put, List.setIfInBounds_toArray, List.set_cons_zero, List.set_cons_succ]
        clear hSx
        refine held_op (i := 18) (by kernel_rfl) rfl (fun K hK => ?_)
        go_simp
        go_at_call 48
        refine (HC5.out).mono ?_
        rintro e7 w7 ⟨rfl, hx7⟩
        have HX7 := Lib.hid (HX6.out.trans hx7)
        clear hx7
        refine hK _ _ (HX7.out) (fun hSx => ?_)
        clear hK K
        try simp only [Act.put, List.setIfInBounds_toArray, List.set_cons_zero, List.set_cons_succ]
        refine held_take (i := 19) (v := ?_) rfl (by kernel_rfl) (by kernel_rfl) (by kernel_rfl) (by rfl) (by first | assumption | exact True.intro) ?_ ?_
        rotate_left
        · (intro W hSw; go_simp; (try with_reducible rfl))
        try simp only [Act.put, List.setIfInBounds_toArray, List.set_cons_zero, List.set_cons_succ]
        refine held_take (i := 20) (v := ?_) rfl (by kernel_rfl) (by kernel_rfl) (by kernel_rfl) (by rfl) (by first | assumption | exact True.intro) ?_ ?_
        rotate_left
        · (intro W hSw; go_simp; (try with_reducible rfl))
        try simp only [Act.put, List.setIfInBounds_toArray, List.set_cons_zero, List.set_cons_succ]
        clear hSx
        refine wpAnyH_done (by kernel_rfl) ?_ _
        refine NoPanic.normal ?_
        have hwq : wrap64 ((q : Int) + 1) = (q : Int) + 1 := IntWalk.wrap64_in _ (by have := HLT.out; have := H40.out; omega)
        have HT : Hid (ActR W1 g h (q + 1) w7) := Lib.hid (HA.out.more HX7.out).r
        go_wp2
        go_roundg (l.length - (q + 1))
        case measure => have := HLT.out; omega
        case rel => exact ⟨q + 1, by go_num, HLT.out, rfl, HT⟩
    · obtain rfl : q = l.length := by omega
      have e1 : decide ((l.length : Int) < (l.length : Int)) = false := decide_eq_false (by omega)
      have e1' : decide (l.length < l.length) = false := decide_eq_false (by omega)
      have HXF := Lib.hid (HA0.out.nx.ext_ HX1.out HGL.out)
      clear hlt hq
      go_wp2
      go_ret
      exact ⟨rfl, HXF.out⟩

end Go.Proofs.Ytdijinboopdheaa
