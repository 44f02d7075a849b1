/- Texts that the proof of X rests on, one behind the other. -/
import Derived.Test.YtgjidkhfnnghiaaXQ3
import Derived.Test.YtgjidkhfnnghiaaXQ5
import Derived.Test.YtgjidkhfnnghiaaXQ6
import Derived.Deep.QuietTactic
import Derived.BigQuiet
import Derived.Deep.CutBlock
import Derived.Deep.DeepCutAuto
import Derived.OwnWalk

/- The reference of layer 15: the nodes for a job. -/
namespace Go.Proofs.Ytgjidkhfnnghiaa
open Go.RowKit

set_option maxRecDepth 100000 in
set_option maxHeartbeats 8000000 in
theorem RefPick_any (vn vj : Value) (s : St) (j : Jb) (set : Int) (w : World) (hr : RdNd w vn s.nodes) (hN : s.nodes.length ≤ 6) :
    Calls Try.prog 28 #[stV vn vj s, jbV j, .int .i64 set] w fun e w' => e = .returned (.tuple #[.int .i64 (pickS s j set).1, .bool (pickS s j set).2]) ∧ Ext w w' := by
  have HR := Lib.hid hr
  have HOF : Hid (∀ (z : Int) (W : World), Ext w W → Calls Try.prog 48 #[stV vn vj s, .int .i64 set, .int .i64 z] W fun e w' => e = .returned (.int .i64 (ofN s set z : Int)) ∧ Ext W w') := Lib.hid fun z W hW => RefOf_any vn vj s set z W (HR.out.ext hW) hN
  have HME : Hid (∀ W, Calls Try.prog 49 #[stV vn vj s] W fun e w' => e = .returned (.int .i64 (meantS s)) ∧ Ext W w') := Lib.hid fun W => RefMeant_any vn vj s W
  have HMA : Hid (∀ (x : Int) (W : World), Calls Try.prog 47 #[.int .i64 x] W fun e w' => e = .returned (.int .i64 (manyS x : Int)) ∧ W = w') := Lib.hid fun x W => RefMany_any x W
  obtain ⟨A, c, rfl, hnc, hcm, -⟩ := has_cells hr
  unfold stV at HOF HME
  unfold stV jbV
  have hb1 := (Blk.new w 27 #[.slice A s.nodes.length c, vj, .int .i64 s.goal, .int .i64 s.prior, .int .i64 s.mode, .int .i64 s.term]).alloc (.cells #[.int .i64 j.queue, .int .i64 j.prio, .int .i64 j.least, .int .i64 j.most, .int .i64 j.work, .int .i64 j.pin, .int .i64 j.phase, .int .i64 j.inc, .int .i64 j.nodes, .int .i64 j.since, .int .i64 j.til, .int .i64 j.epoch] 39)
  have hb2 : Blk ((w.alloc (.cells #[.slice A s.nodes.length c, vj, .int .i64 s.goal, .int .i64 s.prior, .int .i64 s.mode, .int .i64 s.term] 27)).alloc (.cells #[.int .i64 j.queue, .int .i64 j.prio, .int .i64 j.least, .int .i64 j.most, .int .i64 j.work, .int .i64 j.pin, .int .i64 j.phase, .int .i64 j.inc, .int .i64 j.nodes, .int .i64 j.since, .int .i64 j.til, .int .i64 j.epoch] 39)) (w.heap.size + 1) 39 #[.int .i64 j.queue, .int .i64 j.prio, .int .i64 j.least, .int .i64 j.most, .int .i64 j.work, .int .i64 j.pin, .int .i64 j.phase, .int .i64 j.inc, .int .i64 j.nodes, .int .i64 j.since, .int .i64 j.til, .int .i64 j.epoch] := by
    have h := Blk.new (w.alloc (.cells #[.slice A s.nodes.length c, vj, .int .i64 s.goal, .int .i64 s.prior, .int .i64 s.mode, .int .i64 s.term] 27)) 39 #[.int .i64 j.queue, .int .i64 j.prio, .int .i64 j.least, .int .i64 j.most, .int .i64 j.work, .int .i64 j.pin, .int .i64 j.phase, .int .i64 j.inc, .int .i64 j.nodes, .int .i64 j.since, .int .i64 j.til, .int .i64 j.epoch]
    rw [show (w.alloc (.cells #[.slice A s.nodes.length c, vj, .int .i64 s.goal, .int .i64 s.prior, .int .i64 s.mode, .int .i64 s.term] 27)).heap.size = w.heap.size + 1 by simp] at h
    exact h
  have hx : Ext w ((w.alloc (.cells #[.slice A s.nodes.length c, vj, .int .i64 s.goal, .int .i64 s.prior, .int .i64 s.mode, .int .i64 s.term] 27)).alloc (.cells #[.int .i64 j.queue, .int .i64 j.prio, .int .i64 j.least, .int .i64 j.most, .int .i64 j.work, .int .i64 j.pin, .int .i64 j.phase, .int .i64 j.inc, .int .i64 j.nodes, .int .i64 j.since, .int .i64 j.til, .int .i64 j.epoch] 39)) := ((Below.refl _ _).alloc (Nat.le_refl _) _).alloc (by simp) _
  have HB1 := Lib.hid hb1
  have HB2 := Lib.hid hb2
  have HX := Lib.hid hx
  obtain ⟨PK, hPK⟩ : ∃ z, z = pickS s j set := ⟨_, rfl⟩
  rw [← hPK]
  have HPK : Hid (PK = if (pickTo s j set 9).1 < 0 then (0, false) else ((lowN (ofN s set (pickTo s j set 9).2 : Int) j.most 6 : Int), true)) := Lib.hid hPK
  have HST : Hid (∀ q : Nat, pickTo s j set (q + 1) = pickStep s j (pickTo s j set q) (manyS (ofN s set ((q : Int) + 1) : Int)) ((q : Int) + 1)) := Lib.hid fun q => rfl
  clear hb1 hb2 hx hr HR hPK
  go_enter Try.func28, Try.ntmps28
  go_wp2_with fail
  obtain ⟨W0, hW0⟩ : ∃ W0, W0 = (w.alloc (.cells #[.slice A s.nodes.length c, vj, .int .i64 s.goal, .int .i64 s.prior, .int .i64 s.mode, .int .i64 s.term] 27)).alloc (.cells #[.int .i64 j.queue, .int .i64 j.prio, .int .i64 j.least, .int .i64 j.most, .int .i64 j.work, .int .i64 j.pin, .int .i64 j.phase, .int .i64 j.inc, .int .i64 j.nodes, .int .i64 j.since, .int .i64 j.til, .int .i64 j.epoch] 39) := ⟨_, rfl⟩
  rw [← hW0] at HX HB1 HB2 ⊢
  clear hW0
  go_loopw [8, 9, 10] (fun x y v wr => ∃ (q : Nat) (z : Int), v = .int .i64 z ∧ x = .int .i64 (pickTo s j set q).1 ∧ y = .int .i64 (pickTo s j set q).2 ∧ z = (q : Int) + 1 ∧ q ≤ 9 ∧ Ext W0 wr) (fun _ _ v _ => 10 - (intOf v).toNat)
  case atStart => exact ⟨0, 1, rfl, rfl, rfl, rfl, Nat.zero_le _, Ext.refl _⟩
  case round =>
    obtain ⟨q, z, rfl, rfl, rfl, hz, hq, hxr⟩ := hrel
    have HXR := Lib.hid hxr
    have HXW := Lib.hid (HX.out.trans hxr)
    have HC1 := Lib.hid (HB1.out.ext hxr)
    have HC2 := Lib.hid (HB2.out.ext hxr)
    have HSQ := Lib.hid (HST.out q)
    rw [← hz] at HSQ
    obtain ⟨⟨bb, bv⟩, hbp⟩ : ∃ p, p = pickTo s j set q := ⟨_, rfl⟩
    rw [← hbp] at HSQ ⊢
    have HBP := Lib.hid hbp
    have HZ := Lib.hid hz
    clear hxr hbp
    have g0 := HC1.out.cell 0
    have g1 := HC1.out.cell 1
    have g2 := HC1.out.cell 2
    have g3 := HC1.out.cell 3
    have g4 := HC1.out.cell 4
    have g5 := HC1.out.cell 5
    by_cases hlt : q < 9
    · have d1 : decide (z ≤ 9) = true := decide_eq_true (by omega)
      have wz : wrap64 (z + 1) = z + 1 := IntWalk.wrap64_in _ (by omega)
      have HLT := Lib.hid hlt
      have HOC := Lib.hid (HOF.out z wr HXW.out)
      clear hlt hz
      obtain ⟨D, hD⟩ : ∃ D, D = ofN s set z := ⟨_, rfl⟩
      rw [← hD] at HSQ HOC
      clear hD
      go_wp2_with fail
      refine HOC.out.mono ?_
      rintro e1 w1 ⟨rfl, hx1⟩
      have HX1 := Lib.hid (HXR.out.trans hx1)
      have HCA := Lib.hid (HC1.out.ext hx1)
      have HCB := Lib.hid (HC2.out.ext hx1)
      have HMC := Lib.hid (HMA.out (D : Int) w1)
      obtain ⟨M, hM⟩ : ∃ M, M = manyS (D : Int) := ⟨_, rfl⟩
      rw [← hM] at HSQ HMC
      clear hM hx1 g0 g1 g2 g3 g4 g5 HOC
      go_wp2_with fail
      refine HMC.out.mono ?_
      rintro e2 w2 ⟨rfl, rfl⟩
      clear HMC
      have g0 := HCA.out.cell 0
      have g1 := HCA.out.cell 1
      have g2 := HCA.out.cell 2
      have g3 := HCA.out.cell 3
      have g4 := HCA.out.cell 4
      have g5 := HCA.out.cell 5
      have j2 := HCB.out.cell 2
      have j3 := HCB.out.cell 3
      have j5 := HCB.out.cell 5
      by_cases a1 : (M : Int) < j.least
      · have f1 : decide ((M : Int) < j.least) = true := decide_eq_true a1
        have HS : Hid (pickTo s j set (q + 1) = (bb, bv)) := Lib.hid (by rw [HSQ.out]; exact pickStep_few a1)
        clear a1
        repeat (first | go_values | go_skip | go_guarded | go_step | go_upon | (simp only []))
        go_roundw
        case rel => exact ⟨q + 1, z + 1, by first | rfl | rw [wz], by rw [HS.out], by rw [HS.out], by have := HZ.out; omega, HLT.out, HX1.out⟩
        case measure => have := HLT.out; have := HZ.out; simp only [intOf]; first | omega | (rw [wz]; omega)
      · have f1 : decide ((M : Int) < j.least) = false := decide_eq_false a1
        have HN1 := Lib.hid a1
        clear a1
        by_cases a2 : 0 < j.pin
        · have f2 : decide (0 < j.pin) = true := decide_eq_true a2
          by_cases a3 : j.pin = z
          · have f3 : (j.pin != z) = false := by rw [a3]; simp
            have HP : Hid (¬ (0 < j.pin ∧ j.pin ≠ z)) := Lib.hid (fun h => h.2 a3)
            clear a2 a3
            by_cases a4 : j.most < (M : Int)
            · have f4 : decide (j.most < (M : Int)) = true := decide_eq_true a4
              have HK := Lib.hid (show j.most = if j.most < (M : Int) then j.most else (M : Int) by rw [if_pos a4])
              clear a4
              by_cases a5 : bb < j.most
              · have f5 : decide (bb < j.most) = true := decide_eq_true a5
                have HS : Hid (pickTo s j set (q + 1) = (j.most, z)) := Lib.hid (by rw [HSQ.out]; exact pickStep_more (K := j.most) HN1.out HP.out HK.out (.inl a5))
                clear a5
                repeat (first | go_values | go_skip | go_guarded | go_step | go_upon | (simp only []))
                go_roundw
                case rel => exact ⟨q + 1, z + 1, by first | rfl | rw [wz], by rw [HS.out], by rw [HS.out], by have := HZ.out; omega, HLT.out, HX1.out⟩
                case measure => have := HLT.out; have := HZ.out; simp only [intOf]; first | omega | (rw [wz]; omega)
              · have f5 : decide (bb < j.most) = false := decide_eq_false a5
                by_cases a6 : j.most = bb
                · have f6 : (j.most == bb) = true := by rw [a6]; simp
                  have HA := Lib.hid (And.intro a5 a6)
                  clear a5 a6
                  repeat (first | go_values | go_skip | go_guarded | go_step | go_upon | (simp only []))
                  refine (HME.out _).mono ?_
                  rintro e3 w3 ⟨rfl, hx3⟩
                  have HX3 := Lib.hid (HX1.out.trans hx3)
                  clear hx3
                  by_cases a7 : z = meantS s
                  · have f7 : (z == meantS s) = true := by rw [← a7]; simp
                    have HS : Hid (pickTo s j set (q + 1) = (j.most, z)) := Lib.hid (by rw [HSQ.out]; exact pickStep_more (K := j.most) HN1.out HP.out HK.out (.inr ⟨HA.out.2, a7⟩))
                    clear a7
                    repeat (first | go_values | go_skip | go_guarded | go_step | go_upon | (simp only []))
                    go_roundw
                    case rel => exact ⟨q + 1, z + 1, by first | rfl | rw [wz], by rw [HS.out], by rw [HS.out], by have := HZ.out; omega, HLT.out, HX3.out⟩
                    case measure => have := HLT.out; have := HZ.out; simp only [intOf]; first | omega | (rw [wz]; omega)
                  · have f7 : (z == meantS s) = false := by simpa using a7
                    have HS : Hid (pickTo s j set (q + 1) = (bb, bv)) := Lib.hid (by rw [HSQ.out]; exact pickStep_less (K := j.most) HN1.out HP.out HK.out (fun h => h.elim HA.out.1 fun h => a7 h.2))
                    clear a7
                    repeat (first | go_values | go_skip | go_guarded | go_step | go_upon | (simp only []))
                    go_roundw
                    case rel => exact ⟨q + 1, z + 1, by first | rfl | rw [wz], by rw [HS.out], by rw [HS.out], by have := HZ.out; omega, HLT.out, HX3.out⟩
                    case measure => have := HLT.out; have := HZ.out; simp only [intOf]; first | omega | (rw [wz]; omega)
                · have f6 : (j.most == bb) = false := by simpa using a6
                  have HS : Hid (pickTo s j set (q + 1) = (bb, bv)) := Lib.hid (by rw [HSQ.out]; exact pickStep_less (K := j.most) HN1.out HP.out HK.out (fun h => h.elim a5 fun h => a6 h.1))
                  clear a5 a6
                  repeat (first | go_values | go_skip | go_guarded | go_step | go_upon | (simp only []))
                  go_roundw
                  case rel => exact ⟨q + 1, z + 1, by first | rfl | rw [wz], by rw [HS.out], by rw [HS.out], by have := HZ.out; omega, HLT.out, HX1.out⟩
                  case measure => have := HLT.out; have := HZ.out; simp only [intOf]; first | omega | (rw [wz]; omega)
            · have f4 : decide (j.most < (M : Int)) = false := decide_eq_false a4
              have HK := Lib.hid (show (M : Int) = if j.most < (M : Int) then j.most else (M : Int) by rw [if_neg a4])
              clear a4
              by_cases a5 : bb < (M : Int)
              · have f5 : decide (bb < (M : Int)) = true := decide_eq_true a5
                have HS : Hid (pickTo s j set (q + 1) = ((M : Int), z)) := Lib.hid (by rw [HSQ.out]; exact pickStep_more (K := (M : Int)) HN1.out HP.out HK.out (.inl a5))
                clear a5
                repeat (first | go_values | go_skip | go_guarded | go_step | go_upon | (simp only []))
                go_roundw
                case rel => exact ⟨q + 1, z + 1, by first | rfl | rw [wz], by rw [HS.out], by rw [HS.out], by have := HZ.out; omega, HLT.out, HX1.out⟩
                case measure => have := HLT.out; have := HZ.out; simp only [intOf]; first | omega | (rw [wz]; omega)
              · have f5 : decide (bb < (M : Int)) = false := decide_eq_false a5
                by_cases a6 : (M : Int) = bb
                · have f6 : ((M : Int) == bb) = true := by rw [a6]; simp
                  have HA := Lib.hid (And.intro a5 a6)
                  clear a5 a6
                  repeat (first | go_values | go_skip | go_guarded | go_step | go_upon | (simp only []))
                  refine (HME.out _).mono ?_
                  rintro e3 w3 ⟨rfl, hx3⟩
                  have HX3 := Lib.hid (HX1.out.trans hx3)
                  clear hx3
                  by_cases a7 : z = meantS s
                  · have f7 : (z == meantS s) = true := by rw [← a7]; simp
                    have HS : Hid (pickTo s j set (q + 1) = ((M : Int), z)) := Lib.hid (by rw [HSQ.out]; exact pickStep_more (K := (M : Int)) HN1.out HP.out HK.out (.inr ⟨HA.out.2, a7⟩))
                    clear a7
                    repeat (first | go_values | go_skip | go_guarded | go_step | go_upon | (simp only []))
                    go_roundw
                    case rel => exact ⟨q + 1, z + 1, by first | rfl | rw [wz], by rw [HS.out], by rw [HS.out], by have := HZ.out; omega, HLT.out, HX3.out⟩
                    case measure => have := HLT.out; have := HZ.out; simp only [intOf]; first | omega | (rw [wz]; omega)
                  · have f7 : (z == meantS s) = false := by simpa using a7
                    have HS : Hid (pickTo s j set (q + 1) = (bb, bv)) := Lib.hid (by rw [HSQ.out]; exact pickStep_less (K := (M : Int)) HN1.out HP.out HK.out (fun h => h.elim HA.out.1 fun h => a7 h.2))
                    clear a7
                    repeat (first | go_values | go_skip | go_guarded | go_step | go_upon | (simp only []))
                    go_roundw
                    case rel => exact ⟨q + 1, z + 1, by first | rfl | rw [wz], by rw [HS.out], by rw [HS.out], by have := HZ.out; omega, HLT.out, HX3.out⟩
                    case measure => have := HLT.out; have := HZ.out; simp only [intOf]; first | omega | (rw [wz]; omega)
                · have f6 : ((M : Int) == bb) = false := by simpa using a6
                  have HS : Hid (pickTo s j set (q + 1) = (bb, bv)) := Lib.hid (by rw [HSQ.out]; exact pickStep_less (K := (M : Int)) HN1.out HP.out HK.out (fun h => h.elim a5 fun h => a6 h.1))
                  clear a5 a6
                  repeat (first | go_values | go_skip | go_guarded | go_step | go_upon | (simp only []))
                  go_roundw
                  case rel => exact ⟨q + 1, z + 1, by first | rfl | rw [wz], by rw [HS.out], by rw [HS.out], by have := HZ.out; omega, HLT.out, HX1.out⟩
                  case measure => have := HLT.out; have := HZ.out; simp only [intOf]; first | omega | (rw [wz]; omega)
          · have f3 : (j.pin != z) = true := by simp only [bne_iff_ne, ne_eq]; exact a3
            have HS : Hid (pickTo s j set (q + 1) = (bb, bv)) := Lib.hid (by rw [HSQ.out]; exact pickStep_pin a2 a3)
            clear a2 a3
            repeat (first | go_values | go_skip | go_guarded | go_step | go_upon | (simp only []))
            go_roundw
            case rel => exact ⟨q + 1, z + 1, by first | rfl | rw [wz], by rw [HS.out], by rw [HS.out], by have := HZ.out; omega, HLT.out, HX1.out⟩
            case measure => have := HLT.out; have := HZ.out; simp only [intOf]; first | omega | (rw [wz]; omega)
        · have f2 : decide (0 < j.pin) = false := decide_eq_false a2
          have HP : Hid (¬ (0 < j.pin ∧ j.pin ≠ z)) := Lib.hid (fun h => a2 h.1)
          clear a2
          by_cases a4 : j.most < (M : Int)
          · have f4 : decide (j.most < (M : Int)) = true := decide_eq_true a4
            have HK := Lib.hid (show j.most = if j.most < (M : Int) then j.most else (M : Int) by rw [if_pos a4])
            clear a4
            by_cases a5 : bb < j.most
            · have f5 : decide (bb < j.most) = true := decide_eq_true a5
              have HS : Hid (pickTo s j set (q + 1) = (j.most, z)) := Lib.hid (by rw [HSQ.out]; exact pickStep_more (K := j.most) HN1.out HP.out HK.out (.inl a5))
              clear a5
              repeat (first | go_values | go_skip | go_guarded | go_step | go_upon | (simp only []))
              go_roundw
              case rel => exact ⟨q + 1, z + 1, by first | rfl | rw [wz], by rw [HS.out], by rw [HS.out], by have := HZ.out; omega, HLT.out, HX1.out⟩
              case measure => have := HLT.out; have := HZ.out; simp only [intOf]; first | omega | (rw [wz]; omega)
            · have f5 : decide (bb < j.most) = false := decide_eq_false a5
              by_cases a6 : j.most = bb
              · have f6 : (j.most == bb) = true := by rw [a6]; simp
                have HA := Lib.hid (And.intro a5 a6)
                clear a5 a6
                repeat (first | go_values | go_skip | go_guarded | go_step | go_upon | (simp only []))
                refine (HME.out _).mono ?_
                rintro e3 w3 ⟨rfl, hx3⟩
                have HX3 := Lib.hid (HX1.out.trans hx3)
                clear hx3
                by_cases a7 : z = meantS s
                · have f7 : (z == meantS s) = true := by rw [← a7]; simp
                  have HS : Hid (pickTo s j set (q + 1) = (j.most, z)) := Lib.hid (by rw [HSQ.out]; exact pickStep_more (K := j.most) HN1.out HP.out HK.out (.inr ⟨HA.out.2, a7⟩))
                  clear a7
                  repeat (first | go_values | go_skip | go_guarded | go_step | go_upon | (simp only []))
                  go_roundw
                  case rel => exact ⟨q + 1, z + 1, by first | rfl | rw [wz], by rw [HS.out], by rw [HS.out], by have := HZ.out; omega, HLT.out, HX3.out⟩
                  case measure => have := HLT.out; have := HZ.out; simp only [intOf]; first | omega | (rw [wz]; omega)
                · have f7 : (z == meantS s) = false := by simpa using a7
                  have HS : Hid (pickTo s j set (q + 1) = (bb, bv)) := Lib.hid (by rw [HSQ.out]; exact pickStep_less (K := j.most) HN1.out HP.out HK.out (fun h => h.elim HA.out.1 fun h => a7 h.2))
                  clear a7
                  repeat (first | go_values | go_skip | go_guarded | go_step | go_upon | (simp only []))
                  go_roundw
                  case rel => exact ⟨q + 1, z + 1, by first | rfl | rw [wz], by rw [HS.out], by rw [HS.out], by have := HZ.out; omega, HLT.out, HX3.out⟩
                  case measure => have := HLT.out; have := HZ.out; simp only [intOf]; first | omega | (rw [wz]; omega)
              · have f6 : (j.most == bb) = false := by simpa using a6
                have HS : Hid (pickTo s j set (q + 1) = (bb, bv)) := Lib.hid (by rw [HSQ.out]; exact pickStep_less (K := j.most) HN1.out HP.out HK.out (fun h => h.elim a5 fun h => a6 h.1))
                clear a5 a6
                repeat (first | go_values | go_skip | go_guarded | go_step | go_upon | (simp only []))
                go_roundw
                case rel => exact ⟨q + 1, z + 1, by first | rfl | rw [wz], by rw [HS.out], by rw [HS.out], by have := HZ.out; omega, HLT.out, HX1.out⟩
                case measure => have := HLT.out; have := HZ.out; simp only [intOf]; first | omega | (rw [wz]; omega)
          · have f4 : decide (j.most < (M : Int)) = false := decide_eq_false a4
            have HK := Lib.hid (show (M : Int) = if j.most < (M : Int) then j.most else (M : Int) by rw [if_neg a4])
            clear a4
            by_cases a5 : bb < (M : Int)
            · have f5 : decide (bb < (M : Int)) = true := decide_eq_true a5
              have HS : Hid (pickTo s j set (q + 1) = ((M : Int), z)) := Lib.hid (by rw [HSQ.out]; exact pickStep_more (K := (M : Int)) HN1.out HP.out HK.out (.inl a5))
              clear a5
              repeat (first | go_values | go_skip | go_guarded | go_step | go_upon | (simp only []))
              go_roundw
              case rel => exact ⟨q + 1, z + 1, by first | rfl | rw [wz], by rw [HS.out], by rw [HS.out], by have := HZ.out; omega, HLT.out, HX1.out⟩
              case measure => have := HLT.out; have := HZ.out; simp only [intOf]; first | omega | (rw [wz]; omega)
            · have f5 : decide (bb < (M : Int)) = false := decide_eq_false a5
              by_cases a6 : (M : Int) = bb
              · have f6 : ((M : Int) == bb) = true := by rw [a6]; simp
                have HA := Lib.hid (And.intro a5 a6)
                clear a5 a6
                repeat (first | go_values | go_skip | go_guarded | go_step | go_upon | (simp only []))
                refine (HME.out _).mono ?_
                rintro e3 w3 ⟨rfl, hx3⟩
                have HX3 := Lib.hid (HX1.out.trans hx3)
                clear hx3
                by_cases a7 : z = meantS s
                · have f7 : (z == meantS s) = true := by rw [← a7]; simp
                  have HS : Hid (pickTo s j set (q + 1) = ((M : Int), z)) := Lib.hid (by rw [HSQ.out]; exact pickStep_more (K := (M : Int)) HN1.out HP.out HK.out (.inr ⟨HA.out.2, a7⟩))
                  clear a7
                  repeat (first | go_values | go_skip | go_guarded | go_step | go_upon | (simp only []))
                  go_roundw
                  case rel => exact ⟨q + 1, z + 1, by first | rfl | rw [wz], by rw [HS.out], by rw [HS.out], by have := HZ.out; omega, HLT.out, HX3.out⟩
                  case measure => have := HLT.out; have := HZ.out; simp only [intOf]; first | omega | (rw [wz]; omega)
                · have f7 : (z == meantS s) = false := by simpa using a7
                  have HS : Hid (pickTo s j set (q + 1) = (bb, bv)) := Lib.hid (by rw [HSQ.out]; exact pickStep_less (K := (M : Int)) HN1.out HP.out HK.out (fun h => h.elim HA.out.1 fun h => a7 h.2))
                  clear a7
                  repeat (first | go_values | go_skip | go_guarded | go_step | go_upon | (simp only []))
                  go_roundw
                  case rel => exact ⟨q + 1, z + 1, by first | rfl | rw [wz], by rw [HS.out], by rw [HS.out], by have := HZ.out; omega, HLT.out, HX3.out⟩
                  case measure => have := HLT.out; have := HZ.out; simp only [intOf]; first | omega | (rw [wz]; omega)
              · have f6 : ((M : Int) == bb) = false := by simpa using a6
                have HS : Hid (pickTo s j set (q + 1) = (bb, bv)) := Lib.hid (by rw [HSQ.out]; exact pickStep_less (K := (M : Int)) HN1.out HP.out HK.out (fun h => h.elim a5 fun h => a6 h.1))
                clear a5 a6
                repeat (first | go_values | go_skip | go_guarded | go_step | go_upon | (simp only []))
                go_roundw
                case rel => exact ⟨q + 1, z + 1, by first | rfl | rw [wz], by rw [HS.out], by rw [HS.out], by have := HZ.out; omega, HLT.out, HX1.out⟩
                case measure => have := HLT.out; have := HZ.out; simp only [intOf]; first | omega | (rw [wz]; omega)
    · have d1 : decide (z ≤ 9) = false := decide_eq_false (by omega)
      have HBE : Hid (pickTo s j set 9 = (bb, bv)) := Lib.hid (by rw [HBP.out, show q = 9 by omega])
      clear HSQ HBP HZ hz hlt hq
      by_cases a1 : bb < 0
      · have f1 : decide (bb < 0) = true := decide_eq_true a1
        have HE : Hid (PK = (0, false)) := Lib.hid (by rw [HPK.out, HBE.out, if_pos a1])
        clear a1
        go_wp2
        go_ret2
        exact ⟨by rw [HE.out]; rfl, HXW.out⟩
      · have f1 : decide (bb < 0) = false := decide_eq_false a1
        have HE : Hid (PK = ((lowN (ofN s set bv : Int) j.most 6 : Int), true)) := Lib.hid (by rw [HPK.out, HBE.out, if_neg a1])
        have HOC := Lib.hid (HOF.out bv wr HXW.out)
        clear a1
        obtain ⟨D, hD⟩ : ∃ D, D = ofN s set bv := ⟨_, rfl⟩
        rw [← hD] at HE HOC
        clear hD
        go_wp2_with fail
        refine HOC.out.mono ?_
        rintro e1 w1 ⟨rfl, hx1⟩
        have HX1 := Lib.hid (HXW.out.trans hx1)
        have HCB := Lib.hid (HC2.out.ext hx1)
        clear hx1 g0 g1 g2 g3 g4 g5 HOC
        go_wp2_with fail
        obtain ⟨wo, rfl⟩ : ∃ wo : World, wo = w1 := ⟨_, rfl⟩
        go_loopw [13, 14, 15] (fun o b i wr => ∃ q B : Nat, i = .int .i64 q ∧ o = .int .i64 (lowN (D : Int) j.most q : Int) ∧ b = .int .i64 (B : Int) ∧ B = 2 ^ q ∧ q ≤ 6 ∧ Ext wo wr) (fun _ _ i _ => 6 - (intOf i).toNat)
        case atStart => exact ⟨0, 1, rfl, rfl, rfl, rfl, Nat.zero_le _, Ext.refl _⟩
        case round =>
          obtain ⟨q, B, rfl, rfl, rfl, hB, hq, hxr⟩ := hrel
          have HXQ := Lib.hid hxr
          have HXE := Lib.hid (HX1.out.trans hxr)
          have j3 := (HCB.out.ext hxr).cell 3
          have hset := lowN_lt (D : Int) j.most q
          have HSL : Hid (lowN (D : Int) j.most (q + 1) = lowN (D : Int) j.most q + (if (hasS (D : Int) q && decide ((manyS (lowN (D : Int) j.most q : Int) : Int) < j.most)) = true then 2 ^ q else 0)) := Lib.hid rfl
          generalize hP : lowN (D : Int) j.most q = P at *
          have HP := Lib.hid hP
          clear hxr hP
          by_cases hlt : q < 6
          · have d2 : decide ((q : Int) < 6) = true := decide_eq_true (by omega)
            have hp2 := two_pows hlt
            have HB2 : Hid (2 ^ (q + 1) = B * 2) := Lib.hid (by rw [hp2.2, ← hB])
            have HLT := Lib.hid hlt
            have wq : wrap64 ((q : Int) + 1) = (q : Int) + 1 := IntWalk.wrap64_in _ (by omega)
            have wb : wrap64 ((B : Int) * 2) = ((B * 2 : Nat) : Int) := IntWalk.wrap64_in _ (by omega)
            have wp : wrap64 ((P : Int) + (B : Int)) = ((P + B : Nat) : Int) := IntWalk.wrap64_in _ (by omega)
            have HBQ := Lib.hid hB
            have hq64 : q < 64 := by omega
            have HHS := Lib.hid (fun W => RefHas_any (D : Int) q hq64 W)
            have HMC := Lib.hid (HMA.out (P : Int))
            obtain ⟨M, hM⟩ : ∃ M, M = manyS (P : Int) := ⟨_, rfl⟩
            rw [← hM] at HSL HMC
            clear hM hset hp2 hB hq64
            cases hh : hasS (D : Int) q
            · have HS : Hid (lowN (D : Int) j.most (q + 1) = P) := Lib.hid (by rw [HSL.out]; simp [hh])
              have HHT : Hid (∀ W, Calls Try.prog 27 #[.int .i64 (D : Int), .int .i64 (q : Int)] W fun e w' => e = .returned (.bool false) ∧ W = w') := Lib.hid (fun W => by have h9 := HHS.out W; rw [hh] at h9; exact h9)
              clear HHS hh
              go_wp2_with fail
              go_quiet (first | (go_at_call 27; exact quiet_eq (HHT.out _)) | (go_at_call 47; exact quiet_eq (HMC.out _)))
              repeat (first | go_values | go_skip | go_guarded | go_step | go_upon | (simp only []))
              go_roundw
              case rel => exact ⟨q + 1, B * 2, by first | rfl | rw [wq]; rfl, by rw [HS.out], by first | rfl | rw [wb], HB2.out.symm, HLT.out, Below.drewN' HXQ.out _⟩
              case measure => have := HLT.out; simp only [intOf]; first | omega | (rw [wq]; omega)
            · have HHT : Hid (∀ W, Calls Try.prog 27 #[.int .i64 (D : Int), .int .i64 (q : Int)] W fun e w' => e = .returned (.bool true) ∧ W = w') := Lib.hid (fun W => by have h9 := HHS.out W; rw [hh] at h9; exact h9)
              by_cases a1 : (M : Int) < j.most
              · have f2 : decide ((M : Int) < j.most) = true := decide_eq_true a1
                have HS : Hid (lowN (D : Int) j.most (q + 1) = P + B) := Lib.hid (by rw [HSL.out]; simp [hh, a1]; exact HBQ.out.symm)
                clear HHS hh a1
                go_wp2_with fail
                go_quiet (first | (go_at_call 27; exact quiet_eq (HHT.out _)) | (go_at_call 47; exact quiet_eq (HMC.out _)))
                repeat (first | go_values | go_skip | go_guarded | go_step | go_upon | (simp only []))
                go_roundw
                case rel => exact ⟨q + 1, B * 2, by first | rfl | rw [wq]; rfl, by rw [HS.out]; first | rfl | rw [wp], by first | rfl | rw [wb], HB2.out.symm, HLT.out, Below.drewN' HXQ.out _⟩
                case measure => have := HLT.out; simp only [intOf]; first | omega | (rw [wq]; omega)
              · have f2 : decide ((M : Int) < j.most) = false := decide_eq_false a1
                have HS : Hid (lowN (D : Int) j.most (q + 1) = P) := Lib.hid (by rw [HSL.out]; simp [hh, a1])
                clear HHS hh a1
                go_wp2_with fail
                go_quiet (first | (go_at_call 27; exact quiet_eq (HHT.out _)) | (go_at_call 47; exact quiet_eq (HMC.out _)))
                repeat (first | go_values | go_skip | go_guarded | go_step | go_upon | (simp only []))
                go_roundw
                case rel => exact ⟨q + 1, B * 2, by first | rfl | rw [wq]; rfl, by rw [HS.out], by first | rfl | rw [wb], HB2.out.symm, HLT.out, Below.drewN' HXQ.out _⟩
                case measure => have := HLT.out; simp only [intOf]; first | omega | (rw [wq]; omega)
          · have d2 : decide ((q : Int) < 6) = false := decide_eq_false (by omega)
            have HEE : Hid (PK = ((P : Int), true)) := Lib.hid (by rw [HE.out, ← HP.out, show q = 6 by omega])
            go_wp2
            go_ret2
            exact ⟨by rw [HEE.out]; rfl, HXE.out⟩

end Go.Proofs.Ytgjidkhfnnghiaa

/- The reference of layer 15: the nodes for a queued job now. -/
namespace Go.Proofs.Ytgjidkhfnnghiaa
open Go.RowKit

set_option maxRecDepth 100000 in
set_option maxHeartbeats 8000000 in
theorem RefNow_any (vn vj : Value) (s : St) (job : Int) (w : World) (hrn : RdNd w vn s.nodes) (hr : RdJb w vj s.jobs) (hN : s.nodes.length ≤ 6) (hJ : s.jobs.length ≤ 1000) :
    Calls Try.prog 29 #[stV vn vj s, .int .i64 job] w fun e w' => e = .returned (.tuple #[.int .i64 (nowS s job).1, .bool (nowS s job).2]) ∧ Ext w w' := by
  have HRN := Lib.hid hrn
  obtain ⟨hx, hb⟩ := boxSt vn vj s w 27
  have HOP : Hid (∀ W, Ext w W → Calls Try.prog 50 #[stV vn vj s] W fun e w' => e = .returned (.int .i64 (openN s : Int)) ∧ Ext W w') := Lib.hid fun W hW => RefOpen_any vn vj s W (HRN.out.ext hW) hN
  have HPI : Hid (∀ x set W, Ext w W → Calls Try.prog 28 #[stV vn vj s, jbV x, .int .i64 set] W fun e w' => e = .returned (.tuple #[.int .i64 (pickS s x set).1, .bool (pickS s x set).2]) ∧ Ext W w') := Lib.hid fun x set W hW => RefPick_any vn vj s x set W (HRN.out.ext hW) hN
  unfold stV at HOP HPI
  unfold jbV at HPI
  unfold stV
  unfold stC at hx hb
  obtain ⟨A, c, rfl, hnc, hcm, hcell⟩ := jobs_cells hr
  have HC := Lib.hid hcell
  have h1 := hb.cell 1
  obtain ⟨PK, hPK⟩ : ∃ z, z = nowS s job := ⟨_, rfl⟩
  rw [← hPK]
  have HP := Lib.hid hPK
  have HX := Lib.hid hx
  have HB := Lib.hid hb
  clear hx hb hr hcell hPK hrn HRN
  by_cases j1 : job < 1
  · have HZ : Hid (PK = (0, false)) := Lib.hid (by rw [HP.out]; exact nowS_none (.inl j1))
    have d1 : decide (job < 1) = true := decide_eq_true j1
    clear j1
    go_enter Try.func29, Try.ntmps29
    go_wp2
    go_ret2
    exact ⟨by rw [HZ.out]; rfl, HX.out⟩
  · have d1 : decide (job < 1) = false := decide_eq_false j1
    by_cases j2 : (s.jobs.length : Int) < job
    · have HZ : Hid (PK = (0, false)) := Lib.hid (by rw [HP.out]; exact nowS_none (.inr j2))
      have d2 : decide ((s.jobs.length : Int) < job) = true := decide_eq_true j2
      clear j1 j2
      go_enter Try.func29, Try.ntmps29
      go_wp2
      go_ret2
      exact ⟨by rw [HZ.out]; rfl, HX.out⟩
    · have d2 : decide ((s.jobs.length : Int) < job) = false := decide_eq_false j2
      obtain ⟨i, hi⟩ : ∃ i : Nat, job = (i : Int) + 1 := ⟨(job - 1).toNat, by omega⟩
      have hil : i < s.jobs.length := by omega
      obtain ⟨x, hxi⟩ : ∃ x, s.jobs[i]? = some x := ⟨_, List.getElem?_eq_getElem hil⟩
      obtain ⟨b, o, rfl, hlt, hat⟩ := HC.out i x hxi
      have q6 := (hat.ext HX.out hlt).c6
      have wp : wrap64 (job - 1) = (i : Int) := by rw [IntWalk.wrap64_in _ (by omega)]; omega
      have d5 : decide (i < s.jobs.length) = true := decide_eq_true hil
      by_cases hph : x.phase = 0
      · have HZ : Hid (PK = pickS s x (openN s : Int)) := Lib.hid (by rw [HP.out, nowS_at hi hxi, if_pos hph])
        have e6 : (x.phase != 0) = false := by rw [hph]; rfl
        have HAT := Lib.hid hat
        have HLT := Lib.hid hlt
        have HOC := Lib.hid (fun W hW => HOP.out W hW)
        have HPC := Lib.hid (fun W hW => HPI.out x (openN s : Int) W hW)
        clear hph j1 j2 hi hxi hat hlt HOP HPI HC
        go_enter Try.func29, Try.ntmps29
        go_upto_region 3 with (fail)
        have wp2 : IntKind.i64.wrap (job - 1) = (i : Int) := (IntWalk.i64_left _).trans wp
        have d6 : (i : Int) < (s.jobs.length : Int) := by omega
        have d7 : (0 : Int) ≤ (i : Int) := by omega
        clear q6 h1
        obtain ⟨W0, hW0⟩ : ∃ W0, W0 = (w.alloc (.cells #[vn, .slice (some ⟨b, o, none⟩) s.jobs.length c, .int .i64 s.goal, .int .i64 s.prior, .int .i64 s.mode, .int .i64 s.term] 27)) := ⟨_, rfl⟩
        rw [← hW0] at HX HB ⊢
        clear hW0
        refine held_begin (by kernel_rfl) ?_
        refine held_more (S' := fun W' : World => Ext W0 W') (fun _ _ => True.intro) ?_
        have hSx : (fun W' : World => Ext W0 W') W0.drew := Below.drewN' (Ext.refl W0) 1
        refine held_take (i := 0) (v := ?_) rfl (by kernel_rfl) (by kernel_rfl) (by kernel_rfl) (by rfl) (by first | assumption | exact True.intro) ?_ ?_
        rotate_left
        · (intro W hSw; obtain ⟨g0, g1, g2, g3, g4, g5⟩ := Blk.six (HB.out.ext hSw); have q := HAT.out.ext (HX.out.trans hSw) HLT.out; obtain ⟨q0, q1, q2, q3, q4, q5, q6, q7, q8, q9, q10, q11⟩ := q; go_simp; (try with_reducible rfl))
        try simp only [Act.put, List.setIfInBounds_toArray, List.set_cons_zero, List.set_cons_succ]
        refine held_take (i := 1) (v := ?_) rfl (by kernel_rfl) (by kernel_rfl) (by kernel_rfl) (by rfl) (by first | assumption | exact True.intro) ?_ ?_
        rotate_left
        · (intro W hSw; obtain ⟨g0, g1, g2, g3, g4, g5⟩ := Blk.six (HB.out.ext hSw); have q := HAT.out.ext (HX.out.trans hSw) HLT.out; obtain ⟨q0, q1, q2, q3, q4, q5, q6, q7, q8, q9, q10, q11⟩ := q; go_simp; (try with_reducible rfl))
        try simp only [Act.put, List.setIfInBounds_toArray, List.set_cons_zero, List.set_cons_succ]
        refine held_take (i := 2) (v := ?_) rfl (by kernel_rfl) (by kernel_rfl) (by kernel_rfl) (by rfl) (by first | assumption | exact True.intro) ?_ ?_
        rotate_left
        · (intro W hSw; obtain ⟨g0, g1, g2, g3, g4, g5⟩ := Blk.six (HB.out.ext hSw); have q := HAT.out.ext (HX.out.trans hSw) HLT.out; obtain ⟨q0, q1, q2, q3, q4, q5, q6, q7, q8, q9, q10, q11⟩ := q; go_simp; (try with_reducible rfl))
        try simp only [Act.put, List.setIfInBounds_toArray, List.set_cons_zero, List.set_cons_succ]
        refine held_take (i := 3) (v := ?_) rfl (by kernel_rfl) (by kernel_rfl) (by kernel_rfl) (by rfl) (by first | assumption | exact True.intro) ?_ ?_
        rotate_left
        · (intro W hSw; obtain ⟨g0, g1, g2, g3, g4, g5⟩ := Blk.six (HB.out.ext hSw); have q := HAT.out.ext (HX.out.trans hSw) HLT.out; obtain ⟨q0, q1, q2, q3, q4, q5, q6, q7, q8, q9, q10, q11⟩ := q; go_simp; (try with_reducible rfl))
        try simp only [Act.put, List.setIfInBounds_toArray, List.set_cons_zero, List.set_cons_succ]
        refine held_take (i := 4) (v := ?_) rfl (by kernel_rfl) (by kernel_rfl) (by kernel_rfl) (by rfl) (by first | assumption | exact True.intro) ?_ ?_
        rotate_left
        · (intro W hSw; obtain ⟨g0, g1, g2, g3, g4, g5⟩ := Blk.six (HB.out.ext hSw); have q := HAT.out.ext (HX.out.trans hSw) HLT.out; obtain ⟨q0, q1, q2, q3, q4, q5, q6, q7, q8, q9, q10, q11⟩ := q; go_simp; (try with_reducible rfl))
        try simp only [Act.put, List.setIfInBounds_toArray, List.set_cons_zero, List.set_cons_succ]
        refine held_take (i := 5) (v := ?_) rfl (by kernel_rfl) (by kernel_rfl) (by kernel_rfl) (by rfl) (by first | assumption | exact True.intro) ?_ ?_
        rotate_left
        · (intro W hSw; obtain ⟨g0, g1, g2, g3, g4, g5⟩ := Blk.six (HB.out.ext hSw); have q := HAT.out.ext (HX.out.trans hSw) HLT.out; obtain ⟨q0, q1, q2, q3, q4, q5, q6, q7, q8, q9, q10, q11⟩ := q; go_simp; (try with_reducible rfl))
        try simp only [Act.put, List.setIfInBounds_toArray, List.set_cons_zero, List.set_cons_succ]
        refine held_take (i := 6) (v := ?_) rfl (by kernel_rfl) (by kernel_rfl) (by kernel_rfl) (by rfl) (by first | assumption | exact True.intro) ?_ ?_
        rotate_left
        · (intro W hSw; obtain ⟨g0, g1, g2, g3, g4, g5⟩ := Blk.six (HB.out.ext hSw); have q := HAT.out.ext (HX.out.trans hSw) HLT.out; obtain ⟨q0, q1, q2, q3, q4, q5, q6, q7, q8, q9, q10, q11⟩ := q; go_simp; (try with_reducible rfl))
        try simp only [Act.put, List.setIfInBounds_toArray, List.set_cons_zero, List.set_cons_succ]
        refine held_take (i := 7) (v := ?_) rfl (by kernel_rfl) (by kernel_rfl) (by kernel_rfl) (by rfl) (by first | assumption | exact True.intro) ?_ ?_
        rotate_left
        · (intro W hSw; obtain ⟨g0, g1, g2, g3, g4, g5⟩ := Blk.six (HB.out.ext hSw); have q := HAT.out.ext (HX.out.trans hSw) HLT.out; obtain ⟨q0, q1, q2, q3, q4, q5, q6, q7, q8, q9, q10, q11⟩ := q; go_simp; (try with_reducible rfl))
        try simp only [Act.put, List.setIfInBounds_toArray, List.set_cons_zero, List.set_cons_succ]
        clear hSx
        refine held_op (i := 8) (by kernel_rfl) rfl (fun K hK => ?_)
        go_simp
        go_at_call 50
        refine (HOC.out _ (HX.out.trans (Below.drewN' (Ext.refl W0) 1))).mono ?_
        rintro e3 w3 ⟨rfl, hx3⟩
        have HX3 : Hid (Ext W0 w3) := Lib.hid (Ext.trans (Below.drewN' (Ext.refl W0) 1) hx3)
        clear hx3
        refine hK _ _ (HX3.out) (fun hSx => ?_)
        clear hK K
        try simp only [Act.put, List.setIfInBounds_toArray, List.set_cons_zero, List.set_cons_succ]
        clear hSx
        refine held_op (i := 9) (by kernel_rfl) rfl (fun K hK => ?_)
        go_simp
        go_at_call 28
        refine (HPC.out _ (HX.out.trans HX3.out)).mono ?_
        rintro e4 w4 ⟨rfl, hx4⟩
        have HX4 : Hid (Ext W0 w4) := Lib.hid (Ext.trans HX3.out hx4)
        clear hx4
        refine hK _ _ (HX4.out) (fun hSx => ?_)
        clear hK K
        try simp only [Act.put, List.setIfInBounds_toArray, List.set_cons_zero, List.set_cons_succ]
        refine held_take (i := 10) (v := ?_) rfl (by kernel_rfl) (by kernel_rfl) (by kernel_rfl) (by rfl) (by first | assumption | exact True.intro) ?_ ?_
        rotate_left
        · (intro W hSw; go_simp; (try with_reducible rfl))
        try simp only [Act.put, List.setIfInBounds_toArray, List.set_cons_zero, List.set_cons_succ]
        refine held_take (i := 11) (v := ?_) rfl (by kernel_rfl) (by kernel_rfl) (by kernel_rfl) (by rfl) (by first | assumption | exact True.intro) ?_ ?_
        rotate_left
        · (intro W hSw; go_simp; (try with_reducible rfl))
        try simp only [Act.put, List.setIfInBounds_toArray, List.set_cons_zero, List.set_cons_succ]
        refine held_take (i := 12) (v := ?_) rfl (by kernel_rfl) (by kernel_rfl) (by kernel_rfl) (by rfl) (by first | assumption | exact True.intro) ?_ ?_
        rotate_left
        · (intro W hSw; go_simp; (try with_reducible rfl))
        try simp only [Act.put, List.setIfInBounds_toArray, List.set_cons_zero, List.set_cons_succ]
        refine held_take (i := 13) (v := ?_) rfl (by kernel_rfl) (by kernel_rfl) (by kernel_rfl) (by rfl) (by first | assumption | exact True.intro) ?_ ?_
        rotate_left
        · (intro W hSw; go_simp; (try with_reducible rfl))
        try simp only [Act.put, List.setIfInBounds_toArray, List.set_cons_zero, List.set_cons_succ]
        clear hSx
        refine wpAnyH_done (by kernel_rfl) ?_ _
        refine NoPanic.normal ?_
        go_wp2
        go_ret2
        exact ⟨by rw [HZ.out]; rfl, HX.out.trans HX4.out⟩
      · have HZ : Hid (PK = (0, false)) := Lib.hid (by rw [HP.out, nowS_at hi hxi, if_neg hph])
        have e6 : (x.phase != 0) = true := by simp only [bne_iff_ne, ne_eq]; exact hph
        clear hph j1 j2
        go_enter Try.func29, Try.ntmps29
        go_wp2
        go_ret2
        exact ⟨by rw [HZ.out]; rfl, HX.out⟩

end Go.Proofs.Ytgjidkhfnnghiaa

/- The reference of layer 16: a job's reservation. -/
namespace Go.Proofs.Ytgjidkhfnnghiaa
open Go.RowKit

set_option maxRecDepth 100000 in
set_option maxHeartbeats 16000000 in
theorem RefReserve_any (vn vj : Value) (s : St) (job now : Int) (w : World) (hrn : RdNd w vn s.nodes) (hr : RdJb w vj s.jobs) (hS : OkS s) (hn0 : 0 ≤ now) (hn1 : now ≤ 1000000) :
    Calls Try.prog 24 #[stV vn vj s, .int .i64 job, .int .i64 now] w fun e w' => e = .returned (.tuple #[.int .i64 (reserveS s job now).t, .int .i64 (reserveS s job now).n, .bool (reserveS s job now).ok]) ∧ Ext w w' := by
  have HRN := Lib.hid hrn
  have HRJ := Lib.hid hr
  obtain ⟨hx, hb⟩ := boxSt vn vj s w 27
  have HEN : Hid (∀ k W, Ext w W → Calls Try.prog 45 #[stV vn vj s, .int .i64 k, .int .i64 now] W fun e w' => e = .returned (.int .i64 (endS s k now)) ∧ Ext W w') := Lib.hid fun k W hW => RefEnd_any vn vj s k now W (HRJ.out.ext hW) hS.nj hS.jobs hn0 hn1
  have HAN : Hid (∀ time W, Ext w W → Calls Try.prog 46 #[stV vn vj s, .int .i64 now, .int .i64 time] W fun e w' => e = .returned (.int .i64 (atN s now time : Int)) ∧ Ext W w') := Lib.hid fun time W hW => RefAt_any vn vj s now time W (HRN.out.ext hW) (HRJ.out.ext hW) hS hn0 hn1
  have HPI : Hid (∀ x set W, Ext w W → Calls Try.prog 28 #[stV vn vj s, jbV x, .int .i64 set] W fun e w' => e = .returned (.tuple #[.int .i64 (pickS s x set).1, .bool (pickS s x set).2]) ∧ Ext W w') := Lib.hid fun x set W hW => RefPick_any vn vj s x set W (HRN.out.ext hW) hS.nn
  have hJ := hS.nj
  unfold stV at HEN HAN HPI
  unfold jbV at HPI
  unfold stV
  unfold stC at hx hb
  obtain ⟨A, c, rfl, hnc, hcm, hcell⟩ := jobs_cells hr
  have HC := Lib.hid hcell
  have h1 := hb.cell 1
  obtain ⟨PK, hPK⟩ : ∃ z, z = reserveS s job now := ⟨_, rfl⟩
  rw [← hPK]
  have HP := Lib.hid hPK
  have HX := Lib.hid hx
  have HB := Lib.hid hb
  clear hx hb hr hcell hPK hrn HRN HRJ
  by_cases j1 : job < 1
  · have HZ : Hid (PK = ⟨0, 0, false⟩) := Lib.hid (by rw [HP.out]; exact reserveS_none (.inl j1))
    have d1 : decide (job < 1) = true := decide_eq_true j1
    clear j1
    go_enter Try.func24, Try.ntmps24
    go_wp2
    go_ret3
    exact ⟨by rw [HZ.out]; rfl, HX.out⟩
  · have d1 : decide (job < 1) = false := decide_eq_false j1
    by_cases j2 : (s.jobs.length : Int) < job
    · have HZ : Hid (PK = ⟨0, 0, false⟩) := Lib.hid (by rw [HP.out]; exact reserveS_none (.inr j2))
      have d2 : decide ((s.jobs.length : Int) < job) = true := decide_eq_true j2
      clear j1 j2
      go_enter Try.func24, Try.ntmps24
      go_wp2
      go_ret3
      exact ⟨by rw [HZ.out]; rfl, HX.out⟩
    · have d2 : decide ((s.jobs.length : Int) < job) = false := decide_eq_false j2
      obtain ⟨i, hi⟩ : ∃ i : Nat, job = (i : Int) + 1 := ⟨(job - 1).toNat, by omega⟩
      have hil : i < s.jobs.length := by omega
      obtain ⟨x, hxi⟩ : ∃ x, s.jobs[i]? = some x := ⟨_, List.getElem?_eq_getElem hil⟩
      obtain ⟨b, o, rfl, hlt, hat⟩ := HC.out i x hxi
      have q6 := (hat.ext HX.out hlt).c6
      have wp : wrap64 (job - 1) = (i : Int) := by rw [IntWalk.wrap64_in _ (by omega)]; omega
      have d5 : decide (i < s.jobs.length) = true := decide_eq_true hil
      by_cases hph : x.phase = 0
      · have HZ : Hid (PK = resTo s x now (s.jobs.length + 1)) := Lib.hid (by rw [HP.out, reserveS_at hi hxi, if_pos hph])
        have HST : Hid (∀ q, resTo s x now (q + 1) = resStep s x now (resTo s x now q) (timeK s now q)) := Lib.hid fun q => rfl
        have e6 : (x.phase != 0) = false := by rw [hph]; rfl
        have HAT := Lib.hid hat
        have HLT := Lib.hid hlt
        have HIL := Lib.hid hil
        have HWP := Lib.hid wp
        have HPC := Lib.hid (fun set W hW => HPI.out x set W hW)
        clear hph j1 j2 hi hxi hat hlt HPI HC
        go_enter Try.func24, Try.ntmps24
        go_wp2_with fail
        obtain ⟨W0, hW0⟩ : ∃ W0, W0 = w.alloc (.cells #[vn, .slice (some ⟨b, o, none⟩) s.jobs.length c, .int .i64 s.goal, .int .i64 s.prior, .int .i64 s.mode, .int .i64 s.term] 27) := ⟨_, rfl⟩
        rw [← hW0] at HX HB ⊢
        clear hW0 q6 h1 wp d1 d2 d5 e6 hil
        go_loopw [9, 10, 11, 12] (fun t n ok k wr => ∃ (q : Nat), k = .int .i64 (q : Int) ∧ t = .int .i64 (resTo s x now q).t ∧ n = .int .i64 (resTo s x now q).n ∧ ok = .bool (resTo s x now q).ok ∧ q ≤ s.jobs.length + 1 ∧ Ext W0 wr) (fun _ _ _ k _ => s.jobs.length + 1 - (intOf k).toNat)
        case atStart => exact ⟨0, rfl, rfl, rfl, rfl, Nat.zero_le _, Ext.refl _⟩
        case round =>
          obtain ⟨q, rfl, rfl, rfl, rfl, hq, hxr⟩ := hrel
          have HXR : Hid (Ext W0 wr) := Lib.hid hxr
          have HXW := Lib.hid (Ext.trans HX.out hxr)
          have HBR := Lib.hid (HB.out.ext hxr)
          obtain ⟨g0, g1, g2, g3, g4, g5⟩ := Blk.six HBR.out
          have HSQ := Lib.hid (HST.out q)
          obtain ⟨⟨bt, bn, bok⟩, hbp⟩ : ∃ p, p = resTo s x now q := ⟨_, rfl⟩
          rw [← hbp] at HSQ ⊢
          have HBP := Lib.hid hbp
          clear hxr hbp
          by_cases hlt : q ≤ s.jobs.length
          · have d1 : decide ((q : Int) ≤ (s.jobs.length : Int)) = true := decide_eq_true (by omega)
            have d1n : decide (q ≤ s.jobs.length) = true := decide_eq_true hlt
            have wq : wrap64 ((q : Int) + 1) = (q : Int) + 1 := IntWalk.wrap64_in _ (by omega)
            have HLQ : Hid (q + 1 ≤ s.jobs.length + 1) := Lib.hid (by omega)
            go_upto_if 44 with (fail)
            clear d1 d1n
            go_cut [13] (fun t wx => ∃ T : Int, t = .int .i64 T ∧ T = timeK s now q ∧ Hid (Ext wr wx))
            case first =>
              by_cases hq0 : q = 0
              · have HT : Hid (timeK s now q = now) := Lib.hid (if_pos hq0)
                have f0 : decide ((0 : Int) < (q : Int)) = false := decide_eq_false (by omega)
                have f0n : decide (0 < q) = false := decide_eq_false (by omega)
                clear hq0 hlt hq
                first | rw [f0] | rw [f0n]
                go_wp2_with fail
                go_meet
                exact ⟨now, rfl, HT.out.symm, Lib.hid (Ext.refl _)⟩
              · have HT : Hid (timeK s now q = endS s (q : Int) now) := Lib.hid (if_neg hq0)
                have f0 : decide ((0 : Int) < (q : Int)) = true := decide_eq_true (by omega)
                have f0n : decide (0 < q) = true := decide_eq_true (by omega)
                have HEC := Lib.hid (HEN.out (q : Int) wr HXW.out)
                obtain ⟨E, hE⟩ : ∃ E, E = endS s (q : Int) now := ⟨_, rfl⟩
                rw [← hE] at HEC HT
                clear hE hq0 hlt hq
                first | rw [f0] | rw [f0n]
                go_wp2_with fail
                refine HEC.out.mono ?_
                rintro e1 w1 ⟨rfl, hx1⟩
                have HX1 := Lib.hid hx1
                clear hx1
                repeat (first | go_values | go_skip | go_guarded | go_step | go_upon | (simp only []))
                go_meet
                exact ⟨E, rfl, HT.out.symm, HX1⟩
            case rest =>
              obtain ⟨T, rfl, hT, HXC⟩ := hcut
              rw [← hT] at HSQ
              have HXT : Hid (Ext w wc) := Lib.hid (Ext.trans HXW.out HXC.out)
              have HBT := Lib.hid (HBR.out.ext HXC.out)
              have HXA : Hid (Ext W0 wc) := Lib.hid (Ext.trans HXR.out HXC.out)
              clear hT HXC g0 g1 g2 g3 g4 g5 hlt hq
              obtain ⟨WT, rfl⟩ : ∃ W, W = wc := ⟨_, rfl⟩
              obtain ⟨sk, hsk⟩ : ∃ z, z = (decide (T < 0) || (bok && decide (bt ≤ T))) := ⟨_, rfl⟩
              go_upto_region 10 with (fail)
              go_cut [58] (fun c wx => c = .bool sk ∧ wx = WT)
              case first =>
                by_cases a1 : T < 0
                · have f1 : decide (T < 0) = true := decide_eq_true a1
                  have HS : Hid (sk = true) := Lib.hid (by rw [hsk]; simp [a1])
                  clear hsk a1
                  go_wp2_with fail
                  go_meet
                  exact ⟨by rw [HS.out], rfl⟩
                · have f1 : decide (T < 0) = false := decide_eq_false a1
                  cases bok
                  · have HS : Hid (sk = false) := Lib.hid (by rw [hsk]; simp [a1])
                    clear hsk a1
                    go_wp2_with fail
                    go_meet
                    exact ⟨by rw [HS.out], rfl⟩
                  · by_cases a2 : bt ≤ T
                    · have f2 : decide (bt ≤ T) = true := decide_eq_true a2
                      have HS : Hid (sk = true) := Lib.hid (by rw [hsk]; simp [a1, a2])
                      clear hsk a1 a2
                      go_wp2_with fail
                      go_meet
                      exact ⟨by rw [HS.out], rfl⟩
                    · have f2 : decide (bt ≤ T) = false := decide_eq_false a2
                      have HS : Hid (sk = false) := Lib.hid (by rw [hsk]; simp [a1, a2])
                      clear hsk a1 a2
                      go_wp2_with fail
                      go_meet
                      exact ⟨by rw [HS.out], rfl⟩
              case rest =>
                obtain ⟨rfl, hw⟩ := hcut
                rw [hw]
                clear hw
                cases sk
                · have HSK := Lib.hid hsk.symm
                  clear hsk
                  have d6 : (i : Int) < (s.jobs.length : Int) := by have := HIL.out; omega
                  have d7 : (0 : Int) ≤ (i : Int) := by omega
                  have wp2 : IntKind.i64.wrap (job - 1) = (i : Int) := (IntWalk.i64_left _).trans HWP.out
                  go_upto_region 11 with (fail)
                  refine held_begin (by kernel_rfl) ?_
                  refine held_more (S' := fun W' : World => Ext WT W') (fun _ _ => True.intro) ?_
                  have hSx : (fun W' : World => Ext WT W') WT.drew := Below.drewN' (Ext.refl WT) 1
                  refine held_take (i := 0) (v := ?_) rfl (by kernel_rfl) (by kernel_rfl) (by kernel_rfl) (by rfl) (by first | assumption | exact True.intro) ?_ ?_
                  rotate_left
                  · (intro W hSw; obtain ⟨g0, g1, g2, g3, g4, g5⟩ := Blk.six (HBT.out.ext hSw); obtain ⟨q0, q1, q2, q3, q4, q5, q6, q7, q8, q9, q10, q11⟩ := HAT.out.ext (Ext.trans HXT.out hSw) HLT.out; go_simp; (try with_reducible rfl))
                  try simp only [Act.put, List.setIfInBounds_toArray, List.set_cons_zero, List.set_cons_succ]
                  refine held_take (i := 1) (v := ?_) rfl (by kernel_rfl) (by kernel_rfl) (by kernel_rfl) (by rfl) (by first | assumption | exact True.intro) ?_ ?_
                  rotate_left
                  · (intro W hSw; obtain ⟨g0, g1, g2, g3, g4, g5⟩ := Blk.six (HBT.out.ext hSw); obtain ⟨q0, q1, q2, q3, q4, q5, q6, q7, q8, q9, q10, q11⟩ := HAT.out.ext (Ext.trans HXT.out hSw) HLT.out; go_simp; (try with_reducible rfl))
                  try simp only [Act.put, List.setIfInBounds_toArray, List.set_cons_zero, List.set_cons_succ]
                  refine held_take (i := 2) (v := ?_) rfl (by kernel_rfl) (by kernel_rfl) (by kernel_rfl) (by rfl) (by first | assumption | exact True.intro) ?_ ?_
                  rotate_left
                  · (intro W hSw; obtain ⟨g0, g1, g2, g3, g4, g5⟩ := Blk.six (HBT.out.ext hSw); obtain ⟨q0, q1, q2, q3, q4, q5, q6, q7, q8, q9, q10, q11⟩ := HAT.out.ext (Ext.trans HXT.out hSw) HLT.out; go_simp; (try with_reducible rfl))
                  try simp only [Act.put, List.setIfInBounds_toArray, List.set_cons_zero, List.set_cons_succ]
                  refine held_take (i := 3) (v := ?_) rfl (by kernel_rfl) (by kernel_rfl) (by kernel_rfl) (by rfl) (by first | assumption | exact True.intro) ?_ ?_
                  rotate_left
                  · (intro W hSw; obtain ⟨g0, g1, g2, g3, g4, g5⟩ := Blk.six (HBT.out.ext hSw); obtain ⟨q0, q1, q2, q3, q4, q5, q6, q7, q8, q9, q10, q11⟩ := HAT.out.ext (Ext.trans HXT.out hSw) HLT.out; go_simp; (try with_reducible rfl))
                  try simp only [Act.put, List.setIfInBounds_toArray, List.set_cons_zero, List.set_cons_succ]
                  refine held_take (i := 4) (v := ?_) rfl (by kernel_rfl) (by kernel_rfl) (by kernel_rfl) (by rfl) (by first | assumption | exact True.intro) ?_ ?_
                  rotate_left
                  · (intro W hSw; obtain ⟨g0, g1, g2, g3, g4, g5⟩ := Blk.six (HBT.out.ext hSw); obtain ⟨q0, q1, q2, q3, q4, q5, q6, q7, q8, q9, q10, q11⟩ := HAT.out.ext (Ext.trans HXT.out hSw) HLT.out; go_simp; (try with_reducible rfl))
                  try simp only [Act.put, List.setIfInBounds_toArray, List.set_cons_zero, List.set_cons_succ]
                  refine held_take (i := 5) (v := ?_) rfl (by kernel_rfl) (by kernel_rfl) (by kernel_rfl) (by rfl) (by first | assumption | exact True.intro) ?_ ?_
                  rotate_left
                  · (intro W hSw; obtain ⟨g0, g1, g2, g3, g4, g5⟩ := Blk.six (HBT.out.ext hSw); obtain ⟨q0, q1, q2, q3, q4, q5, q6, q7, q8, q9, q10, q11⟩ := HAT.out.ext (Ext.trans HXT.out hSw) HLT.out; go_simp; (try with_reducible rfl))
                  try simp only [Act.put, List.setIfInBounds_toArray, List.set_cons_zero, List.set_cons_succ]
                  refine held_take (i := 6) (v := ?_) rfl (by kernel_rfl) (by kernel_rfl) (by kernel_rfl) (by rfl) (by first | assumption | exact True.intro) ?_ ?_
                  rotate_left
                  · (intro W hSw; obtain ⟨g0, g1, g2, g3, g4, g5⟩ := Blk.six (HBT.out.ext hSw); obtain ⟨q0, q1, q2, q3, q4, q5, q6, q7, q8, q9, q10, q11⟩ := HAT.out.ext (Ext.trans HXT.out hSw) HLT.out; go_simp; (try with_reducible rfl))
                  try simp only [Act.put, List.setIfInBounds_toArray, List.set_cons_zero, List.set_cons_succ]
                  refine held_take (i := 7) (v := ?_) rfl (by kernel_rfl) (by kernel_rfl) (by kernel_rfl) (by rfl) (by first | assumption | exact True.intro) ?_ ?_
                  rotate_left
                  · (intro W hSw; obtain ⟨g0, g1, g2, g3, g4, g5⟩ := Blk.six (HBT.out.ext hSw); obtain ⟨q0, q1, q2, q3, q4, q5, q6, q7, q8, q9, q10, q11⟩ := HAT.out.ext (Ext.trans HXT.out hSw) HLT.out; go_simp; (try with_reducible rfl))
                  try simp only [Act.put, List.setIfInBounds_toArray, List.set_cons_zero, List.set_cons_succ]
                  refine held_take (i := 8) (v := ?_) rfl (by kernel_rfl) (by kernel_rfl) (by kernel_rfl) (by rfl) (by first | assumption | exact True.intro) ?_ ?_
                  rotate_left
                  · (intro W hSw; obtain ⟨g0, g1, g2, g3, g4, g5⟩ := Blk.six (HBT.out.ext hSw); obtain ⟨q0, q1, q2, q3, q4, q5, q6, q7, q8, q9, q10, q11⟩ := HAT.out.ext (Ext.trans HXT.out hSw) HLT.out; go_simp; (try with_reducible rfl))
                  try simp only [Act.put, List.setIfInBounds_toArray, List.set_cons_zero, List.set_cons_succ]
                  refine held_take (i := 9) (v := ?_) rfl (by kernel_rfl) (by kernel_rfl) (by kernel_rfl) (by rfl) (by first | assumption | exact True.intro) ?_ ?_
                  rotate_left
                  · (intro W hSw; obtain ⟨g0, g1, g2, g3, g4, g5⟩ := Blk.six (HBT.out.ext hSw); obtain ⟨q0, q1, q2, q3, q4, q5, q6, q7, q8, q9, q10, q11⟩ := HAT.out.ext (Ext.trans HXT.out hSw) HLT.out; go_simp; (try with_reducible rfl))
                  try simp only [Act.put, List.setIfInBounds_toArray, List.set_cons_zero, List.set_cons_succ]
                  clear hSx
                  refine held_op (i := 10) (by kernel_rfl) rfl (fun K hK => ?_)
                  go_simp
                  go_at_call 46
                  refine (HAN.out T _ (Ext.trans HXT.out (Below.drewN' (Ext.refl WT) 1))).mono ?_
                  rintro e3 w3 ⟨rfl, hx3⟩
                  have HX3 : Hid (Ext WT w3) := Lib.hid (Ext.trans (Below.drewN' (Ext.refl WT) 1) hx3)
                  clear hx3
                  refine hK _ _ (HX3.out) (fun hSx => ?_)
                  clear hK K
                  try simp only [Act.put, List.setIfInBounds_toArray, List.set_cons_zero, List.set_cons_succ]
                  clear hSx
                  refine held_op (i := 11) (by kernel_rfl) rfl (fun K hK => ?_)
                  go_simp
                  go_at_call 28
                  refine (HPC.out _ _ (Ext.trans HXT.out HX3.out)).mono ?_
                  rintro e4 w4 ⟨rfl, hx4⟩
                  have HX4 : Hid (Ext WT w4) := Lib.hid (Ext.trans HX3.out hx4)
                  clear hx4
                  refine hK _ _ (HX4.out) (fun hSx => ?_)
                  clear hK K
                  try simp only [Act.put, List.setIfInBounds_toArray, List.set_cons_zero, List.set_cons_succ]
                  refine held_take (i := 12) (v := ?_) rfl (by kernel_rfl) (by kernel_rfl) (by kernel_rfl) (by rfl) (by first | assumption | exact True.intro) ?_ ?_
                  rotate_left
                  · (intro W hSw; go_simp; (try with_reducible rfl))
                  try simp only [Act.put, List.setIfInBounds_toArray, List.set_cons_zero, List.set_cons_succ]
                  refine held_take (i := 13) (v := ?_) rfl (by kernel_rfl) (by kernel_rfl) (by kernel_rfl) (by rfl) (by first | assumption | exact True.intro) ?_ ?_
                  rotate_left
                  · (intro W hSw; go_simp; (try with_reducible rfl))
                  try simp only [Act.put, List.setIfInBounds_toArray, List.set_cons_zero, List.set_cons_succ]
                  refine held_take (i := 14) (v := ?_) rfl (by kernel_rfl) (by kernel_rfl) (by kernel_rfl) (by rfl) (by first | assumption | exact True.intro) ?_ ?_
                  rotate_left
                  · (intro W hSw; go_simp; (try with_reducible rfl))
                  try simp only [Act.put, List.setIfInBounds_toArray, List.set_cons_zero, List.set_cons_succ]
                  refine held_take (i := 15) (v := ?_) rfl (by kernel_rfl) (by kernel_rfl) (by kernel_rfl) (by rfl) (by first | assumption | exact True.intro) ?_ ?_
                  rotate_left
                  · (intro W hSw; go_simp; (try with_reducible rfl))
                  try simp only [Act.put, List.setIfInBounds_toArray, List.set_cons_zero, List.set_cons_succ]
                  refine held_take (i := 16) (v := ?_) rfl (by kernel_rfl) (by kernel_rfl) (by kernel_rfl) (by rfl) (by first | assumption | exact True.intro) ?_ ?_
                  rotate_left
                  · (intro W hSw; go_simp; (try with_reducible rfl))
                  try simp only [Act.put, List.setIfInBounds_toArray, List.set_cons_zero, List.set_cons_succ]
                  clear hSx
                  refine wpAnyH_done (by kernel_rfl) ?_ _
                  refine NoPanic.normal ?_
                  have HXZ := Lib.hid (Ext.trans HXA.out HX4.out)
                  clear wp2 d6 d7
                  obtain ⟨⟨pn, pok⟩, hpp⟩ : ∃ p, p = pickS s x (atN s now T : Int) := ⟨_, rfl⟩
                  rw [← hpp]
                  have HPP := Lib.hid hpp
                  clear hpp
                  cases pok
                  · have HS : Hid (resTo s x now (q + 1) = (⟨bt, bn, bok⟩ : Rv)) := Lib.hid (by rw [HSQ.out]; exact resStep_no' HSK.out (by rw [← HPP.out]))
                    repeat (first | go_values | go_skip | go_guarded | go_step | go_upon | (simp only []))
                    go_roundw
                    case rel => exact ⟨q + 1, by first | (rw [wq]; rfl) | rfl, by rw [HS.out], by rw [HS.out], by rw [HS.out], HLQ.out, HXZ.out⟩
                    case measure => first | (rw [wq]; exact measQ (Nat.lt_of_succ_le HLQ.out)) | exact measQ (Nat.lt_of_succ_le HLQ.out)
                  · have HS : Hid (resTo s x now (q + 1) = (⟨T, pn, true⟩ : Rv)) := Lib.hid (by rw [HSQ.out]; exact (resStep_yes' HSK.out (by rw [← HPP.out])).trans (by rw [← HPP.out]))
                    repeat (first | go_values | go_skip | go_guarded | go_step | go_upon | (simp only []))
                    go_roundw
                    case rel => exact ⟨q + 1, by first | (rw [wq]; rfl) | rfl, by rw [HS.out], by rw [HS.out], by rw [HS.out], HLQ.out, HXZ.out⟩
                    case measure => first | (rw [wq]; exact measQ (Nat.lt_of_succ_le HLQ.out)) | exact measQ (Nat.lt_of_succ_le HLQ.out)
                · have HS : Hid (resTo s x now (q + 1) = (⟨bt, bn, bok⟩ : Rv)) := Lib.hid (by rw [HSQ.out]; exact resStep_skip hsk.symm)
                  clear hsk
                  repeat (first | go_values | go_skip | go_guarded | go_step | go_upon | (simp only []))
                  go_roundw
                  case rel => exact ⟨q + 1, by first | (rw [wq]; rfl) | rfl, by rw [HS.out], by rw [HS.out], by rw [HS.out], HLQ.out, HXA.out⟩
                  case measure => first | (rw [wq]; exact measQ (Nat.lt_of_succ_le HLQ.out)) | exact measQ (Nat.lt_of_succ_le HLQ.out)
          · have d1 : decide ((q : Int) ≤ (s.jobs.length : Int)) = false := decide_eq_false (by omega)
            have d1n : decide (q ≤ s.jobs.length) = false := decide_eq_false hlt
            have HE : Hid (PK = ⟨bt, bn, bok⟩) := Lib.hid (by rw [HZ.out, HBP.out, show q = s.jobs.length + 1 by omega])
            go_wp2
            go_ret3
            exact ⟨by rw [HE.out]; rfl, HXW.out⟩
      · have HZ : Hid (PK = ⟨0, 0, false⟩) := Lib.hid (by rw [HP.out, reserveS_at hi hxi, if_neg hph])
        have e6 : (x.phase != 0) = true := by simp only [bne_iff_ne, ne_eq]; exact hph
        clear hph j1 j2
        go_enter Try.func24, Try.ntmps24
        go_wp2
        go_ret3
        exact ⟨by rw [HZ.out]; rfl, HX.out⟩

end Go.Proofs.Ytgjidkhfnnghiaa

/- The reference of layer 16: the nodes by which a job may fill in. -/
namespace Go.Proofs.Ytgjidkhfnnghiaa
open Go.RowKit

set_option maxRecDepth 100000 in
set_option maxHeartbeats 16000000 in
theorem RefFill_any (vn vj : Value) (s : St) (job now : Int) (w : World) (hrn : RdNd w vn s.nodes) (hr : RdJb w vj s.jobs) (hS : OkS s) (hn0 : 0 ≤ now) (hn1 : now ≤ 1000000) :
    Calls Try.prog 8 #[stV vn vj s, .int .i64 job, .int .i64 now] w fun e w' => e = .returned (.tuple #[.int .i64 (fillS s job now).1, .bool (fillS s job now).2]) ∧ Ext w w' := by
  have HRN := Lib.hid hrn
  have HRJ := Lib.hid hr
  obtain ⟨hx, hb⟩ := boxSt vn vj s w 27
  have hJ := hS.nj
  have hN := hS.nn
  have HPL : Hid (∀ W, Ext w W → Calls Try.prog 23 #[stV vn vj s, .int .i64 job] W fun e w' => e = .returned (.int .i64 (placeI s.jobs job)) ∧ Ext W w') := Lib.hid fun W hW => RefPlace_any vn vj s job W (HRJ.out.ext hW) (by omega)
  have HLN : Hid (∀ W, Ext w W → Calls Try.prog 25 #[stV vn vj s] W fun e w' => ∃ v', e = .returned v' ∧ Grew W.heap.size 3 (.slice none 0 0) W ((lineL s.jobs).map J) v' w') := Lib.hid fun W hW => RefLine_any vn vj s W (HRJ.out.ext hW) (by omega)
  have HRS : Hid (∀ k W, Ext w W → Calls Try.prog 24 #[stV vn vj s, .int .i64 k, .int .i64 now] W fun e w' => e = .returned (.tuple #[.int .i64 (reserveS s k now).t, .int .i64 (reserveS s k now).n, .bool (reserveS s k now).ok]) ∧ Ext W w') := Lib.hid fun k W hW => RefReserve_any vn vj s k now W (HRN.out.ext hW) (HRJ.out.ext hW) hS hn0 hn1
  have HPI : Hid (∀ x set W, Ext w W → Calls Try.prog 28 #[stV vn vj s, jbV x, .int .i64 set] W fun e w' => e = .returned (.tuple #[.int .i64 (pickS s x set).1, .bool (pickS s x set).2]) ∧ Ext W w') := Lib.hid fun x set W hW => RefPick_any vn vj s x set W (HRN.out.ext hW) hN
  have HNW : Hid (∀ W, Ext w W → Calls Try.prog 29 #[stV vn vj s, .int .i64 job] W fun e w' => e = .returned (.tuple #[.int .i64 (nowS s job).1, .bool (nowS s job).2]) ∧ Ext W w') := Lib.hid fun W hW => RefNow_any vn vj s job W (HRN.out.ext hW) (HRJ.out.ext hW) hN (by omega)
  have HFR := Lib.hid fun n w' => RefFree_any n w'
  unfold stV at HPL HLN HRS HPI HNW
  unfold jbV at HPI
  unfold stV
  unfold stC at hx hb
  obtain ⟨A, c, rfl, hnc, hcm, hcell⟩ := jobs_cells hr
  obtain ⟨A', c', rfl, hnc', hcm', hcell'⟩ := has_cells hrn
  have HC := Lib.hid hcell
  have HC' := Lib.hid hcell'
  obtain ⟨PK, hPK⟩ : ∃ z, z = fillS s job now := ⟨_, rfl⟩
  rw [← hPK]
  have HP := Lib.hid hPK
  have HX := Lib.hid hx
  have HB := Lib.hid hb
  clear hx hb hr hcell hcell' hPK hrn HRN HRJ
  go_enter Try.func8, Try.ntmps8
  go_upto_region 1 with (fail)
  obtain ⟨W0, hW0⟩ : ∃ W0, W0 = w.alloc (.cells #[.slice A' s.nodes.length c', .slice A s.jobs.length c, .int .i64 s.goal, .int .i64 s.prior, .int .i64 s.mode, .int .i64 s.term] 27) := ⟨_, rfl⟩
  rw [← hW0] at HX HB ⊢
  clear hW0
  obtain ⟨g0, g1, g2, g3, g4, g5⟩ := Blk.six HB.out
  have HPC := Lib.hid (HPL.out W0 HX.out)
  have HPX : Hid ((placeI s.jobs job < 1 → False) → ∃ (i k : Nat) (x : Jb) (t : List Nat), job = (i : Int) + 1 ∧ s.jobs[i]? = some x ∧ x.phase = 0 ∧ lineL s.jobs = k :: t) := Lib.hid (fun h => placeI_some h)
  have HPN : Hid (placeI s.jobs job < 1 → PK = (0, false)) := Lib.hid (fun h => by rw [HP.out]; exact fillS_none h)
  have HPA : Hid ((placeI s.jobs job < 1 → False) → ∀ (i : Nat) (x : Jb) (r : Rv) (D : Nat), job = (i : Int) + 1 → s.jobs[i]? = some x → r = reserveS s (headS s) now → D = restN s r s.nodes.length → PK = if (pickS s x (D : Int)).2 = true then ((pickS s x (D : Int)).1, true) else if r.ok = true ∧ (nowS s job).2 = true ∧ now + x.work ≤ r.t then ((nowS s job).1, true) else (0, false)) := Lib.hid (fun h i x r D h1 h2 h3 h4 => by rw [HP.out]; exact fillS_at h h1 h2 h3 h4)
  obtain ⟨PI, hPI⟩ : ∃ z, z = placeI s.jobs job := ⟨_, rfl⟩
  rw [← hPI] at HPC HPX HPN HPA
  clear hPI HP HPL
  go_wp2_with fail
  refine HPC.out.mono ?_
  rintro e1 w1 ⟨rfl, hx1⟩
  have HX1 : Hid (Ext W0 w1) := Lib.hid hx1
  clear hx1 HPC g0 g1 g2 g3 g4 g5
  by_cases p1 : PI < 1
  · have f1 : decide (PI < 1) = true := decide_eq_true p1
    have HZ := Lib.hid (HPN.out p1)
    clear p1
    go_wp2
    go_ret2
    exact ⟨by rw [HZ.out]; rfl, Ext.trans HX.out HX1.out⟩
  · have f1 : decide (PI < 1) = false := decide_eq_false p1
    obtain ⟨i, k, x, t, hi, hxi, hph, hL⟩ := HPX.out p1
    have HA := Lib.hid (HPA.out p1)
    have HHD := Lib.hid (headS_at hL)
    have HLL := Lib.hid hL
    obtain ⟨b, o, rfl, hlt, hat⟩ := HC.out i x hxi
    have HAT := Lib.hid hat
    have HLT := Lib.hid hlt
    have HWP : Hid (wrap64 (job - 1) = (i : Int)) := Lib.hid (by have := (List.getElem?_eq_some_iff.1 hxi).1; rw [IntWalk.wrap64_in _ (by omega)]; omega)
    have HIL : Hid (i < s.jobs.length) := Lib.hid (List.getElem?_eq_some_iff.1 hxi).1
    have HWW : Hid (wrap64 (now + x.work) = now + x.work) := Lib.hid (by have := hS.jobs i x hxi; exact IntWalk.wrap64_in _ (by omega))
    have HHI := Lib.hid hi
    have HXI := Lib.hid hxi
    have HBS := Lib.hid (HB.out.ext HX1.out)
    clear p1 hi hxi hph hL hat hlt HC HPX HPN HPA hn0 hn1 hJ
    simp only []
    go_upto_region 3 with (fail)
    clear f1
    refine held_begin (by kernel_rfl) ?_
    refine held_more (S' := fun W' : World => Ext w1 W') (fun _ _ => True.intro) ?_
    have hSx : (fun W' : World => Ext w1 W') w1.drew := Below.drewN' (Ext.refl w1) 1
    refine held_take (i := 0) (v := ?_) rfl (by kernel_rfl) (by kernel_rfl) (by kernel_rfl) (by rfl) (by first | assumption | exact True.intro) ?_ ?_
    rotate_left
    · (intro W hSw; obtain ⟨g0, g1, g2, g3, g4, g5⟩ := Blk.six (HBS.out.ext (hSw)); go_simp; (try with_reducible rfl))
    try simp only [Act.put, List.setIfInBounds_toArray, List.set_cons_zero, List.set_cons_succ]
    refine held_take (i := 1) (v := ?_) rfl (by kernel_rfl) (by kernel_rfl) (by kernel_rfl) (by rfl) (by first | assumption | exact True.intro) ?_ ?_
    rotate_left
    · (intro W hSw; obtain ⟨g0, g1, g2, g3, g4, g5⟩ := Blk.six (HBS.out.ext (hSw)); go_simp; (try with_reducible rfl))
    try simp only [Act.put, List.setIfInBounds_toArray, List.set_cons_zero, List.set_cons_succ]
    refine held_take (i := 5) (v := ?_) rfl (by kernel_rfl) (by kernel_rfl) (by kernel_rfl) (by rfl) (by first | assumption | exact True.intro) ?_ ?_
    rotate_left
    · (intro W hSw; obtain ⟨g0, g1, g2, g3, g4, g5⟩ := Blk.six (HBS.out.ext (hSw)); go_simp; (try with_reducible rfl))
    try simp only [Act.put, List.setIfInBounds_toArray, List.set_cons_zero, List.set_cons_succ]
    clear hSx
    refine held_op (i := 2) (by kernel_rfl) rfl (fun K hK => ?_)
    go_simp
    go_at_call 25
    refine (HLN.out _ (Ext.trans HX.out (Ext.trans HX1.out (Below.drewN' (Ext.refl w1) 1)))).mono ?_
    rintro e3 w3 ⟨v3, rfl, hg3⟩
    have HX3 : Hid (Ext w1 w3) := Lib.hid (Ext.trans (Below.drewN' (Ext.refl w1) 1) hg3.ext)
    obtain ⟨N3, hN3⟩ : ∃ N : Nat, N = ((lineL s.jobs).map J).length := ⟨_, rfl⟩
    obtain ⟨A3, c3, e3, -, -, h3⟩ := Rd.own hg3.own
    rw [← hN3] at e3 h3
    subst e3
    have n3 : 0 < N3 := by rw [hN3, HLL.out]; simp
    obtain ⟨b3, o3, rfl, hb3, hc3⟩ := h3 n3
    have HZ3 := Lib.hid (hc3 0 (.int .i64 ((k : Int) + 1)) (by rw [HLL.out]; rfl))
    obtain ⟨hd, hhd⟩ : ∃ z, z = (k : Int) + 1 := ⟨_, rfl⟩
    rw [← hhd] at HZ3 HHD
    have HB3 := Lib.hid hb3
    clear hg3 hN3 h3 hc3 hb3 hhd
    refine hK _ _ (HX3.out) (fun hSx => ?_)
    clear hK K
    try simp only [Act.put, List.setIfInBounds_toArray, List.set_cons_zero, List.set_cons_succ]
    refine held_more (S' := fun W' : World => Ext w3 W') (fun W hW => Ext.trans HX3.out hW) ?_
    clear hSx
    have hSx : (fun W' : World => Ext w3 W') w3 := Ext.refl w3
    have d3 : (0 : Int) < (N3 : Int) := by omega
    refine held_take (i := 3) (v := ?_) rfl (by kernel_rfl) (by kernel_rfl) (by kernel_rfl) (by rfl) (by first | assumption | exact True.intro) ?_ ?_
    rotate_left
    · (intro W hSw; go_simp; (try with_reducible rfl))
    try simp only [Act.put, List.setIfInBounds_toArray, List.set_cons_zero, List.set_cons_succ]
    refine held_take (i := 4) (v := ?_) rfl (by kernel_rfl) (by kernel_rfl) (by kernel_rfl) (by rfl) (by first | assumption | exact True.intro) ?_ ?_
    rotate_left
    · (intro W hSw; have z3 : W.cell? ⟨b3, o3, none⟩ = some (.int .i64 hd) := hSw.cellOf HZ3.out HB3.out; go_simp; (try with_reducible rfl))
    try simp only [Act.put, List.setIfInBounds_toArray, List.set_cons_zero, List.set_cons_succ]
    clear hSx d3
    refine held_op (i := 6) (by kernel_rfl) rfl (fun K hK => ?_)
    go_simp
    go_at_call 24
    refine (HRS.out hd _ (Ext.trans HX.out (Ext.trans HX1.out HX3.out))).mono ?_
    rintro e4 w4 ⟨rfl, hx4⟩
    have HX4 : Hid (Ext w3 w4) := Lib.hid hx4
    clear hx4
    refine hK _ _ (HX4.out) (fun hSx => ?_)
    clear hK K
    try simp only [Act.put, List.setIfInBounds_toArray, List.set_cons_zero, List.set_cons_succ]
    refine held_take (i := 7) (v := ?_) rfl (by kernel_rfl) (by kernel_rfl) (by kernel_rfl) (by rfl) (by first | assumption | exact True.intro) ?_ ?_
    rotate_left
    · (intro W hSw; go_simp; (try with_reducible rfl))
    try simp only [Act.put, List.setIfInBounds_toArray, List.set_cons_zero, List.set_cons_succ]
    refine held_take (i := 8) (v := ?_) rfl (by kernel_rfl) (by kernel_rfl) (by kernel_rfl) (by rfl) (by first | assumption | exact True.intro) ?_ ?_
    rotate_left
    · (intro W hSw; go_simp; (try with_reducible rfl))
    try simp only [Act.put, List.setIfInBounds_toArray, List.set_cons_zero, List.set_cons_succ]
    refine held_take (i := 9) (v := ?_) rfl (by kernel_rfl) (by kernel_rfl) (by kernel_rfl) (by rfl) (by first | assumption | exact True.intro) ?_ ?_
    rotate_left
    · (intro W hSw; go_simp; (try with_reducible rfl))
    try simp only [Act.put, List.setIfInBounds_toArray, List.set_cons_zero, List.set_cons_succ]
    refine held_take (i := 10) (v := ?_) rfl (by kernel_rfl) (by kernel_rfl) (by kernel_rfl) (by rfl) (by first | assumption | exact True.intro) ?_ ?_
    rotate_left
    · (intro W hSw; go_simp; (try with_reducible rfl))
    try simp only [Act.put, List.setIfInBounds_toArray, List.set_cons_zero, List.set_cons_succ]
    refine held_take (i := 11) (v := ?_) rfl (by kernel_rfl) (by kernel_rfl) (by kernel_rfl) (by rfl) (by first | assumption | exact True.intro) ?_ ?_
    rotate_left
    · (intro W hSw; go_simp; (try with_reducible rfl))
    try simp only [Act.put, List.setIfInBounds_toArray, List.set_cons_zero, List.set_cons_succ]
    refine held_take (i := 12) (v := ?_) rfl (by kernel_rfl) (by kernel_rfl) (by kernel_rfl) (by rfl) (by first | assumption | exact True.intro) ?_ ?_
    rotate_left
    · (intro W hSw; go_simp; (try with_reducible rfl))
    try simp only [Act.put, List.setIfInBounds_toArray, List.set_cons_zero, List.set_cons_succ]
    refine held_take (i := 13) (v := ?_) rfl (by kernel_rfl) (by kernel_rfl) (by kernel_rfl) (by rfl) (by first | assumption | exact True.intro) ?_ ?_
    rotate_left
    · (intro W hSw; go_simp; (try with_reducible rfl))
    try simp only [Act.put, List.setIfInBounds_toArray, List.set_cons_zero, List.set_cons_succ]
    clear hSx
    refine wpAnyH_done (by kernel_rfl) ?_ _
    refine NoPanic.normal ?_
    obtain ⟨⟨rt, rn, rok⟩, hr⟩ : ∃ p, p = reserveS s hd now := ⟨_, rfl⟩
    rw [← hr]
    have HR : Hid ((⟨rt, rn, rok⟩ : Rv) = reserveS s (headS s) now) := Lib.hid (by rw [HHD.out]; exact hr)
    clear hr HRS HLN
    have HXL : Hid (Ext W0 w4) := Lib.hid (Ext.trans HX1.out (Ext.trans HX3.out HX4.out))
    obtain ⟨F, hF⟩ : ∃ F : Nat → Bool, F = fun i => nodeIs s.nodes freeN i && !(rok && hasS rn i) := ⟨_, rfl⟩
    have HFF : Hid (∀ q n, s.nodes[q]? = some n → F q = (freeN n && !(rok && hasS rn q))) := Lib.hid fun q n hn => by rw [hF]; show (nodeIs s.nodes freeN q && _) = _; rw [nodeIs_at hn]
    have HAA : Hid (∀ D : Nat, D = bitsF F s.nodes.length → PK = if (pickS s x (D : Int)).2 = true then ((pickS s x (D : Int)).1, true) else if rok = true ∧ (nowS s job).2 = true ∧ now + x.work ≤ rt then ((nowS s job).1, true) else (0, false)) := Lib.hid (fun D hD => HA.out i x ⟨rt, rn, rok⟩ D HHI.out HXI.out HR.out (by rw [hD, hF]; rfl))
    clear hF HA HR HHD HLL
    go_wp2_with fail
    go_loopw [11, 12, 13] (fun o b i wr => ∃ q B : Nat, i = .int .i64 q ∧ o = .int .i64 (bitsF F q : Int) ∧ b = .int .i64 (B : Int) ∧ B = 2 ^ q ∧ q ≤ s.nodes.length ∧ Ext W0 wr) (fun _ _ i _ => s.nodes.length - (intOf i).toNat)
    case atStart => exact ⟨0, 1, rfl, rfl, rfl, rfl, Nat.zero_le _, HXL.out⟩
    case round =>
      obtain ⟨q, B, rfl, rfl, rfl, hB, hq, hxr⟩ := hrel
      have HXR : Hid (Ext W0 wr) := Lib.hid hxr
      have HXW : Hid (Ext w wr) := Lib.hid (Ext.trans HX.out hxr)
      have HBR := Lib.hid (HB.out.ext hxr)
      have g0 := HBR.out.cell 0
      have hset := bitsF_lt F q
      have HST : Hid (bitsF F (q + 1) = bitsF F q + (if F q = true then 2 ^ q else 0)) := Lib.hid rfl
      generalize hP : bitsF F q = P at *
      have HPP := Lib.hid hP
      clear hxr hP
      by_cases hlt : q < s.nodes.length
      · have d1 : decide ((q : Int) < (s.nodes.length : Int)) = true := decide_eq_true (by omega)
        have d1' : decide (q < s.nodes.length) = true := decide_eq_true hlt
        obtain ⟨n, hn⟩ : ∃ n, s.nodes[q]? = some n := ⟨_, List.getElem?_eq_getElem hlt⟩
        obtain ⟨b2, o2, rfl, hlt', hat'⟩ := HC'.out q n hn
        obtain ⟨c0, c1, c2, c3, c4⟩ := hat'.ext HXW.out hlt'
        have HQ64 : Hid (q < 64) := Lib.hid (by omega)
        have hp2 := two_pows (q := q) (by omega)
        have HB2 : Hid (2 ^ (q + 1) = B * 2) := Lib.hid (by rw [hp2.2, ← hB])
        have HLQ := Lib.hid hlt
        have wq : wrap64 ((q : Int) + 1) = (q : Int) + 1 := IntWalk.wrap64_in _ (by omega)
        have wb : wrap64 ((B : Int) * 2) = ((B * 2 : Nat) : Int) := IntWalk.wrap64_in _ (by omega)
        have wp : wrap64 ((P : Int) + (B : Int)) = ((P + B : Nat) : Int) := IntWalk.wrap64_in _ (by omega)
        have HFQ := Lib.hid (HFF.out q n hn)
        have HBQ := Lib.hid hB
        have HHS := Lib.hid (fun W => RefHas_any rn q HQ64.out W)
        have HFC := Lib.hid (HFR.out n wr)
        unfold ndV at HFC
        clear hat' hn hset hp2 hB hlt hq hlt'
        go_wp2_with fail
        refine HFC.out.mono ?_
        rintro e9 w9 ⟨rfl, hx9⟩
        have HX9 : Hid (Ext W0 w9) := Lib.hid (Ext.trans HXR.out hx9)
        clear hx9 HFC
        cases hf : freeN n
        · have HS : Hid (bitsF F (q + 1) = P) := Lib.hid (by rw [HST.out, HFQ.out]; simp [hf])
          repeat (first | go_values | go_skip | go_guarded | go_step | go_upon | (simp only []))
          go_roundw
          case rel => exact ⟨q + 1, B * 2, by first | (rw [wq]; rfl) | rfl, by rw [HS.out], by first | rfl | rw [wb], HB2.out.symm, HLQ.out, HX9.out⟩
          case measure => first | (rw [wq]; exact measQ HLQ.out) | exact measQ HLQ.out
        · cases rok
          · have HS : Hid (bitsF F (q + 1) = P + B) := Lib.hid (by rw [HST.out, HFQ.out]; simp [hf]; exact HBQ.out.symm)
            repeat (first | go_values | go_skip | go_guarded | go_step | go_upon | (simp only []))
            go_roundw
            case rel => exact ⟨q + 1, B * 2, by first | (rw [wq]; rfl) | rfl, by rw [HS.out]; first | rfl | rw [wp], by first | rfl | rw [wb], HB2.out.symm, HLQ.out, HX9.out⟩
            case measure => first | (rw [wq]; exact measQ HLQ.out) | exact measQ HLQ.out
          · repeat (first | go_values | go_skip | go_guarded | go_step | go_upon | (simp only []))
            refine (HHS.out _).mono ?_
            rintro e8 w8 ⟨rfl, rfl⟩
            cases hh : hasS rn q
            · have HS : Hid (bitsF F (q + 1) = P + B) := Lib.hid (by rw [HST.out, HFQ.out]; simp [hf, hh]; exact HBQ.out.symm)
              repeat (first | go_values | go_skip | go_guarded | go_step | go_upon | (simp only []))
              go_roundw
              case rel => exact ⟨q + 1, B * 2, by first | (rw [wq]; rfl) | rfl, by rw [HS.out]; first | rfl | rw [wp], by first | rfl | rw [wb], HB2.out.symm, HLQ.out, HX9.out⟩
              case measure => first | (rw [wq]; exact measQ HLQ.out) | exact measQ HLQ.out
            · have HS : Hid (bitsF F (q + 1) = P) := Lib.hid (by rw [HST.out, HFQ.out]; simp [hf, hh])
              repeat (first | go_values | go_skip | go_guarded | go_step | go_upon | (simp only []))
              go_roundw
              case rel => exact ⟨q + 1, B * 2, by first | (rw [wq]; rfl) | rfl, by rw [HS.out], by first | rfl | rw [wb], HB2.out.symm, HLQ.out, HX9.out⟩
              case measure => first | (rw [wq]; exact measQ HLQ.out) | exact measQ HLQ.out
      · have d1 : decide ((q : Int) < (s.nodes.length : Int)) = false := decide_eq_false (by omega)
        have d1' : decide (q < s.nodes.length) = false := decide_eq_false hlt
        have HE := Lib.hid (HAA.out P (by rw [← HPP.out, show q = s.nodes.length by omega]))
        have HPC := Lib.hid (fun W hW => HPI.out x (P : Int) W hW)
        clear HAA HST HPI hset hlt hq hB
        obtain ⟨W5, rfl⟩ : ∃ W, W = wr := ⟨_, rfl⟩
        go_upto_region 12 with (fail)
        clear d1 d1' g0
        have d6 : (i : Int) < (s.jobs.length : Int) := by have := HIL.out; omega
        have d7 : (0 : Int) ≤ (i : Int) := by omega
        have wp2 : IntKind.i64.wrap (job - 1) = (i : Int) := (IntWalk.i64_left _).trans HWP.out
        refine held_begin (by kernel_rfl) ?_
        refine held_more (S' := fun W' : World => Ext W5 W') (fun _ _ => True.intro) ?_
        have hSx : (fun W' : World => Ext W5 W') W5.drew := Below.drewN' (Ext.refl W5) 1
        refine held_take (i := 0) (v := ?_) rfl (by kernel_rfl) (by kernel_rfl) (by kernel_rfl) (by rfl) (by first | assumption | exact True.intro) ?_ ?_
        rotate_left
        · (intro W hSw; obtain ⟨g0, g1, g2, g3, g4, g5⟩ := Blk.six (HBR.out.ext hSw); obtain ⟨q0, q1, q2, q3, q4, q5, q6, q7, q8, q9, q10, q11⟩ := HAT.out.ext (Ext.trans HXW.out hSw) HLT.out; go_simp; (try with_reducible rfl))
        try simp only [Act.put, List.setIfInBounds_toArray, List.set_cons_zero, List.set_cons_succ]
        refine held_take (i := 1) (v := ?_) rfl (by kernel_rfl) (by kernel_rfl) (by kernel_rfl) (by rfl) (by first | assumption | exact True.intro) ?_ ?_
        rotate_left
        · (intro W hSw; obtain ⟨g0, g1, g2, g3, g4, g5⟩ := Blk.six (HBR.out.ext hSw); obtain ⟨q0, q1, q2, q3, q4, q5, q6, q7, q8, q9, q10, q11⟩ := HAT.out.ext (Ext.trans HXW.out hSw) HLT.out; go_simp; (try with_reducible rfl))
        try simp only [Act.put, List.setIfInBounds_toArray, List.set_cons_zero, List.set_cons_succ]
        refine held_take (i := 2) (v := ?_) rfl (by kernel_rfl) (by kernel_rfl) (by kernel_rfl) (by rfl) (by first | assumption | exact True.intro) ?_ ?_
        rotate_left
        · (intro W hSw; obtain ⟨g0, g1, g2, g3, g4, g5⟩ := Blk.six (HBR.out.ext hSw); obtain ⟨q0, q1, q2, q3, q4, q5, q6, q7, q8, q9, q10, q11⟩ := HAT.out.ext (Ext.trans HXW.out hSw) HLT.out; go_simp; (try with_reducible rfl))
        try simp only [Act.put, List.setIfInBounds_toArray, List.set_cons_zero, List.set_cons_succ]
        refine held_take (i := 3) (v := ?_) rfl (by kernel_rfl) (by kernel_rfl) (by kernel_rfl) (by rfl) (by first | assumption | exact True.intro) ?_ ?_
        rotate_left
        · (intro W hSw; obtain ⟨g0, g1, g2, g3, g4, g5⟩ := Blk.six (HBR.out.ext hSw); obtain ⟨q0, q1, q2, q3, q4, q5, q6, q7, q8, q9, q10, q11⟩ := HAT.out.ext (Ext.trans HXW.out hSw) HLT.out; go_simp; (try with_reducible rfl))
        try simp only [Act.put, List.setIfInBounds_toArray, List.set_cons_zero, List.set_cons_succ]
        refine held_take (i := 4) (v := ?_) rfl (by kernel_rfl) (by kernel_rfl) (by kernel_rfl) (by rfl) (by first | assumption | exact True.intro) ?_ ?_
        rotate_left
        · (intro W hSw; obtain ⟨g0, g1, g2, g3, g4, g5⟩ := Blk.six (HBR.out.ext hSw); obtain ⟨q0, q1, q2, q3, q4, q5, q6, q7, q8, q9, q10, q11⟩ := HAT.out.ext (Ext.trans HXW.out hSw) HLT.out; go_simp; (try with_reducible rfl))
        try simp only [Act.put, List.setIfInBounds_toArray, List.set_cons_zero, List.set_cons_succ]
        refine held_take (i := 5) (v := ?_) rfl (by kernel_rfl) (by kernel_rfl) (by kernel_rfl) (by rfl) (by first | assumption | exact True.intro) ?_ ?_
        rotate_left
        · (intro W hSw; obtain ⟨g0, g1, g2, g3, g4, g5⟩ := Blk.six (HBR.out.ext hSw); obtain ⟨q0, q1, q2, q3, q4, q5, q6, q7, q8, q9, q10, q11⟩ := HAT.out.ext (Ext.trans HXW.out hSw) HLT.out; go_simp; (try with_reducible rfl))
        try simp only [Act.put, List.setIfInBounds_toArray, List.set_cons_zero, List.set_cons_succ]
        refine held_take (i := 6) (v := ?_) rfl (by kernel_rfl) (by kernel_rfl) (by kernel_rfl) (by rfl) (by first | assumption | exact True.intro) ?_ ?_
        rotate_left
        · (intro W hSw; obtain ⟨g0, g1, g2, g3, g4, g5⟩ := Blk.six (HBR.out.ext hSw); obtain ⟨q0, q1, q2, q3, q4, q5, q6, q7, q8, q9, q10, q11⟩ := HAT.out.ext (Ext.trans HXW.out hSw) HLT.out; go_simp; (try with_reducible rfl))
        try simp only [Act.put, List.setIfInBounds_toArray, List.set_cons_zero, List.set_cons_succ]
        refine held_take (i := 7) (v := ?_) rfl (by kernel_rfl) (by kernel_rfl) (by kernel_rfl) (by rfl) (by first | assumption | exact True.intro) ?_ ?_
        rotate_left
        · (intro W hSw; obtain ⟨g0, g1, g2, g3, g4, g5⟩ := Blk.six (HBR.out.ext hSw); obtain ⟨q0, q1, q2, q3, q4, q5, q6, q7, q8, q9, q10, q11⟩ := HAT.out.ext (Ext.trans HXW.out hSw) HLT.out; go_simp; (try with_reducible rfl))
        try simp only [Act.put, List.setIfInBounds_toArray, List.set_cons_zero, List.set_cons_succ]
        clear hSx
        refine held_op (i := 8) (by kernel_rfl) rfl (fun K hK => ?_)
        go_simp
        go_at_call 28
        refine (HPC.out _ (Ext.trans HXW.out (Below.drewN' (Ext.refl W5) 1))).mono ?_
        rintro e6 w6 ⟨rfl, hx6⟩
        have HX6 : Hid (Ext W5 w6) := Lib.hid (Ext.trans (Below.drewN' (Ext.refl W5) 1) hx6)
        clear hx6
        refine hK _ _ (HX6.out) (fun hSx => ?_)
        clear hK K
        try simp only [Act.put, List.setIfInBounds_toArray, List.set_cons_zero, List.set_cons_succ]
        refine held_take (i := 9) (v := ?_) rfl (by kernel_rfl) (by kernel_rfl) (by kernel_rfl) (by rfl) (by first | assumption | exact True.intro) ?_ ?_
        rotate_left
        · (intro W hSw; go_simp; (try with_reducible rfl))
        try simp only [Act.put, List.setIfInBounds_toArray, List.set_cons_zero, List.set_cons_succ]
        refine held_take (i := 10) (v := ?_) rfl (by kernel_rfl) (by kernel_rfl) (by kernel_rfl) (by rfl) (by first | assumption | exact True.intro) ?_ ?_
        rotate_left
        · (intro W hSw; go_simp; (try with_reducible rfl))
        try simp only [Act.put, List.setIfInBounds_toArray, List.set_cons_zero, List.set_cons_succ]
        refine held_take (i := 11) (v := ?_) rfl (by kernel_rfl) (by kernel_rfl) (by kernel_rfl) (by rfl) (by first | assumption | exact True.intro) ?_ ?_
        rotate_left
        · (intro W hSw; go_simp; (try with_reducible rfl))
        try simp only [Act.put, List.setIfInBounds_toArray, List.set_cons_zero, List.set_cons_succ]
        refine held_take (i := 12) (v := ?_) rfl (by kernel_rfl) (by kernel_rfl) (by kernel_rfl) (by rfl) (by first | assumption | exact True.intro) ?_ ?_
        rotate_left
        · (intro W hSw; go_simp; (try with_reducible rfl))
        try simp only [Act.put, List.setIfInBounds_toArray, List.set_cons_zero, List.set_cons_succ]
        refine held_take (i := 13) (v := ?_) rfl (by kernel_rfl) (by kernel_rfl) (by kernel_rfl) (by rfl) (by first | assumption | exact True.intro) ?_ ?_
        rotate_left
        · (intro W hSw; go_simp; (try with_reducible rfl))
        try simp only [Act.put, List.setIfInBounds_toArray, List.set_cons_zero, List.set_cons_succ]
        clear hSx
        refine wpAnyH_done (by kernel_rfl) ?_ _
        refine NoPanic.normal ?_
        clear wp2 d6 d7
        obtain ⟨⟨pn, pok⟩, hpp⟩ : ∃ p, p = pickS s x (P : Int) := ⟨_, rfl⟩
        rw [← hpp] at HE ⊢
        clear hpp
        have HX7 : Hid (Ext w w6) := Lib.hid (Ext.trans HXW.out HX6.out)
        have HB7 := Lib.hid (HBR.out.ext HX6.out)
        have HA7 := Lib.hid (HAT.out.ext HX7.out HLT.out)
        cases pok
        · obtain ⟨g0, g1, g2, g3, g4, g5⟩ := Blk.six HB7.out
          have HNC := Lib.hid (HNW.out w6 HX7.out)
          obtain ⟨⟨nn, nok⟩, hnn⟩ : ∃ p, p = nowS s job := ⟨_, rfl⟩
          rw [← hnn] at HE HNC
          clear hnn
          go_wp2_with fail
          refine HNC.out.mono ?_
          rintro e8 w8 ⟨rfl, hx8⟩
          have HX8 : Hid (Ext w w8) := Lib.hid (Ext.trans HX7.out hx8)
          have HB8 := Lib.hid (HB7.out.ext hx8)
          have HA8 := Lib.hid (HAT.out.ext HX8.out HLT.out)
          clear hx8 HNC g0 g1 g2 g3 g4 g5
          cases rok
          · have HZ : Hid (PK = (0, false)) := Lib.hid (by rw [HE.out]; simp)
            go_wp2
            go_ret2
            exact ⟨by rw [HZ.out]; rfl, HX8.out⟩
          · cases nok
            · have HZ : Hid (PK = (0, false)) := Lib.hid (by rw [HE.out]; simp)
              go_wp2
              go_ret2
              exact ⟨by rw [HZ.out]; rfl, HX8.out⟩
            · have g1 := HB8.out.cell 1
              have q4 := HA8.out.c4
              have wp := HWP.out
              have d5 : decide (i < s.jobs.length) = true := decide_eq_true HIL.out
              have ww := HWW.out
              by_cases a1 : now + x.work ≤ rt
              · have f1 : decide (now + x.work ≤ rt) = true := decide_eq_true a1
                have HZ : Hid (PK = (nn, true)) := Lib.hid (by rw [HE.out]; simp [a1])
                go_wp2
                go_ret2
                exact ⟨by rw [HZ.out]; rfl, HX8.out⟩
              · have f1 : decide (now + x.work ≤ rt) = false := decide_eq_false a1
                have HZ : Hid (PK = (0, false)) := Lib.hid (by rw [HE.out]; simp [a1])
                go_wp2
                go_ret2
                exact ⟨by rw [HZ.out]; rfl, HX8.out⟩
        · have HZ : Hid (PK = (pn, true)) := Lib.hid (by rw [HE.out]; simp)
          go_wp2
          go_ret2
          exact ⟨by rw [HZ.out]; rfl, HX7.out⟩

end Go.Proofs.Ytgjidkhfnnghiaa
