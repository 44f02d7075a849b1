/- Texts that the proof of I rests on, one behind the other. -/
import Derived.Test.YtddhbokknbmdfaaDoorIQ15

/- The reference of layer 10: Get. -/
namespace Go.Proofs.YtddhbokknbmdfaaDoor
open Go.RowKit

/-- The variable at g holds what was read; of W's blocks it alone has turned. -/
structure RI (W : World) (g : Nat) (s : St) (wr : World) : Prop where
  out : ∃ (F : Fp) (vn vj : Value), Sg F wr g vn vj s ∧ (∀ k, F k → k = g ∨ W.heap.size ≤ k) ∧ Chg (fun k => k = g) W wr

theorem listAt_lt {bs : List UInt8} {most : Int} {l : List Nat} {q : Nat} (h : listAt bs 0 most = some (l, q)) : ∀ n ∈ l, n < 9007199254740992 := by
  unfold listAt at h
  rcases hg : getN (bs.drop 0) with _ | ⟨c, j⟩
  · rw [hg] at h; cases h
  · rw [hg] at h
    simp only at h
    have hj := getN_le hg
    split at h
    · exact (readK_le _ _ _ _ _ (by have h2 := hj.2.1; rw [List.drop_zero] at h2; omega) h).2.2.2
    · cases h

set_option maxRecDepth 100000 in
set_option maxHeartbeats 8000000 in
theorem RefGet10_any (c : Cf) (bs : List UInt8) (v : Value) (w : World) (hr : Rd w v (bs.map B)) (hlen : bs.length ≤ 100000) :
    Calls Tryd.prog 21 #[cfV c, v] w (GetPost c bs w) := by
  obtain ⟨W1, hW1, hx1, hba, hbb, hbc⟩ := three_blocks w 23 30 30 #[.int .i64 c.nodes, .int .i64 c.queues, .int .i64 c.quota, .int .i64 c.wave, .int .i64 c.lease, .int .i64 c.retry, .int .i64 c.deadline, .int .i64 c.room, .int .i64 c.disk] #[.slice none 0 0, .slice none 0 0, .int .i64 0, .int .i64 0, .int .i64 0, .int .i64 0] #[.slice none 0 0, .slice none 0 0, .int .i64 0, .int .i64 0, .int .i64 0, .int .i64 0]
  have HGL := Lib.hid (RefGetList_any bs v 0 400 W1 (hr.ext hx1) (by omega) (by omega))
  rw [show ((0 : Nat) : Int) = 0 from rfl] at HGL
  have HV0 := Lib.hid (hr.ext hx1)
  have HVW := Lib.hid hr
  obtain ⟨A, cv, rfl, -, -, -⟩ := hr
  rw [List.length_map] at *
  have hbc : Blk W1 (w.heap.size + 1 + 1) 30 #[.slice none 0 0, .slice none 0 0, .int .i64 0, .int .i64 0, .int .i64 0, .int .i64 0] := hbc
  have HX1 := Lib.hid hx1
  have HBA := Lib.hid hba
  have HBB := Lib.hid hbb
  have HBC := Lib.hid hbc
  have HLN := Lib.hid hlen
  unfold cfV
  clear hx1 hba hbb hbc hlen
  go_enter Tryd.func21, Tryd.ntmps21
  go_wp2_with fail
  rw [← hW1]
  clear hW1
  refine HGL.out.mono ?_
  intro e2 w2 hp
  cases hla : listAt bs 0 400 with
  | none =>
    rw [hla] at hp
    obtain ⟨rfl, hx2⟩ := hp
    have HNO : Hid (∀ t, ¬ IsImg c bs t) := Lib.hid fun t ht => by have h1 := ht.right.read [] 400 (by omega); rw [ht.bytes, List.append_nil, hla] at h1; cases h1
    have HX2 := Lib.hid (HX1.out.trans hx2)
    have hb6 := HBC.out.ext hx2
    have HB4 := Lib.hid (HBB.out.ext hx2)
    clear hx2 hla HGL
    have y0 : w2.cell? ⟨w.heap.size + 1 + 1, 0, none⟩ = some (.slice none 0 0) := hb6.cell 0
    have y1 : w2.cell? ⟨w.heap.size + 1 + 1, 1, none⟩ = some (.slice none 0 0) := hb6.cell 1
    have y2 : w2.cell? ⟨w.heap.size + 1 + 1, 2, none⟩ = some (.int .i64 0) := hb6.cell 2
    have y3 : w2.cell? ⟨w.heap.size + 1 + 1, 3, none⟩ = some (.int .i64 0) := hb6.cell 3
    have y4 : w2.cell? ⟨w.heap.size + 1 + 1, 4, none⟩ = some (.int .i64 0) := hb6.cell 4
    have y5 : w2.cell? ⟨w.heap.size + 1 + 1, 5, none⟩ = some (.int .i64 0) := hb6.cell 5
    have hz4 := HB4.out
    have z0 : w2.cell? ⟨w.heap.size + 1, 0, none⟩ = some (.slice none 0 0) := hz4.cell 0
    have f0 := hz4.frozen 0
    have z1 : w2.cell? ⟨w.heap.size + 1, 1, none⟩ = some (.slice none 0 0) := hz4.cell 1
    have f1 := hz4.frozen 1
    have z2 : w2.cell? ⟨w.heap.size + 1, 2, none⟩ = some (.int .i64 0) := hz4.cell 2
    have f2 := hz4.frozen 2
    have z3 : w2.cell? ⟨w.heap.size + 1, 3, none⟩ = some (.int .i64 0) := hz4.cell 3
    have f3 := hz4.frozen 3
    have z4 : w2.cell? ⟨w.heap.size + 1, 4, none⟩ = some (.int .i64 0) := hz4.cell 4
    have f4 := hz4.frozen 4
    have z5 : w2.cell? ⟨w.heap.size + 1, 5, none⟩ = some (.int .i64 0) := hz4.cell 5
    have f5 := hz4.frozen 5
    go_wp2
    have hq := PB.start hz4
    replace hq := hq.set 0 (.slice none 0 0)
    replace hq := hq.set 1 (.slice none 0 0)
    replace hq := hq.set 2 (.int .i64 0)
    replace hq := hq.set 3 (.int .i64 0)
    replace hq := hq.set 4 (.int .i64 0)
    replace hq := hq.set 5 (.int .i64 0)
    simp only [List.setIfInBounds_toArray, List.set_cons_zero, List.set_cons_succ] at hq
    obtain ⟨wf, hwf⟩ : ∃ W, W = ((((((w2.setCell ⟨w.heap.size + 1, 0, none⟩ (.slice none 0 0)).setCell ⟨w.heap.size + 1, 1, none⟩ (.slice none 0 0)).setCell ⟨w.heap.size + 1, 2, none⟩ (.int .i64 0)).setCell ⟨w.heap.size + 1, 3, none⟩ (.int .i64 0)).setCell ⟨w.heap.size + 1, 4, none⟩ (.int .i64 0)).setCell ⟨w.heap.size + 1, 5, none⟩ (.int .i64 0)) := ⟨_, rfl⟩
    rw [← hwf] at hq ⊢
    clear hwf
    exact bodyPost_ret (results_cell_tmp_row rfl _ _ (w.heap.size + 1) 30 _ (0, 0) _ rfl hq.blk rfl rfl (by kernel_rfl)) rfl ⟨.slice none 0 0, .slice none 0 0, zeroS, false, rfl, rdst_zero _, hq.below _ _ HX2.out (Nat.le_succ _), nil_own _, (fun h => by cases h), fun _ => ⟨rfl, HNO.out⟩⟩
  | some lq =>
    obtain ⟨l, q⟩ := lq
    rw [hla] at hp
    obtain ⟨v', rfl, hown, hx2⟩ := hp
    obtain ⟨L, hL⟩ : ∃ L : List Int, L = l.map fun (n : Nat) => (n : Int) := ⟨_, rfl⟩
    have hrl : Rd w2 v' (L.map I) := by have h := Rd.own hown; rw [hL, List.map_map]; exact h
    have HNT : Hid (∀ t, IsImg c bs t → L = imgL t) := Lib.hid fun t ht => by have h1 := ht.right.read [] 400 (by omega); rw [ht.bytes, List.append_nil, hla] at h1; cases h1; rw [hL]; exact ht.right.numsBack
    have H0 : Hid (∀ x ∈ L, 0 ≤ x) := Lib.hid (by intro x hx; rw [hL] at hx; obtain ⟨n, -, rfl⟩ := List.mem_map.1 hx; exact Int.natCast_nonneg n)
    have hll := listAt_most hla
    have hbd := listAt_lt hla
    have HBD : Hid (∀ i, at_ L i < 9007199254740992) := Lib.hid fun i => by
      unfold at_; rw [List.getD_eq_getElem?_getD, hL, List.getElem?_map]
      cases hi : l[i]? with
      | none => decide
      | some x => have := hbd x (List.mem_of_getElem? hi); simp only [Option.map_some, Option.getD_some]; omega
    clear hbd
    have hL400 : L.length ≤ 400 := by rw [hL, List.length_map]; omega
    have hgb : ∀ k, v'.ownBlock = some k → w.heap.size + 1 + 1 < k := fun k hk => by have h1 := (hown.lt k hk).1; have h2 := HBC.out.lt; omega
    obtain ⟨A', c', rfl, hlc, hcm, hcell⟩ := hrl
    rw [List.length_map] at *
    unfold maxLen at hcm
    have HX2 := Lib.hid (HX1.out.trans hx2)
    have HB4 := Lib.hid (HBB.out.ext hx2)
    have HB6 := Lib.hid (HBC.out.ext hx2)
    have HBA2 := Lib.hid (HBA.out.ext hx2)
    have HVV := Lib.hid (HV0.out.ext hx2)
    have HCL := Lib.hid hcell
    have HGB := Lib.hid hgb
    have HL4 := Lib.hid hL400
    have HLE := Lib.hid hL
    have hll' : (l.length : Int) = (L.length : Int) := by rw [hL, List.length_map]
    clear hown hx2 hla hll hgb hcell hL HGL HBA HBB HBC HX1 HV0
    have hlN : l.length = L.length := by omega
    have HLEN := Lib.hid hlN
    clear hlN
    have hb6 := HB6.out
    have y0 : w2.cell? ⟨w.heap.size + 1 + 1, 0, none⟩ = some (.slice none 0 0) := hb6.cell 0
    have y1 : w2.cell? ⟨w.heap.size + 1 + 1, 1, none⟩ = some (.slice none 0 0) := hb6.cell 1
    have y2 : w2.cell? ⟨w.heap.size + 1 + 1, 2, none⟩ = some (.int .i64 0) := hb6.cell 2
    have y3 : w2.cell? ⟨w.heap.size + 1 + 1, 3, none⟩ = some (.int .i64 0) := hb6.cell 3
    have y4 : w2.cell? ⟨w.heap.size + 1 + 1, 4, none⟩ = some (.int .i64 0) := hb6.cell 4
    have y5 : w2.cell? ⟨w.heap.size + 1 + 1, 5, none⟩ = some (.int .i64 0) := hb6.cell 5
    clear hb6
    by_cases h6 : L.length < 6
    · have d1 : decide ((L.length : Int) < 6) = true := decide_eq_true (by have := HLEN.out; omega)
      have d1' : decide (L.length < 6) = true := decide_eq_true (by have := HLEN.out; omega)
      have HNO : Hid (∀ t, ¬ IsImg c bs t) := Lib.hid fun t ht => by
        try clear hw1
        try clear hw2
        try clear hv1
        try clear hv2
        try clear hwp
        try clear wm1
        try clear wm2
        try clear wm3
        try clear vm1
        try clear vm2
        try clear vm3
        try clear d1
        try clear d1'
        try clear d2
        try clear d2'
        try clear d3
        try clear f1
        try clear f1'
        try clear f2
        have e := HNT.out t ht
        have h6 := ht.right.len
        have h24 := ht.right.nj
        have hle := imgL_len t
        have hno := nOf_img t
        have hmo := mOf_img t
        rw [← e] at hle hno hmo
        omega
      clear h6
      have hz4 := HB4.out
      have z0 : w2.cell? ⟨w.heap.size + 1, 0, none⟩ = some (.slice none 0 0) := hz4.cell 0
      have f0 := hz4.frozen 0
      have z1 : w2.cell? ⟨w.heap.size + 1, 1, none⟩ = some (.slice none 0 0) := hz4.cell 1
      have f1 := hz4.frozen 1
      have z2 : w2.cell? ⟨w.heap.size + 1, 2, none⟩ = some (.int .i64 0) := hz4.cell 2
      have f2 := hz4.frozen 2
      have z3 : w2.cell? ⟨w.heap.size + 1, 3, none⟩ = some (.int .i64 0) := hz4.cell 3
      have f3 := hz4.frozen 3
      have z4 : w2.cell? ⟨w.heap.size + 1, 4, none⟩ = some (.int .i64 0) := hz4.cell 4
      have f4 := hz4.frozen 4
      have z5 : w2.cell? ⟨w.heap.size + 1, 5, none⟩ = some (.int .i64 0) := hz4.cell 5
      have f5 := hz4.frozen 5
      go_wp2
      have hq := PB.start hz4
      replace hq := hq.set 0 (.slice none 0 0)
      replace hq := hq.set 1 (.slice none 0 0)
      replace hq := hq.set 2 (.int .i64 0)
      replace hq := hq.set 3 (.int .i64 0)
      replace hq := hq.set 4 (.int .i64 0)
      replace hq := hq.set 5 (.int .i64 0)
      simp only [List.setIfInBounds_toArray, List.set_cons_zero, List.set_cons_succ] at hq
      obtain ⟨wf, hwf⟩ : ∃ W, W = ((((((w2.setCell ⟨w.heap.size + 1, 0, none⟩ (.slice none 0 0)).setCell ⟨w.heap.size + 1, 1, none⟩ (.slice none 0 0)).setCell ⟨w.heap.size + 1, 2, none⟩ (.int .i64 0)).setCell ⟨w.heap.size + 1, 3, none⟩ (.int .i64 0)).setCell ⟨w.heap.size + 1, 4, none⟩ (.int .i64 0)).setCell ⟨w.heap.size + 1, 5, none⟩ (.int .i64 0)) := ⟨_, rfl⟩
      rw [← hwf] at hq ⊢
      clear hwf
      exact bodyPost_ret (results_cell_tmp_row rfl _ _ (w.heap.size + 1) 30 _ (0, 0) _ rfl hq.blk rfl rfl (by kernel_rfl)) rfl ⟨.slice none 0 0, .slice none 0 0, zeroS, false, rfl, rdst_zero _, hq.below _ _ HX2.out (Nat.le_succ _), nil_own _, (fun h => by cases h), fun _ => ⟨rfl, HNO.out⟩⟩
    have d1 : decide ((L.length : Int) < 6) = false := decide_eq_false (by have := HLEN.out; omega)
    have d1' : decide (L.length < 6) = false := decide_eq_false (by have := HLEN.out; omega)
    obtain ⟨b, o, rfl, hbl, hce⟩ := HCL.out (by omega)
    have HBL := Lib.hid hbl
    have HCE : Hid (∀ i, i < L.length → w2.cell? ⟨b, o + i, none⟩ = some (.int .i64 (at_ L i))) := Lib.hid fun i hi => hce i _ (by simp [at_, List.getD_eq_getElem?_getD, List.getElem?_eq_getElem hi])
    have hbg := HGB.out b rfl
    have HBG := Lib.hid hbg
    obtain ⟨n, hn⟩ : ∃ n : Nat, n = nOf L := ⟨_, rfl⟩
    have hn0 : at_ L 0 = (n : Int) := by rw [hn]; unfold nOf; rw [Int.toNat_of_nonneg (at_nonneg H0.out 0)]
    have p0 : w2.cell? ⟨b, o, none⟩ = some (.int .i64 (n : Int)) := by have := HCE.out 0 (by omega); rw [hn0] at this; exact this
    have HNN := Lib.hid hn
    have x0 : (0 : Int) < (L.length : Int) := by have := HLEN.out; omega
    have x0' : 0 < L.length := by have := HLEN.out; omega
    have H6 := Lib.hid h6
    clear hce hbl hbg hn hn0 h6 HCL HGB
    by_cases hn6 : 6 < n
    · have d2 : decide ((6 : Int) < (n : Int)) = true := decide_eq_true (by omega)
      have d2' : decide (6 < n) = true := decide_eq_true hn6
      have HNO : Hid (∀ t, ¬ IsImg c bs t) := Lib.hid fun t ht => by
        try clear hw1
        try clear hw2
        try clear hv1
        try clear hv2
        try clear hwp
        try clear wm1
        try clear wm2
        try clear wm3
        try clear vm1
        try clear vm2
        try clear vm3
        try clear d1
        try clear d1'
        try clear d2
        try clear d2'
        try clear d3
        try clear f1
        try clear f1'
        try clear f2
        have e := HNT.out t ht
        have h6 := ht.right.len
        have h24 := ht.right.nj
        have hle := imgL_len t
        have hno := nOf_img t
        have hmo := mOf_img t
        rw [← e] at hle hno hmo
        have := HNN.out
        omega
      clear hn6
      have hz4 := HB4.out
      have z0 : w2.cell? ⟨w.heap.size + 1, 0, none⟩ = some (.slice none 0 0) := hz4.cell 0
      have f0 := hz4.frozen 0
      have z1 : w2.cell? ⟨w.heap.size + 1, 1, none⟩ = some (.slice none 0 0) := hz4.cell 1
      have f1 := hz4.frozen 1
      have z2 : w2.cell? ⟨w.heap.size + 1, 2, none⟩ = some (.int .i64 0) := hz4.cell 2
      have f2 := hz4.frozen 2
      have z3 : w2.cell? ⟨w.heap.size + 1, 3, none⟩ = some (.int .i64 0) := hz4.cell 3
      have f3 := hz4.frozen 3
      have z4 : w2.cell? ⟨w.heap.size + 1, 4, none⟩ = some (.int .i64 0) := hz4.cell 4
      have f4 := hz4.frozen 4
      have z5 : w2.cell? ⟨w.heap.size + 1, 5, none⟩ = some (.int .i64 0) := hz4.cell 5
      have f5 := hz4.frozen 5
      go_wp2
      have hq := PB.start hz4
      replace hq := hq.set 0 (.slice none 0 0)
      replace hq := hq.set 1 (.slice none 0 0)
      replace hq := hq.set 2 (.int .i64 0)
      replace hq := hq.set 3 (.int .i64 0)
      replace hq := hq.set 4 (.int .i64 0)
      replace hq := hq.set 5 (.int .i64 0)
      simp only [List.setIfInBounds_toArray, List.set_cons_zero, List.set_cons_succ] at hq
      obtain ⟨wf, hwf⟩ : ∃ W, W = ((((((w2.setCell ⟨w.heap.size + 1, 0, none⟩ (.slice none 0 0)).setCell ⟨w.heap.size + 1, 1, none⟩ (.slice none 0 0)).setCell ⟨w.heap.size + 1, 2, none⟩ (.int .i64 0)).setCell ⟨w.heap.size + 1, 3, none⟩ (.int .i64 0)).setCell ⟨w.heap.size + 1, 4, none⟩ (.int .i64 0)).setCell ⟨w.heap.size + 1, 5, none⟩ (.int .i64 0)) := ⟨_, rfl⟩
      rw [← hwf] at hq ⊢
      clear hwf
      exact bodyPost_ret (results_cell_tmp_row rfl _ _ (w.heap.size + 1) 30 _ (0, 0) _ rfl hq.blk rfl rfl (by kernel_rfl)) rfl ⟨.slice none 0 0, .slice none 0 0, zeroS, false, rfl, rdst_zero _, hq.below _ _ HX2.out (Nat.le_succ _), nil_own _, (fun h => by cases h), fun _ => ⟨rfl, HNO.out⟩⟩
    have d2 : decide ((6 : Int) < (n : Int)) = false := decide_eq_false (by omega)
    have d2' : decide (6 < n) = false := decide_eq_false hn6
    obtain ⟨n3, hn3⟩ : ∃ n3 : Int, n3 = 3 * (n : Int) := ⟨_, rfl⟩
    obtain ⟨n6, hn6'⟩ : ∃ n6 : Int, n6 = 6 + n3 := ⟨_, rfl⟩
    have hw1 : wrap64 (3 * (n : Int)) = n3 := by rw [IntWalk.wrap64_in _ (by omega), hn3]
    have hw2 : wrap64 (6 + n3) = n6 := by rw [IntWalk.wrap64_in _ (by omega), hn6']
    have hv1 : IntKind.i64.wrap (3 * (n : Int)) = n3 := by rw [IntWalk.i64_in _ (by omega), hn3]
    have hv2 : IntKind.i64.wrap (6 + n3) = n6 := by rw [IntWalk.i64_in _ (by omega), hn6']
    have HNL : Hid (n ≤ 6) := Lib.hid (by omega)
    have HN6 := Lib.hid hn6
    have HN3 := Lib.hid hn3
    have HN6' := Lib.hid hn6'
    clear hn6 hn3 hn6'
    by_cases hl6 : (L.length : Int) < n6
    · have d3 : decide ((L.length : Int) < n6) = true := decide_eq_true (by have := HLEN.out; omega)
      have HNO : Hid (∀ t, ¬ IsImg c bs t) := Lib.hid fun t ht => by
        try clear hw1
        try clear hw2
        try clear hv1
        try clear hv2
        try clear hwp
        try clear wm1
        try clear wm2
        try clear wm3
        try clear vm1
        try clear vm2
        try clear vm3
        try clear d1
        try clear d1'
        try clear d2
        try clear d2'
        try clear d3
        try clear f1
        try clear f1'
        try clear f2
        have e := HNT.out t ht
        have h6 := ht.right.len
        have h24 := ht.right.nj
        have hle := imgL_len t
        have hno := nOf_img t
        have hmo := mOf_img t
        rw [← e] at hle hno hmo
        have := HNN.out
        have := HN3.out
        have := HN6'.out
        omega
      clear hl6
      have hz4 := HB4.out
      have z0 : w2.cell? ⟨w.heap.size + 1, 0, none⟩ = some (.slice none 0 0) := hz4.cell 0
      have f0 := hz4.frozen 0
      have z1 : w2.cell? ⟨w.heap.size + 1, 1, none⟩ = some (.slice none 0 0) := hz4.cell 1
      have f1 := hz4.frozen 1
      have z2 : w2.cell? ⟨w.heap.size + 1, 2, none⟩ = some (.int .i64 0) := hz4.cell 2
      have f2 := hz4.frozen 2
      have z3 : w2.cell? ⟨w.heap.size + 1, 3, none⟩ = some (.int .i64 0) := hz4.cell 3
      have f3 := hz4.frozen 3
      have z4 : w2.cell? ⟨w.heap.size + 1, 4, none⟩ = some (.int .i64 0) := hz4.cell 4
      have f4 := hz4.frozen 4
      have z5 : w2.cell? ⟨w.heap.size + 1, 5, none⟩ = some (.int .i64 0) := hz4.cell 5
      have f5 := hz4.frozen 5
      go_wp2
      have hq := PB.start hz4
      replace hq := hq.set 0 (.slice none 0 0)
      replace hq := hq.set 1 (.slice none 0 0)
      replace hq := hq.set 2 (.int .i64 0)
      replace hq := hq.set 3 (.int .i64 0)
      replace hq := hq.set 4 (.int .i64 0)
      replace hq := hq.set 5 (.int .i64 0)
      simp only [List.setIfInBounds_toArray, List.set_cons_zero, List.set_cons_succ] at hq
      obtain ⟨wf, hwf⟩ : ∃ W, W = ((((((w2.setCell ⟨w.heap.size + 1, 0, none⟩ (.slice none 0 0)).setCell ⟨w.heap.size + 1, 1, none⟩ (.slice none 0 0)).setCell ⟨w.heap.size + 1, 2, none⟩ (.int .i64 0)).setCell ⟨w.heap.size + 1, 3, none⟩ (.int .i64 0)).setCell ⟨w.heap.size + 1, 4, none⟩ (.int .i64 0)).setCell ⟨w.heap.size + 1, 5, none⟩ (.int .i64 0)) := ⟨_, rfl⟩
      rw [← hwf] at hq ⊢
      clear hwf
      exact bodyPost_ret (results_cell_tmp_row rfl _ _ (w.heap.size + 1) 30 _ (0, 0) _ rfl hq.blk rfl rfl (by kernel_rfl)) rfl ⟨.slice none 0 0, .slice none 0 0, zeroS, false, rfl, rdst_zero _, hq.below _ _ HX2.out (Nat.le_succ _), nil_own _, (fun h => by cases h), fun _ => ⟨rfl, HNO.out⟩⟩
    have d3 : decide ((L.length : Int) < n6) = false := decide_eq_false (by have := HLEN.out; omega)
    have HL6 := Lib.hid hl6
    clear hl6
    go_wp2_with fail
    have HR0 : Hid (RI w2 (w.heap.size + 1 + 1) zeroS w2) := Lib.hid ⟨⟨_, _, _, Sg.zero HB6.out, fun k hk => .inl hk, Chg.refl _ _⟩⟩
    have HG6 : Hid (w.heap.size + 1 + 1 < w2.heap.size ∧ b ≠ w.heap.size + 1 + 1) := Lib.hid ⟨HB6.out.lt, by have := HBG.out; omega⟩
    have HCW : Hid (∀ W, Chg (fun k => k = w.heap.size + 1 + 1) w2 W → ∀ i, i < L.length → W.cell? ⟨b, o + i, none⟩ = some (.int .i64 (at_ L i))) := Lib.hid fun W hc i hi => (World.cell?_of_block (a := ⟨b, o + i, none⟩) (hc.block b HBL.out (by have := HG6.out.2; exact this))).trans (HCE.out i hi)
    clear y0 y1 y2 y3 y4 y5 p0 hw1 hw2 hv1 hv2
    go_loopw [10, 11] (fun a i wr => ∃ q p : Nat, a = .int .i64 (p : Int) ∧ i = .int .i64 q ∧ q ≤ n ∧ Hid (p = 1 + 3 * q ∧ RI w2 (w.heap.size + 1 + 1) { zeroS with nodes := ndsOf L 1 q } wr)) (fun _ i _ => n - (intOf i).toNat)
    case atStart => exact ⟨0, 1, rfl, rfl, Nat.zero_le _, Lib.hid ⟨rfl, HR0.out⟩⟩
    case round =>
      clear HR0
      obtain ⟨q, p, rfl, rfl, hq, HK⟩ := hrel
      obtain ⟨F, vn, vj, hsg, hF, hc⟩ := HK.out.2.out
      have p0 : wr.cell? ⟨b, o, none⟩ = some (.int .i64 (n : Int)) := by have := HCW.out wr hc 0 (by have := H6.out; omega); rw [show at_ L 0 = (n : Int) by rw [HNN.out]; unfold nOf; rw [Int.toNat_of_nonneg (at_nonneg H0.out 0)]] at this; exact this
      by_cases hlt : q < n
      · have e1 : decide ((q : Int) < (n : Int)) = true := decide_eq_true (by omega)
        have e1' : decide (q < n) = true := decide_eq_true hlt
        have hpl : p + 3 < L.length := by have h1 := HK.out.1; have h2 := HL6.out; have h3 := HN6'.out; have h4 := HN3.out; omega
        have hp4 : p ≤ 400 := by have := HL4.out; omega
        have pa : wr.cell? ⟨b, o + p, none⟩ = some (.int .i64 (at_ L p)) := HCW.out wr hc p (by omega)
        have x1 : (0 : Int) ≤ (p : Int) ∧ (p : Int) < (L.length : Int) := by omega
        have hw3 : wrap64 ((p : Int) + 1) = (p : Int) + 1 := IntWalk.wrap64_in _ (by omega)
        have hw4 : wrap64 ((p : Int) + 2) = (p : Int) + 2 := IntWalk.wrap64_in _ (by omega)
        have hw5 : wrap64 ((p : Int) + 3) = (p : Int) + 3 := IntWalk.wrap64_in _ (by omega)
        have pa1 : ∀ W, Chg (fun k => k = w.heap.size + 1 + 1) w2 W → (W.cell? ⟨b, o + (p + 1), none⟩ = some (.int .i64 (at_ L (p + 1))) ∧ W.cell? ⟨b, o + (p + 2), none⟩ = some (.int .i64 (at_ L (p + 2)))) := fun W hW => ⟨HCW.out W hW (p + 1) (by omega), HCW.out W hW (p + 2) (by omega)⟩
        have HSN := Lib.hid pa1
        clear pa1
        have x2 : (0 : Int) ≤ (p : Int) + 1 ∧ (p : Int) + 1 < (L.length : Int) := by omega
        have x3 : (0 : Int) ≤ (p : Int) + 2 ∧ (p : Int) + 2 < (L.length : Int) := by omega
        have hv3 : IntKind.i64.wrap ((p : Int) + 1) = (p : Int) + 1 := IntWalk.i64_in _ (by omega)
        have hv4 : IntKind.i64.wrap ((p : Int) + 2) = (p : Int) + 2 := IntWalk.i64_in _ (by omega)
        obtain ⟨f, hf⟩ : ∃ f, f = at_ L p := ⟨_, rfl⟩
        have hf0 : 0 ≤ f := by rw [hf]; exact at_nonneg H0.out p
        have hf1 : f < 9007199254740992 := by rw [hf]; exact HBD.out p
        have HF_ := Lib.hid hf
        rw [← hf] at pa
        clear hf
        obtain ⟨s, hs⟩ : ∃ s : St, s = { zeroS with nodes := ndsOf L 1 q } := ⟨_, rfl⟩
        rw [← hs] at hsg
        have hlo : s.nodes.length = q := by rw [hs]; exact ndsOf_len _ _ _
        obtain ⟨nd, hn⟩ : ∃ n, n = ndAt L p := ⟨_, rfl⟩
        have hnu : nd.up = decide (f % 2 = 1) ∧ nd.cordon = decide (f / 2 % 2 = 1) ∧ nd.moving = decide (f / 4 % 2 = 1) ∧ nd.version = at_ L (p + 1) ∧ nd.job = at_ L (p + 2) := by rw [hn, HF_.out]; exact ⟨rfl, rfl, rfl, rfl, rfl⟩
        have HS2 : Hid ({ s with nodes := s.nodes ++ [nd] } = { zeroS with nodes := ndsOf L 1 (q + 1) }) := Lib.hid (by rw [hs, hn]; show St.mk _ _ _ _ _ _ = _; simp only [ndsOf_succ]; rw [show 1 + 3 * q = p from HK.out.1.symm])
        have HN1 : Hid (s.nodes.length + 1 ≤ maxLen) := Lib.hid (by unfold maxLen; have := HNL.out; omega)
        have HN2 : Hid ((s.nodes.length + 1) * 24 ≤ 140737488355328) := Lib.hid (by have := HNL.out; omega)
        have HOC : Hid (∀ u ∈ nd.cells, u.oneCell' = true) := Lib.hid (by simp [Nd.cells, Value.oneCell'])
        have HPQ := Lib.hid HK.out.1
        have HS0_ := Lib.hid (hsg.ext (Below.drewN' (Ext.refl wr) 1))
        clear hlo
        have HWQ : Hid (wrap64 ((q : Int) + 1) = (q : Int) + 1) := Lib.hid (IntWalk.wrap64_in _ (by have := HNL.out; omega))
        have HNU := Lib.hid hnu
        have hv5 : ((p : Int) + 2).toNat = p + 2 := by omega
        have hv6 : ((p : Int) + 1).toNat = p + 1 := by omega
        have hb1 : (f.tmod 2 == 1) = nd.up := by rw [hnu.1, Int.tmod_eq_emod_of_nonneg hf0]; rfl
        have hb2 : ((IntKind.i64.wrap (f.tdiv 2)).tmod 2 == 1) = nd.cordon := by rw [hnu.2.1, Int.tdiv_eq_ediv_of_nonneg hf0, IntWalk.i64_in _ (by omega), Int.tmod_eq_emod_of_nonneg (by omega)]; rfl
        have hb3 : ((IntKind.i64.wrap (f.tdiv 4)).tmod 2 == 1) = nd.moving := by rw [hnu.2.2.1, Int.tdiv_eq_ediv_of_nonneg hf0, IntWalk.i64_in _ (by omega), Int.tmod_eq_emod_of_nonneg (by omega)]; rfl
        have hnv := hnu.2.2.2.1
        have hnj := hnu.2.2.2.2
        rw [← hnv, ← hnj] at HSN
        clear hnv hnj hf0 hf1
        have HSG := Lib.hid hsg
        have HFF := Lib.hid hF
        have HCC := Lib.hid hc
        have HLT := Lib.hid hlt
        have HPL := Lib.hid hpl
        clear hsg hF hc hlt hpl hnu hn hs HK
        go_upto_region 10 with (fail)
        obtain ⟨u0, hu⟩ : ∃ u, u = wr.drew := ⟨_, rfl⟩
        have hcu : Chg (fun k => k = w.heap.size + 1 + 1) w2 u0 := by rw [hu]; exact HCC.out.drew
        have HS0 : Hid (Sg F u0 (w.heap.size + 1 + 1) vn vj s) := Lib.hid (by rw [hu]; exact HS0_.out)
        have HCU := Lib.hid hcu
        clear hcu HS0_
        refine held_begin (by kernel_rfl) ?_
        have hHeld0 : True := True.intro
        rw [← hu]
        clear hu
        refine held_more (S' := fun (W : World) => W.cell? ⟨b, o + (p + 1), none⟩ = some (.int .i64 nd.version) ∧ W.cell? ⟨b, o + (p + 2), none⟩ = some (.int .i64 nd.job)) (fun _ _ => True.intro) ?_
        have hHeld1 : (fun (W : World) => W.cell? ⟨b, o + (p + 1), none⟩ = some (.int .i64 nd.version) ∧ W.cell? ⟨b, o + (p + 2), none⟩ = some (.int .i64 nd.job)) u0 := HSN.out _ HCU.out
        clear hHeld0
        refine held_take (i := 0) (v := ?_) rfl (by kernel_rfl) (by kernel_rfl) (by kernel_rfl) (by rfl) (by first | assumption | exact True.intro) ?_ ?_
        rotate_left
        · (intro w hSw; (try dsimp only at hSw); (try obtain ⟨hS1, hS2⟩ := hSw); go_simp; (try with_reducible rfl))
        try simp only [Act.put, List.setIfInBounds_toArray, List.set_cons_zero, List.set_cons_succ]
        refine held_take (i := 2) (v := ?_) rfl (by kernel_rfl) (by kernel_rfl) (by kernel_rfl) (by rfl) (by first | assumption | exact True.intro) ?_ ?_
        rotate_left
        · (intro w hSw; (try dsimp only at hSw); (try obtain ⟨hS1, hS2⟩ := hSw); go_simp; (try with_reducible rfl))
        try simp only [Act.put, List.setIfInBounds_toArray, List.set_cons_zero, List.set_cons_succ]
        refine held_take (i := 3) (v := ?_) rfl (by kernel_rfl) (by kernel_rfl) (by kernel_rfl) (by rfl) (by first | assumption | exact True.intro) ?_ ?_
        rotate_left
        · (intro w hSw; (try dsimp only at hSw); (try obtain ⟨hS1, hS2⟩ := hSw); go_simp; (try with_reducible rfl))
        try simp only [Act.put, List.setIfInBounds_toArray, List.set_cons_zero, List.set_cons_succ]
        refine held_take (i := 4) (v := ?_) rfl (by kernel_rfl) (by kernel_rfl) (by kernel_rfl) (by rfl) (by first | assumption | exact True.intro) ?_ ?_
        rotate_left
        · (intro w hSw; (try dsimp only at hSw); (try obtain ⟨hS1, hS2⟩ := hSw); go_simp; (try with_reducible rfl))
        try simp only [Act.put, List.setIfInBounds_toArray, List.set_cons_zero, List.set_cons_succ]
        refine held_take (i := 5) (v := ?_) rfl (by kernel_rfl) (by kernel_rfl) (by kernel_rfl) (by rfl) (by first | assumption | exact True.intro) ?_ ?_
        rotate_left
        · (intro w hSw; (try dsimp only at hSw); (try obtain ⟨hS1, hS2⟩ := hSw); go_simp; (try with_reducible rfl))
        try simp only [Act.put, List.setIfInBounds_toArray, List.set_cons_zero, List.set_cons_succ]
        refine held_take (i := 6) (v := ?_) rfl (by kernel_rfl) (by kernel_rfl) (by kernel_rfl) (by rfl) (by first | assumption | exact True.intro) ?_ ?_
        rotate_left
        · (intro w hSw; (try dsimp only at hSw); (try obtain ⟨hS1, hS2⟩ := hSw); go_simp; (try with_reducible rfl))
        try simp only [Act.put, List.setIfInBounds_toArray, List.set_cons_zero, List.set_cons_succ]
        refine held_take (i := 7) (v := ?_) rfl (by kernel_rfl) (by kernel_rfl) (by kernel_rfl) (by rfl) (by first | assumption | exact True.intro) ?_ ?_
        rotate_left
        · (intro w hSw; (try dsimp only at hSw); (try obtain ⟨hS1, hS2⟩ := hSw); go_simp; (try with_reducible rfl))
        try simp only [Act.put, List.setIfInBounds_toArray, List.set_cons_zero, List.set_cons_succ]
        refine held_take (i := 8) (v := ?_) rfl (by kernel_rfl) (by kernel_rfl) (by kernel_rfl) (by rfl) (by first | assumption | exact True.intro) ?_ ?_
        rotate_left
        · (intro w hSw; (try dsimp only at hSw); (try obtain ⟨hS1, hS2⟩ := hSw); go_simp; (try with_reducible rfl))
        try simp only [Act.put, List.setIfInBounds_toArray, List.set_cons_zero, List.set_cons_succ]
        refine held_take (i := 9) (v := ?_) rfl (by kernel_rfl) (by kernel_rfl) (by kernel_rfl) (by rfl) (by first | assumption | exact True.intro) ?_ ?_
        rotate_left
        · (intro w hSw; (try dsimp only at hSw); (try obtain ⟨hS1, hS2⟩ := hSw); go_simp; (try with_reducible rfl))
        try simp only [Act.put, List.setIfInBounds_toArray, List.set_cons_zero, List.set_cons_succ]
        refine held_take (i := 10) (v := ?_) rfl (by kernel_rfl) (by kernel_rfl) (by kernel_rfl) (by rfl) (by first | assumption | exact True.intro) ?_ ?_
        rotate_left
        · (intro w hSw; (try dsimp only at hSw); (try obtain ⟨hS1, hS2⟩ := hSw); go_simp; (try with_reducible rfl))
        try simp only [Act.put, List.setIfInBounds_toArray, List.set_cons_zero, List.set_cons_succ]
        refine held_take (i := 11) (v := ?_) rfl (by kernel_rfl) (by kernel_rfl) (by kernel_rfl) (by rfl) (by first | assumption | exact True.intro) ?_ ?_
        rotate_left
        · (intro w hSw; (try dsimp only at hSw); (try obtain ⟨hS1, hS2⟩ := hSw); go_simp; (try with_reducible rfl))
        try simp only [Act.put, List.setIfInBounds_toArray, List.set_cons_zero, List.set_cons_succ]
        refine held_take (i := 12) (v := ?_) rfl (by kernel_rfl) (by kernel_rfl) (by kernel_rfl) (by rfl) (by first | assumption | exact True.intro) ?_ ?_
        rotate_left
        · (intro w hSw; (try dsimp only at hSw); (try obtain ⟨hS1, hS2⟩ := hSw); go_simp; (try with_reducible rfl))
        try simp only [Act.put, List.setIfInBounds_toArray, List.set_cons_zero, List.set_cons_succ]
        refine held_take (i := 13) (v := ?_) rfl (by kernel_rfl) (by kernel_rfl) (by kernel_rfl) (by rfl) (by first | assumption | exact True.intro) ?_ ?_
        rotate_left
        · (intro w hSw; (try dsimp only at hSw); (try obtain ⟨hS1, hS2⟩ := hSw); go_simp; (try with_reducible rfl))
        try simp only [Act.put, List.setIfInBounds_toArray, List.set_cons_zero, List.set_cons_succ]
        refine held_take (i := 14) (v := ?_) rfl (by kernel_rfl) (by kernel_rfl) (by kernel_rfl) (by rfl) (by first | assumption | exact True.intro) ?_ ?_
        rotate_left
        · (intro w hSw; (try dsimp only at hSw); (try obtain ⟨hS1, hS2⟩ := hSw); go_simp; (try with_reducible rfl))
        try simp only [Act.put, List.setIfInBounds_toArray, List.set_cons_zero, List.set_cons_succ]
        refine held_take (i := 15) (v := ?_) rfl (by kernel_rfl) (by kernel_rfl) (by kernel_rfl) (by rfl) (by first | assumption | exact True.intro) ?_ ?_
        rotate_left
        · (intro w hSw; (try dsimp only at hSw); (try obtain ⟨hS1, hS2⟩ := hSw); go_simp; (try with_reducible rfl))
        try simp only [Act.put, List.setIfInBounds_toArray, List.set_cons_zero, List.set_cons_succ]
        refine held_take (i := 16) (v := ?_) rfl (by kernel_rfl) (by kernel_rfl) (by kernel_rfl) (by rfl) (by first | assumption | exact True.intro) ?_ ?_
        rotate_left
        · (intro w hSw; (try dsimp only at hSw); (try obtain ⟨hS1, hS2⟩ := hSw); go_simp; (try with_reducible rfl))
        try simp only [Act.put, List.setIfInBounds_toArray, List.set_cons_zero, List.set_cons_succ]
        refine held_take (i := 17) (v := ?_) rfl (by kernel_rfl) (by kernel_rfl) (by kernel_rfl) (by rfl) (by first | assumption | exact True.intro) ?_ ?_
        rotate_left
        · (intro w hSw; (try dsimp only at hSw); (try obtain ⟨hS1, hS2⟩ := hSw); go_simp; (try with_reducible rfl))
        try simp only [Act.put, List.setIfInBounds_toArray, List.set_cons_zero, List.set_cons_succ]
        refine held_take (i := 18) (v := ?_) rfl (by kernel_rfl) (by kernel_rfl) (by kernel_rfl) (by rfl) (by first | assumption | exact True.intro) ?_ ?_
        rotate_left
        · (intro w hSw; (try dsimp only at hSw); (try obtain ⟨hS1, hS2⟩ := hSw); go_simp; (try with_reducible rfl))
        try simp only [Act.put, List.setIfInBounds_toArray, List.set_cons_zero, List.set_cons_succ]
        refine held_take (i := 19) (v := ?_) rfl (by kernel_rfl) (by kernel_rfl) (by kernel_rfl) (by rfl) (by first | assumption | exact True.intro) ?_ ?_
        rotate_left
        · (intro w hSw; (try dsimp only at hSw); (try obtain ⟨hS1, hS2⟩ := hSw); go_simp; (try with_reducible rfl))
        try simp only [Act.put, List.setIfInBounds_toArray, List.set_cons_zero, List.set_cons_succ]
        refine held_take (i := 20) (v := ?_) rfl (by kernel_rfl) (by kernel_rfl) (by kernel_rfl) (by rfl) (by first | assumption | exact True.intro) ?_ ?_
        rotate_left
        · (intro w hSw; (try dsimp only at hSw); (try obtain ⟨hS1, hS2⟩ := hSw); go_simp; (try with_reducible rfl))
        try simp only [Act.put, List.setIfInBounds_toArray, List.set_cons_zero, List.set_cons_succ]
        refine held_take (i := 21) (v := ?_) rfl (by kernel_rfl) (by kernel_rfl) (by kernel_rfl) (by rfl) (by first | assumption | exact True.intro) ?_ ?_
        rotate_left
        · (intro w hSw; (try dsimp only at hSw); (try obtain ⟨hS1, hS2⟩ := hSw); go_simp; (try with_reducible rfl))
        try simp only [Act.put, List.setIfInBounds_toArray, List.set_cons_zero, List.set_cons_succ]
        refine held_take (i := 22) (v := ?_) rfl (by kernel_rfl) (by kernel_rfl) (by kernel_rfl) (by rfl) (by first | assumption | exact True.intro) ?_ ?_
        rotate_left
        · (intro w hSw; (try dsimp only at hSw); (try obtain ⟨hS1, hS2⟩ := hSw); go_simp; (try with_reducible rfl))
        try simp only [Act.put, List.setIfInBounds_toArray, List.set_cons_zero, List.set_cons_succ]
        refine held_take (i := 23) (v := ?_) rfl (by kernel_rfl) (by kernel_rfl) (by kernel_rfl) (by rfl) (by first | assumption | exact True.intro) ?_ ?_
        rotate_left
        · (intro w hSw; (try dsimp only at hSw); (try obtain ⟨hS1, hS2⟩ := hSw); go_simp; (try with_reducible rfl))
        try simp only [Act.put, List.setIfInBounds_toArray, List.set_cons_zero, List.set_cons_succ]
        have c0 : u0.cell? ⟨w.heap.size + 1 + 1, 0, none⟩ = some vn := HS0.out.blk.cell 0
        refine held_two (i := 1) (j := 24) (by kernel_rfl) rfl rfl (fun K hK => ?_) (fun K hK => ?_)
        · go_simp
          refine hK _ _ ?_ (fun hHeld2 => ?_)
          · exact HSN.out _ (HCU.out)
          clear hK K hHeld1
          try simp only [Act.put, List.setIfInBounds_toArray, List.set_cons_zero, List.set_cons_succ]
          refine held_op (i := 24) (by kernel_rfl) rfl (fun K hK => ?_)
          go_simp
          obtain ⟨w7, hw7⟩ : ∃ v, v = u0.alloc (.cells #[.bool nd.up, .bool nd.cordon, .bool nd.moving, .int .i64 nd.version, .int .i64 nd.job] 45) := ⟨_, rfl⟩
          have hx7 : Ext u0 w7 := by rw [hw7]; exact (Below.refl _ _).alloc (Nat.le_refl _) _
          have hlit := RdS.lit 5 u0 #[.bool nd.up, .bool nd.cordon, .bool nd.moving, .int .i64 nd.version, .int .i64 nd.job] 45 u0.heap.size rfl rfl
          rw [← hw7] at hlit
          have hs7 := HS0.out.ext hx7
          have c0 : w7.cell? ⟨w.heap.size + 1 + 1, 0, none⟩ = some vn := hs7.blk.cell 0
          have hc7 : Chg (fun k => k = w.heap.size + 1 + 1) w2 w7 := HCU.out.trans (Chg.of_ext hx7) (fun _ _ h => h)
          rw [← hw7]
          clear hw7
          refine hK _ _ ?_ (fun hHeld3 => ?_)
          · exact HSN.out _ (hc7)
          clear hK K hHeld2
          try simp only [Act.put, List.setIfInBounds_toArray, List.set_cons_zero, List.set_cons_succ]
          refine held_op (i := 25) (by kernel_rfl) rfl (fun K hK => ?_)
          refine stepAppendK (.tmp 58) (.tmp 81) 27 rfl ?_ 0 45 _ 5 24 Tryd.underlying27 Tryd.infoNode rfl (by decide) vn s.nodes.length (nodesC s.nodes) ?_ hs7.rowN (.slice (some ⟨u0.heap.size, 0, none⟩) 1 1) 1 nd.cells ?_ hlit HOC.out HN1.out HN2.out (Nat.zero_le _) ?_
          · rfl
          · rfl
          · rfl
          intro v8 w8 hg8
          obtain ⟨A8, k8, rfl⟩ := own_slice hg8.1
          have hc8 : Chg (fun k => k = w.heap.size + 1 + 1) w2 w8 := hc7.trans (Chg.of_grown (F := fun k => vn.ownBlock = some k) hg8.2.1 (fun k hk => hk)) (fun x hx hk => by have h1 := (ObjF.ok hs7 ⟨45, 5, vn, s.nodes.length, nodesC s.nodes⟩ (by simp)).2 x hk; have := HFF.out x h1; omega)
          refine hK _ _ ?_ (fun hHeld4 => ?_)
          · exact HSN.out _ (hc8)
          clear hK K hHeld3
          try simp only [Act.put, List.setIfInBounds_toArray, List.set_cons_zero, List.set_cons_succ]
          have hs9 := hs7.snocN nd hg8
          have hb8 : w8.cell? ⟨w.heap.size + 1 + 1, 0, none⟩ = some vn := (World.cell?_of_block (a := ⟨w.heap.size + 1 + 1, 0, none⟩) (hg8.2.1.block _ hs7.lt (fun e => ObjF.off hs7 ⟨45, 5, vn, s.nodes.length, nodesC s.nodes⟩ (by simp) e.symm))).trans c0
          have hf8 : w8.frozen? ⟨w.heap.size + 1 + 1, 0, none⟩ = false := (show Blk w8 (w.heap.size + 1 + 1) 30 (vsC vn vj s) from (hg8.2.1.block _ hs7.lt (fun e => ObjF.off hs7 ⟨45, 5, vn, s.nodes.length, nodesC s.nodes⟩ (by simp) e.symm)).trans hs7.blk).frozen 0
          refine held_take (i := 26) (v := ?_) rfl (by kernel_rfl) (by kernel_rfl) (by kernel_rfl) (by rfl) (by first | assumption | exact True.intro) ?_ ?_
          rotate_left
          · (intro w hSw; skip; go_simp; (try with_reducible rfl))
          try simp only [Act.put, List.setIfInBounds_toArray, List.set_cons_zero, List.set_cons_succ]
          refine held_op (i := 27) (by kernel_rfl) rfl (fun K hK => ?_)
          go_simp
          refine hK _ _ ?_ (fun hHeld5 => ?_)
          · exact HSN.out _ (hc8.setCell (fun _ => rfl))
          clear hK K hHeld4
          try simp only [Act.put, List.setIfInBounds_toArray, List.set_cons_zero, List.set_cons_succ]
          obtain ⟨w9, hw9⟩ : ∃ v, v = w8.setCell ⟨w.heap.size + 1 + 1, 0, none⟩ (.slice A8 (s.nodes.length + 1) k8) := ⟨_, rfl⟩
          rw [← hw9] at hs9 ⊢
          clear hw9
          have hz7 := hc7.size
          have HKN : Hid (RI w2 (w.heap.size + 1 + 1) ({ zeroS with nodes := ndsOf L 1 (q + 1) }) w9) := Lib.hid ⟨⟨_, _, _, by rw [← HS2.out]; exact hs9.1, fun k hk => by (rcases hk with hk | hk); (exact HFF.out k hk); (have := hk.1; omega), hc7.trans hs9.2 (fun z hz h => by have := HFF.out z h; omega)⟩⟩
          refine wpAnyH_done (by kernel_rfl) ?_ _
          refine NoPanic.normal ?_
          clear hHeld5 hs9 hc8 hc7 hz7 hb8 hf8 hg8
          go_wp2
          go_roundw
          case rel => exact ⟨q + 1, p + 3, by go_num, by rw [HWQ.out]; rfl, HLT.out, Lib.hid ⟨by have := HPQ.out; omega, HKN.out⟩⟩
          case measure => rw [HWQ.out]; exact meas10 HLT.out
        · go_simp
          obtain ⟨w7, hw7⟩ : ∃ v, v = u0.alloc (.cells #[.bool nd.up, .bool nd.cordon, .bool nd.moving, .int .i64 nd.version, .int .i64 nd.job] 45) := ⟨_, rfl⟩
          have hx7 : Ext u0 w7 := by rw [hw7]; exact (Below.refl _ _).alloc (Nat.le_refl _) _
          have hlit := RdS.lit 5 u0 #[.bool nd.up, .bool nd.cordon, .bool nd.moving, .int .i64 nd.version, .int .i64 nd.job] 45 u0.heap.size rfl rfl
          rw [← hw7] at hlit
          have hs7 := HS0.out.ext hx7
          have c0 : w7.cell? ⟨w.heap.size + 1 + 1, 0, none⟩ = some vn := hs7.blk.cell 0
          have hc7 : Chg (fun k => k = w.heap.size + 1 + 1) w2 w7 := HCU.out.trans (Chg.of_ext hx7) (fun _ _ h => h)
          rw [← hw7]
          clear hw7
          refine hK _ _ ?_ (fun hHeld2 => ?_)
          · exact HSN.out _ (hc7)
          clear hK K hHeld1
          try simp only [Act.put, List.setIfInBounds_toArray, List.set_cons_zero, List.set_cons_succ]
          refine held_op (i := 1) (by kernel_rfl) rfl (fun K hK => ?_)
          go_simp
          refine hK _ _ ?_ (fun hHeld3 => ?_)
          · exact HSN.out _ (hc7)
          clear hK K hHeld2
          try simp only [Act.put, List.setIfInBounds_toArray, List.set_cons_zero, List.set_cons_succ]
          refine held_op (i := 25) (by kernel_rfl) rfl (fun K hK => ?_)
          refine stepAppendK (.tmp 58) (.tmp 81) 27 rfl ?_ 0 45 _ 5 24 Tryd.underlying27 Tryd.infoNode rfl (by decide) vn s.nodes.length (nodesC s.nodes) ?_ hs7.rowN (.slice (some ⟨u0.heap.size, 0, none⟩) 1 1) 1 nd.cells ?_ hlit HOC.out HN1.out HN2.out (Nat.zero_le _) ?_
          · rfl
          · rfl
          · rfl
          intro v8 w8 hg8
          obtain ⟨A8, k8, rfl⟩ := own_slice hg8.1
          have hc8 : Chg (fun k => k = w.heap.size + 1 + 1) w2 w8 := hc7.trans (Chg.of_grown (F := fun k => vn.ownBlock = some k) hg8.2.1 (fun k hk => hk)) (fun x hx hk => by have h1 := (ObjF.ok hs7 ⟨45, 5, vn, s.nodes.length, nodesC s.nodes⟩ (by simp)).2 x hk; have := HFF.out x h1; omega)
          refine hK _ _ ?_ (fun hHeld4 => ?_)
          · exact HSN.out _ (hc8)
          clear hK K hHeld3
          try simp only [Act.put, List.setIfInBounds_toArray, List.set_cons_zero, List.set_cons_succ]
          have hs9 := hs7.snocN nd hg8
          have hb8 : w8.cell? ⟨w.heap.size + 1 + 1, 0, none⟩ = some vn := (World.cell?_of_block (a := ⟨w.heap.size + 1 + 1, 0, none⟩) (hg8.2.1.block _ hs7.lt (fun e => ObjF.off hs7 ⟨45, 5, vn, s.nodes.length, nodesC s.nodes⟩ (by simp) e.symm))).trans c0
          have hf8 : w8.frozen? ⟨w.heap.size + 1 + 1, 0, none⟩ = false := (show Blk w8 (w.heap.size + 1 + 1) 30 (vsC vn vj s) from (hg8.2.1.block _ hs7.lt (fun e => ObjF.off hs7 ⟨45, 5, vn, s.nodes.length, nodesC s.nodes⟩ (by simp) e.symm)).trans hs7.blk).frozen 0
          refine held_take (i := 26) (v := ?_) rfl (by kernel_rfl) (by kernel_rfl) (by kernel_rfl) (by rfl) (by first | assumption | exact True.intro) ?_ ?_
          rotate_left
          · (intro w hSw; skip; go_simp; (try with_reducible rfl))
          try simp only [Act.put, List.setIfInBounds_toArray, List.set_cons_zero, List.set_cons_succ]
          refine held_op (i := 27) (by kernel_rfl) rfl (fun K hK => ?_)
          go_simp
          refine hK _ _ ?_ (fun hHeld5 => ?_)
          · exact HSN.out _ (hc8.setCell (fun _ => rfl))
          clear hK K hHeld4
          try simp only [Act.put, List.setIfInBounds_toArray, List.set_cons_zero, List.set_cons_succ]
          obtain ⟨w9, hw9⟩ : ∃ v, v = w8.setCell ⟨w.heap.size + 1 + 1, 0, none⟩ (.slice A8 (s.nodes.length + 1) k8) := ⟨_, rfl⟩
          rw [← hw9] at hs9 ⊢
          clear hw9
          have hz7 := hc7.size
          have HKN : Hid (RI w2 (w.heap.size + 1 + 1) ({ zeroS with nodes := ndsOf L 1 (q + 1) }) w9) := Lib.hid ⟨⟨_, _, _, by rw [← HS2.out]; exact hs9.1, fun k hk => by (rcases hk with hk | hk); (exact HFF.out k hk); (have := hk.1; omega), hc7.trans hs9.2 (fun z hz h => by have := HFF.out z h; omega)⟩⟩
          refine wpAnyH_done (by kernel_rfl) ?_ _
          refine NoPanic.normal ?_
          clear hHeld5 hs9 hc8 hc7 hz7 hb8 hf8 hg8
          go_wp2
          go_roundw
          case rel => exact ⟨q + 1, p + 3, by go_num, by rw [HWQ.out]; rfl, HLT.out, Lib.hid ⟨by have := HPQ.out; omega, HKN.out⟩⟩
          case measure => rw [HWQ.out]; exact meas10 HLT.out
      · have e0 : n = q := by omega
        subst e0
        have e1 : decide ((n : Int) < (n : Int)) = false := decide_eq_false (by omega)
        have e1' : decide (n < n) = false := decide_eq_false (by omega)
        have HPE := Lib.hid HK.out.1
        obtain ⟨m, hm⟩ : ∃ m : Nat, m = mOf L := ⟨_, rfl⟩
        have hm0 : at_ L p = (m : Int) := by rw [hm, HPE.out]; unfold mOf; rw [← HNN.out, Int.toNat_of_nonneg (at_nonneg H0.out _)]
        have hpl : p < L.length := by have h1 := HPE.out; have h2 := HL6.out; have h3 := HN6'.out; have h4 := HN3.out; omega
        have HP4 : Hid (p ≤ 19) := Lib.hid (by have := HPE.out; have := HNL.out; omega)
        have pm : wr.cell? ⟨b, o + p, none⟩ = some (.int .i64 (m : Int)) := by have := HCW.out wr hc p hpl; rw [hm0] at this; exact this
        have x1 : (0 : Int) ≤ (p : Int) ∧ (p : Int) < (L.length : Int) := by omega
        have hwp : wrap64 ((p : Int) + 1) = (p : Int) + 1 := IntWalk.wrap64_in _ (by have := HP4.out; omega)
        have HMB : Hid (m < 9007199254740992) := Lib.hid (by have := HBD.out p; omega)
        have HBW : Hid (Blk wr (w.heap.size + 1) 30 #[.slice none 0 0, .slice none 0 0, .int .i64 0, .int .i64 0, .int .i64 0, .int .i64 0]) := Lib.hid ((hc.block _ HB4.out.lt (by omega)).trans HB4.out)
        have HXW := Lib.hid (hc.ext HX2.out (fun k hk => by omega))
        have HMM := Lib.hid hm
        have HR1 : Hid (RI w2 (w.heap.size + 1 + 1) { zeroS with nodes := ndsOf L 1 n } wr) := Lib.hid HK.out.2.out |> fun h => Lib.hid ⟨h.out⟩
        have HBA3 : Hid (Blk wr w.heap.size 23 #[.int .i64 c.nodes, .int .i64 c.queues, .int .i64 c.quota, .int .i64 c.wave, .int .i64 c.lease, .int .i64 c.retry, .int .i64 c.deadline, .int .i64 c.room, .int .i64 c.disk]) := Lib.hid ((hc.block _ HBA2.out.lt (by omega)).trans HBA2.out)
        clear hm hm0 hpl HK hsg hF hlt hq
        by_cases hm24 : 24 < m
        · have f1 : decide ((24 : Int) < (m : Int)) = true := decide_eq_true (by omega)
          have f1' : decide (24 < m) = true := decide_eq_true hm24
          have HNO : Hid (∀ t, ¬ IsImg c bs t) := Lib.hid fun t ht => by
            try clear hw1
            try clear hw2
            try clear hv1
            try clear hv2
            try clear hwp
            try clear wm1
            try clear wm2
            try clear wm3
            try clear vm1
            try clear vm2
            try clear vm3
            try clear d1
            try clear d1'
            try clear d2
            try clear d2'
            try clear d3
            try clear f1
            try clear f1'
            try clear f2
            have e := HNT.out t ht
            have h6 := ht.right.len
            have h24 := ht.right.nj
            have hle := imgL_len t
            have hno := nOf_img t
            have hmo := mOf_img t
            rw [← e] at hle hno hmo
            have := HMM.out
            omega
          clear hm24 hc
          have hz4 := HBW.out
          have z0 : wr.cell? ⟨w.heap.size + 1, 0, none⟩ = some (.slice none 0 0) := hz4.cell 0
          have f0 := hz4.frozen 0
          have z1 : wr.cell? ⟨w.heap.size + 1, 1, none⟩ = some (.slice none 0 0) := hz4.cell 1
          have f1 := hz4.frozen 1
          have z2 : wr.cell? ⟨w.heap.size + 1, 2, none⟩ = some (.int .i64 0) := hz4.cell 2
          have f2 := hz4.frozen 2
          have z3 : wr.cell? ⟨w.heap.size + 1, 3, none⟩ = some (.int .i64 0) := hz4.cell 3
          have f3 := hz4.frozen 3
          have z4 : wr.cell? ⟨w.heap.size + 1, 4, none⟩ = some (.int .i64 0) := hz4.cell 4
          have f4 := hz4.frozen 4
          have z5 : wr.cell? ⟨w.heap.size + 1, 5, none⟩ = some (.int .i64 0) := hz4.cell 5
          have f5 := hz4.frozen 5
          go_wp2
          have hq := PB.start hz4
          replace hq := hq.set 0 (.slice none 0 0)
          replace hq := hq.set 1 (.slice none 0 0)
          replace hq := hq.set 2 (.int .i64 0)
          replace hq := hq.set 3 (.int .i64 0)
          replace hq := hq.set 4 (.int .i64 0)
          replace hq := hq.set 5 (.int .i64 0)
          simp only [List.setIfInBounds_toArray, List.set_cons_zero, List.set_cons_succ] at hq
          obtain ⟨wf, hwf⟩ : ∃ W, W = ((((((wr.setCell ⟨w.heap.size + 1, 0, none⟩ (.slice none 0 0)).setCell ⟨w.heap.size + 1, 1, none⟩ (.slice none 0 0)).setCell ⟨w.heap.size + 1, 2, none⟩ (.int .i64 0)).setCell ⟨w.heap.size + 1, 3, none⟩ (.int .i64 0)).setCell ⟨w.heap.size + 1, 4, none⟩ (.int .i64 0)).setCell ⟨w.heap.size + 1, 5, none⟩ (.int .i64 0)) := ⟨_, rfl⟩
          rw [← hwf] at hq ⊢
          clear hwf
          exact bodyPost_ret (results_cell_tmp_row rfl _ _ (w.heap.size + 1) 30 _ (0, 0) _ rfl hq.blk rfl rfl (by kernel_rfl)) rfl ⟨.slice none 0 0, .slice none 0 0, zeroS, false, rfl, rdst_zero _, hq.below _ _ HXW.out (Nat.le_succ _), nil_own _, (fun h => by cases h), fun _ => ⟨rfl, HNO.out⟩⟩
        have f1 : decide ((24 : Int) < (m : Int)) = false := decide_eq_false (by omega)
        have f1' : decide (24 < m) = false := decide_eq_false hm24
        have HM24 : Hid (m ≤ 24) := Lib.hid (by omega)
        obtain ⟨m1, hm1⟩ : ∃ k : Int, k = 12 * (m : Int) := ⟨_, rfl⟩
        obtain ⟨m2, hm2⟩ : ∃ k : Int, k = (p : Int) + 1 + m1 := ⟨_, rfl⟩
        obtain ⟨m3, hm3⟩ : ∃ k : Int, k = m2 + 4 := ⟨_, rfl⟩
        have wm1 : wrap64 (12 * (m : Int)) = m1 := by rw [hm1]; exact IntWalk.wrap64_in _ (by have := HP4.out; omega)
        have vm1 : IntKind.i64.wrap (12 * (m : Int)) = m1 := by rw [hm1]; exact IntWalk.i64_in _ (by have := HP4.out; omega)
        have wm2 : wrap64 ((p : Int) + 1 + m1) = m2 := by rw [hm2]; exact IntWalk.wrap64_in _ (by have := HP4.out; omega)
        have vm2 : IntKind.i64.wrap ((p : Int) + 1 + m1) = m2 := by rw [hm2]; exact IntWalk.i64_in _ (by have := HP4.out; omega)
        have wm3 : wrap64 (m2 + 4) = m3 := by rw [hm3]; exact IntWalk.wrap64_in _ (by have := HP4.out; omega)
        have vm3 : IntKind.i64.wrap (m2 + 4) = m3 := by rw [hm3]; exact IntWalk.i64_in _ (by have := HP4.out; omega)
        have HQ1 := Lib.hid hm1
        have HQ2 := Lib.hid hm2
        have HQ3 := Lib.hid hm3
        clear hm1 hm2 hm3 hm24
        by_cases hle : (L.length : Int) = m3
        · have f2 : ((L.length : Int) != m3) = false := by simp [hle]
          have HLE2 : Hid (L.length = 6 + 3 * n + 12 * m) := Lib.hid (by have h1 := HPE.out; have h2 := HQ1.out; have h3 := HQ2.out; have h4 := HQ3.out; omega)
          clear hle hc
          go_wp2_with fail
          clear wm1 vm1 wm2 vm2 wm3 vm3 f1 f1' f2 pm x1 hwp
          go_loopw [10, 14] (fun a i wr => ∃ q p : Nat, a = .int .i64 (p : Int) ∧ i = .int .i64 q ∧ q ≤ m ∧ Hid (p = 2 + 3 * n + 12 * q ∧ RI w2 (w.heap.size + 1 + 1) { zeroS with nodes := ndsOf L 1 n, jobs := jbsOf L (2 + 3 * n) q } wr)) (fun _ i _ => m - (intOf i).toNat)
          case atStart => exact ⟨0, p + 1, by go_num, rfl, Nat.zero_le _, Lib.hid ⟨by have := HPE.out; omega, HR1.out⟩⟩
          case round =>
            clear HR1 HBW HXW HBA3 HPE HP4
            obtain ⟨q, p, rfl, rfl, hq, HK⟩ := hrel
            obtain ⟨F, vn, vj, hsg, hF, hc⟩ := HK.out.2.out
            by_cases hlt : q < m
            · have e2 : decide ((q : Int) < (m : Int)) = true := decide_eq_true (by omega)
              have e2' : decide (q < m) = true := decide_eq_true hlt
              have hpl : p + 12 < L.length := by have h1 := HK.out.1; have h2 := HLE2.out; omega
              have x1 : (0 : Int) ≤ (p : Int) ∧ (p : Int) < (L.length : Int) := by omega
              have HW3 : Hid (wrap64 ((p : Int) + 12) = (p : Int) + 12) := Lib.hid (IntWalk.wrap64_in _ (by have := HL4.out; omega))
              obtain ⟨s, hs⟩ : ∃ s : St, s = { zeroS with nodes := ndsOf L 1 n, jobs := jbsOf L (2 + 3 * n) q } := ⟨_, rfl⟩
              rw [← hs] at hsg
              have hlo : s.jobs.length = q := by rw [hs]; exact jbsOf_len _ _ _
              obtain ⟨nd, hn⟩ : ∃ n, n = jbAt L p := ⟨_, rfl⟩
              have hnd : nd.queue = at_ L (p) ∧ nd.prio = at_ L (p + 1) ∧ nd.least = at_ L (p + 2) ∧ nd.most = at_ L (p + 3) ∧ nd.work = at_ L (p + 4) ∧ nd.pin = at_ L (p + 5) ∧ nd.phase = at_ L (p + 6) ∧ nd.inc = at_ L (p + 7) ∧ nd.nodes = at_ L (p + 8) ∧ nd.since = at_ L (p + 9) ∧ nd.til = at_ L (p + 10) ∧ nd.epoch = at_ L (p + 11) := by rw [hn]; exact ⟨rfl, rfl, rfl, rfl, rfl, rfl, rfl, rfl, rfl, rfl, rfl, rfl⟩
              obtain ⟨j0, j1, j2, j3, j4, j5, j6, j7, j8, j9, j10, j11⟩ := hnd
              have HSJ : Hid (∀ W, Chg (fun k => k = w.heap.size + 1 + 1) w2 W → W.cell? ⟨b, o + p, none⟩ = some (.int .i64 nd.queue) ∧ W.cell? ⟨b, o + p + 1, none⟩ = some (.int .i64 nd.prio) ∧ W.cell? ⟨b, o + p + 2, none⟩ = some (.int .i64 nd.least) ∧ W.cell? ⟨b, o + p + 3, none⟩ = some (.int .i64 nd.most) ∧ W.cell? ⟨b, o + p + 4, none⟩ = some (.int .i64 nd.work) ∧ W.cell? ⟨b, o + p + 5, none⟩ = some (.int .i64 nd.pin) ∧ W.cell? ⟨b, o + p + 6, none⟩ = some (.int .i64 nd.phase) ∧ W.cell? ⟨b, o + p + 7, none⟩ = some (.int .i64 nd.inc) ∧ W.cell? ⟨b, o + p + 8, none⟩ = some (.int .i64 nd.nodes) ∧ W.cell? ⟨b, o + p + 9, none⟩ = some (.int .i64 nd.since) ∧ W.cell? ⟨b, o + p + 10, none⟩ = some (.int .i64 nd.til) ∧ W.cell? ⟨b, o + p + 11, none⟩ = some (.int .i64 nd.epoch)) := Lib.hid fun W hW => ⟨by rw [j0]; exact HCW.out W hW (p) (by omega), by rw [j1]; exact HCW.out W hW (p + 1) (by omega), by rw [j2]; exact HCW.out W hW (p + 2) (by omega), by rw [j3]; exact HCW.out W hW (p + 3) (by omega), by rw [j4]; exact HCW.out W hW (p + 4) (by omega), by rw [j5]; exact HCW.out W hW (p + 5) (by omega), by rw [j6]; exact HCW.out W hW (p + 6) (by omega), by rw [j7]; exact HCW.out W hW (p + 7) (by omega), by rw [j8]; exact HCW.out W hW (p + 8) (by omega), by rw [j9]; exact HCW.out W hW (p + 9) (by omega), by rw [j10]; exact HCW.out W hW (p + 10) (by omega), by rw [j11]; exact HCW.out W hW (p + 11) (by omega)⟩
              clear j0 j1 j2 j3 j4 j5 j6 j7 j8 j9 j10 j11
              have HS3 : Hid ({ s with jobs := s.jobs ++ [nd] } = { zeroS with nodes := ndsOf L 1 n, jobs := jbsOf L (2 + 3 * n) (q + 1) }) := Lib.hid (by rw [hs, hn]; show St.mk _ _ _ _ _ _ = _; simp only [jbsOf_succ]; rw [show 2 + 3 * n + 12 * q = p from HK.out.1.symm])
              have HN1 : Hid (s.jobs.length + 1 ≤ maxLen) := Lib.hid (by unfold maxLen; have := HM24.out; omega)
              have HN2 : Hid ((s.jobs.length + 1) * 96 ≤ 140737488355328) := Lib.hid (by have := HM24.out; omega)
              have HOC : Hid (∀ u ∈ nd.cells, u.oneCell' = true) := Lib.hid (by simp [Jb.cells, Value.oneCell'])
              have HPQ := Lib.hid HK.out.1
              have HS0_ := Lib.hid (hsg.ext (Below.drewN' (Ext.refl wr) 1))
              have HWQ : Hid (wrap64 ((q : Int) + 1) = (q : Int) + 1) := Lib.hid (IntWalk.wrap64_in _ (by have := HM24.out; omega))
              have HFF := Lib.hid hF
              have HCC := Lib.hid hc
              have HLT := Lib.hid hlt
              have HPL := Lib.hid hpl
              have hcp : ¬ c' = p := by omega
              have x12 : p + 12 ≤ c' := by omega
              clear hsg hF hc hlt hpl hn hs HK hlo
              have hw3 := HW3.out
              go_upto_region 20 with (fail)
              clear hw3
              obtain ⟨u0, hu⟩ : ∃ u, u = wr.drew := ⟨_, rfl⟩
              have hcu : Chg (fun k => k = w.heap.size + 1 + 1) w2 u0 := by rw [hu]; exact HCC.out.drew
              have HS0 : Hid (Sg F u0 (w.heap.size + 1 + 1) vn vj s) := Lib.hid (by rw [hu]; exact HS0_.out)
              have HCU := Lib.hid hcu
              clear hcu HS0_
              refine held_begin (by kernel_rfl) ?_
              have hHeld0 : True := True.intro
              rw [← hu]
              clear hu
              refine held_more (S' := fun (W : World) => W.cell? ⟨b, o + p, none⟩ = some (.int .i64 nd.queue) ∧ W.cell? ⟨b, o + p + 1, none⟩ = some (.int .i64 nd.prio) ∧ W.cell? ⟨b, o + p + 2, none⟩ = some (.int .i64 nd.least) ∧ W.cell? ⟨b, o + p + 3, none⟩ = some (.int .i64 nd.most) ∧ W.cell? ⟨b, o + p + 4, none⟩ = some (.int .i64 nd.work) ∧ W.cell? ⟨b, o + p + 5, none⟩ = some (.int .i64 nd.pin) ∧ W.cell? ⟨b, o + p + 6, none⟩ = some (.int .i64 nd.phase) ∧ W.cell? ⟨b, o + p + 7, none⟩ = some (.int .i64 nd.inc) ∧ W.cell? ⟨b, o + p + 8, none⟩ = some (.int .i64 nd.nodes) ∧ W.cell? ⟨b, o + p + 9, none⟩ = some (.int .i64 nd.since) ∧ W.cell? ⟨b, o + p + 10, none⟩ = some (.int .i64 nd.til) ∧ W.cell? ⟨b, o + p + 11, none⟩ = some (.int .i64 nd.epoch)) (fun _ _ => True.intro) ?_
              have hHeld1 : (fun (W : World) => W.cell? ⟨b, o + p, none⟩ = some (.int .i64 nd.queue) ∧ W.cell? ⟨b, o + p + 1, none⟩ = some (.int .i64 nd.prio) ∧ W.cell? ⟨b, o + p + 2, none⟩ = some (.int .i64 nd.least) ∧ W.cell? ⟨b, o + p + 3, none⟩ = some (.int .i64 nd.most) ∧ W.cell? ⟨b, o + p + 4, none⟩ = some (.int .i64 nd.work) ∧ W.cell? ⟨b, o + p + 5, none⟩ = some (.int .i64 nd.pin) ∧ W.cell? ⟨b, o + p + 6, none⟩ = some (.int .i64 nd.phase) ∧ W.cell? ⟨b, o + p + 7, none⟩ = some (.int .i64 nd.inc) ∧ W.cell? ⟨b, o + p + 8, none⟩ = some (.int .i64 nd.nodes) ∧ W.cell? ⟨b, o + p + 9, none⟩ = some (.int .i64 nd.since) ∧ W.cell? ⟨b, o + p + 10, none⟩ = some (.int .i64 nd.til) ∧ W.cell? ⟨b, o + p + 11, none⟩ = some (.int .i64 nd.epoch)) u0 := HSJ.out _ HCU.out
              clear hHeld0
              refine held_take (i := 0) (v := ?_) rfl (by kernel_rfl) (by kernel_rfl) (by kernel_rfl) (by rfl) (by first | assumption | exact True.intro) ?_ ?_
              rotate_left
              · (intro w hSw; (try dsimp only at hSw); (try obtain ⟨k0, k1, k2, k3, k4, k5, k6, k7, k8, k9, k10, k11⟩ := hSw); go_simp; (try with_reducible rfl))
              try simp only [Act.put, List.setIfInBounds_toArray, List.set_cons_zero, List.set_cons_succ]
              refine held_take (i := 2) (v := ?_) rfl (by kernel_rfl) (by kernel_rfl) (by kernel_rfl) (by rfl) (by first | assumption | exact True.intro) ?_ ?_
              rotate_left
              · (intro w hSw; (try dsimp only at hSw); (try obtain ⟨k0, k1, k2, k3, k4, k5, k6, k7, k8, k9, k10, k11⟩ := hSw); go_simp; (try with_reducible rfl))
              try simp only [Act.put, List.setIfInBounds_toArray, List.set_cons_zero, List.set_cons_succ]
              refine held_take (i := 3) (v := ?_) rfl (by kernel_rfl) (by kernel_rfl) (by kernel_rfl) (by rfl) (by first | assumption | exact True.intro) ?_ ?_
              rotate_left
              · (intro w hSw; (try dsimp only at hSw); (try obtain ⟨k0, k1, k2, k3, k4, k5, k6, k7, k8, k9, k10, k11⟩ := hSw); go_simp; (try with_reducible rfl))
              try simp only [Act.put, List.setIfInBounds_toArray, List.set_cons_zero, List.set_cons_succ]
              refine held_take (i := 4) (v := ?_) rfl (by kernel_rfl) (by kernel_rfl) (by kernel_rfl) (by rfl) (by first | assumption | exact True.intro) ?_ ?_
              rotate_left
              · (intro w hSw; (try dsimp only at hSw); (try obtain ⟨k0, k1, k2, k3, k4, k5, k6, k7, k8, k9, k10, k11⟩ := hSw); go_simp; (try with_reducible rfl))
              try simp only [Act.put, List.setIfInBounds_toArray, List.set_cons_zero, List.set_cons_succ]
              refine held_take (i := 5) (v := ?_) rfl (by kernel_rfl) (by kernel_rfl) (by kernel_rfl) (by rfl) (by first | assumption | exact True.intro) ?_ ?_
              rotate_left
              · (intro w hSw; (try dsimp only at hSw); (try obtain ⟨k0, k1, k2, k3, k4, k5, k6, k7, k8, k9, k10, k11⟩ := hSw); go_simp; (try with_reducible rfl))
              try simp only [Act.put, List.setIfInBounds_toArray, List.set_cons_zero, List.set_cons_succ]
              refine held_take (i := 6) (v := ?_) rfl (by kernel_rfl) (by kernel_rfl) (by kernel_rfl) (by rfl) (by first | assumption | exact True.intro) ?_ ?_
              rotate_left
              · (intro w hSw; (try dsimp only at hSw); (try obtain ⟨k0, k1, k2, k3, k4, k5, k6, k7, k8, k9, k10, k11⟩ := hSw); go_simp; (try with_reducible rfl))
              try simp only [Act.put, List.setIfInBounds_toArray, List.set_cons_zero, List.set_cons_succ]
              refine held_take (i := 7) (v := ?_) rfl (by kernel_rfl) (by kernel_rfl) (by kernel_rfl) (by rfl) (by first | assumption | exact True.intro) ?_ ?_
              rotate_left
              · (intro w hSw; (try dsimp only at hSw); (try obtain ⟨k0, k1, k2, k3, k4, k5, k6, k7, k8, k9, k10, k11⟩ := hSw); go_simp; (try with_reducible rfl))
              try simp only [Act.put, List.setIfInBounds_toArray, List.set_cons_zero, List.set_cons_succ]
              refine held_take (i := 8) (v := ?_) rfl (by kernel_rfl) (by kernel_rfl) (by kernel_rfl) (by rfl) (by first | assumption | exact True.intro) ?_ ?_
              rotate_left
              · (intro w hSw; (try dsimp only at hSw); (try obtain ⟨k0, k1, k2, k3, k4, k5, k6, k7, k8, k9, k10, k11⟩ := hSw); go_simp; (try with_reducible rfl))
              try simp only [Act.put, List.setIfInBounds_toArray, List.set_cons_zero, List.set_cons_succ]
              refine held_take (i := 9) (v := ?_) rfl (by kernel_rfl) (by kernel_rfl) (by kernel_rfl) (by rfl) (by first | assumption | exact True.intro) ?_ ?_
              rotate_left
              · (intro w hSw; (try dsimp only at hSw); (try obtain ⟨k0, k1, k2, k3, k4, k5, k6, k7, k8, k9, k10, k11⟩ := hSw); go_simp; (try with_reducible rfl))
              try simp only [Act.put, List.setIfInBounds_toArray, List.set_cons_zero, List.set_cons_succ]
              refine held_take (i := 10) (v := ?_) rfl (by kernel_rfl) (by kernel_rfl) (by kernel_rfl) (by rfl) (by first | assumption | exact True.intro) ?_ ?_
              rotate_left
              · (intro w hSw; (try dsimp only at hSw); (try obtain ⟨k0, k1, k2, k3, k4, k5, k6, k7, k8, k9, k10, k11⟩ := hSw); go_simp; (try with_reducible rfl))
              try simp only [Act.put, List.setIfInBounds_toArray, List.set_cons_zero, List.set_cons_succ]
              refine held_take (i := 11) (v := ?_) rfl (by kernel_rfl) (by kernel_rfl) (by kernel_rfl) (by rfl) (by first | assumption | exact True.intro) ?_ ?_
              rotate_left
              · (intro w hSw; (try dsimp only at hSw); (try obtain ⟨k0, k1, k2, k3, k4, k5, k6, k7, k8, k9, k10, k11⟩ := hSw); go_simp; (try with_reducible rfl))
              try simp only [Act.put, List.setIfInBounds_toArray, List.set_cons_zero, List.set_cons_succ]
              refine held_take (i := 12) (v := ?_) rfl (by kernel_rfl) (by kernel_rfl) (by kernel_rfl) (by rfl) (by first | assumption | exact True.intro) ?_ ?_
              rotate_left
              · (intro w hSw; (try dsimp only at hSw); (try obtain ⟨k0, k1, k2, k3, k4, k5, k6, k7, k8, k9, k10, k11⟩ := hSw); go_simp; (try with_reducible rfl))
              try simp only [Act.put, List.setIfInBounds_toArray, List.set_cons_zero, List.set_cons_succ]
              refine held_take (i := 13) (v := ?_) rfl (by kernel_rfl) (by kernel_rfl) (by kernel_rfl) (by rfl) (by first | assumption | exact True.intro) ?_ ?_
              rotate_left
              · (intro w hSw; (try dsimp only at hSw); (try obtain ⟨k0, k1, k2, k3, k4, k5, k6, k7, k8, k9, k10, k11⟩ := hSw); go_simp; (try with_reducible rfl))
              try simp only [Act.put, List.setIfInBounds_toArray, List.set_cons_zero, List.set_cons_succ]
              refine held_take (i := 14) (v := ?_) rfl (by kernel_rfl) (by kernel_rfl) (by kernel_rfl) (by rfl) (by first | assumption | exact True.intro) ?_ ?_
              rotate_left
              · (intro w hSw; (try dsimp only at hSw); (try obtain ⟨k0, k1, k2, k3, k4, k5, k6, k7, k8, k9, k10, k11⟩ := hSw); go_simp; (try with_reducible rfl))
              try simp only [Act.put, List.setIfInBounds_toArray, List.set_cons_zero, List.set_cons_succ]
              refine held_take (i := 15) (v := ?_) rfl (by kernel_rfl) (by kernel_rfl) (by kernel_rfl) (by rfl) (by first | assumption | exact True.intro) ?_ ?_
              rotate_left
              · (intro w hSw; (try dsimp only at hSw); (try obtain ⟨k0, k1, k2, k3, k4, k5, k6, k7, k8, k9, k10, k11⟩ := hSw); go_simp; (try with_reducible rfl))
              try simp only [Act.put, List.setIfInBounds_toArray, List.set_cons_zero, List.set_cons_succ]
              refine held_take (i := 16) (v := ?_) rfl (by kernel_rfl) (by kernel_rfl) (by kernel_rfl) (by rfl) (by first | assumption | exact True.intro) ?_ ?_
              rotate_left
              · (intro w hSw; (try dsimp only at hSw); (try obtain ⟨k0, k1, k2, k3, k4, k5, k6, k7, k8, k9, k10, k11⟩ := hSw); go_simp; (try with_reducible rfl))
              try simp only [Act.put, List.setIfInBounds_toArray, List.set_cons_zero, List.set_cons_succ]
              refine held_take (i := 17) (v := ?_) rfl (by kernel_rfl) (by kernel_rfl) (by kernel_rfl) (by rfl) (by first | assumption | exact True.intro) ?_ ?_
              rotate_left
              · (intro w hSw; (try dsimp only at hSw); (try obtain ⟨k0, k1, k2, k3, k4, k5, k6, k7, k8, k9, k10, k11⟩ := hSw); go_simp; (try with_reducible rfl))
              try simp only [Act.put, List.setIfInBounds_toArray, List.set_cons_zero, List.set_cons_succ]
              refine held_take (i := 18) (v := ?_) rfl (by kernel_rfl) (by kernel_rfl) (by kernel_rfl) (by rfl) (by first | assumption | exact True.intro) ?_ ?_
              rotate_left
              · (intro w hSw; (try dsimp only at hSw); (try obtain ⟨k0, k1, k2, k3, k4, k5, k6, k7, k8, k9, k10, k11⟩ := hSw); go_simp; (try with_reducible rfl))
              try simp only [Act.put, List.setIfInBounds_toArray, List.set_cons_zero, List.set_cons_succ]
              refine held_take (i := 19) (v := ?_) rfl (by kernel_rfl) (by kernel_rfl) (by kernel_rfl) (by rfl) (by first | assumption | exact True.intro) ?_ ?_
              rotate_left
              · (intro w hSw; (try dsimp only at hSw); (try obtain ⟨k0, k1, k2, k3, k4, k5, k6, k7, k8, k9, k10, k11⟩ := hSw); go_simp; (try with_reducible rfl))
              try simp only [Act.put, List.setIfInBounds_toArray, List.set_cons_zero, List.set_cons_succ]
              refine held_take (i := 20) (v := ?_) rfl (by kernel_rfl) (by kernel_rfl) (by kernel_rfl) (by rfl) (by first | assumption | exact True.intro) ?_ ?_
              rotate_left
              · (intro w hSw; (try dsimp only at hSw); (try obtain ⟨k0, k1, k2, k3, k4, k5, k6, k7, k8, k9, k10, k11⟩ := hSw); go_simp; (try with_reducible rfl))
              try simp only [Act.put, List.setIfInBounds_toArray, List.set_cons_zero, List.set_cons_succ]
              refine held_take (i := 21) (v := ?_) rfl (by kernel_rfl) (by kernel_rfl) (by kernel_rfl) (by rfl) (by first | assumption | exact True.intro) ?_ ?_
              rotate_left
              · (intro w hSw; (try dsimp only at hSw); (try obtain ⟨k0, k1, k2, k3, k4, k5, k6, k7, k8, k9, k10, k11⟩ := hSw); go_simp; (try with_reducible rfl))
              try simp only [Act.put, List.setIfInBounds_toArray, List.set_cons_zero, List.set_cons_succ]
              refine held_take (i := 22) (v := ?_) rfl (by kernel_rfl) (by kernel_rfl) (by kernel_rfl) (by rfl) (by first | assumption | exact True.intro) ?_ ?_
              rotate_left
              · (intro w hSw; (try dsimp only at hSw); (try obtain ⟨k0, k1, k2, k3, k4, k5, k6, k7, k8, k9, k10, k11⟩ := hSw); go_simp; (try with_reducible rfl))
              try simp only [Act.put, List.setIfInBounds_toArray, List.set_cons_zero, List.set_cons_succ]
              refine held_take (i := 23) (v := ?_) rfl (by kernel_rfl) (by kernel_rfl) (by kernel_rfl) (by rfl) (by first | assumption | exact True.intro) ?_ ?_
              rotate_left
              · (intro w hSw; (try dsimp only at hSw); (try obtain ⟨k0, k1, k2, k3, k4, k5, k6, k7, k8, k9, k10, k11⟩ := hSw); go_simp; (try with_reducible rfl))
              try simp only [Act.put, List.setIfInBounds_toArray, List.set_cons_zero, List.set_cons_succ]
              refine held_take (i := 24) (v := ?_) rfl (by kernel_rfl) (by kernel_rfl) (by kernel_rfl) (by rfl) (by first | assumption | exact True.intro) ?_ ?_
              rotate_left
              · (intro w hSw; (try dsimp only at hSw); (try obtain ⟨k0, k1, k2, k3, k4, k5, k6, k7, k8, k9, k10, k11⟩ := hSw); go_simp; (try with_reducible rfl))
              try simp only [Act.put, List.setIfInBounds_toArray, List.set_cons_zero, List.set_cons_succ]
              refine held_take (i := 25) (v := ?_) rfl (by kernel_rfl) (by kernel_rfl) (by kernel_rfl) (by rfl) (by first | assumption | exact True.intro) ?_ ?_
              rotate_left
              · (intro w hSw; (try dsimp only at hSw); (try obtain ⟨k0, k1, k2, k3, k4, k5, k6, k7, k8, k9, k10, k11⟩ := hSw); go_simp; (try with_reducible rfl))
              try simp only [Act.put, List.setIfInBounds_toArray, List.set_cons_zero, List.set_cons_succ]
              refine held_take (i := 26) (v := ?_) rfl (by kernel_rfl) (by kernel_rfl) (by kernel_rfl) (by rfl) (by first | assumption | exact True.intro) ?_ ?_
              rotate_left
              · (intro w hSw; (try dsimp only at hSw); (try obtain ⟨k0, k1, k2, k3, k4, k5, k6, k7, k8, k9, k10, k11⟩ := hSw); go_simp; (try with_reducible rfl))
              try simp only [Act.put, List.setIfInBounds_toArray, List.set_cons_zero, List.set_cons_succ]
              refine held_take (i := 27) (v := ?_) rfl (by kernel_rfl) (by kernel_rfl) (by kernel_rfl) (by rfl) (by first | assumption | exact True.intro) ?_ ?_
              rotate_left
              · (intro w hSw; (try dsimp only at hSw); (try obtain ⟨k0, k1, k2, k3, k4, k5, k6, k7, k8, k9, k10, k11⟩ := hSw); go_simp; (try with_reducible rfl))
              try simp only [Act.put, List.setIfInBounds_toArray, List.set_cons_zero, List.set_cons_succ]
              refine held_take (i := 28) (v := ?_) rfl (by kernel_rfl) (by kernel_rfl) (by kernel_rfl) (by rfl) (by first | assumption | exact True.intro) ?_ ?_
              rotate_left
              · (intro w hSw; (try dsimp only at hSw); (try obtain ⟨k0, k1, k2, k3, k4, k5, k6, k7, k8, k9, k10, k11⟩ := hSw); go_simp; (try with_reducible rfl))
              try simp only [Act.put, List.setIfInBounds_toArray, List.set_cons_zero, List.set_cons_succ]
              refine held_take (i := 29) (v := ?_) rfl (by kernel_rfl) (by kernel_rfl) (by kernel_rfl) (by rfl) (by first | assumption | exact True.intro) ?_ ?_
              rotate_left
              · (intro w hSw; (try dsimp only at hSw); (try obtain ⟨k0, k1, k2, k3, k4, k5, k6, k7, k8, k9, k10, k11⟩ := hSw); go_simp; (try with_reducible rfl))
              try simp only [Act.put, List.setIfInBounds_toArray, List.set_cons_zero, List.set_cons_succ]
              refine held_take (i := 30) (v := ?_) rfl (by kernel_rfl) (by kernel_rfl) (by kernel_rfl) (by rfl) (by first | assumption | exact True.intro) ?_ ?_
              rotate_left
              · (intro w hSw; (try dsimp only at hSw); (try obtain ⟨k0, k1, k2, k3, k4, k5, k6, k7, k8, k9, k10, k11⟩ := hSw); go_simp; (try with_reducible rfl))
              try simp only [Act.put, List.setIfInBounds_toArray, List.set_cons_zero, List.set_cons_succ]
              refine held_take (i := 31) (v := ?_) rfl (by kernel_rfl) (by kernel_rfl) (by kernel_rfl) (by rfl) (by first | assumption | exact True.intro) ?_ ?_
              rotate_left
              · (intro w hSw; (try dsimp only at hSw); (try obtain ⟨k0, k1, k2, k3, k4, k5, k6, k7, k8, k9, k10, k11⟩ := hSw); go_simp; (try with_reducible rfl))
              try simp only [Act.put, List.setIfInBounds_toArray, List.set_cons_zero, List.set_cons_succ]
              refine held_take (i := 32) (v := ?_) rfl (by kernel_rfl) (by kernel_rfl) (by kernel_rfl) (by rfl) (by first | assumption | exact True.intro) ?_ ?_
              rotate_left
              · (intro w hSw; (try dsimp only at hSw); (try obtain ⟨k0, k1, k2, k3, k4, k5, k6, k7, k8, k9, k10, k11⟩ := hSw); go_simp; (try with_reducible rfl))
              try simp only [Act.put, List.setIfInBounds_toArray, List.set_cons_zero, List.set_cons_succ]
              refine held_take (i := 33) (v := ?_) rfl (by kernel_rfl) (by kernel_rfl) (by kernel_rfl) (by rfl) (by first | assumption | exact True.intro) ?_ ?_
              rotate_left
              · (intro w hSw; (try dsimp only at hSw); (try obtain ⟨k0, k1, k2, k3, k4, k5, k6, k7, k8, k9, k10, k11⟩ := hSw); go_simp; (try with_reducible rfl))
              try simp only [Act.put, List.setIfInBounds_toArray, List.set_cons_zero, List.set_cons_succ]
              refine held_take (i := 34) (v := ?_) rfl (by kernel_rfl) (by kernel_rfl) (by kernel_rfl) (by rfl) (by first | assumption | exact True.intro) ?_ ?_
              rotate_left
              · (intro w hSw; (try dsimp only at hSw); (try obtain ⟨k0, k1, k2, k3, k4, k5, k6, k7, k8, k9, k10, k11⟩ := hSw); go_simp; (try with_reducible rfl))
              try simp only [Act.put, List.setIfInBounds_toArray, List.set_cons_zero, List.set_cons_succ]
              refine held_take (i := 35) (v := ?_) rfl (by kernel_rfl) (by kernel_rfl) (by kernel_rfl) (by rfl) (by first | assumption | exact True.intro) ?_ ?_
              rotate_left
              · (intro w hSw; (try dsimp only at hSw); (try obtain ⟨k0, k1, k2, k3, k4, k5, k6, k7, k8, k9, k10, k11⟩ := hSw); go_simp; (try with_reducible rfl))
              try simp only [Act.put, List.setIfInBounds_toArray, List.set_cons_zero, List.set_cons_succ]
              refine held_take (i := 36) (v := ?_) rfl (by kernel_rfl) (by kernel_rfl) (by kernel_rfl) (by rfl) (by first | assumption | exact True.intro) ?_ ?_
              rotate_left
              · (intro w hSw; (try dsimp only at hSw); (try obtain ⟨k0, k1, k2, k3, k4, k5, k6, k7, k8, k9, k10, k11⟩ := hSw); go_simp; (try with_reducible rfl))
              try simp only [Act.put, List.setIfInBounds_toArray, List.set_cons_zero, List.set_cons_succ]
              refine held_take (i := 37) (v := ?_) rfl (by kernel_rfl) (by kernel_rfl) (by kernel_rfl) (by rfl) (by first | assumption | exact True.intro) ?_ ?_
              rotate_left
              · (intro w hSw; (try dsimp only at hSw); (try obtain ⟨k0, k1, k2, k3, k4, k5, k6, k7, k8, k9, k10, k11⟩ := hSw); go_simp; (try with_reducible rfl))
              try simp only [Act.put, List.setIfInBounds_toArray, List.set_cons_zero, List.set_cons_succ]
              refine held_take (i := 38) (v := ?_) rfl (by kernel_rfl) (by kernel_rfl) (by kernel_rfl) (by rfl) (by first | assumption | exact True.intro) ?_ ?_
              rotate_left
              · (intro w hSw; (try dsimp only at hSw); (try obtain ⟨k0, k1, k2, k3, k4, k5, k6, k7, k8, k9, k10, k11⟩ := hSw); go_simp; (try with_reducible rfl))
              try simp only [Act.put, List.setIfInBounds_toArray, List.set_cons_zero, List.set_cons_succ]
              have c0 : u0.cell? ⟨w.heap.size + 1 + 1, 1, none⟩ = some vj := HS0.out.blk.cell 1
              refine held_two (i := 1) (j := 39) (by kernel_rfl) rfl rfl (fun K hK => ?_) (fun K hK => ?_)
              · go_simp
                refine hK _ _ ?_ (fun hHeld2 => ?_)
                · exact HSJ.out _ (HCU.out)
                clear hK K hHeld1
                try simp only [Act.put, List.setIfInBounds_toArray, List.set_cons_zero, List.set_cons_succ]
                refine held_op (i := 39) (by kernel_rfl) rfl (fun K hK => ?_)
                go_simp
                obtain ⟨w7, hw7⟩ : ∃ v, v = u0.alloc (.cells #[.int .i64 nd.queue, .int .i64 nd.prio, .int .i64 nd.least, .int .i64 nd.most, .int .i64 nd.work, .int .i64 nd.pin, .int .i64 nd.phase, .int .i64 nd.inc, .int .i64 nd.nodes, .int .i64 nd.since, .int .i64 nd.til, .int .i64 nd.epoch] 52) := ⟨_, rfl⟩
                have hx7 : Ext u0 w7 := by rw [hw7]; exact (Below.refl _ _).alloc (Nat.le_refl _) _
                have hlit := RdS.lit 12 u0 #[.int .i64 nd.queue, .int .i64 nd.prio, .int .i64 nd.least, .int .i64 nd.most, .int .i64 nd.work, .int .i64 nd.pin, .int .i64 nd.phase, .int .i64 nd.inc, .int .i64 nd.nodes, .int .i64 nd.since, .int .i64 nd.til, .int .i64 nd.epoch] 52 u0.heap.size rfl rfl
                rw [← hw7] at hlit
                have hs7 := HS0.out.ext hx7
                have c0 : w7.cell? ⟨w.heap.size + 1 + 1, 1, none⟩ = some vj := hs7.blk.cell 1
                have hc7 : Chg (fun k => k = w.heap.size + 1 + 1) w2 w7 := HCU.out.trans (Chg.of_ext hx7) (fun _ _ h => h)
                rw [← hw7]
                clear hw7
                refine hK _ _ ?_ (fun hHeld3 => ?_)
                · exact HSJ.out _ (hc7)
                clear hK K hHeld2
                try simp only [Act.put, List.setIfInBounds_toArray, List.set_cons_zero, List.set_cons_succ]
                refine held_op (i := 40) (by kernel_rfl) rfl (fun K hK => ?_)
                refine stepAppendK (.tmp 116) (.tmp 154) 28 rfl ?_ 0 52 _ 12 96 Tryd.underlying28 Tryd.infoJob rfl (by decide) vj s.jobs.length (jobsC s.jobs) ?_ hs7.rowJ (.slice (some ⟨u0.heap.size, 0, none⟩) 1 1) 1 nd.cells ?_ hlit HOC.out HN1.out HN2.out (Nat.zero_le _) ?_
                · rfl
                · rfl
                · rfl
                intro v8 w8 hg8
                obtain ⟨A8, k8, rfl⟩ := own_slice hg8.1
                have hc8 : Chg (fun k => k = w.heap.size + 1 + 1) w2 w8 := hc7.trans (Chg.of_grown (F := fun k => vj.ownBlock = some k) hg8.2.1 (fun k hk => hk)) (fun x hx hk => by have h1 := (ObjF.ok hs7 ⟨52, 12, vj, s.jobs.length, jobsC s.jobs⟩ (by simp)).2 x hk; have := HFF.out x h1; omega)
                refine hK _ _ ?_ (fun hHeld4 => ?_)
                · exact HSJ.out _ (hc8)
                clear hK K hHeld3
                try simp only [Act.put, List.setIfInBounds_toArray, List.set_cons_zero, List.set_cons_succ]
                have hs9 := hs7.snoc nd hg8
                have hb8 : w8.cell? ⟨w.heap.size + 1 + 1, 1, none⟩ = some vj := (World.cell?_of_block (a := ⟨w.heap.size + 1 + 1, 1, none⟩) (hg8.2.1.block _ hs7.lt (fun e => ObjF.off hs7 ⟨52, 12, vj, s.jobs.length, jobsC s.jobs⟩ (by simp) e.symm))).trans c0
                have hf8 : w8.frozen? ⟨w.heap.size + 1 + 1, 1, none⟩ = false := (show Blk w8 (w.heap.size + 1 + 1) 30 (vsC vn vj s) from (hg8.2.1.block _ hs7.lt (fun e => ObjF.off hs7 ⟨52, 12, vj, s.jobs.length, jobsC s.jobs⟩ (by simp) e.symm)).trans hs7.blk).frozen 1
                refine held_take (i := 41) (v := ?_) rfl (by kernel_rfl) (by kernel_rfl) (by kernel_rfl) (by rfl) (by first | assumption | exact True.intro) ?_ ?_
                rotate_left
                · (intro w hSw; skip; go_simp; (try with_reducible rfl))
                try simp only [Act.put, List.setIfInBounds_toArray, List.set_cons_zero, List.set_cons_succ]
                refine held_op (i := 42) (by kernel_rfl) rfl (fun K hK => ?_)
                go_simp
                refine hK _ _ ?_ (fun hHeld5 => ?_)
                · exact HSJ.out _ (hc8.setCell (fun _ => rfl))
                clear hK K hHeld4
                try simp only [Act.put, List.setIfInBounds_toArray, List.set_cons_zero, List.set_cons_succ]
                obtain ⟨w9, hw9⟩ : ∃ v, v = w8.setCell ⟨w.heap.size + 1 + 1, 1, none⟩ (.slice A8 (s.jobs.length + 1) k8) := ⟨_, rfl⟩
                rw [← hw9] at hs9 ⊢
                clear hw9
                have hz7 := hc7.size
                have HKN : Hid (RI w2 (w.heap.size + 1 + 1) ({ zeroS with nodes := ndsOf L 1 n, jobs := jbsOf L (2 + 3 * n) (q + 1) }) w9) := Lib.hid ⟨⟨_, _, _, by rw [← HS3.out]; exact hs9.1, fun k hk => by (rcases hk with hk | hk); (exact HFF.out k hk); (have := hk.1; omega), hc7.trans hs9.2 (fun z hz h => by have := HFF.out z h; omega)⟩⟩
                refine wpAnyH_done (by kernel_rfl) ?_ _
                refine NoPanic.normal ?_
                clear hHeld5 hs9 hc8 hc7 hz7 hb8 hf8 hg8
                have hw3 := HW3.out
                go_wp2
                go_roundw
                case rel => exact ⟨q + 1, p + 12, by go_num, by rw [HWQ.out]; rfl, HLT.out, Lib.hid ⟨by have := HPQ.out; omega, HKN.out⟩⟩
                case measure => rw [HWQ.out]; exact meas10 HLT.out
              · go_simp
                obtain ⟨w7, hw7⟩ : ∃ v, v = u0.alloc (.cells #[.int .i64 nd.queue, .int .i64 nd.prio, .int .i64 nd.least, .int .i64 nd.most, .int .i64 nd.work, .int .i64 nd.pin, .int .i64 nd.phase, .int .i64 nd.inc, .int .i64 nd.nodes, .int .i64 nd.since, .int .i64 nd.til, .int .i64 nd.epoch] 52) := ⟨_, rfl⟩
                have hx7 : Ext u0 w7 := by rw [hw7]; exact (Below.refl _ _).alloc (Nat.le_refl _) _
                have hlit := RdS.lit 12 u0 #[.int .i64 nd.queue, .int .i64 nd.prio, .int .i64 nd.least, .int .i64 nd.most, .int .i64 nd.work, .int .i64 nd.pin, .int .i64 nd.phase, .int .i64 nd.inc, .int .i64 nd.nodes, .int .i64 nd.since, .int .i64 nd.til, .int .i64 nd.epoch] 52 u0.heap.size rfl rfl
                rw [← hw7] at hlit
                have hs7 := HS0.out.ext hx7
                have c0 : w7.cell? ⟨w.heap.size + 1 + 1, 1, none⟩ = some vj := hs7.blk.cell 1
                have hc7 : Chg (fun k => k = w.heap.size + 1 + 1) w2 w7 := HCU.out.trans (Chg.of_ext hx7) (fun _ _ h => h)
                rw [← hw7]
                clear hw7
                refine hK _ _ ?_ (fun hHeld2 => ?_)
                · exact HSJ.out _ (hc7)
                clear hK K hHeld1
                try simp only [Act.put, List.setIfInBounds_toArray, List.set_cons_zero, List.set_cons_succ]
                refine held_op (i := 1) (by kernel_rfl) rfl (fun K hK => ?_)
                go_simp
                refine hK _ _ ?_ (fun hHeld3 => ?_)
                · exact HSJ.out _ (hc7)
                clear hK K hHeld2
                try simp only [Act.put, List.setIfInBounds_toArray, List.set_cons_zero, List.set_cons_succ]
                refine held_op (i := 40) (by kernel_rfl) rfl (fun K hK => ?_)
                refine stepAppendK (.tmp 116) (.tmp 154) 28 rfl ?_ 0 52 _ 12 96 Tryd.underlying28 Tryd.infoJob rfl (by decide) vj s.jobs.length (jobsC s.jobs) ?_ hs7.rowJ (.slice (some ⟨u0.heap.size, 0, none⟩) 1 1) 1 nd.cells ?_ hlit HOC.out HN1.out HN2.out (Nat.zero_le _) ?_
                · rfl
                · rfl
                · rfl
                intro v8 w8 hg8
                obtain ⟨A8, k8, rfl⟩ := own_slice hg8.1
                have hc8 : Chg (fun k => k = w.heap.size + 1 + 1) w2 w8 := hc7.trans (Chg.of_grown (F := fun k => vj.ownBlock = some k) hg8.2.1 (fun k hk => hk)) (fun x hx hk => by have h1 := (ObjF.ok hs7 ⟨52, 12, vj, s.jobs.length, jobsC s.jobs⟩ (by simp)).2 x hk; have := HFF.out x h1; omega)
                refine hK _ _ ?_ (fun hHeld4 => ?_)
                · exact HSJ.out _ (hc8)
                clear hK K hHeld3
                try simp only [Act.put, List.setIfInBounds_toArray, List.set_cons_zero, List.set_cons_succ]
                have hs9 := hs7.snoc nd hg8
                have hb8 : w8.cell? ⟨w.heap.size + 1 + 1, 1, none⟩ = some vj := (World.cell?_of_block (a := ⟨w.heap.size + 1 + 1, 1, none⟩) (hg8.2.1.block _ hs7.lt (fun e => ObjF.off hs7 ⟨52, 12, vj, s.jobs.length, jobsC s.jobs⟩ (by simp) e.symm))).trans c0
                have hf8 : w8.frozen? ⟨w.heap.size + 1 + 1, 1, none⟩ = false := (show Blk w8 (w.heap.size + 1 + 1) 30 (vsC vn vj s) from (hg8.2.1.block _ hs7.lt (fun e => ObjF.off hs7 ⟨52, 12, vj, s.jobs.length, jobsC s.jobs⟩ (by simp) e.symm)).trans hs7.blk).frozen 1
                refine held_take (i := 41) (v := ?_) rfl (by kernel_rfl) (by kernel_rfl) (by kernel_rfl) (by rfl) (by first | assumption | exact True.intro) ?_ ?_
                rotate_left
                · (intro w hSw; skip; go_simp; (try with_reducible rfl))
                try simp only [Act.put, List.setIfInBounds_toArray, List.set_cons_zero, List.set_cons_succ]
                refine held_op (i := 42) (by kernel_rfl) rfl (fun K hK => ?_)
                go_simp
                refine hK _ _ ?_ (fun hHeld5 => ?_)
                · exact HSJ.out _ (hc8.setCell (fun _ => rfl))
                clear hK K hHeld4
                try simp only [Act.put, List.setIfInBounds_toArray, List.set_cons_zero, List.set_cons_succ]
                obtain ⟨w9, hw9⟩ : ∃ v, v = w8.setCell ⟨w.heap.size + 1 + 1, 1, none⟩ (.slice A8 (s.jobs.length + 1) k8) := ⟨_, rfl⟩
                rw [← hw9] at hs9 ⊢
                clear hw9
                have hz7 := hc7.size
                have HKN : Hid (RI w2 (w.heap.size + 1 + 1) ({ zeroS with nodes := ndsOf L 1 n, jobs := jbsOf L (2 + 3 * n) (q + 1) }) w9) := Lib.hid ⟨⟨_, _, _, by rw [← HS3.out]; exact hs9.1, fun k hk => by (rcases hk with hk | hk); (exact HFF.out k hk); (have := hk.1; omega), hc7.trans hs9.2 (fun z hz h => by have := HFF.out z h; omega)⟩⟩
                refine wpAnyH_done (by kernel_rfl) ?_ _
                refine NoPanic.normal ?_
                clear hHeld5 hs9 hc8 hc7 hz7 hb8 hf8 hg8
                have hw3 := HW3.out
                go_wp2
                go_roundw
                case rel => exact ⟨q + 1, p + 12, by go_num, by rw [HWQ.out]; rfl, HLT.out, Lib.hid ⟨by have := HPQ.out; omega, HKN.out⟩⟩
                case measure => rw [HWQ.out]; exact meas10 HLT.out
            · have e0 : m = q := by omega
              subst e0
              have e2 : decide ((m : Int) < (m : Int)) = false := decide_eq_false (by omega)
              have e2' : decide (m < m) = false := decide_eq_false (by omega)
              have hpe : p = endOf L := by have h1 := HK.out.1; unfold endOf; rw [← HNN.out, ← HMM.out]; exact h1
              have hpl : p + 4 = L.length := by have h1 := HK.out.1; have h2 := HLE2.out; omega
              have HP3 : Hid (p ≤ 400) := Lib.hid (by have := HL4.out; omega)
              obtain ⟨s0, hs0⟩ : ∃ s : St, s = { zeroS with nodes := ndsOf L 1 n, jobs := jbsOf L (2 + 3 * n) m } := ⟨_, rfl⟩
              rw [← hs0] at hsg
              obtain ⟨S, hS⟩ : ∃ S, S = stOf L := ⟨_, rfl⟩
              have HSE : Hid ({ s0 with goal := at_ L (endOf L), prior := at_ L (endOf L + 1), mode := at_ L (endOf L + 2), term := at_ L (endOf L + 3) } = S) := Lib.hid (by rw [hS, hs0, HNN.out, HMM.out]; rfl)
              have HSS := Lib.hid hS
              have HSG := Lib.hid hsg
              have HFF := Lib.hid hF
              have HCC := Lib.hid hc
              have HS0E : Hid (s0.goal = 0 ∧ s0.prior = 0 ∧ s0.mode = 0 ∧ s0.term = 0) := Lib.hid (by rw [hs0]; exact ⟨rfl, rfl, rfl, rfl⟩)
              have HPE4 := Lib.hid hpe
              have HPL4 := Lib.hid hpl
              clear hS hs0 hsg hF hc hpe hpl HK hlt hq
              have hq := PB.start HSG.out.blk
              have g_ : wr.cell? ⟨b, o + p, none⟩ = some (.int .i64 (at_ L (endOf L))) := by have := HCW.out wr (HCC.out.trans (PB.chg_ hq) (fun _ _ h => h)) p (by have := HPL4.out; omega); rw [HPE4.out] at this ⊢; exact this
              have c_ : wr.cell? ⟨w.heap.size + 1 + 1, 2, none⟩ = some (.int .i64 0) := by have h9 := hq.blk.cell 2; rw [h9]; show some (Value.int .i64 s0.goal) = _; rw [HS0E.out.1]
              have t_ := hq.blk.frozen 2
              have y_ : (0 : Int) ≤ (p : Int) ∧ (p : Int) < (L.length : Int) := by have := HPL4.out; omega
              go_upto_region 23 with (fail)
              obtain ⟨v0, hv_⟩ : ∃ W, W = wr.setCell ⟨w.heap.size + 1 + 1, 2, none⟩ (.int .i64 (at_ L (endOf L))) := ⟨_, rfl⟩
              replace hq := hq.set 2 (.int .i64 (at_ L (endOf L)))
              rw [← hv_] at hq ⊢
              clear hv_ g_ c_ t_ y_
              have g_ : v0.cell? ⟨b, o + (p + 1), none⟩ = some (.int .i64 (at_ L (endOf L + 1))) := by have := HCW.out v0 (HCC.out.trans (PB.chg_ hq) (fun _ _ h => h)) (p + 1) (by have := HPL4.out; omega); rw [HPE4.out] at this ⊢; exact this
              have c_ : v0.cell? ⟨w.heap.size + 1 + 1, 3, none⟩ = some (.int .i64 0) := by have h9 := hq.blk.cell 3; rw [h9]; show some (Value.int .i64 s0.prior) = _; rw [HS0E.out.2.1]
              have t_ := hq.blk.frozen 3
              have y_ : (0 : Int) ≤ (p : Int) + 1 ∧ (p : Int) + 1 < (L.length : Int) := by have := HPL4.out; omega
              have n_ : ((p : Int) + 1).toNat = p + 1 := by omega
              have q_ : wrap64 ((p : Int) + 1) = (p : Int) + 1 := IntWalk.wrap64_in _ (by have := HP3.out; omega)
              go_upto_region 24 with (fail)
              obtain ⟨v1, hv_⟩ : ∃ W, W = v0.setCell ⟨w.heap.size + 1 + 1, 3, none⟩ (.int .i64 (at_ L (endOf L + 1))) := ⟨_, rfl⟩
              replace hq := hq.set 3 (.int .i64 (at_ L (endOf L + 1)))
              rw [← hv_] at hq ⊢
              clear hv_ g_ c_ t_ y_ n_ q_
              have g_ : v1.cell? ⟨b, o + (p + 2), none⟩ = some (.int .i64 (at_ L (endOf L + 2))) := by have := HCW.out v1 (HCC.out.trans (PB.chg_ hq) (fun _ _ h => h)) (p + 2) (by have := HPL4.out; omega); rw [HPE4.out] at this ⊢; exact this
              have c_ : v1.cell? ⟨w.heap.size + 1 + 1, 4, none⟩ = some (.int .i64 0) := by have h9 := hq.blk.cell 4; rw [h9]; show some (Value.int .i64 s0.mode) = _; rw [HS0E.out.2.2.1]
              have t_ := hq.blk.frozen 4
              have y_ : (0 : Int) ≤ (p : Int) + 2 ∧ (p : Int) + 2 < (L.length : Int) := by have := HPL4.out; omega
              have n_ : ((p : Int) + 2).toNat = p + 2 := by omega
              have q_ : wrap64 ((p : Int) + 2) = (p : Int) + 2 := IntWalk.wrap64_in _ (by have := HP3.out; omega)
              go_upto_region 25 with (fail)
              obtain ⟨v2, hv_⟩ : ∃ W, W = v1.setCell ⟨w.heap.size + 1 + 1, 4, none⟩ (.int .i64 (at_ L (endOf L + 2))) := ⟨_, rfl⟩
              replace hq := hq.set 4 (.int .i64 (at_ L (endOf L + 2)))
              rw [← hv_] at hq ⊢
              clear hv_ g_ c_ t_ y_ n_ q_
              have g_ : v2.cell? ⟨b, o + (p + 3), none⟩ = some (.int .i64 (at_ L (endOf L + 3))) := by have := HCW.out v2 (HCC.out.trans (PB.chg_ hq) (fun _ _ h => h)) (p + 3) (by have := HPL4.out; omega); rw [HPE4.out] at this ⊢; exact this
              have c_ : v2.cell? ⟨w.heap.size + 1 + 1, 5, none⟩ = some (.int .i64 0) := by have h9 := hq.blk.cell 5; rw [h9]; show some (Value.int .i64 s0.term) = _; rw [HS0E.out.2.2.2]
              have t_ := hq.blk.frozen 5
              have y_ : (0 : Int) ≤ (p : Int) + 3 ∧ (p : Int) + 3 < (L.length : Int) := by have := HPL4.out; omega
              have n_ : ((p : Int) + 3).toNat = p + 3 := by omega
              have q_ : wrap64 ((p : Int) + 3) = (p : Int) + 3 := IntWalk.wrap64_in _ (by have := HP3.out; omega)
              go_upto_region 26 with (fail)
              obtain ⟨v3, hv_⟩ : ∃ W, W = v2.setCell ⟨w.heap.size + 1 + 1, 5, none⟩ (.int .i64 (at_ L (endOf L + 3))) := ⟨_, rfl⟩
              replace hq := hq.set 5 (.int .i64 (at_ L (endOf L + 3)))
              rw [← hv_] at hq ⊢
              clear hv_ g_ c_ t_ y_ n_ q_
              have hc4 := PB.chg_ hq
              have hs4 : Sg F v3 (w.heap.size + 1 + 1) vn vj S := by rw [← HSE.out]; exact ObjF.chgRest HSG.out hc4 hq.blk (fun k _ e => e)
              have hcw : Chg (fun k => k = w.heap.size + 1 + 1) w2 v3 := HCC.out.trans hc4 (fun _ _ h => h)
              obtain ⟨An, cn, hvn⟩ := own_slice hs4.rowN
              obtain ⟨Aj, cj, hvj⟩ := own_slice hs4.rowJ
              subst hvn hvj
              have HS4 := Lib.hid hs4
              have HC4 := Lib.hid hcw
              have HX4 := Lib.hid (hcw.ext HX2.out (fun k hk => by omega))
              have HB5 : Hid (Blk v3 (w.heap.size + 1) 30 #[.slice none 0 0, .slice none 0 0, .int .i64 0, .int .i64 0, .int .i64 0, .int .i64 0]) := Lib.hid ((hcw.block _ HB4.out.lt (by omega)).trans HB4.out)
              have HBC5 : Hid (Blk v3 w.heap.size 23 #[.int .i64 c.nodes, .int .i64 c.queues, .int .i64 c.quota, .int .i64 c.wave, .int .i64 c.lease, .int .i64 c.retry, .int .i64 c.deadline, .int .i64 c.room, .int .i64 c.disk]) := Lib.hid ((hcw.block _ HBA2.out.lt (by omega)).trans HBA2.out)
              have HST : Hid (∀ t, IsImg c bs t → S = t) := Lib.hid (fun t ht => by rw [HSS.out, HNT.out t ht, stOf_img])
              clear hq hc4 hs4 hcw HSG HCC HSE HC4 HCW
              have c0 : v3.cell? ⟨w.heap.size + 1 + 1, 0, none⟩ = some (.slice An S.nodes.length cn) := HS4.out.blk.cell 0
              have c1 : v3.cell? ⟨w.heap.size + 1 + 1, 1, none⟩ = some (.slice Aj S.jobs.length cj) := HS4.out.blk.cell 1
              have c2 : v3.cell? ⟨w.heap.size + 1 + 1, 2, none⟩ = some (.int .i64 S.goal) := HS4.out.blk.cell 2
              have c3 : v3.cell? ⟨w.heap.size + 1 + 1, 3, none⟩ = some (.int .i64 S.prior) := HS4.out.blk.cell 3
              have c4 : v3.cell? ⟨w.heap.size + 1 + 1, 4, none⟩ = some (.int .i64 S.mode) := HS4.out.blk.cell 4
              have c5 : v3.cell? ⟨w.heap.size + 1 + 1, 5, none⟩ = some (.int .i64 S.term) := HS4.out.blk.cell 5
              have HPU : Hid (Calls Tryd.prog 34 #[.agg #[.slice An S.nodes.length cn, .slice Aj S.jobs.length cj, .int .i64 S.goal, .int .i64 S.prior, .int .i64 S.mode, .int .i64 S.term]] v3 fun e w' => ∃ v, e = .returned v ∧ Rd w' v ((imgB S).map B) ∧ Ext v3 w') := Lib.hid (RefPut10_any _ _ S v3 HS4.out.rd)
              go_wp2_with fail
              refine HPU.out.mono ?_
              rintro e5 w5 ⟨v5, rfl, hv5, hx5⟩
              have HX5 := Lib.hid hx5
              have HBY := Lib.hid (Bytes_any (imgB S) bs v5 (.slice A bs.length cv) w5 hv5 (HVW.out.ext (HX4.out.trans hx5)))
              clear hv5 hx5 HPU c0 c1 c2 c3 c4 c5
              go_wp2_with fail
              refine HBY.out.mono ?_
              rintro e6 w6 ⟨rfl, n6, hw6⟩
              have hx6 : Ext v3 w6 := HX5.out.trans (by rw [hw6]; exact Below.drewN' (Ext.refl _) n6)
              have HX6 := Lib.hid (HX4.out.trans hx6)
              have HB6 := Lib.hid (HB5.out.ext hx6)
              have HS6 := Lib.hid (HS4.out.ext hx6)
              have hbc6 := HBC5.out.ext hx6
              clear hw6 hx6 HBY HX5 HB5 HS4 HX4
              by_cases hby : imgB S = bs
              · rw [decide_eq_true hby]
                have HBYE := Lib.hid hby
                clear hby
                have k0 : w6.cell? ⟨w.heap.size, 0, none⟩ = some (.int .i64 c.nodes) := hbc6.cell 0
                have k1 : w6.cell? ⟨w.heap.size, 1, none⟩ = some (.int .i64 c.queues) := hbc6.cell 1
                have k2 : w6.cell? ⟨w.heap.size, 2, none⟩ = some (.int .i64 c.quota) := hbc6.cell 2
                have k3 : w6.cell? ⟨w.heap.size, 3, none⟩ = some (.int .i64 c.wave) := hbc6.cell 3
                have k4 : w6.cell? ⟨w.heap.size, 4, none⟩ = some (.int .i64 c.lease) := hbc6.cell 4
                have k5 : w6.cell? ⟨w.heap.size, 5, none⟩ = some (.int .i64 c.retry) := hbc6.cell 5
                have k6 : w6.cell? ⟨w.heap.size, 6, none⟩ = some (.int .i64 c.deadline) := hbc6.cell 6
                have k7 : w6.cell? ⟨w.heap.size, 7, none⟩ = some (.int .i64 c.room) := hbc6.cell 7
                have k8 : w6.cell? ⟨w.heap.size, 8, none⟩ = some (.int .i64 c.disk) := hbc6.cell 8
                have c0 : w6.cell? ⟨w.heap.size + 1 + 1, 0, none⟩ = some (.slice An S.nodes.length cn) := HS6.out.blk.cell 0
                have c1 : w6.cell? ⟨w.heap.size + 1 + 1, 1, none⟩ = some (.slice Aj S.jobs.length cj) := HS6.out.blk.cell 1
                have c2 : w6.cell? ⟨w.heap.size + 1 + 1, 2, none⟩ = some (.int .i64 S.goal) := HS6.out.blk.cell 2
                have c3 : w6.cell? ⟨w.heap.size + 1 + 1, 3, none⟩ = some (.int .i64 S.prior) := HS6.out.blk.cell 3
                have c4 : w6.cell? ⟨w.heap.size + 1 + 1, 4, none⟩ = some (.int .i64 S.mode) := HS6.out.blk.cell 4
                have c5 : w6.cell? ⟨w.heap.size + 1 + 1, 5, none⟩ = some (.int .i64 S.term) := HS6.out.blk.cell 5
                have HRT : Hid (Calls Tryd.prog 35 #[.agg #[.int .i64 c.nodes, .int .i64 c.queues, .int .i64 c.quota, .int .i64 c.wave, .int .i64 c.lease, .int .i64 c.retry, .int .i64 c.deadline, .int .i64 c.room, .int .i64 c.disk], .agg #[.slice An S.nodes.length cn, .slice Aj S.jobs.length cj, .int .i64 S.goal, .int .i64 S.prior, .int .i64 S.mode, .int .i64 S.term]] w6 fun e w' => ∃ b, e = .returned (.bool b) ∧ (b = true ↔ RightP c S) ∧ Ext w6 w') := Lib.hid (RefRight_any c _ _ S w6 HS6.out.rd.nodes HS6.out.rd.jobs)
                clear hbc6
                go_wp2_with fail
                refine HRT.out.mono ?_
                rintro e7 w7 ⟨b7, rfl, hb7, hx7⟩
                have HX7 := Lib.hid (HX6.out.trans hx7)
                have HB7 := Lib.hid (HB6.out.ext hx7)
                have HS7 := Lib.hid (HS6.out.ext hx7)
                have HRI := Lib.hid hb7
                clear k0 k1 k2 k3 k4 k5 k6 k7 k8
                clear hb7 hx7 HRT c0 c1 c2 c3 c4 c5
                cases b7 with
                | false =>
                  have HNO : Hid (∀ t, ¬ IsImg c bs t) := Lib.hid fun t ht => by have e := HST.out t ht; have h := HRI.out.2 (by rw [e]; exact ht.right); cases h
                  have hz4 := HB7.out
                  have z0 : w7.cell? ⟨w.heap.size + 1, 0, none⟩ = some (.slice none 0 0) := hz4.cell 0
                  have f0 := hz4.frozen 0
                  have z1 : w7.cell? ⟨w.heap.size + 1, 1, none⟩ = some (.slice none 0 0) := hz4.cell 1
                  have f1 := hz4.frozen 1
                  have z2 : w7.cell? ⟨w.heap.size + 1, 2, none⟩ = some (.int .i64 0) := hz4.cell 2
                  have f2 := hz4.frozen 2
                  have z3 : w7.cell? ⟨w.heap.size + 1, 3, none⟩ = some (.int .i64 0) := hz4.cell 3
                  have f3 := hz4.frozen 3
                  have z4 : w7.cell? ⟨w.heap.size + 1, 4, none⟩ = some (.int .i64 0) := hz4.cell 4
                  have f4 := hz4.frozen 4
                  have z5 : w7.cell? ⟨w.heap.size + 1, 5, none⟩ = some (.int .i64 0) := hz4.cell 5
                  have f5 := hz4.frozen 5
                  go_wp2
                  have hq := PB.start hz4
                  replace hq := hq.set 0 (.slice none 0 0)
                  replace hq := hq.set 1 (.slice none 0 0)
                  replace hq := hq.set 2 (.int .i64 0)
                  replace hq := hq.set 3 (.int .i64 0)
                  replace hq := hq.set 4 (.int .i64 0)
                  replace hq := hq.set 5 (.int .i64 0)
                  simp only [List.setIfInBounds_toArray, List.set_cons_zero, List.set_cons_succ] at hq
                  obtain ⟨wf, hwf⟩ : ∃ W, W = ((((((w7.setCell ⟨w.heap.size + 1, 0, none⟩ (.slice none 0 0)).setCell ⟨w.heap.size + 1, 1, none⟩ (.slice none 0 0)).setCell ⟨w.heap.size + 1, 2, none⟩ (.int .i64 0)).setCell ⟨w.heap.size + 1, 3, none⟩ (.int .i64 0)).setCell ⟨w.heap.size + 1, 4, none⟩ (.int .i64 0)).setCell ⟨w.heap.size + 1, 5, none⟩ (.int .i64 0)) := ⟨_, rfl⟩
                  rw [← hwf] at hq ⊢
                  clear hwf
                  exact bodyPost_ret (results_cell_tmp_row rfl _ _ (w.heap.size + 1) 30 _ (0, 0) _ rfl hq.blk rfl rfl (by kernel_rfl)) rfl ⟨.slice none 0 0, .slice none 0 0, zeroS, false, rfl, rdst_zero _, hq.below _ _ HX7.out (Nat.le_succ _), nil_own _, (fun h => by cases h), fun _ => ⟨rfl, HNO.out⟩⟩
                | true =>
                  have c0 : w7.cell? ⟨w.heap.size + 1 + 1, 0, none⟩ = some (.slice An S.nodes.length cn) := HS7.out.blk.cell 0
                  have c1 : w7.cell? ⟨w.heap.size + 1 + 1, 1, none⟩ = some (.slice Aj S.jobs.length cj) := HS7.out.blk.cell 1
                  have c2 : w7.cell? ⟨w.heap.size + 1 + 1, 2, none⟩ = some (.int .i64 S.goal) := HS7.out.blk.cell 2
                  have c3 : w7.cell? ⟨w.heap.size + 1 + 1, 3, none⟩ = some (.int .i64 S.prior) := HS7.out.blk.cell 3
                  have c4 : w7.cell? ⟨w.heap.size + 1 + 1, 4, none⟩ = some (.int .i64 S.mode) := HS7.out.blk.cell 4
                  have c5 : w7.cell? ⟨w.heap.size + 1 + 1, 5, none⟩ = some (.int .i64 S.term) := HS7.out.blk.cell 5
                  have hz4 := HB7.out
                  have z0 : w7.cell? ⟨w.heap.size + 1, 0, none⟩ = some (.slice none 0 0) := hz4.cell 0
                  have f0 := hz4.frozen 0
                  have z1 : w7.cell? ⟨w.heap.size + 1, 1, none⟩ = some (.slice none 0 0) := hz4.cell 1
                  have f1 := hz4.frozen 1
                  have z2 : w7.cell? ⟨w.heap.size + 1, 2, none⟩ = some (.int .i64 0) := hz4.cell 2
                  have f2 := hz4.frozen 2
                  have z3 : w7.cell? ⟨w.heap.size + 1, 3, none⟩ = some (.int .i64 0) := hz4.cell 3
                  have f3 := hz4.frozen 3
                  have z4 : w7.cell? ⟨w.heap.size + 1, 4, none⟩ = some (.int .i64 0) := hz4.cell 4
                  have f4 := hz4.frozen 4
                  have z5 : w7.cell? ⟨w.heap.size + 1, 5, none⟩ = some (.int .i64 0) := hz4.cell 5
                  have f5 := hz4.frozen 5
                  go_wp2
                  have hq := PB.start hz4
                  replace hq := hq.set 0 (.slice An S.nodes.length cn)
                  replace hq := hq.set 1 (.slice Aj S.jobs.length cj)
                  replace hq := hq.set 2 (.int .i64 S.goal)
                  replace hq := hq.set 3 (.int .i64 S.prior)
                  replace hq := hq.set 4 (.int .i64 S.mode)
                  replace hq := hq.set 5 (.int .i64 S.term)
                  simp only [List.setIfInBounds_toArray, List.set_cons_zero, List.set_cons_succ] at hq
                  obtain ⟨wf, hwf⟩ : ∃ W, W = ((((((w7.setCell ⟨w.heap.size + 1, 0, none⟩ (.slice An S.nodes.length cn)).setCell ⟨w.heap.size + 1, 1, none⟩ (.slice Aj S.jobs.length cj)).setCell ⟨w.heap.size + 1, 2, none⟩ (.int .i64 S.goal)).setCell ⟨w.heap.size + 1, 3, none⟩ (.int .i64 S.prior)).setCell ⟨w.heap.size + 1, 4, none⟩ (.int .i64 S.mode)).setCell ⟨w.heap.size + 1, 5, none⟩ (.int .i64 S.term)) := ⟨_, rfl⟩
                  rw [← hwf] at hq ⊢
                  clear hwf
                  have hcq := PB.chg_ hq
                  have hsf : Sg F wf (w.heap.size + 1 + 1) _ _ S := ObjF.chg HS7.out hcq (fun k hk e => by have := HFF.out k hk; have := HG6.out.1; have e : k = w.heap.size + 1 := e; omega)
                  exact bodyPost_ret (results_cell_tmp_row rfl _ _ (w.heap.size + 1) 30 _ (0, 0) _ rfl hq.blk rfl rfl (by kernel_rfl)) rfl ⟨_, _, S, true, rfl, hsf.rd, hq.below _ _ HX7.out (by omega), fun k hk => Nat.le_of_lt (hsf.inF (m := w.heap.size) (fun k hk => by have := HFF.out k hk; have := HG6.out.1; omega) k hk), fun _ => ⟨HRI.out.1 (by simp), HBYE.out⟩, fun h => by cases h⟩
              · rw [decide_eq_false hby]
                have HNO : Hid (∀ t, ¬ IsImg c bs t) := Lib.hid fun t ht => hby (by rw [HST.out t ht]; exact ht.bytes)
                clear hby hbc6
                have hz4 := HB6.out
                have z0 : w6.cell? ⟨w.heap.size + 1, 0, none⟩ = some (.slice none 0 0) := hz4.cell 0
                have f0 := hz4.frozen 0
                have z1 : w6.cell? ⟨w.heap.size + 1, 1, none⟩ = some (.slice none 0 0) := hz4.cell 1
                have f1 := hz4.frozen 1
                have z2 : w6.cell? ⟨w.heap.size + 1, 2, none⟩ = some (.int .i64 0) := hz4.cell 2
                have f2 := hz4.frozen 2
                have z3 : w6.cell? ⟨w.heap.size + 1, 3, none⟩ = some (.int .i64 0) := hz4.cell 3
                have f3 := hz4.frozen 3
                have z4 : w6.cell? ⟨w.heap.size + 1, 4, none⟩ = some (.int .i64 0) := hz4.cell 4
                have f4 := hz4.frozen 4
                have z5 : w6.cell? ⟨w.heap.size + 1, 5, none⟩ = some (.int .i64 0) := hz4.cell 5
                have f5 := hz4.frozen 5
                go_wp2
                have hq := PB.start hz4
                replace hq := hq.set 0 (.slice none 0 0)
                replace hq := hq.set 1 (.slice none 0 0)
                replace hq := hq.set 2 (.int .i64 0)
                replace hq := hq.set 3 (.int .i64 0)
                replace hq := hq.set 4 (.int .i64 0)
                replace hq := hq.set 5 (.int .i64 0)
                simp only [List.setIfInBounds_toArray, List.set_cons_zero, List.set_cons_succ] at hq
                obtain ⟨wf, hwf⟩ : ∃ W, W = ((((((w6.setCell ⟨w.heap.size + 1, 0, none⟩ (.slice none 0 0)).setCell ⟨w.heap.size + 1, 1, none⟩ (.slice none 0 0)).setCell ⟨w.heap.size + 1, 2, none⟩ (.int .i64 0)).setCell ⟨w.heap.size + 1, 3, none⟩ (.int .i64 0)).setCell ⟨w.heap.size + 1, 4, none⟩ (.int .i64 0)).setCell ⟨w.heap.size + 1, 5, none⟩ (.int .i64 0)) := ⟨_, rfl⟩
                rw [← hwf] at hq ⊢
                clear hwf
                exact bodyPost_ret (results_cell_tmp_row rfl _ _ (w.heap.size + 1) 30 _ (0, 0) _ rfl hq.blk rfl rfl (by kernel_rfl)) rfl ⟨.slice none 0 0, .slice none 0 0, zeroS, false, rfl, rdst_zero _, hq.below _ _ HX6.out (Nat.le_succ _), nil_own _, (fun h => by cases h), fun _ => ⟨rfl, HNO.out⟩⟩
        · have f2 : ((L.length : Int) != m3) = true := by simp [hle]
          have HNO : Hid (∀ t, ¬ IsImg c bs t) := Lib.hid fun t ht => by
            try clear hw1
            try clear hw2
            try clear hv1
            try clear hv2
            try clear hwp
            try clear wm1
            try clear wm2
            try clear wm3
            try clear vm1
            try clear vm2
            try clear vm3
            try clear d1
            try clear d1'
            try clear d2
            try clear d2'
            try clear d3
            try clear f1
            try clear f1'
            try clear f2
            have e := HNT.out t ht
            have h6 := ht.right.len
            have h24 := ht.right.nj
            have hle := imgL_len t
            have hno := nOf_img t
            have hmo := mOf_img t
            rw [← e] at hle hno hmo
            have h1 := HPE.out
            have h2 := HQ1.out
            have h3 := HQ2.out
            have h4 := HQ3.out
            have h5 := HMM.out
            have h7 := HNN.out
            omega
          clear hle hc
          have hz4 := HBW.out
          have z0 : wr.cell? ⟨w.heap.size + 1, 0, none⟩ = some (.slice none 0 0) := hz4.cell 0
          have f0 := hz4.frozen 0
          have z1 : wr.cell? ⟨w.heap.size + 1, 1, none⟩ = some (.slice none 0 0) := hz4.cell 1
          have f1 := hz4.frozen 1
          have z2 : wr.cell? ⟨w.heap.size + 1, 2, none⟩ = some (.int .i64 0) := hz4.cell 2
          have f2 := hz4.frozen 2
          have z3 : wr.cell? ⟨w.heap.size + 1, 3, none⟩ = some (.int .i64 0) := hz4.cell 3
          have f3 := hz4.frozen 3
          have z4 : wr.cell? ⟨w.heap.size + 1, 4, none⟩ = some (.int .i64 0) := hz4.cell 4
          have f4 := hz4.frozen 4
          have z5 : wr.cell? ⟨w.heap.size + 1, 5, none⟩ = some (.int .i64 0) := hz4.cell 5
          have f5 := hz4.frozen 5
          go_wp2
          have hq := PB.start hz4
          replace hq := hq.set 0 (.slice none 0 0)
          replace hq := hq.set 1 (.slice none 0 0)
          replace hq := hq.set 2 (.int .i64 0)
          replace hq := hq.set 3 (.int .i64 0)
          replace hq := hq.set 4 (.int .i64 0)
          replace hq := hq.set 5 (.int .i64 0)
          simp only [List.setIfInBounds_toArray, List.set_cons_zero, List.set_cons_succ] at hq
          obtain ⟨wf, hwf⟩ : ∃ W, W = ((((((wr.setCell ⟨w.heap.size + 1, 0, none⟩ (.slice none 0 0)).setCell ⟨w.heap.size + 1, 1, none⟩ (.slice none 0 0)).setCell ⟨w.heap.size + 1, 2, none⟩ (.int .i64 0)).setCell ⟨w.heap.size + 1, 3, none⟩ (.int .i64 0)).setCell ⟨w.heap.size + 1, 4, none⟩ (.int .i64 0)).setCell ⟨w.heap.size + 1, 5, none⟩ (.int .i64 0)) := ⟨_, rfl⟩
          rw [← hwf] at hq ⊢
          clear hwf
          exact bodyPost_ret (results_cell_tmp_row rfl _ _ (w.heap.size + 1) 30 _ (0, 0) _ rfl hq.blk rfl rfl (by kernel_rfl)) rfl ⟨.slice none 0 0, .slice none 0 0, zeroS, false, rfl, rdst_zero _, hq.below _ _ HXW.out (Nat.le_succ _), nil_own _, (fun h => by cases h), fun _ => ⟨rfl, HNO.out⟩⟩

end Go.Proofs.YtddhbokknbmdfaaDoor
