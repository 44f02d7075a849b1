/- Texts that the proof of I rests on, one behind the other. -/
import Derived.Test.YtddhbokknbmdfaaDoorIQ13
import Derived.Deep.LoopGhost
import Derived.BigQuiet
import Derived.Deep.QuietTactic

/- The reference's layer 1: a list's bytes. -/
namespace Go.Proofs.YtddhbokknbmdfaaDoor
open Go.RowKit

theorem Rd.open_ {w : World} {A : Option Addr} {n c : Nat} {xs : List Value} (h : Rd w (.slice A n c) xs) : n = xs.length ∧ xs.length ≤ c ∧ c ≤ maxLen ∧ (0 < xs.length → ∃ b o, A = some ⟨b, o, none⟩ ∧ b < w.heap.size ∧ ∀ j u, xs[j]? = some u → w.cell? ⟨b, o + j, none⟩ = some u) := by
  obtain ⟨A', c', e, h1, h2, h3⟩ := h
  injection e with e1 e2 e3
  subst e1 e2 e3
  exact ⟨rfl, h1, h2, h3⟩

set_option maxRecDepth 100000 in
set_option maxHeartbeats 4000000 in
theorem RefList_any (l : List Int) (v : Value) (w : World) (hr : Rd w v (l.map I)) (hl : l.length ≤ 1000000) :
    Calls Tryd.prog 53 #[v] w (ListPost l w) := by
  obtain ⟨A, c, rfl, hlc, hcm, hcell⟩ := hr
  simp only [List.length_map] at *
  unfold maxLen at hcm
  have hlen := numB_len8 (n := l.length) (by omega)
  go_enter Tryd.func53, Tryd.ntmps53
  go_wp2_with (first | (go_at_call 99; refine (RefNum_yes l.length _ (by omega)).mono ?_; rintro e w' ⟨v', rfl, hg0⟩))
  go_loopw [3, 4] (fun v' i' wr => ∃ (k : Nat), i' = .int .i64 k ∧ k ≤ l.length ∧ (l.take k).all isNumB = true ∧ Grew w.heap.size 5 (.slice none 0 0) w ((numB l.length ++ numsB (l.take k)).map B) v' wr) (fun _ i' _ => l.length - (intOf i').toNat)
  case atStart => exact ⟨0, rfl, by omega, rfl, by simpa [numsB] using hg0⟩
  case round =>
    obtain ⟨k, rfl, hk, hall, hg⟩ := hrel
    have hbnd := numsB_len _ hall
    rw [List.length_take, Nat.min_eq_left hk] at hbnd
    have hlt : (numB l.length ++ numsB (l.take k)).length ≤ 8 + 8 * l.length := by simp only [List.length_append]; omega
    have HA := Lib.hid hall
    clear hall
    by_cases hlt2 : k < l.length
    · obtain ⟨b, o, rfl, hbl, hce⟩ := hcell (by omega)
      have hc1 : wr.cell? ⟨b, o + k, none⟩ = some (I l[k]) := (hg.ext.cell (p := ⟨b, o + k, none⟩) hbl).trans (hce k _ (by simp [hlt2]))
      clear hce hcell
      by_cases hn : isNumB l[k] = true
      · have H := Lib.hid (isNumB_iff.1 hn)
        obtain ⟨m, hm, hm2⟩ := isNum_some H.out
        have HL := Lib.hid hm
        rw [hm] at hc1
        unfold I at hc1
        clear hm hn
        have lm := numB_len8 hm2
        go_wp2_with (first | (go_at_call 100; refine (RefIs_yes _ _ (by omega) (by omega)).mono ?_; rintro e w' ⟨rfl, rfl⟩) | (go_at_call 99; refine (RefNum_yes m _ (by omega)).mono ?_; rintro e w2 ⟨v2, rfl, hg2⟩; obtain ⟨A2, c2, rfl⟩ := hg2.slice_ (n := (numB m).length) (List.length_map _)))
        have hg3 := hg.step hg2.ext
        have hr2 := Rd.own hg2.own
        have hne : Hid (∀ b2 o2, A2 = some ⟨b2, o2, none⟩ → u3.ownBlock ≠ some b2) := by
          intro b2 o2 e h
          subst e
          have h1 := (hg.own.lt b2 h).2
          have h2 := (hg2.own.lt b2 rfl).1
          omega
        obtain ⟨-, -, hc2m, hcell2⟩ := hr2.open_
        simp only [List.length_map] at hcell2
        unfold maxLen at hc2m
        generalize hw2 : w2 = w3 at *
        clear hg2 hw2 hc1 hr2
        obtain ⟨wo, rfl⟩ : ∃ wo : World, wo = wr := ⟨_, rfl⟩
        obtain ⟨vo, rfl⟩ : ∃ vo : Value, vo = u3 := ⟨_, rfl⟩
        go_loopw [3, 6] (fun v' i' wq => ∃ (q : Nat), i' = .int .i64 q ∧ q ≤ (numB m).length ∧ Grew w.heap.size 5 vo w3 (((numB l.length ++ numsB (l.take k)) ++ (numB m).take q).map B) v' wq) (fun _ i' _ => (numB m).length - (intOf i').toNat)
        case atStart => exact ⟨0, rfl, by omega, by simpa using Grew.start hg3.1⟩
        case round =>
          obtain ⟨q, rfl, hq, hgq⟩ := hrel
          have hlq : (((numB l.length ++ numsB (l.take k)) ++ (numB m).take q).map B).length < 140737488355328 := by
            rw [List.length_map, List.length_append, List.length_take]
            omega
          have hbq := Nat.le_trans hg3.size hgq.size
          by_cases hq2 : q < (numB m).length
          · obtain ⟨b2, o2, rfl, hb2, hce2⟩ := hcell2 (by omega)
            have hc2 : wr.cell? ⟨b2, o2 + q, none⟩ = some (B (numB m)[q]) := hgq.2.1.cell (hce2 q _ (by simp [hq2])) (fun e => hne.out b2 o2 rfl e.symm)
            clear hce2 hcell2
            have htk := Lib.hid (take_snoc (numB m) q hq2)
            generalize (numB m)[q] = bq at hc2 htk
            unfold B at hc2
            go_wp2_with (first | (at_builtin; refine push_u8 rfl _ _ rfl w.heap.size _ _ rfl hgq.1 _ rfl rfl hlq hbq ?_; intro v' w' hg'))
            go_roundw
            case rel =>
              have hgg := hgq.trans hg'
              refine ⟨q + 1, by go_num, by omega, ?_⟩
              rw [htk.out, ← List.append_assoc, List.map_append]
              exact hgg
            case measure => simp [intOf]; omega
          · obtain rfl : q = (numB m).length := by omega
            rw [List.take_length] at hgq
            clear hcell2
            go_wp2
            go_roundw
            case rel =>
              refine ⟨k + 1, by go_num, by omega, all_take_snoc hlt2 HA.out (isNumB_iff.2 H.out), ?_⟩
              rw [take_snoc l k hlt2, numsB_snoc, HL.out, Int.toNat_natCast, ← List.append_assoc]
              exact hg3.trans hgq
            case measure => simp [intOf]; omega
      · have H := Lib.hid (isNumB_not (Bool.eq_false_iff.2 hn))
        unfold I at hc1
        clear hn
        go_wp2_with (first | (go_at_call 100; refine (RefIs_no _ _ H.out).mono ?_; rintro e w' ⟨rfl, rfl⟩))
        go_ret
        exact .inr ⟨rfl, all_false_at hlt2 (Bool.eq_false_iff.2 fun h => H.out (isNumB_iff.1 h)), hg.ext⟩
    · have hkl : k = l.length := by omega
      subst hkl
      go_wp2
      go_ret
      rw [List.take_length] at hg HA
      exact .inl ⟨_, rfl, HA.out, hg⟩

end Go.Proofs.YtddhbokknbmdfaaDoor

/- The reference of layer 10: Put. -/
namespace Go.Proofs.YtddhbokknbmdfaaDoor
open Go.RowKit

set_option maxRecDepth 100000 in
set_option maxHeartbeats 4000000 in
theorem RefPut10_any (vn vj : Value) (s : St) (w : World) (h : RdSt w vn vj s) :
    Calls Tryd.prog 34 #[stV vn vj s] w fun e w' => ∃ v, e = .returned v ∧ Rd w' v ((imgB s).map B) ∧ Ext w w' := by
  obtain ⟨hx, hb⟩ := boxSt vn vj s w 30
  have HRS := Lib.hid (h.ext hx)
  obtain ⟨An, cn, rfl, hnc, hcm, -⟩ := has_cells h.nodes
  obtain ⟨Aj, cj, rfl, hjc, hjm, -⟩ := jobs_cells h.jobs
  have HX := Lib.hid hx
  have HB := Lib.hid hb
  unfold stC at HX HRS HB
  clear hx hb h
  unfold stV
  by_cases h6 : 6 < s.nodes.length
  · have d1 : decide ((6 : Int) < (s.nodes.length : Int)) = true := decide_eq_true (by omega)
    have d1' : decide (6 < s.nodes.length) = true := decide_eq_true h6
    have HNO := Lib.hid (imgB_no (s := s) (by omega))
    clear h6
    go_enter Tryd.func34, Tryd.ntmps34
    go_wp2
    go_ret
    exact ⟨_, rfl, by rw [HNO.out]; exact Rd.nil _, HX.out⟩
  have d1 : decide ((6 : Int) < (s.nodes.length : Int)) = false := decide_eq_false (by omega)
  have d1' : decide (6 < s.nodes.length) = false := decide_eq_false h6
  by_cases h24 : 24 < s.jobs.length
  · have d2 : decide ((24 : Int) < (s.jobs.length : Int)) = true := decide_eq_true (by omega)
    have d2' : decide (24 < s.jobs.length) = true := decide_eq_true h24
    have HNO := Lib.hid (imgB_no (s := s) (by omega))
    clear h6 h24
    go_enter Tryd.func34, Tryd.ntmps34
    go_wp2
    go_ret
    exact ⟨_, rfl, by rw [HNO.out]; exact Rd.nil _, HX.out⟩
  have d2 : decide ((24 : Int) < (s.jobs.length : Int)) = false := decide_eq_false (by omega)
  have d2' : decide (24 < s.jobs.length) = false := decide_eq_false h24
  have HYS : Hid (s.nodes.length ≤ 6 ∧ s.jobs.length ≤ 24) := Lib.hid (by omega)
  clear h6 h24
  go_enter Tryd.func34, Tryd.ntmps34
  obtain ⟨W1, hW1⟩ : ∃ W, W = w.alloc (.cells #[.slice An s.nodes.length cn, .slice Aj s.jobs.length cj, .int .i64 s.goal, .int .i64 s.prior, .int .i64 s.mode, .int .i64 s.term] 30) := ⟨_, rfl⟩
  rw [← hW1] at HX HB HRS
  go_upto_region 1 with (fail)
  rw [← hW1]
  clear hW1
  have s0 : W1.cell? ⟨w.heap.size, 0, none⟩ = some (.slice An s.nodes.length cn) := HB.out.cell 0
  have s1 : W1.cell? ⟨w.heap.size, 1, none⟩ = some (.slice Aj s.jobs.length cj) := HB.out.cell 1
  have s2 : W1.cell? ⟨w.heap.size, 2, none⟩ = some (.int .i64 s.goal) := HB.out.cell 2
  have s3 : W1.cell? ⟨w.heap.size, 3, none⟩ = some (.int .i64 s.prior) := HB.out.cell 3
  have s4 : W1.cell? ⟨w.heap.size, 4, none⟩ = some (.int .i64 s.mode) := HB.out.cell 4
  have s5 : W1.cell? ⟨w.heap.size, 5, none⟩ = some (.int .i64 s.term) := HB.out.cell 5
  go_wp2_with fail
  refine (RefNumbers_any (.slice An s.nodes.length cn) (.slice Aj s.jobs.length cj) s W1 HRS.out HYS.out.1 HYS.out.2).mono ?_
  rintro e2 w2 ⟨v2, rfl, hg2⟩
  have HG2 := Lib.hid hg2
  clear hg2 s0 s1 s2 s3 s4 s5
  go_wp2_with fail
  refine (RefList_any (imgL s) v2 w2 (Rd.own HG2.out.own) (by rw [imgL_len]; have := HYS.out; omega)).mono ?_
  intro e3 w3 hp
  obtain ⟨v3, rfl, hr3, hx3⟩ := list_img HYS.out hp
  have HR3 := Lib.hid hr3
  have HX3 := Lib.hid ((HX.out.trans HG2.out.ext).trans hx3)
  clear hp hr3 hx3 HG2
  go_wp2
  go_ret
  exact ⟨_, rfl, HR3.out, HX3.out⟩

end Go.Proofs.YtddhbokknbmdfaaDoor

/- The reference of layer 9: sets of nodes, the version that is meant, a queue's drains. -/
namespace Go.Proofs.YtddhbokknbmdfaaDoor
open Go.RowKit

set_option maxRecDepth 100000 in
theorem RefHas_any (set : Int) (i : Nat) (hi : i < 64) (w : World) :
    Calls Tryd.prog 28 #[.int .i64 set, .int .i64 (i : Int)] w fun e w' => e = .returned (.bool (hasS set i)) ∧ w = w' := by
  have h0 : (0 : Int) ≤ (i : Int) := by omega
  go_enter Tryd.func28, Tryd.ntmps28
  go_wp2
  go_ret
  exact ⟨by simp only [i64_and1]; rfl, rfl⟩

theorem RefMeant_any (vn vj : Value) (s : St) (w : World) :
    Calls Tryd.prog 13 #[stV vn vj s] w fun e w' => e = .returned (.int .i64 (meantS s)) ∧ Ext w w' := by
  obtain ⟨hx, hb⟩ := boxSt vn vj s w 30
  have HX := Lib.hid hx
  clear hx hb
  unfold stV meantS
  unfold stC at HX
  by_cases h : s.mode = 2
  · have d : (s.mode == 2) = true := by rw [h]; rfl
    rw [if_pos h]
    clear h
    go_enter Tryd.func13, Tryd.ntmps13
    go_wp2
    go_ret
    exact ⟨rfl, HX.out⟩
  · have d : (s.mode == 2) = false := by rw [beq_eq_false_iff_ne]; exact h
    rw [if_neg h]
    clear h
    go_enter Tryd.func13, Tryd.ntmps13
    go_wp2
    go_ret
    exact ⟨rfl, HX.out⟩

theorem many_step (set : Int) (q : Nat) : ((List.range (q + 1)).filter (hasS set)).length = ((List.range q).filter (hasS set)).length + (if hasS set q = true then 1 else 0) := by
  rw [List.range_succ, List.filter_append, List.length_append]
  congr 1
  cases h : hasS set q with
  | false => rw [List.filter_cons_of_neg (by rw [h]; simp)]; rfl
  | true => rw [List.filter_cons_of_pos h]; rfl

set_option maxRecDepth 100000 in
theorem RefMany_any (set : Int) (w : World) :
    Calls Tryd.prog 46 #[.int .i64 set] w fun e w' => e = .returned (.int .i64 (manyS set : Int)) ∧ w = w' := by
  have HH := Lib.hid fun i hi w' => RefHas_any set i hi w'
  obtain ⟨M, hM⟩ : ∃ M, M = manyS set := ⟨_, rfl⟩
  rw [← hM]
  have HM := Lib.hid hM
  clear hM
  go_enter Tryd.func46, Tryd.ntmps46
  go_wp2_with fail
  go_loop [3, 4] (fun n i => ∃ q : Nat, i = .int .i64 q ∧ n = .int .i64 ((((List.range q).filter (hasS set)).length : Nat) : Int) ∧ q ≤ 6) (fun _ i => 6 - (intOf i).toNat)
  case atStart => exact ⟨0, rfl, rfl, Nat.zero_le _⟩
  case round =>
    obtain ⟨q, rfl, rfl, hq⟩ := hrel
    have HST := Lib.hid (many_step set q)
    have hNq : ((List.range q).filter (hasS set)).length ≤ q := Nat.le_trans (List.length_filter_le _ _) (by simp)
    generalize hN : ((List.range q).filter (hasS set)).length = N at *
    have HN := Lib.hid hN
    clear hN
    by_cases hlt : q < 6
    · have d1 : decide ((q : Int) < 6) = true := decide_eq_true (by omega)
      have HLT := Lib.hid hlt
      have hq64 : q < 64 := by omega
      go_wp2_with fail
      refine (HH.out q hq64 _).mono ?_
      rintro e1 w1 ⟨rfl, rfl⟩
      cases hh : hasS set q
      · rw [hh, if_neg (by simp)] at HST
        go_wp2
        go_round
        case rel => exact ⟨q + 1, by go_num, by rw [HST.out]; rfl, HLT.out⟩
        case measure => have := HLT.out; simp [intOf]; omega
      · rw [hh, if_pos rfl] at HST
        have hw : wrap64 ((N : Int) + 1) = ((N + 1 : Nat) : Int) := IntWalk.wrap64_in _ (by omega)
        go_wp2
        go_round
        case rel => exact ⟨q + 1, by go_num, by rw [HST.out]; rfl, HLT.out⟩
        case measure => have := HLT.out; simp [intOf]; omega
    · have d1 : decide ((q : Int) < 6) = false := decide_eq_false (by omega)
      obtain rfl : q = 6 := by omega
      have HMN : Hid (M = N) := Lib.hid (HM.out.trans HN.out)
      go_wp2
      go_ret
      exact ⟨by rw [HMN.out]; rfl, rfl⟩

set_option maxRecDepth 100000 in
theorem RefDrains_any (vn vj : Value) (s : St) (q : Int) (w : World) (hj : RdJb w vj s.jobs) :
    Calls Tryd.prog 15 #[stV vn vj s, .int .i64 q] w fun e w' => e = .returned (.int .i64 (drainsS s q : Int)) ∧ Ext w w' := by
  obtain ⟨hx, hb⟩ := boxSt vn vj s w 30
  unfold stV
  unfold stC at hx hb
  obtain ⟨A, c, rfl, hnc, hcm, hcell⟩ := jobs_cells hj
  have HC := Lib.hid hcell
  have HX := Lib.hid hx
  have h0 : (w.alloc (.cells #[vn, .slice A s.jobs.length c, .int .i64 s.goal, .int .i64 s.prior, .int .i64 s.mode, .int .i64 s.term] 30)).cell? ⟨w.heap.size, 1, none⟩ = some (.slice A s.jobs.length c) := hb.cell 1
  clear hx hj hcell hb
  obtain ⟨D, hD⟩ : ∃ D, D = drainsS s q := ⟨_, rfl⟩
  rw [← hD]
  unfold drainsS at hD
  generalize s.jobs = l at *
  have HD := Lib.hid hD
  clear hD
  obtain ⟨W0, hW0⟩ : ∃ W0, W0 = w.alloc (.cells #[vn, .slice A l.length c, .int .i64 s.goal, .int .i64 s.prior, .int .i64 s.mode, .int .i64 s.term] 30) := ⟨_, rfl⟩
  rw [← hW0] at HX h0
  go_enter Tryd.func15, Tryd.ntmps15
  go_wp2_with fail
  rw [← hW0]
  clear hW0
  go_loop [5, 6] (fun n i => ∃ k : Nat, i = .int .i64 k ∧ n = .int .i64 ((((l.take k).filter fun j => decide (j.queue = q ∧ j.phase = 3)).length : Nat) : Int) ∧ k ≤ l.length) (fun _ i => l.length - (intOf i).toNat)
  case atStart => exact ⟨0, rfl, by simp, Nat.zero_le _⟩
  case round =>
    obtain ⟨k, rfl, rfl, hk⟩ := hrel
    generalize hN : ((l.take k).filter fun j => decide (j.queue = q ∧ j.phase = 3)).length = N at *
    by_cases hlt : k < l.length
    · have d1 : decide ((k : Int) < (l.length : Int)) = true := decide_eq_true (by omega)
      have d1' : decide (k < l.length) = true := decide_eq_true hlt
      obtain ⟨j, hj⟩ : ∃ j, l[k]? = some j := ⟨_, List.getElem?_eq_getElem hlt⟩
      obtain ⟨b, o, rfl, hb, hat⟩ := HC.out k j hj
      have q0 := (hat.ext HX.out hb).c0
      have q6 := (hat.ext HX.out hb).c6
      have HN := Lib.hid (drains_step (q := q) hj hN)
      have hNl : N ≤ k := by rw [← hN]; exact Nat.le_trans (List.length_filter_le _ _) (by rw [List.length_take]; exact Nat.min_le_left _ _)
      have HLT := Lib.hid hlt
      clear hN hj hat hb
      by_cases hp : j.phase = 3
      · have e2 : (j.phase == 3) = true := by rw [hp]; rfl
        by_cases hq : j.queue = q
        · have e1 : (j.queue == q) = true := by rw [hq]; exact beq_self_eq_true q
          have HQ := Lib.hid (HN.out.1 ⟨hq, hp⟩)
          have hw : wrap64 ((N : Int) + 1) = ((N + 1 : Nat) : Int) := IntWalk.wrap64_in _ (by omega)
          clear hq hp HN
          go_wp2
          go_round
          case rel => exact ⟨k + 1, by go_num, by rw [HQ.out]; rfl, HLT.out⟩
          case measure => have := HLT.out; simp [intOf]; omega
        · have e1 : (j.queue == q) = false := by rw [beq_eq_false_iff_ne]; exact hq
          have HQ := Lib.hid (HN.out.2 fun h => hq h.1)
          clear hq hp HN
          go_wp2
          go_round
          case rel => exact ⟨k + 1, by go_num, by rw [HQ.out], HLT.out⟩
          case measure => have := HLT.out; simp [intOf]; omega
      · have e2 : (j.phase == 3) = false := by rw [beq_eq_false_iff_ne]; exact hp
        have HQ := Lib.hid (HN.out.2 fun h => hp h.2)
        clear hp HN
        go_wp2
        go_round
        case rel => exact ⟨k + 1, by go_num, by rw [HQ.out], HLT.out⟩
        case measure => have := HLT.out; simp [intOf]; omega
    · have d1 : decide ((k : Int) < (l.length : Int)) = false := decide_eq_false (by omega)
      have d1' : decide (k < l.length) = false := decide_eq_false hlt
      obtain rfl : k = l.length := by omega
      rw [List.take_length] at hN
      have HNN : Hid (D = N) := Lib.hid (HD.out.trans hN)
      clear hN
      go_wp2
      go_ret
      exact ⟨by rw [HNN.out]; rfl, HX.out⟩

end Go.Proofs.YtddhbokknbmdfaaDoor

/- The reference of layer 9: whether a node is free; whether a fleet may be. -/
namespace Go.Proofs.YtddhbokknbmdfaaDoor
open Go.RowKit

set_option maxRecDepth 100000 in
theorem RefFree_any (n : Nd) (w : World) :
    Calls Tryd.prog 18 #[ndV n] w fun e w' => e = .returned (.bool (freeN n)) ∧ Ext w w' := by
  have HX := Lib.hid fun c1 c2 => ext2 w 45 45 c1 c2
  have HX1 := Lib.hid fun cs => (Below.refl w.heap.size w).alloc (Nat.le_refl _) (.cells cs 45)
  have hfr : ∀ b, (b = true ↔ (n.up = true ∧ n.cordon = false ∧ n.moving = false ∧ n.job = 0)) → b = freeN n := fun b hb => by
    have : freeN n = true ↔ (n.up = true ∧ n.cordon = false ∧ n.moving = false ∧ n.job = 0) := by
      unfold freeN
      cases n.up <;> cases n.cordon <;> cases n.moving <;> simp
    rw [Bool.eq_iff_iff]
    exact hb.trans this.symm
  have HF := Lib.hid hfr
  clear hfr
  unfold ndV
  cases h1 : n.up
  · have HZ := Lib.hid (HF.out false ⟨(fun h => by cases h), fun h => by rw [h1] at h; cases h.1⟩)
    go_enter Tryd.func18, Tryd.ntmps18
    go_wp2
    go_ret
    exact ⟨by rw [← HZ.out]; rfl, HX.out _ _⟩
  cases h2 : n.cordon
  · cases h3 : n.moving
    · by_cases h4 : n.job = 0
      · have HZ := Lib.hid (HF.out true ⟨(fun _ => ⟨h1, h2, h3, h4⟩), fun _ => rfl⟩)
        go_enter Tryd.func18, Tryd.ntmps18
        go_wp2
        go_ret
        exact ⟨by rw [← HZ.out]; rfl, HX.out _ _⟩
      · have HZ := Lib.hid (HF.out false ⟨(fun h => by cases h), fun h => absurd h.2.2.2 h4⟩)
        go_enter Tryd.func18, Tryd.ntmps18
        go_wp2
        go_ret
        exact ⟨by rw [← HZ.out]; rfl, HX.out _ _⟩
    · have HZ := Lib.hid (HF.out false ⟨(fun h => by cases h), fun h => by rw [h3] at h; cases h.2.2.1⟩)
      go_enter Tryd.func18, Tryd.ntmps18
      go_wp2
      go_ret
      exact ⟨by rw [← HZ.out]; rfl, HX.out _ _⟩
  · have HZ := Lib.hid (HF.out false ⟨(fun h => by cases h), fun h => by rw [h2] at h; cases h.2.1⟩)
    go_enter Tryd.func18, Tryd.ntmps18
    go_wp2
    go_ret
    exact ⟨by rw [← HZ.out]; rfl, HX.out _ _⟩

end Go.Proofs.YtddhbokknbmdfaaDoor

/- The reference of layer 9: whether a fleet may be; whether a job's numbers may be asked. -/
namespace Go.Proofs.YtddhbokknbmdfaaDoor
open Go.RowKit

set_option maxRecDepth 100000 in
set_option maxHeartbeats 4000000 in
theorem RefMay_any (c : Cf) (w : World) :
    Calls Tryd.prog 6 #[cfV c] w fun e w' => e = .returned (.bool (mayC c)) ∧ Ext w w' := by
  have HX := Lib.hid fun cs => (Below.refl w.heap.size w).alloc (Nat.le_refl _) (.cells cs 23)
  unfold cfV
  obtain ⟨R, hR⟩ : ∃ R, R = mayC c := ⟨_, rfl⟩
  rw [← hR]
  have HR : Hid (R = mayC c) := Lib.hid hR
  clear hR
  by_cases b0 : c.nodes < 1
  · have HZ : Hid (R = false) := Lib.hid (HR.out.trans (by
      rw [Bool.eq_false_iff]
      intro h
      simp only [mayC, Bool.and_eq_true, inR_iff] at h
      omega))
    have d0_0 : decide (c.nodes < 1) = true := decide_eq_true (by omega)
    have d0_1 : decide (c.nodes ≤ 0) = true := decide_eq_true (by omega)
    clear b0
    go_enter Tryd.func6, Tryd.ntmps6
    go_wp2
    go_ret
    exact ⟨by rw [HZ.out]; rfl, HX.out _⟩
  have d0_0 : decide (c.nodes < 1) = false := decide_eq_false (by omega)
  have d0_1 : decide (c.nodes ≤ 0) = false := decide_eq_false (by omega)
  by_cases b1 : c.nodes > 6
  · have HZ : Hid (R = false) := Lib.hid (HR.out.trans (by
      rw [Bool.eq_false_iff]
      intro h
      simp only [mayC, Bool.and_eq_true, inR_iff] at h
      omega))
    have d1_0 : decide (6 < c.nodes) = true := decide_eq_true (by omega)
    have d1_1 : decide (7 ≤ c.nodes) = true := decide_eq_true (by omega)
    clear b0 b1
    go_enter Tryd.func6, Tryd.ntmps6
    go_wp2
    go_ret
    exact ⟨by rw [HZ.out]; rfl, HX.out _⟩
  have d1_0 : decide (6 < c.nodes) = false := decide_eq_false (by omega)
  have d1_1 : decide (7 ≤ c.nodes) = false := decide_eq_false (by omega)
  by_cases b2 : c.queues < 1
  · have HZ : Hid (R = false) := Lib.hid (HR.out.trans (by
      rw [Bool.eq_false_iff]
      intro h
      simp only [mayC, Bool.and_eq_true, inR_iff] at h
      omega))
    have d2_0 : decide (c.queues < 1) = true := decide_eq_true (by omega)
    have d2_1 : decide (c.queues ≤ 0) = true := decide_eq_true (by omega)
    clear b0 b1 b2
    go_enter Tryd.func6, Tryd.ntmps6
    go_wp2
    go_ret
    exact ⟨by rw [HZ.out]; rfl, HX.out _⟩
  have d2_0 : decide (c.queues < 1) = false := decide_eq_false (by omega)
  have d2_1 : decide (c.queues ≤ 0) = false := decide_eq_false (by omega)
  by_cases b3 : c.queues > 3
  · have HZ : Hid (R = false) := Lib.hid (HR.out.trans (by
      rw [Bool.eq_false_iff]
      intro h
      simp only [mayC, Bool.and_eq_true, inR_iff] at h
      omega))
    have d3_0 : decide (3 < c.queues) = true := decide_eq_true (by omega)
    have d3_1 : decide (4 ≤ c.queues) = true := decide_eq_true (by omega)
    clear b0 b1 b2 b3
    go_enter Tryd.func6, Tryd.ntmps6
    go_wp2
    go_ret
    exact ⟨by rw [HZ.out]; rfl, HX.out _⟩
  have d3_0 : decide (3 < c.queues) = false := decide_eq_false (by omega)
  have d3_1 : decide (4 ≤ c.queues) = false := decide_eq_false (by omega)
  by_cases b4 : c.quota < 0
  · have HZ : Hid (R = false) := Lib.hid (HR.out.trans (by
      rw [Bool.eq_false_iff]
      intro h
      simp only [mayC, Bool.and_eq_true, inR_iff] at h
      omega))
    have d4_0 : decide (c.quota < 0) = true := decide_eq_true (by omega)
    have d4_1 : decide (c.quota ≤ -1) = true := decide_eq_true (by omega)
    clear b0 b1 b2 b3 b4
    go_enter Tryd.func6, Tryd.ntmps6
    go_wp2
    go_ret
    exact ⟨by rw [HZ.out]; rfl, HX.out _⟩
  have d4_0 : decide (c.quota < 0) = false := decide_eq_false (by omega)
  have d4_1 : decide (c.quota ≤ -1) = false := decide_eq_false (by omega)
  by_cases b5 : c.quota > 4
  · have HZ : Hid (R = false) := Lib.hid (HR.out.trans (by
      rw [Bool.eq_false_iff]
      intro h
      simp only [mayC, Bool.and_eq_true, inR_iff] at h
      omega))
    have d5_0 : decide (4 < c.quota) = true := decide_eq_true (by omega)
    have d5_1 : decide (5 ≤ c.quota) = true := decide_eq_true (by omega)
    clear b0 b1 b2 b3 b4 b5
    go_enter Tryd.func6, Tryd.ntmps6
    go_wp2
    go_ret
    exact ⟨by rw [HZ.out]; rfl, HX.out _⟩
  have d5_0 : decide (4 < c.quota) = false := decide_eq_false (by omega)
  have d5_1 : decide (5 ≤ c.quota) = false := decide_eq_false (by omega)
  by_cases b6 : c.wave < 1
  · have HZ : Hid (R = false) := Lib.hid (HR.out.trans (by
      rw [Bool.eq_false_iff]
      intro h
      simp only [mayC, Bool.and_eq_true, inR_iff] at h
      omega))
    have d6_0 : decide (c.wave < 1) = true := decide_eq_true (by omega)
    have d6_1 : decide (c.wave ≤ 0) = true := decide_eq_true (by omega)
    clear b0 b1 b2 b3 b4 b5 b6
    go_enter Tryd.func6, Tryd.ntmps6
    go_wp2
    go_ret
    exact ⟨by rw [HZ.out]; rfl, HX.out _⟩
  have d6_0 : decide (c.wave < 1) = false := decide_eq_false (by omega)
  have d6_1 : decide (c.wave ≤ 0) = false := decide_eq_false (by omega)
  by_cases b7 : c.wave > 6
  · have HZ : Hid (R = false) := Lib.hid (HR.out.trans (by
      rw [Bool.eq_false_iff]
      intro h
      simp only [mayC, Bool.and_eq_true, inR_iff] at h
      omega))
    have d7_0 : decide (6 < c.wave) = true := decide_eq_true (by omega)
    have d7_1 : decide (7 ≤ c.wave) = true := decide_eq_true (by omega)
    clear b0 b1 b2 b3 b4 b5 b6 b7
    go_enter Tryd.func6, Tryd.ntmps6
    go_wp2
    go_ret
    exact ⟨by rw [HZ.out]; rfl, HX.out _⟩
  have d7_0 : decide (6 < c.wave) = false := decide_eq_false (by omega)
  have d7_1 : decide (7 ≤ c.wave) = false := decide_eq_false (by omega)
  by_cases b8 : c.lease < 2
  · have HZ : Hid (R = false) := Lib.hid (HR.out.trans (by
      rw [Bool.eq_false_iff]
      intro h
      simp only [mayC, Bool.and_eq_true, inR_iff] at h
      omega))
    have d8_0 : decide (c.lease < 2) = true := decide_eq_true (by omega)
    have d8_1 : decide (c.lease ≤ 1) = true := decide_eq_true (by omega)
    clear b0 b1 b2 b3 b4 b5 b6 b7 b8
    go_enter Tryd.func6, Tryd.ntmps6
    go_wp2
    go_ret
    exact ⟨by rw [HZ.out]; rfl, HX.out _⟩
  have d8_0 : decide (c.lease < 2) = false := decide_eq_false (by omega)
  have d8_1 : decide (c.lease ≤ 1) = false := decide_eq_false (by omega)
  by_cases b9 : c.lease > 30
  · have HZ : Hid (R = false) := Lib.hid (HR.out.trans (by
      rw [Bool.eq_false_iff]
      intro h
      simp only [mayC, Bool.and_eq_true, inR_iff] at h
      omega))
    have d9_0 : decide (30 < c.lease) = true := decide_eq_true (by omega)
    have d9_1 : decide (31 ≤ c.lease) = true := decide_eq_true (by omega)
    clear b0 b1 b2 b3 b4 b5 b6 b7 b8 b9
    go_enter Tryd.func6, Tryd.ntmps6
    go_wp2
    go_ret
    exact ⟨by rw [HZ.out]; rfl, HX.out _⟩
  have d9_0 : decide (30 < c.lease) = false := decide_eq_false (by omega)
  have d9_1 : decide (31 ≤ c.lease) = false := decide_eq_false (by omega)
  by_cases b10 : c.retry < 1
  · have HZ : Hid (R = false) := Lib.hid (HR.out.trans (by
      rw [Bool.eq_false_iff]
      intro h
      simp only [mayC, Bool.and_eq_true, inR_iff] at h
      omega))
    have d10_0 : decide (c.retry < 1) = true := decide_eq_true (by omega)
    have d10_1 : decide (c.retry ≤ 0) = true := decide_eq_true (by omega)
    clear b0 b1 b2 b3 b4 b5 b6 b7 b8 b9 b10
    go_enter Tryd.func6, Tryd.ntmps6
    go_wp2
    go_ret
    exact ⟨by rw [HZ.out]; rfl, HX.out _⟩
  have d10_0 : decide (c.retry < 1) = false := decide_eq_false (by omega)
  have d10_1 : decide (c.retry ≤ 0) = false := decide_eq_false (by omega)
  by_cases b11 : c.retry > 20
  · have HZ : Hid (R = false) := Lib.hid (HR.out.trans (by
      rw [Bool.eq_false_iff]
      intro h
      simp only [mayC, Bool.and_eq_true, inR_iff] at h
      omega))
    have d11_0 : decide (20 < c.retry) = true := decide_eq_true (by omega)
    have d11_1 : decide (21 ≤ c.retry) = true := decide_eq_true (by omega)
    clear b0 b1 b2 b3 b4 b5 b6 b7 b8 b9 b10 b11
    go_enter Tryd.func6, Tryd.ntmps6
    go_wp2
    go_ret
    exact ⟨by rw [HZ.out]; rfl, HX.out _⟩
  have d11_0 : decide (20 < c.retry) = false := decide_eq_false (by omega)
  have d11_1 : decide (21 ≤ c.retry) = false := decide_eq_false (by omega)
  by_cases b12 : c.deadline < 1
  · have HZ : Hid (R = false) := Lib.hid (HR.out.trans (by
      rw [Bool.eq_false_iff]
      intro h
      simp only [mayC, Bool.and_eq_true, inR_iff] at h
      omega))
    have d12_0 : decide (c.deadline < 1) = true := decide_eq_true (by omega)
    have d12_1 : decide (c.deadline ≤ 0) = true := decide_eq_true (by omega)
    clear b0 b1 b2 b3 b4 b5 b6 b7 b8 b9 b10 b11 b12
    go_enter Tryd.func6, Tryd.ntmps6
    go_wp2
    go_ret
    exact ⟨by rw [HZ.out]; rfl, HX.out _⟩
  have d12_0 : decide (c.deadline < 1) = false := decide_eq_false (by omega)
  have d12_1 : decide (c.deadline ≤ 0) = false := decide_eq_false (by omega)
  by_cases b13 : c.deadline > 60
  · have HZ : Hid (R = false) := Lib.hid (HR.out.trans (by
      rw [Bool.eq_false_iff]
      intro h
      simp only [mayC, Bool.and_eq_true, inR_iff] at h
      omega))
    have d13_0 : decide (60 < c.deadline) = true := decide_eq_true (by omega)
    have d13_1 : decide (61 ≤ c.deadline) = true := decide_eq_true (by omega)
    clear b0 b1 b2 b3 b4 b5 b6 b7 b8 b9 b10 b11 b12 b13
    go_enter Tryd.func6, Tryd.ntmps6
    go_wp2
    go_ret
    exact ⟨by rw [HZ.out]; rfl, HX.out _⟩
  have d13_0 : decide (60 < c.deadline) = false := decide_eq_false (by omega)
  have d13_1 : decide (61 ≤ c.deadline) = false := decide_eq_false (by omega)
  by_cases b14 : ¬ (c.room ≥ 0)
  · have HZ : Hid (R = false) := Lib.hid (HR.out.trans (by
      rw [Bool.eq_false_iff]
      intro h
      simp only [mayC, Bool.and_eq_true, inR_iff] at h
      omega))
    have d14_0 : decide (0 ≤ c.room) = false := decide_eq_false (by omega)
    have d14_1 : decide (-1 < c.room) = false := decide_eq_false (by omega)
    clear b0 b1 b2 b3 b4 b5 b6 b7 b8 b9 b10 b11 b12 b13 b14
    go_enter Tryd.func6, Tryd.ntmps6
    go_wp2
    go_ret
    exact ⟨by rw [HZ.out]; rfl, HX.out _⟩
  have d14_0 : decide (0 ≤ c.room) = true := decide_eq_true (by omega)
  have d14_1 : decide (-1 < c.room) = true := decide_eq_true (by omega)
  by_cases b15 : ¬ (c.room ≤ 5000)
  · have HZ : Hid (R = false) := Lib.hid (HR.out.trans (by
      rw [Bool.eq_false_iff]
      intro h
      simp only [mayC, Bool.and_eq_true, inR_iff] at h
      omega))
    have d15_0 : decide (c.room ≤ 5000) = false := decide_eq_false (by omega)
    have d15_1 : decide (c.room < 5001) = false := decide_eq_false (by omega)
    clear b0 b1 b2 b3 b4 b5 b6 b7 b8 b9 b10 b11 b12 b13 b14 b15
    go_enter Tryd.func6, Tryd.ntmps6
    go_wp2
    go_ret
    exact ⟨by rw [HZ.out]; rfl, HX.out _⟩
  have d15_0 : decide (c.room ≤ 5000) = true := decide_eq_true (by omega)
  have d15_1 : decide (c.room < 5001) = true := decide_eq_true (by omega)
  by_cases b16 : ¬ (c.disk ≥ 2000)
  · have HZ : Hid (R = false) := Lib.hid (HR.out.trans (by
      rw [Bool.eq_false_iff]
      intro h
      simp only [mayC, Bool.and_eq_true, inR_iff] at h
      omega))
    have d16_0 : decide (2000 ≤ c.disk) = false := decide_eq_false (by omega)
    have d16_1 : decide (1999 < c.disk) = false := decide_eq_false (by omega)
    clear b0 b1 b2 b3 b4 b5 b6 b7 b8 b9 b10 b11 b12 b13 b14 b15 b16
    go_enter Tryd.func6, Tryd.ntmps6
    go_wp2
    go_ret
    exact ⟨by rw [HZ.out]; rfl, HX.out _⟩
  have d16_0 : decide (2000 ≤ c.disk) = true := decide_eq_true (by omega)
  have d16_1 : decide (1999 < c.disk) = true := decide_eq_true (by omega)
  by_cases b17 : ¬ (c.disk ≤ 40000)
  · have HZ : Hid (R = false) := Lib.hid (HR.out.trans (by
      rw [Bool.eq_false_iff]
      intro h
      simp only [mayC, Bool.and_eq_true, inR_iff] at h
      omega))
    have d17_0 : decide (c.disk ≤ 40000) = false := decide_eq_false (by omega)
    have d17_1 : decide (c.disk < 40001) = false := decide_eq_false (by omega)
    clear b0 b1 b2 b3 b4 b5 b6 b7 b8 b9 b10 b11 b12 b13 b14 b15 b16 b17
    go_enter Tryd.func6, Tryd.ntmps6
    go_wp2
    go_ret
    exact ⟨by rw [HZ.out]; rfl, HX.out _⟩
  have d17_0 : decide (c.disk ≤ 40000) = true := decide_eq_true (by omega)
  have d17_1 : decide (c.disk < 40001) = true := decide_eq_true (by omega)
  have HZ : Hid (R = true) := Lib.hid (HR.out.trans (by
    simp only [mayC, Bool.and_eq_true, inR_iff]
    omega))
  clear b0 b1 b2 b3 b4 b5 b6 b7 b8 b9 b10 b11 b12 b13 b14 b15 b16 b17
  go_enter Tryd.func6, Tryd.ntmps6
  go_wp2
  go_ret
  exact ⟨by rw [HZ.out]; rfl, HX.out _⟩

set_option maxRecDepth 100000 in
set_option maxHeartbeats 4000000 in
theorem RefAsked_any (c : Cf) (j : Jb) (w : World) :
    Calls Tryd.prog 44 #[cfV c, jbV j] w fun e w' => e = .returned (.bool (askedJ c j)) ∧ Ext w w' := by
  have HX := Lib.hid fun c1 c2 => ext2 w 23 52 c1 c2
  unfold cfV jbV
  obtain ⟨R, hR⟩ : ∃ R, R = askedJ c j := ⟨_, rfl⟩
  rw [← hR]
  have HR : Hid (R = askedJ c j) := Lib.hid hR
  clear hR
  by_cases b0 : ¬ (j.queue ≥ 0)
  · have HZ : Hid (R = false) := Lib.hid (HR.out.trans (by
      rw [Bool.eq_false_iff]
      intro h
      simp only [askedJ, Bool.and_eq_true, inR_iff, decide_eq_true_eq] at h
      omega))
    have d0_0 : decide (0 ≤ j.queue) = false := decide_eq_false (by omega)
    have d0_1 : decide (-1 < j.queue) = false := decide_eq_false (by omega)
    clear b0
    go_enter Tryd.func44, Tryd.ntmps44
    go_wp2
    go_ret
    exact ⟨by rw [HZ.out]; rfl, HX.out _ _⟩
  have d0_0 : decide (0 ≤ j.queue) = true := decide_eq_true (by omega)
  have d0_1 : decide (-1 < j.queue) = true := decide_eq_true (by omega)
  by_cases b1 : ¬ (j.queue < c.queues)
  · have HZ : Hid (R = false) := Lib.hid (HR.out.trans (by
      rw [Bool.eq_false_iff]
      intro h
      simp only [askedJ, Bool.and_eq_true, inR_iff, decide_eq_true_eq] at h
      omega))
    have d1_0 : decide (j.queue < c.queues) = false := decide_eq_false (by omega)
    clear b0 b1
    go_enter Tryd.func44, Tryd.ntmps44
    go_wp2
    go_ret
    exact ⟨by rw [HZ.out]; rfl, HX.out _ _⟩
  have d1_0 : decide (j.queue < c.queues) = true := decide_eq_true (by omega)
  by_cases b2 : ¬ (j.prio ≥ 0)
  · have HZ : Hid (R = false) := Lib.hid (HR.out.trans (by
      rw [Bool.eq_false_iff]
      intro h
      simp only [askedJ, Bool.and_eq_true, inR_iff, decide_eq_true_eq] at h
      omega))
    have d2_0 : decide (0 ≤ j.prio) = false := decide_eq_false (by omega)
    have d2_1 : decide (-1 < j.prio) = false := decide_eq_false (by omega)
    clear b0 b1 b2
    go_enter Tryd.func44, Tryd.ntmps44
    go_wp2
    go_ret
    exact ⟨by rw [HZ.out]; rfl, HX.out _ _⟩
  have d2_0 : decide (0 ≤ j.prio) = true := decide_eq_true (by omega)
  have d2_1 : decide (-1 < j.prio) = true := decide_eq_true (by omega)
  by_cases b3 : ¬ (j.prio ≤ 9)
  · have HZ : Hid (R = false) := Lib.hid (HR.out.trans (by
      rw [Bool.eq_false_iff]
      intro h
      simp only [askedJ, Bool.and_eq_true, inR_iff, decide_eq_true_eq] at h
      omega))
    have d3_0 : decide (j.prio ≤ 9) = false := decide_eq_false (by omega)
    have d3_1 : decide (j.prio < 10) = false := decide_eq_false (by omega)
    clear b0 b1 b2 b3
    go_enter Tryd.func44, Tryd.ntmps44
    go_wp2
    go_ret
    exact ⟨by rw [HZ.out]; rfl, HX.out _ _⟩
  have d3_0 : decide (j.prio ≤ 9) = true := decide_eq_true (by omega)
  have d3_1 : decide (j.prio < 10) = true := decide_eq_true (by omega)
  by_cases b4 : ¬ (j.least ≥ 1)
  · have HZ : Hid (R = false) := Lib.hid (HR.out.trans (by
      rw [Bool.eq_false_iff]
      intro h
      simp only [askedJ, Bool.and_eq_true, inR_iff, decide_eq_true_eq] at h
      omega))
    have d4_0 : decide (1 ≤ j.least) = false := decide_eq_false (by omega)
    have d4_1 : decide (0 < j.least) = false := decide_eq_false (by omega)
    clear b0 b1 b2 b3 b4
    go_enter Tryd.func44, Tryd.ntmps44
    go_wp2
    go_ret
    exact ⟨by rw [HZ.out]; rfl, HX.out _ _⟩
  have d4_0 : decide (1 ≤ j.least) = true := decide_eq_true (by omega)
  have d4_1 : decide (0 < j.least) = true := decide_eq_true (by omega)
  by_cases b5 : ¬ (j.least ≤ j.most)
  · have HZ : Hid (R = false) := Lib.hid (HR.out.trans (by
      rw [Bool.eq_false_iff]
      intro h
      simp only [askedJ, Bool.and_eq_true, inR_iff, decide_eq_true_eq] at h
      omega))
    have d5_0 : decide (j.least ≤ j.most) = false := decide_eq_false (by omega)
    clear b0 b1 b2 b3 b4 b5
    go_enter Tryd.func44, Tryd.ntmps44
    go_wp2
    go_ret
    exact ⟨by rw [HZ.out]; rfl, HX.out _ _⟩
  have d5_0 : decide (j.least ≤ j.most) = true := decide_eq_true (by omega)
  by_cases b6 : ¬ (j.most ≤ c.nodes)
  · have HZ : Hid (R = false) := Lib.hid (HR.out.trans (by
      rw [Bool.eq_false_iff]
      intro h
      simp only [askedJ, Bool.and_eq_true, inR_iff, decide_eq_true_eq] at h
      omega))
    have d6_0 : decide (j.most ≤ c.nodes) = false := decide_eq_false (by omega)
    clear b0 b1 b2 b3 b4 b5 b6
    go_enter Tryd.func44, Tryd.ntmps44
    go_wp2
    go_ret
    exact ⟨by rw [HZ.out]; rfl, HX.out _ _⟩
  have d6_0 : decide (j.most ≤ c.nodes) = true := decide_eq_true (by omega)
  by_cases b7 : ¬ (j.work ≥ 1)
  · have HZ : Hid (R = false) := Lib.hid (HR.out.trans (by
      rw [Bool.eq_false_iff]
      intro h
      simp only [askedJ, Bool.and_eq_true, inR_iff, decide_eq_true_eq] at h
      omega))
    have d7_0 : decide (1 ≤ j.work) = false := decide_eq_false (by omega)
    have d7_1 : decide (0 < j.work) = false := decide_eq_false (by omega)
    clear b0 b1 b2 b3 b4 b5 b6 b7
    go_enter Tryd.func44, Tryd.ntmps44
    go_wp2
    go_ret
    exact ⟨by rw [HZ.out]; rfl, HX.out _ _⟩
  have d7_0 : decide (1 ≤ j.work) = true := decide_eq_true (by omega)
  have d7_1 : decide (0 < j.work) = true := decide_eq_true (by omega)
  by_cases b8 : ¬ (j.work ≤ 1000)
  · have HZ : Hid (R = false) := Lib.hid (HR.out.trans (by
      rw [Bool.eq_false_iff]
      intro h
      simp only [askedJ, Bool.and_eq_true, inR_iff, decide_eq_true_eq] at h
      omega))
    have d8_0 : decide (j.work ≤ 1000) = false := decide_eq_false (by omega)
    have d8_1 : decide (j.work < 1001) = false := decide_eq_false (by omega)
    clear b0 b1 b2 b3 b4 b5 b6 b7 b8
    go_enter Tryd.func44, Tryd.ntmps44
    go_wp2
    go_ret
    exact ⟨by rw [HZ.out]; rfl, HX.out _ _⟩
  have d8_0 : decide (j.work ≤ 1000) = true := decide_eq_true (by omega)
  have d8_1 : decide (j.work < 1001) = true := decide_eq_true (by omega)
  by_cases b9 : ¬ (j.pin ≥ 0)
  · have HZ : Hid (R = false) := Lib.hid (HR.out.trans (by
      rw [Bool.eq_false_iff]
      intro h
      simp only [askedJ, Bool.and_eq_true, inR_iff, decide_eq_true_eq] at h
      omega))
    have d9_0 : decide (0 ≤ j.pin) = false := decide_eq_false (by omega)
    have d9_1 : decide (-1 < j.pin) = false := decide_eq_false (by omega)
    clear b0 b1 b2 b3 b4 b5 b6 b7 b8 b9
    go_enter Tryd.func44, Tryd.ntmps44
    go_wp2
    go_ret
    exact ⟨by rw [HZ.out]; rfl, HX.out _ _⟩
  have d9_0 : decide (0 ≤ j.pin) = true := decide_eq_true (by omega)
  have d9_1 : decide (-1 < j.pin) = true := decide_eq_true (by omega)
  by_cases b10 : ¬ (j.pin ≤ 9)
  · have HZ : Hid (R = false) := Lib.hid (HR.out.trans (by
      rw [Bool.eq_false_iff]
      intro h
      simp only [askedJ, Bool.and_eq_true, inR_iff, decide_eq_true_eq] at h
      omega))
    have d10_0 : decide (j.pin ≤ 9) = false := decide_eq_false (by omega)
    have d10_1 : decide (j.pin < 10) = false := decide_eq_false (by omega)
    clear b0 b1 b2 b3 b4 b5 b6 b7 b8 b9 b10
    go_enter Tryd.func44, Tryd.ntmps44
    go_wp2
    go_ret
    exact ⟨by rw [HZ.out]; rfl, HX.out _ _⟩
  have d10_0 : decide (j.pin ≤ 9) = true := decide_eq_true (by omega)
  have d10_1 : decide (j.pin < 10) = true := decide_eq_true (by omega)
  have HZ : Hid (R = true) := Lib.hid (HR.out.trans (by
    simp only [askedJ, Bool.and_eq_true, inR_iff, decide_eq_true_eq]
    omega))
  clear b0 b1 b2 b3 b4 b5 b6 b7 b8 b9 b10
  go_enter Tryd.func44, Tryd.ntmps44
  go_wp2
  go_ret
  exact ⟨by rw [HZ.out]; rfl, HX.out _ _⟩

theorem RefNumber_any (n : Int) (w : World) :
    Calls Tryd.prog 55 #[.int .i64 n] w fun e w' => e = .returned (.bool (inR n 0 1000000)) ∧ w = w' := by
  by_cases h1 : 0 ≤ n
  · by_cases h2 : n ≤ 1000000
    · have d1 : decide (0 ≤ n) = true := decide_eq_true h1
      have d2 : decide (n ≤ 1000000) = true := decide_eq_true h2
      rw [inR_iff.2 ⟨h1, h2⟩]
      clear h1 h2
      go_enter Tryd.func55, Tryd.ntmps55
      go_wp2
      go_ret
      exact ⟨rfl, rfl⟩
    · have d1 : decide (0 ≤ n) = true := decide_eq_true h1
      have d2 : decide (n ≤ 1000000) = false := decide_eq_false h2
      rw [show inR n 0 1000000 = false from Bool.eq_false_iff.2 fun h => h2 (inR_iff.1 h).2]
      clear h1 h2
      go_enter Tryd.func55, Tryd.ntmps55
      go_wp2
      go_ret
      exact ⟨rfl, rfl⟩
  · have d1 : decide (0 ≤ n) = false := decide_eq_false h1
    rw [show inR n 0 1000000 = false from Bool.eq_false_iff.2 fun h => h1 (inR_iff.1 h).1]
    clear h1
    go_enter Tryd.func55, Tryd.ntmps55
    go_wp2
    go_ret
    exact ⟨rfl, rfl⟩

end Go.Proofs.YtddhbokknbmdfaaDoor

/- The reference of layer 9: whether nodes fit a job. -/
namespace Go.Proofs.YtddhbokknbmdfaaDoor
open Go.RowKit

/-- Behind q of six nodes: the version that they have, or 0. -/
structure FitI (s : St) (j : Jb) (set : Int) (q : Nat) (ver : Int) : Prop where
  a : ∀ i, i < q → hasS set i = true → i < s.nodes.length
  b : ∀ i n, i < q → s.nodes[i]? = some n → hasS set i = true → n.version = ver ∧ (j.pin ≠ 0 → n.version = j.pin)
  c : ver ≠ 0 → ∃ i n, i < q ∧ s.nodes[i]? = some n ∧ hasS set i = true ∧ n.version = ver
theorem FitI.zero (s : St) (j : Jb) (set : Int) : FitI s j set 0 0 := ⟨fun i h => absurd h (Nat.not_lt_zero i), fun i _ h => absurd h (Nat.not_lt_zero i), fun h => absurd rfl h⟩
theorem FitI.skip {s : St} {j : Jb} {set : Int} {q : Nat} {ver : Int} (h : FitI s j set q ver) (hs : hasS set q = false) : FitI s j set (q + 1) ver := by
  refine ⟨fun i hi hh => ?_, fun i n hi hn hh => ?_, fun hv => ?_⟩
  · rcases Nat.lt_or_ge i q with h' | h'
    · exact h.a i h' hh
    · obtain rfl : i = q := by omega
      rw [hs] at hh
      cases hh
  · rcases Nat.lt_or_ge i q with h' | h'
    · exact h.b i n h' hn hh
    · obtain rfl : i = q := by omega
      rw [hs] at hh
      cases hh
  · obtain ⟨i, n, h1, h2⟩ := h.c hv
    exact ⟨i, n, by omega, h2⟩
theorem FitI.take {s : St} {j : Jb} {set : Int} {q : Nat} {ver : Int} {n : Nd} (h : FitI s j set q ver) (hs : hasS set q = true) (hn : s.nodes[q]? = some n) (hv : ver = 0 ∨ n.version = ver) (hp : j.pin = 0 ∨ n.version = j.pin) (h1 : ∀ (i : Nat) (n : Nd), s.nodes[i]? = some n → 1 ≤ n.version) : FitI s j set (q + 1) n.version := by
  refine ⟨fun i hi hh => ?_, fun i m hi hm hh => ?_, fun _ => ⟨q, n, by omega, hn, hs, rfl⟩⟩
  · rcases Nat.lt_or_ge i q with h' | h'
    · exact h.a i h' hh
    · obtain rfl : i = q := by omega
      exact (List.getElem?_eq_some_iff.1 hn).1
  · rcases Nat.lt_or_ge i q with h' | h'
    · obtain ⟨e1, e2⟩ := h.b i m h' hm hh
      have := h1 i m hm
      refine ⟨?_, e2⟩
      rcases hv with hv | hv
      · omega
      · omega
    · obtain rfl : i = q := by omega
      rw [hn] at hm
      cases hm
      refine ⟨rfl, fun h0 => ?_⟩
      rcases hp with hp | hp
      · exact absurd hp h0
      · exact hp
theorem FitI.done {s : St} {j : Jb} {set : Int} {ver : Int} (h : FitI s j set 6 ver) (h0 : 0 ≤ set) (h64 : set < 64) (hl : j.least ≤ (manyS set : Int)) (hm : (manyS set : Int) ≤ j.most) (hlen : s.nodes.length ≤ 6) : FitsP s j set := by
  have six : ∀ i n, s.nodes[i]? = some n → i < 6 := fun i n hn => by have := (List.getElem?_eq_some_iff.1 hn).1; omega
  refine ⟨h0, ?_, hl, hm, fun i n hn hh hp => (h.b i n (six i n hn) hn hh).2 hp, fun i n k m hn hh hk hh2 => by rw [(h.b i n (six i n hn) hn hh).1, (h.b k m (six k m hk) hk hh2).1]⟩
  obtain ⟨m, rfl⟩ := Int.eq_ofNat_of_zero_le h0
  have hlt : m < 2 ^ s.nodes.length := by
    apply Nat.lt_pow_two_of_testBit
    intro i hi
    rw [← hasS_nat]
    cases hh : hasS (m : Int) i with
    | false => rfl
    | true =>
      by_cases h6 : i < 6
      · have := h.a i h6 hh
        omega
      · have h64' : (m : Int) < 2 ^ 6 := by omega
        rw [hasS_high h0 h64' (by omega)] at hh
        cases hh
  have : ((2 ^ s.nodes.length : Nat) : Int) = (2 : Int) ^ s.nodes.length := by simp
  omega

set_option maxRecDepth 100000 in
set_option maxHeartbeats 4000000 in
theorem RefFits_any (vn vj : Value) (s : St) (j : Jb) (set : Int) (w : World) (hr : RdNd w vn s.nodes) (hn : s.nodes.length ≤ 6) (hver : ∀ (i : Nat) (n : Nd), s.nodes[i]? = some n → 1 ≤ n.version) :
    Calls Tryd.prog 45 #[stV vn vj s, jbV j, .int .i64 set] w fun e w' => ∃ b, e = .returned (.bool b) ∧ (b = true ↔ FitsP s j set) ∧ Ext w w' := by
  obtain ⟨A, c, rfl, hnc, hcm, hcell⟩ := has_cells hr
  obtain ⟨W2, hW2⟩ : ∃ W, W = (w.alloc (.cells #[.slice A s.nodes.length c, vj, .int .i64 s.goal, .int .i64 s.prior, .int .i64 s.mode, .int .i64 s.term] 30)).alloc (.cells #[.int .i64 j.queue, .int .i64 j.prio, .int .i64 j.least, .int .i64 j.most, .int .i64 j.work, .int .i64 j.pin, .int .i64 j.phase, .int .i64 j.inc, .int .i64 j.nodes, .int .i64 j.since, .int .i64 j.til, .int .i64 j.epoch] 52) := ⟨_, rfl⟩
  have hx2 : Ext w W2 := by rw [hW2]; exact ext2 w _ _ _ _
  have hb0 : Blk W2 w.heap.size 30 #[.slice A s.nodes.length c, vj, .int .i64 s.goal, .int .i64 s.prior, .int .i64 s.mode, .int .i64 s.term] := by rw [hW2]; exact (Blk.new w _ _).alloc _
  have hb1 : Blk W2 (w.heap.size + 1) 52 #[.int .i64 j.queue, .int .i64 j.prio, .int .i64 j.least, .int .i64 j.most, .int .i64 j.work, .int .i64 j.pin, .int .i64 j.phase, .int .i64 j.inc, .int .i64 j.nodes, .int .i64 j.since, .int .i64 j.til, .int .i64 j.epoch] := by
    have h1 := Blk.new (w.alloc (.cells #[.slice A s.nodes.length c, vj, .int .i64 s.goal, .int .i64 s.prior, .int .i64 s.mode, .int .i64 s.term] 30)) 52 #[.int .i64 j.queue, .int .i64 j.prio, .int .i64 j.least, .int .i64 j.most, .int .i64 j.work, .int .i64 j.pin, .int .i64 j.phase, .int .i64 j.inc, .int .i64 j.nodes, .int .i64 j.since, .int .i64 j.til, .int .i64 j.epoch]
    have e : (w.alloc (.cells #[.slice A s.nodes.length c, vj, .int .i64 s.goal, .int .i64 s.prior, .int .i64 s.mode, .int .i64 s.term] 30)).heap.size = w.heap.size + 1 := by simp
    rw [e] at h1
    rw [hW2]
    exact h1
  have HC := Lib.hid hcell
  have HV := Lib.hid hver
  have HX := Lib.hid hx2
  have HB0 := Lib.hid hb0
  have HB1 := Lib.hid hb1
  have HN6 := Lib.hid hn
  have HMN : Hid (∀ W, Calls Tryd.prog 46 #[.int .i64 set] W fun e w' => e = .returned (.int .i64 (manyS set : Int)) ∧ w' = W) := Lib.hid fun W => (RefMany_any set W).mono fun _ _ ⟨h1, h2⟩ => ⟨h1, h2.symm⟩
  have HHS := Lib.hid fun i hi W => RefHas_any set i hi W
  have HDN : Hid (∀ ver, 0 ≤ set → set < 64 → j.least ≤ (manyS set : Int) → (manyS set : Int) ≤ j.most → FitI s j set 6 ver → FitsP s j set) := Lib.hid fun ver a1 a2 a3 a4 h => h.done a1 a2 a3 a4 HN6.out
  have HLO : Hid (FitsP s j set → 0 ≤ set ∧ set < 64 ∧ j.least ≤ (manyS set : Int) ∧ (manyS set : Int) ≤ j.most) := Lib.hid fun h => ⟨(h.lt64 HN6.out).1, (h.lt64 HN6.out).2, h.least, h.most⟩
  obtain ⟨M, hM⟩ : ∃ M, M = manyS set := ⟨_, rfl⟩
  rw [← hM] at HMN HDN HLO
  have j2 : W2.cell? ⟨w.heap.size + 1, 2, none⟩ = some (.int .i64 j.least) := hb1.cell 2
  have j3 : W2.cell? ⟨w.heap.size + 1, 3, none⟩ = some (.int .i64 j.most) := hb1.cell 3
  clear hr hn hver hcell hx2 hb0 hb1 hM
  unfold stV jbV
  by_cases h1 : set < 0
  · have HNO : Hid (¬ FitsP s j set) := Lib.hid fun h => by have := HLO.out h; omega
    have d1 : decide (set < 0) = true := decide_eq_true h1
    clear h1
    go_enter Tryd.func45, Tryd.ntmps45
    go_wp2_with fail
    rw [← hW2]
    clear hW2
    go_quiet ((go_at_call 46; exact Calls.quiet_of_same (HMN.out _)))
    have HXE := Lib.hid (Below.drewN' HX.out nq)
    go_wp2
    go_ret
    exact ⟨false, rfl, ⟨(fun h => by cases h), fun h => absurd h HNO.out⟩, HXE.out⟩
  have d1 : decide (set < 0) = false := decide_eq_false h1
  by_cases h2 : 64 ≤ set
  · have HNO : Hid (¬ FitsP s j set) := Lib.hid fun h => by have := HLO.out h; omega
    have d2 : decide (64 ≤ set) = true := decide_eq_true h2
    clear h2
    go_enter Tryd.func45, Tryd.ntmps45
    go_wp2_with fail
    rw [← hW2]
    clear hW2
    go_quiet ((go_at_call 46; exact Calls.quiet_of_same (HMN.out _)))
    have HXE := Lib.hid (Below.drewN' HX.out nq)
    go_wp2
    go_ret
    exact ⟨false, rfl, ⟨(fun h => by cases h), fun h => absurd h HNO.out⟩, HXE.out⟩
  have d2 : decide (64 ≤ set) = false := decide_eq_false h2
  by_cases h3 : (M : Int) < j.least
  · have HNO : Hid (¬ FitsP s j set) := Lib.hid fun h => by have := HLO.out h; omega
    have d3 : decide ((M : Int) < j.least) = true := decide_eq_true h3
    clear h3
    go_enter Tryd.func45, Tryd.ntmps45
    go_wp2_with fail
    rw [← hW2]
    clear hW2
    go_quiet ((go_at_call 46; exact Calls.quiet_of_same (HMN.out _)))
    have HXE := Lib.hid (Below.drewN' HX.out nq)
    go_wp2
    go_ret
    exact ⟨false, rfl, ⟨(fun h => by cases h), fun h => absurd h HNO.out⟩, HXE.out⟩
  have d3 : decide ((M : Int) < j.least) = false := decide_eq_false h3
  by_cases h4 : j.most < (M : Int)
  · have HNO : Hid (¬ FitsP s j set) := Lib.hid fun h => by have := HLO.out h; omega
    have d4 : decide (j.most < (M : Int)) = true := decide_eq_true h4
    clear h4
    go_enter Tryd.func45, Tryd.ntmps45
    go_wp2_with fail
    rw [← hW2]
    clear hW2
    go_quiet ((go_at_call 46; exact Calls.quiet_of_same (HMN.out _)))
    have HXE := Lib.hid (Below.drewN' HX.out nq)
    go_wp2
    go_ret
    exact ⟨false, rfl, ⟨(fun h => by cases h), fun h => absurd h HNO.out⟩, HXE.out⟩
  have d4 : decide (j.most < (M : Int)) = false := decide_eq_false h4
  have HBN : Hid (0 ≤ set ∧ set < 64 ∧ j.least ≤ (M : Int) ∧ (M : Int) ≤ j.most) := Lib.hid (by omega)
  clear h1 h2 h3 h4
  go_enter Tryd.func45, Tryd.ntmps45
  go_wp2_with fail
  rw [← hW2]
  clear hW2
  go_quiet ((go_at_call 46; exact Calls.quiet_of_same (HMN.out _)))
  obtain ⟨w2, hw2⟩ : ∃ W, W = W2.drewN nq := ⟨_, rfl⟩
  have HX2 : Hid (Ext w w2) := Lib.hid (by rw [hw2]; exact Below.drewN' HX.out nq)
  have HXB : Hid (Ext W2 w2) := Lib.hid (by rw [hw2]; exact Below.drewN' (Ext.refl _) nq)
  rw [← hw2]
  clear hw2 d1 d2 d3 d4 j2 j3 HX
  go_wp2_with fail
  go_loopg [7, 8] 6 (fun gg v i wr => ∃ (q : Nat) (ver : Int), i = .int .i64 q ∧ v = .int .i64 ver ∧ q ≤ 6 ∧ gg = 6 - q ∧ Hid (Ext w2 wr ∧ FitI s j set q ver))
  case atStart => exact ⟨0, 0, rfl, rfl, by omega, rfl, Lib.hid ⟨Ext.refl _, FitI.zero s j set⟩⟩
  case round =>
    obtain ⟨q, ver, rfl, rfl, hq, rfl, HR⟩ := hrel
    by_cases hlt : q < 6
    · have d1 : decide ((q : Int) < 6) = true := decide_eq_true (by omega)
      have HLT := Lib.hid hlt
      have HXR := Lib.hid HR.out.1
      have HI := Lib.hid HR.out.2
      clear HR
      go_wp2_with fail
      refine (HHS.out q (by omega) _).mono ?_
      rintro e3 w3 ⟨rfl, rfl⟩
      cases hs : hasS set q
      · have HI2 := Lib.hid (HI.out.skip hs)
        clear hs hlt
        go_wp2_with fail
        go_roundg (6 - (q + 1))
        case measure => have := HLT.out; omega
        case rel => exact ⟨q + 1, ver, by go_num, rfl, HLT.out, rfl, Lib.hid ⟨HXR.out, HI2.out⟩⟩
      have HS := Lib.hid hs
      have s0 := ((HB0.out.ext HXB.out).ext HXR.out).cell 0
      simp only [List.getElem?_toArray, List.getElem?_cons_zero] at s0
      by_cases hln : s.nodes.length ≤ q
      · have d2 : decide ((s.nodes.length : Int) ≤ (q : Int)) = true := decide_eq_true (by omega)
        have d2' : decide (s.nodes.length ≤ q) = true := decide_eq_true hln
        have HNO : Hid (¬ FitsP s j set) := Lib.hid fun h => by
          rw [hasS_high h.low h.high hln] at hs
          cases hs
        have HXE := Lib.hid (HX2.out.trans HXR.out)
        clear hs hlt hln
        go_wp2
        go_ret
        exact ⟨false, rfl, ⟨(fun h => by cases h), fun h => absurd h HNO.out⟩, HXE.out⟩
      have d2 : decide ((s.nodes.length : Int) ≤ (q : Int)) = false := decide_eq_false (by omega)
      have d2' : decide (s.nodes.length ≤ q) = false := decide_eq_false hln
      obtain ⟨n, hn⟩ : ∃ n, s.nodes[q]? = some n := ⟨_, List.getElem?_eq_getElem (by omega)⟩
      obtain ⟨b, o, rfl, hb, hat⟩ := HC.out q n hn
      have n3 := (hat.ext ((HX2.out).trans HXR.out) hb).c3
      have p5 := ((HB1.out.ext HXB.out).ext HXR.out).cell 5
      simp only [List.getElem?_toArray, List.getElem?_cons_succ, List.getElem?_cons_zero] at p5
      have x1 : (0 : Int) ≤ (q : Int) ∧ (q : Int) < (s.nodes.length : Int) := by omega
      have HNN := Lib.hid hn
      have HTK := Lib.hid fun h1 h2 => HI.out.take hs hn h1 h2 HV.out
      have HBV : Hid (ver ≠ 0 → n.version ≠ ver → ¬ FitsP s j set) := Lib.hid fun h0 h1 h => by
        obtain ⟨i, m, _, hm, hh, e⟩ := HI.out.c h0
        exact h1 (by rw [← e]; exact h.one q n i m hn hs hm hh)
      have HBP : Hid (j.pin ≠ 0 → n.version ≠ j.pin → ¬ FitsP s j set) := Lib.hid fun h0 h1 h => h1 (h.pin q n hn hs h0)
      have HXE := Lib.hid (HX2.out.trans HXR.out)
      generalize n.version = v at *
      clear hn hat hb hs hlt hln
      by_cases hv0 : ver = 0
      · have e0 : (ver != 0) = false := by rw [hv0]; rfl
        by_cases hp0 : j.pin = 0
        · have e2 : (j.pin != 0) = false := by rw [hp0]; rfl
          have HT := Lib.hid (HTK.out (.inl hv0) (.inl hp0))
          clear hp0 HTK hv0
          go_wp2_with fail
          go_roundg (6 - (q + 1))
          case measure => have := HLT.out; omega
          case rel => exact ⟨q + 1, v, by go_num, rfl, HLT.out, rfl, Lib.hid ⟨HXR.out, HT.out⟩⟩
        · have e2 : (j.pin != 0) = true := by rw [bne_iff_ne]; exact hp0
          by_cases hpv : v = j.pin
          · have e3 : (v != j.pin) = false := by rw [hpv]; exact bne_self_eq_false _
            have HT := Lib.hid (HTK.out (.inl hv0) (.inr hpv))
            clear hp0 hpv HTK hv0
            go_wp2_with fail
            go_roundg (6 - (q + 1))
            case measure => have := HLT.out; omega
            case rel => exact ⟨q + 1, v, by go_num, rfl, HLT.out, rfl, Lib.hid ⟨HXR.out, HT.out⟩⟩
          · have e3 : (v != j.pin) = true := by rw [bne_iff_ne]; exact hpv
            have HNO := Lib.hid (HBP.out hp0 hpv)
            clear hp0 hpv HTK hv0
            go_wp2
            go_ret
            exact ⟨false, rfl, ⟨(fun h => by cases h), fun h => absurd h HNO.out⟩, HXE.out⟩
      · have e0 : (ver != 0) = true := by rw [bne_iff_ne]; exact hv0
        by_cases hvv : v = ver
        · have e1 : (v != ver) = false := by rw [hvv]; exact bne_self_eq_false _
          by_cases hp0 : j.pin = 0
          · have e2 : (j.pin != 0) = false := by rw [hp0]; rfl
            have HT := Lib.hid (HTK.out (.inr hvv) (.inl hp0))
            clear hp0 HTK hv0 hvv
            go_wp2_with fail
            go_roundg (6 - (q + 1))
            case measure => have := HLT.out; omega
            case rel => exact ⟨q + 1, v, by go_num, rfl, HLT.out, rfl, Lib.hid ⟨HXR.out, HT.out⟩⟩
          · have e2 : (j.pin != 0) = true := by rw [bne_iff_ne]; exact hp0
            by_cases hpv : v = j.pin
            · have e3 : (v != j.pin) = false := by rw [hpv]; exact bne_self_eq_false _
              have HT := Lib.hid (HTK.out (.inr hvv) (.inr hpv))
              clear hp0 hpv HTK hv0 hvv
              go_wp2_with fail
              go_roundg (6 - (q + 1))
              case measure => have := HLT.out; omega
              case rel => exact ⟨q + 1, v, by go_num, rfl, HLT.out, rfl, Lib.hid ⟨HXR.out, HT.out⟩⟩
            · have e3 : (v != j.pin) = true := by rw [bne_iff_ne]; exact hpv
              have HNO := Lib.hid (HBP.out hp0 hpv)
              clear hp0 hpv HTK hv0 hvv
              go_wp2
              go_ret
              exact ⟨false, rfl, ⟨(fun h => by cases h), fun h => absurd h HNO.out⟩, HXE.out⟩
        · have e1 : (v != ver) = true := by rw [bne_iff_ne]; exact hvv
          have HNO := Lib.hid (HBV.out hv0 hvv)
          clear hv0 hvv HTK
          go_wp2
          go_ret
          exact ⟨false, rfl, ⟨(fun h => by cases h), fun h => absurd h HNO.out⟩, HXE.out⟩
    · have d1 : decide ((q : Int) < 6) = false := decide_eq_false (by omega)
      obtain rfl : q = 6 := by omega
      have HY : Hid (FitsP s j set) := Lib.hid (HDN.out ver HBN.out.1 HBN.out.2.1 HBN.out.2.2.1 HBN.out.2.2.2 HR.out.2)
      have HXE := Lib.hid (HX2.out.trans HR.out.1)
      clear HR hlt hq
      go_wp2
      go_ret
      exact ⟨true, rfl, ⟨fun _ => HY.out, fun _ => rfl⟩, HXE.out⟩

end Go.Proofs.YtddhbokknbmdfaaDoor
