/- Texts that the proof of G rests on, one behind the other. -/
import Derived.Test.YtnnilalnkkbdoaaDoorGQ13

/- The reference's layer 1: a list's bytes. -/
namespace Go.Proofs.YtnnilalnkkbdoaaDoor
open Go.RowKit

theorem Rd.open_ {w : World} {A : Option Addr} {n c : Nat} {xs : List Value} (h : Rd w (.slice A n c) xs) : n = xs.length ∧ xs.length ≤ c ∧ c ≤ maxLen ∧ (0 < xs.length → ∃ b o, A = some ⟨b, o, none⟩ ∧ b < w.heap.size ∧ ∀ j u, xs[j]? = some u → w.cell? ⟨b, o + j, none⟩ = some u) := by
  obtain ⟨A', c', e, h1, h2, h3⟩ := h
  injection e with e1 e2 e3
  subst e1 e2 e3
  exact ⟨rfl, h1, h2, h3⟩

set_option maxRecDepth 100000 in
set_option maxHeartbeats 4000000 in
theorem RefList_any (l : List Int) (v : Value) (w : World) (hr : Rd w v (l.map I)) (hl : l.length ≤ 1000000) :
    Calls Tryd.prog 44 #[v] w (ListPost l w) := by
  obtain ⟨A, c, rfl, hlc, hcm, hcell⟩ := hr
  simp only [List.length_map] at *
  unfold maxLen at hcm
  have hlen := numB_len8 (n := l.length) (by omega)
  go_enter Tryd.func44, Tryd.ntmps44
  go_wp2_with (first | (go_at_call 64; refine (RefNum_yes l.length _ (by omega)).mono ?_; rintro e w' ⟨v', rfl, hg0⟩))
  go_loopw [3, 4] (fun v' i' wr => ∃ (k : Nat), i' = .int .i64 k ∧ k ≤ l.length ∧ (l.take k).all isNumB = true ∧ Grew w.heap.size 5 (.slice none 0 0) w ((numB l.length ++ numsB (l.take k)).map B) v' wr) (fun _ i' _ => l.length - (intOf i').toNat)
  case atStart => exact ⟨0, rfl, by omega, rfl, by simpa [numsB] using hg0⟩
  case round =>
    obtain ⟨k, rfl, hk, hall, hg⟩ := hrel
    have hbnd := numsB_len _ hall
    rw [List.length_take, Nat.min_eq_left hk] at hbnd
    have hlt : (numB l.length ++ numsB (l.take k)).length ≤ 8 + 8 * l.length := by simp only [List.length_append]; omega
    have HA := Lib.hid hall
    clear hall
    by_cases hlt2 : k < l.length
    · obtain ⟨b, o, rfl, hbl, hce⟩ := hcell (by omega)
      have hc1 : wr.cell? ⟨b, o + k, none⟩ = some (I l[k]) := (hg.ext.cell (p := ⟨b, o + k, none⟩) hbl).trans (hce k _ (by simp [hlt2]))
      clear hce hcell
      by_cases hn : isNumB l[k] = true
      · have H := Lib.hid (isNumB_iff.1 hn)
        obtain ⟨m, hm, hm2⟩ := isNum_some H.out
        have HL := Lib.hid hm
        rw [hm] at hc1
        unfold I at hc1
        clear hm hn
        have lm := numB_len8 hm2
        go_wp2_with (first | (go_at_call 65; refine (RefIs_yes _ _ (by omega) (by omega)).mono ?_; rintro e w' ⟨rfl, rfl⟩) | (go_at_call 64; refine (RefNum_yes m _ (by omega)).mono ?_; rintro e w2 ⟨v2, rfl, hg2⟩; obtain ⟨A2, c2, rfl⟩ := hg2.slice_ (n := (numB m).length) (List.length_map _)))
        have hg3 := hg.step hg2.ext
        have hr2 := Rd.own hg2.own
        have hne : Hid (∀ b2 o2, A2 = some ⟨b2, o2, none⟩ → u3.ownBlock ≠ some b2) := by
          intro b2 o2 e h
          subst e
          have h1 := (hg.own.lt b2 h).2
          have h2 := (hg2.own.lt b2 rfl).1
          omega
        obtain ⟨-, -, hc2m, hcell2⟩ := hr2.open_
        simp only [List.length_map] at hcell2
        unfold maxLen at hc2m
        generalize hw2 : w2 = w3 at *
        clear hg2 hw2 hc1 hr2
        obtain ⟨wo, rfl⟩ : ∃ wo : World, wo = wr := ⟨_, rfl⟩
        obtain ⟨vo, rfl⟩ : ∃ vo : Value, vo = u3 := ⟨_, rfl⟩
        go_loopw [3, 6] (fun v' i' wq => ∃ (q : Nat), i' = .int .i64 q ∧ q ≤ (numB m).length ∧ Grew w.heap.size 5 vo w3 (((numB l.length ++ numsB (l.take k)) ++ (numB m).take q).map B) v' wq) (fun _ i' _ => (numB m).length - (intOf i').toNat)
        case atStart => exact ⟨0, rfl, by omega, by simpa using Grew.start hg3.1⟩
        case round =>
          obtain ⟨q, rfl, hq, hgq⟩ := hrel
          have hlq : (((numB l.length ++ numsB (l.take k)) ++ (numB m).take q).map B).length < 140737488355328 := by
            rw [List.length_map, List.length_append, List.length_take]
            omega
          have hbq := Nat.le_trans hg3.size hgq.size
          by_cases hq2 : q < (numB m).length
          · obtain ⟨b2, o2, rfl, hb2, hce2⟩ := hcell2 (by omega)
            have hc2 : wr.cell? ⟨b2, o2 + q, none⟩ = some (B (numB m)[q]) := hgq.2.1.cell (hce2 q _ (by simp [hq2])) (fun e => hne.out b2 o2 rfl e.symm)
            clear hce2 hcell2
            have htk := Lib.hid (take_snoc (numB m) q hq2)
            generalize (numB m)[q] = bq at hc2 htk
            unfold B at hc2
            go_wp2_with (first | (at_builtin; refine push_u8 rfl _ _ rfl w.heap.size _ _ rfl hgq.1 _ rfl rfl hlq hbq ?_; intro v' w' hg'))
            go_roundw
            case rel =>
              have hgg := hgq.trans hg'
              refine ⟨q + 1, by go_num, by omega, ?_⟩
              rw [htk.out, ← List.append_assoc, List.map_append]
              exact hgg
            case measure => simp [intOf]; omega
          · obtain rfl : q = (numB m).length := by omega
            rw [List.take_length] at hgq
            clear hcell2
            go_wp2
            go_roundw
            case rel =>
              refine ⟨k + 1, by go_num, by omega, all_take_snoc hlt2 HA.out (isNumB_iff.2 H.out), ?_⟩
              rw [take_snoc l k hlt2, numsB_snoc, HL.out, Int.toNat_natCast, ← List.append_assoc]
              exact hg3.trans hgq
            case measure => simp [intOf]; omega
      · have H := Lib.hid (isNumB_not (Bool.eq_false_iff.2 hn))
        unfold I at hc1
        clear hn
        go_wp2_with (first | (go_at_call 65; refine (RefIs_no _ _ H.out).mono ?_; rintro e w' ⟨rfl, rfl⟩))
        go_ret
        exact .inr ⟨rfl, all_false_at hlt2 (Bool.eq_false_iff.2 fun h => H.out (isNumB_iff.1 h)), hg.ext⟩
    · have hkl : k = l.length := by omega
      subst hkl
      go_wp2
      go_ret
      rw [List.take_length] at hg HA
      exact .inl ⟨_, rfl, HA.out, hg⟩

end Go.Proofs.YtnnilalnkkbdoaaDoor

/- The reference of layer 10: Put. -/
namespace Go.Proofs.YtnnilalnkkbdoaaDoor
open Go.RowKit

set_option maxRecDepth 100000 in
set_option maxHeartbeats 4000000 in
theorem RefPut10_any (vn vj : Value) (s : St) (w : World) (h : RdSt w vn vj s) :
    Calls Tryd.prog 29 #[stV vn vj s] w fun e w' => ∃ v, e = .returned v ∧ Rd w' v ((imgB s).map B) ∧ Ext w w' := by
  obtain ⟨hx, hb⟩ := boxSt vn vj s w 27
  have HRS := Lib.hid (h.ext hx)
  obtain ⟨An, cn, rfl, hnc, hcm, -⟩ := has_cells h.nodes
  obtain ⟨Aj, cj, rfl, hjc, hjm, -⟩ := jobs_cells h.jobs
  have HX := Lib.hid hx
  have HB := Lib.hid hb
  unfold stC at HX HRS HB
  clear hx hb h
  unfold stV
  by_cases h6 : 6 < s.nodes.length
  · have d1 : decide ((6 : Int) < (s.nodes.length : Int)) = true := decide_eq_true (by omega)
    have d1' : decide (6 < s.nodes.length) = true := decide_eq_true h6
    have HNO := Lib.hid (imgB_no (s := s) (by omega))
    clear h6
    go_enter Tryd.func29, Tryd.ntmps29
    go_wp2
    go_ret
    exact ⟨_, rfl, by rw [HNO.out]; exact Rd.nil _, HX.out⟩
  have d1 : decide ((6 : Int) < (s.nodes.length : Int)) = false := decide_eq_false (by omega)
  have d1' : decide (6 < s.nodes.length) = false := decide_eq_false h6
  by_cases h24 : 24 < s.jobs.length
  · have d2 : decide ((24 : Int) < (s.jobs.length : Int)) = true := decide_eq_true (by omega)
    have d2' : decide (24 < s.jobs.length) = true := decide_eq_true h24
    have HNO := Lib.hid (imgB_no (s := s) (by omega))
    clear h6 h24
    go_enter Tryd.func29, Tryd.ntmps29
    go_wp2
    go_ret
    exact ⟨_, rfl, by rw [HNO.out]; exact Rd.nil _, HX.out⟩
  have d2 : decide ((24 : Int) < (s.jobs.length : Int)) = false := decide_eq_false (by omega)
  have d2' : decide (24 < s.jobs.length) = false := decide_eq_false h24
  have HYS : Hid (s.nodes.length ≤ 6 ∧ s.jobs.length ≤ 24) := Lib.hid (by omega)
  clear h6 h24
  go_enter Tryd.func29, Tryd.ntmps29
  obtain ⟨W1, hW1⟩ : ∃ W, W = w.alloc (.cells #[.slice An s.nodes.length cn, .slice Aj s.jobs.length cj, .int .i64 s.goal, .int .i64 s.prior, .int .i64 s.mode, .int .i64 s.term] 27) := ⟨_, rfl⟩
  rw [← hW1] at HX HB HRS
  go_upto_region 1 with (fail)
  rw [← hW1]
  clear hW1
  have s0 : W1.cell? ⟨w.heap.size, 0, none⟩ = some (.slice An s.nodes.length cn) := HB.out.cell 0
  have s1 : W1.cell? ⟨w.heap.size, 1, none⟩ = some (.slice Aj s.jobs.length cj) := HB.out.cell 1
  have s2 : W1.cell? ⟨w.heap.size, 2, none⟩ = some (.int .i64 s.goal) := HB.out.cell 2
  have s3 : W1.cell? ⟨w.heap.size, 3, none⟩ = some (.int .i64 s.prior) := HB.out.cell 3
  have s4 : W1.cell? ⟨w.heap.size, 4, none⟩ = some (.int .i64 s.mode) := HB.out.cell 4
  have s5 : W1.cell? ⟨w.heap.size, 5, none⟩ = some (.int .i64 s.term) := HB.out.cell 5
  go_wp2_with fail
  refine (RefNumbers_any (.slice An s.nodes.length cn) (.slice Aj s.jobs.length cj) s W1 HRS.out HYS.out.1 HYS.out.2).mono ?_
  rintro e2 w2 ⟨v2, rfl, hg2⟩
  have HG2 := Lib.hid hg2
  clear hg2 s0 s1 s2 s3 s4 s5
  go_wp2_with fail
  refine (RefList_any (imgL s) v2 w2 (Rd.own HG2.out.own) (by rw [imgL_len]; have := HYS.out; omega)).mono ?_
  intro e3 w3 hp
  obtain ⟨v3, rfl, hr3, hx3⟩ := list_img HYS.out hp
  have HR3 := Lib.hid hr3
  have HX3 := Lib.hid ((HX.out.trans HG2.out.ext).trans hx3)
  clear hp hr3 hx3 HG2
  go_wp2
  go_ret
  exact ⟨_, rfl, HR3.out, HX3.out⟩

end Go.Proofs.YtnnilalnkkbdoaaDoor
