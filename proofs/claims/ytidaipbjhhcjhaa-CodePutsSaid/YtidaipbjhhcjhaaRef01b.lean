/- The reference's layer 1, second part: texts and lists. -/
import Derived.Test.YtidaipbjhhcjhaaRef01
namespace Go.Proofs.Ytidaipbjhhcjhaa
open Go.RowKit

set_option maxHeartbeats 1000000 in
theorem RefText_any (s : ByteArray) (w : World) (hs : s.size ≤ 1099511627776) :
    Calls Try.prog 13 #[.string s] w fun e w' => ∃ v', e = .returned v' ∧ Grew w.heap.size 5 (.slice none 0 0) w ((numB s.size ++ s.data.toList).map B) v' w' := by
  have hlen := numB_len8 (n := s.size) (by omega)
  go_enter Try.func13, Try.ntmps13
  go_wp2_with (first | (go_at_call 11; refine (RefNum_yes s.size _ (by omega)).mono ?_; rintro e w' ⟨v', rfl, hg⟩))
  go_loopw [3, 4] (fun v' i' wr => ∃ k : Nat, i' = .int .i64 k ∧ k ≤ s.size ∧ Grew w.heap.size 5 (.slice none 0 0) w ((numB s.size ++ s.data.toList.take k).map B) v' wr) (fun _ i' _ => s.size - (intOf i').toNat)
  case atStart => exact ⟨0, rfl, by omega, by simpa using hg⟩
  case round =>
    obtain ⟨k, rfl, hk, hg⟩ := hrel
    have hl : ((numB s.size ++ s.data.toList.take k).map B).length < 140737488355328 := by
      rw [List.length_map, List.length_append, List.length_take]
      omega
    have hbw := hg.size
    by_cases hlt : k < s.size
    · go_wp2_with (first | (at_builtin; refine push_u8 rfl _ _ rfl w.heap.size _ _ rfl hg.1 _ rfl rfl hl hbw ?_; intro v' w' hg'))
      go_roundw
      case rel =>
        have hgg := hg.trans hg'
        have e : s.data.toList.take (k + 1) = s.data.toList.take k ++ [s[k]] := take_snoc s.data.toList k (by rw [Array.length_toList]; exact hlt)
        refine ⟨k + 1, by go_num, by omega, ?_⟩
        rw [e, ← List.append_assoc, List.map_append]
        exact hgg
      case measure => simp [intOf]; omega
    · obtain rfl : k = s.size := by omega
      go_wp2
      go_ret
      refine ⟨_, rfl, ?_⟩
      rw [List.take_of_length_le (by rw [Array.length_toList]; exact Nat.le_refl _)] at hg
      exact hg

theorem RefGetText_some (bs : List UInt8) (v : Value) (p n j : Nat) (w : World) (hr : Rd w v (bs.map B)) (hp63 : p < 9223372036854775808) (h : getN (bs.drop p) = some (n, j)) (hn : n ≤ bs.length - (p + j)) :
    Calls Try.prog 19 #[v, .int .i64 p] w fun e w' => e = .returned (.tuple #[.string ⟨((bs.drop (p + j)).take n).toArray⟩, .int .i64 ((p + j + n : Nat) : Int), .bool true]) ∧ Ext w w' := by
  have hj := getN_le h
  rw [List.length_drop] at hj
  have H := Lib.hid h
  clear h
  have hR := Lib.hid hr
  obtain ⟨A, c, rfl, hlc, hcm, hcell⟩ := hr
  simp only [List.length_map] at *
  unfold maxLen at hcm
  clear hcell
  go_enter Try.func19, Try.ntmps19
  have hcut : Rd w (.slice (if c = p + j then A else A.map (fun x => x.add (p + j))) n (c - (p + j))) (((bs.drop (p + j)).take n).map B) := by
    have := hR.out.cut (p + j) n (by simp; omega)
    simpa [List.map_take, List.map_drop] using this
  have hcv := fun (W : World) (hx : Ext w W) => run_conv_rd (P := Try.prog) W 25 9 5 Try.underlying25 Try.underlying5 Try.underlying9 _ _ (hcut.ext hx)
  have hCV := Lib.hid hcv
  clear hcv
  clear hcut
  go_wp2_with (first | (go_at_call 17; refine (RefGetNum_some bs _ p n j _ hR.out (by omega) H.out).mono ?_; rintro e w1 ⟨rfl, hx1⟩; have hcv1 := hCV.out w1 hx1))
  all_goals
    go_ret3
    exact ⟨rfl, hx1⟩

theorem RefGetText_none (bs : List UInt8) (v : Value) (p : Nat) (w : World) (hr : Rd w v (bs.map B)) (hp63 : p < 9223372036854775808) (h : textAt bs p = none) :
    Calls Try.prog 19 #[v, .int .i64 p] w fun e w' => e = .returned (.tuple #[.string ⟨#[]⟩, .int .i64 0, .bool false]) ∧ Ext w w' := by
  have hR := Lib.hid hr
  obtain ⟨A, c, rfl, hlc, hcm, hcell⟩ := hr
  simp only [List.length_map] at *
  unfold maxLen at hcm
  clear hcell
  unfold textAt at h
  rcases hg : getN (bs.drop p) with _ | ⟨n, j⟩
  · have H := Lib.hid hg
    clear hg h
    go_enter Try.func19, Try.ntmps19
    go_wp2_with (first | (go_at_call 17; refine (RefGetNum_none bs _ p _ hR.out (by omega) H.out).mono ?_; rintro e w1 ⟨rfl, hx1⟩))
    go_ret3
    exact ⟨rfl, hx1⟩
  · rw [hg] at h
    have hj := getN_le hg
    rw [List.length_drop] at hj
    have hn : ¬ n ≤ bs.length - (p + j) := by
      intro hc
      simp [hc] at h
    have H := Lib.hid hg
    clear hg h
    go_enter Try.func19, Try.ntmps19
    go_wp2_with (first | (go_at_call 17; refine (RefGetNum_some bs _ p n j _ hR.out (by omega) H.out).mono ?_; rintro e w1 ⟨rfl, hx1⟩))
    go_ret3
    exact ⟨rfl, hx1⟩

theorem RefGetText_neg (bs : List UInt8) (v : Value) (p : Int) (w : World) (hr : Rd w v (bs.map B)) (hp : p < 0) :
    Calls Try.prog 19 #[v, .int .i64 p] w fun e w' => e = .returned (.tuple #[.string ⟨#[]⟩, .int .i64 0, .bool false]) ∧ Ext w w' := by
  have hR := Lib.hid hr
  clear hr
  go_enter Try.func19, Try.ntmps19
  go_wp2_with (first | (go_at_call 17; refine (RefGetNum_neg _ _ p _ hR.out hp).mono ?_; rintro e w1 ⟨rfl, rfl⟩))
  go_ret3
  exact ⟨rfl, Ext.refl _⟩


theorem Rd.open_ {w : World} {A : Option Addr} {n c : Nat} {xs : List Value} (h : Rd w (.slice A n c) xs) : n = xs.length ∧ xs.length ≤ c ∧ c ≤ maxLen ∧ (0 < xs.length → ∃ b o, A = some ⟨b, o, none⟩ ∧ b < w.heap.size ∧ ∀ j u, xs[j]? = some u → w.cell? ⟨b, o + j, none⟩ = some u) := by
  obtain ⟨A', c', e, h1, h2, h3⟩ := h
  injection e with e1 e2 e3
  subst e1 e2 e3
  exact ⟨rfl, h1, h2, h3⟩

/-! ### Lists -/
set_option maxRecDepth 100000 in
set_option maxHeartbeats 4000000 in
theorem RefList_any (l : List Int) (v : Value) (w : World) (hr : Rd w v (l.map I)) (hl : l.length ≤ 1000000) :
    Calls Try.prog 15 #[v] w (ListPost l w) := by
  obtain ⟨A, c, rfl, hlc, hcm, hcell⟩ := hr
  simp only [List.length_map] at *
  unfold maxLen at hcm
  have hlen := numB_len8 (n := l.length) (by omega)
  go_enter Try.func15, Try.ntmps15
  go_wp2_with (first | (go_at_call 11; refine (RefNum_yes l.length _ (by omega)).mono ?_; rintro e w' ⟨v', rfl, hg0⟩))
  go_loopw [3, 4] (fun v' i' wr => ∃ (k : Nat), i' = .int .i64 k ∧ k ≤ l.length ∧ (l.take k).all isNumB = true ∧ Grew w.heap.size 5 (.slice none 0 0) w ((numB l.length ++ numsB (l.take k)).map B) v' wr) (fun _ i' _ => l.length - (intOf i').toNat)
  case atStart => exact ⟨0, rfl, by omega, rfl, by simpa [numsB] using hg0⟩
  case round =>
    obtain ⟨k, rfl, hk, hall, hg⟩ := hrel
    have hbnd := numsB_len _ hall
    rw [List.length_take, Nat.min_eq_left hk] at hbnd
    have hlt : (numB l.length ++ numsB (l.take k)).length ≤ 8 + 8 * l.length := by simp only [List.length_append]; omega
    have HA := Lib.hid hall
    clear hall
    by_cases hlt2 : k < l.length
    · obtain ⟨b, o, rfl, hbl, hce⟩ := hcell (by omega)
      have hc1 : wr.cell? ⟨b, o + k, none⟩ = some (I l[k]) := (hg.ext.cell (p := ⟨b, o + k, none⟩) hbl).trans (hce k _ (by simp [hlt2]))
      clear hce hcell
      by_cases hn : isNumB l[k] = true
      · have H := Lib.hid (isNumB_iff.1 hn)
        obtain ⟨m, hm, hm2⟩ := isNum_some H.out
        have HL := Lib.hid hm
        rw [hm] at hc1
        unfold I at hc1
        clear hm hn
        have lm := numB_len8 hm2
        go_wp2_with (first | (go_at_call 25; refine (RefIs_yes _ _ (by omega) (by omega)).mono ?_; rintro e w' ⟨rfl, rfl⟩) | (go_at_call 11; refine (RefNum_yes m _ (by omega)).mono ?_; rintro e w2 ⟨v2, rfl, hg2⟩; obtain ⟨A2, c2, rfl⟩ := hg2.slice_ (n := (numB m).length) (List.length_map _)))
        have hg3 := hg.step hg2.ext
        have hr2 := Rd.own hg2.own
        have hne : Hid (∀ b2 o2, A2 = some ⟨b2, o2, none⟩ → u3.ownBlock ≠ some b2) := by
          intro b2 o2 e h
          subst e
          have h1 := (hg.own.lt b2 h).2
          have h2 := (hg2.own.lt b2 rfl).1
          omega
        obtain ⟨-, -, hc2m, hcell2⟩ := hr2.open_
        simp only [List.length_map] at hcell2
        unfold maxLen at hc2m
        generalize hw2 : w2 = w3 at *
        clear hg2 hw2 hc1 hr2
        obtain ⟨wo, rfl⟩ : ∃ wo : World, wo = wr := ⟨_, rfl⟩
        obtain ⟨vo, rfl⟩ : ∃ vo : Value, vo = u3 := ⟨_, rfl⟩
        go_loopw [3, 6] (fun v' i' wq => ∃ (q : Nat), i' = .int .i64 q ∧ q ≤ (numB m).length ∧ Grew w.heap.size 5 vo w3 (((numB l.length ++ numsB (l.take k)) ++ (numB m).take q).map B) v' wq) (fun _ i' _ => (numB m).length - (intOf i').toNat)
        case atStart => exact ⟨0, rfl, by omega, by simpa using Grew.start hg3.1⟩
        case round =>
          obtain ⟨q, rfl, hq, hgq⟩ := hrel
          have hlq : (((numB l.length ++ numsB (l.take k)) ++ (numB m).take q).map B).length < 140737488355328 := by
            rw [List.length_map, List.length_append, List.length_take]
            omega
          have hbq := Nat.le_trans hg3.size hgq.size
          by_cases hq2 : q < (numB m).length
          · obtain ⟨b2, o2, rfl, hb2, hce2⟩ := hcell2 (by omega)
            have hc2 : wr.cell? ⟨b2, o2 + q, none⟩ = some (B (numB m)[q]) := hgq.2.1.cell (hce2 q _ (by simp [hq2])) (fun e => hne.out b2 o2 rfl e.symm)
            clear hce2 hcell2
            have htk := Lib.hid (take_snoc (numB m) q hq2)
            generalize (numB m)[q] = bq at hc2 htk
            unfold B at hc2
            go_wp2_with (first | (at_builtin; refine push_u8 rfl _ _ rfl w.heap.size _ _ rfl hgq.1 _ rfl rfl hlq hbq ?_; intro v' w' hg'))
            go_roundw
            case rel =>
              have hgg := hgq.trans hg'
              refine ⟨q + 1, by go_num, by omega, ?_⟩
              rw [htk.out, ← List.append_assoc, List.map_append]
              exact hgg
            case measure => simp [intOf]; omega
          · obtain rfl : q = (numB m).length := by omega
            rw [List.take_length] at hgq
            clear hcell2
            go_wp2
            go_roundw
            case rel =>
              refine ⟨k + 1, by go_num, by omega, all_take_snoc hlt2 HA.out (isNumB_iff.2 H.out), ?_⟩
              rw [take_snoc l k hlt2, numsB_snoc, HL.out, Int.toNat_natCast, ← List.append_assoc]
              exact hg3.trans hgq
            case measure => simp [intOf]; omega
      · have H := Lib.hid (isNumB_not (Bool.eq_false_iff.2 hn))
        unfold I at hc1
        clear hn
        go_wp2_with (first | (go_at_call 25; refine (RefIs_no _ _ H.out).mono ?_; rintro e w' ⟨rfl, rfl⟩))
        go_ret
        exact .inr ⟨rfl, all_false_at hlt2 (Bool.eq_false_iff.2 fun h => H.out (isNumB_iff.1 h)), hg.ext⟩
    · have hkl : k = l.length := by omega
      subst hkl
      go_wp2
      go_ret
      rw [List.take_length] at hg HA
      exact .inl ⟨_, rfl, HA.out, hg⟩

end Go.Proofs.Ytidaipbjhhcjhaa
