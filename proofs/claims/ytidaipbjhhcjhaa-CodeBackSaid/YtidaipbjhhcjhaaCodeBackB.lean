/- CodeBack where a number stands at the head of the bytes that came in: one case of four. -/
import Derived.Test.YtidaipbjhhcjhaaCodeBack0
namespace Go.Proofs.Ytidaipbjhhcjhaa
open Go.ChangeShapes Go.WideShapes Go.ChangeAt Go.RowKit

set_option maxRecDepth 100000 in
set_option maxHeartbeats 40000000 in
theorem CodeBack_101 (s : ByteArray) (l : List Int) (bs : List UInt8) (u v : Value) (w : World) (hu : Rd w u (l.map I)) (hv : Rd w v (bs.map B)) (hs : s.size ≤ 1000) (hl : l.length ≤ 200) (hb : bs.length ≤ 1000) (hall : l.all isNumB = true) (n : Int) (hnn : ¬ (0 ≤ n ∧ n < 9007199254740992)) (k j : Nat) (hg : getN bs = some (k, j)) :
    Calls Try.prog 5 #[.int .i64 n, .string s, u, v] w fun e w' => e = .returned (.bool true) ∧ Ext w w' := by
  obtain ⟨A, c, rfl, _⟩ := hu.slice_
  have hv0 := hv
  obtain ⟨A', c', rfl, hc1, hc2, _⟩ := hv0
  simp only [List.length_map] at *
  unfold maxLen at hc2
  have lt := numB_len8 (n := s.size) (by omega)
  have HA := Lib.hid hall
  clear hall
  have HG := Lib.hid hg
  clear hg
  have HN := Lib.hid hnn
  clear hnn
  have hj := getN_le HG.out
  go_enter Try.func5, Try.ntmps5
  go_wp2_with fail
  refine (alive_any _).mono ?_
  rintro e w1 ⟨rfl, hx1⟩
  have hu1 := hu.ext hx1
  have hv1 := hv.ext hx1
  go_wp2_with fail
  refine (Text_any s _ (by omega)).mono ?_
  rintro e w2 ⟨v2, rfl, hg2⟩
  have hr2 := Rd.own hg2.own
  have hx2 := hx1.trans hg2.ext
  have hu2 := hu1.ext hg2.ext
  have hv2 := hv1.ext hg2.ext
  have hl2 : (numB s.size ++ s.data.toList).length = (numB s.size).length + s.size := by rw [List.length_append, str_len]
  have HL2 := Lib.hid hl2
  clear hg2 hl2
  go_wp2_with (at_builtin; refine app_u8 rfl _ _ rfl w2.heap.size _ [] rfl (World.ownsRow_nil _ _ _ _) _ (numB s.size ++ s.data.toList) rfl hr2 (by rw [HL2.out]; simp; omega) (Nat.le_refl _) ?_; intro v3 w3 hg3; obtain ⟨A3, c3, rfl⟩ := hg3.slice_ (n := (numB s.size).length + s.size) (by rw [List.nil_append, List.length_map, HL2.out]))
  have hx3 := hx2.trans hg3.ext
  have hu3 := hu2.ext hg3.ext
  have hv3 := hv2.ext hg3.ext
  rw [List.nil_append] at hg3
  have hlp := listB_pos l
  have hll := listB_le l HA.out (by omega)
  refine (List_any l _ _ hu3 (by omega)).mono ?_
  rintro e w4 (⟨v4, rfl, _, hg4⟩ | ⟨_, h4, _⟩)
  case inr => rw [HA.out] at h4; cases h4
  have hr4 := Rd.own hg4.own
  have hx4 := hx3.trans hg4.ext
  have hu4 := hu3.ext hg4.ext
  have hv4 := hv3.ext hg4.ext
  have hg34 := hg3.step hg4.ext
  clear hg4 hg3
  go_wp2_with (first | (at_builtin; refine app_u8 rfl _ _ rfl w2.heap.size _ _ rfl hg34.1 _ (listB l) rfl hr4 (by rw [List.length_map, HL2.out]; omega) hg34.size ?_; intro v5 w5 hg5; have hg6 := hg34.trans hg5; rw [← List.map_append] at hg6; obtain ⟨A5, c5, rfl⟩ := hg6.slice_ (n := (numB s.size).length + s.size + (listB l).length) (by rw [List.length_map, List.length_append, HL2.out]); clear hg34 hg5; have hx5 := hx2.trans hg6.ext; have hv5 := hv2.ext hg6.ext; have hu5 := hu2.ext hg6.ext; have HL6 : Hid (((numB s.size ++ s.data.toList) ++ listB l).length = (numB s.size).length + s.size + (listB l).length) := (by unfold Hid; simp only [List.length_append, str_len])) | (at_builtin; refine app_u8 rfl _ _ rfl w2.heap.size _ _ rfl hg6.1 _ bs rfl hv5 (by rw [List.length_map, HL6.out]; omega) hg6.size ?_; intro v7 w7 hg7; have hg8 := hg6.trans hg7; rw [← List.map_append] at hg8; obtain ⟨A7, c7, rfl⟩ := hg8.slice_ (n := (numB s.size).length + s.size + (listB l).length + bs.length) (by rw [List.length_map, List.length_append, HL6.out])))
  have hx7 := hx2.trans hg8.ext
  have hv7 := hv2.ext hg8.ext
  have hu7 := hu2.ext hg8.ext
  have hr7 := Rd.own hg8.own
  clear hg6 hg7 hg8
  have hT := textAt_zero s (listB l ++ bs) hs
  have hge := GetText_is _ _ 0 _ _ _ hr7 (by omega) (by simpa [List.append_assoc] using hT)
  rw [str_back] at hge
  refine hge.mono ?_
  clear hge hT
  rintro e w8 ⟨rfl, rfl⟩
  have hP : listAt (((numB s.size ++ s.data.toList) ++ listB l) ++ bs) ((numB s.size).length + s.size) 200 = some (l.map Int.toNat, (numB s.size).length + s.size + (listB l).length) := by
    have := listAt_put l (numB s.size ++ s.data.toList) bs 200 HA.out (by omega) (by omega)
    rw [HL2.out, ← List.append_assoc] at this
    exact this
  have HP := Lib.hid hP
  clear hP
  go_wp2_with fail
  have hgl := GetList_any _ _ ((numB s.size).length + s.size) 200 _ hr7 (by omega) (by rw [List.length_append, HL6.out]; omega)
  rw [HP.out] at hgl
  refine hgl.mono ?_
  clear hgl
  rintro e w8 ⟨v8, rfl, hown8, hx8⟩
  have hr8 := Rd.own hown8
  have hr8' : Rd w8 v8 (l.map I) := by
    have e : ((l.map Int.toNat).map fun (n : Nat) => Value.int .i64 n) = l.map I := by
      conv => rhs; rw [← toNat_back l HA.out]
      simp [List.map_map, Function.comp_def]
    rw [← e]
    exact hr8
  clear hown8 hr8
  have hu8 := hu7.ext hx8
  have hv8 := hv7.ext hx8
  have hx9 := hx7.trans hx8
  go_wp2_with fail
  refine (Ints_any l l _ _ _ hr8' hu8).mono ?_
  rintro e w9 ⟨rfl, n9, rfl⟩
  simp only [decide_true]
  have hv9 : Rd (w8.drewN n9) _ _ := hv8.ext (Below.drewN' (Ext.refl _) _)
  have hx10 : Ext w (w8.drewN n9) := Below.drewN' hx9 _
  clear hx9 hx8 hx7 hr7 hv8 hu8 hr8'
  generalize w8.drewN n9 = w10 at *
  go_wp2_with fail
  refine (Num_no n _ HN.out).mono ?_
  rintro e w11 ⟨rfl, rfl⟩
  have hv14 := hv9
  have hx14 := hx10
  go_wp2_with fail
  refine (GetNum_some bs _ 0 k j _ hv14 (by omega) (by simpa using HG.out)).mono ?_
  rintro e w16 ⟨rfl, rfl⟩
  have lk := numB_len8 hj.2.2.2
  have hpf := (hv14.prefix_ j (by simp; omega))
  rw [← List.map_take] at hpf
  have hkk : Hid (numB k = bs.take j) := getN_get HG.out
  go_wp2_with fail
  go_region_with (first | (go_at_call 10; refine (Num_yes k _ hj.2.2.2).mono ?_; rintro e w17 ⟨v17, rfl, hg17⟩; have hr17 := Rd.own hg17.own; have hx17 := hx14.trans (Below.trans (Below.drewN' (Ext.refl _) 1) hg17.ext); have hv17 := hpf.ext (Below.trans (Below.drewN' (Ext.refl _) 1) hg17.ext); obtain ⟨A17, c17, rfl⟩ := hg17.slice_ (n := (numB k).length) (List.length_map _); clear hg17) | (go_at_call 9; refine (Bytes_any (numB k) (bs.take j) _ _ _ hr17 hv17).mono ?_; rintro e w18 ⟨rfl, n18, rfl⟩))
  all_goals go_wp2
  all_goals go_ret
  all_goals exact ⟨by rw [decide_eq_true hkk.out]; rfl, Below.drewN' hx17 _⟩

end Go.Proofs.Ytidaipbjhhcjhaa
