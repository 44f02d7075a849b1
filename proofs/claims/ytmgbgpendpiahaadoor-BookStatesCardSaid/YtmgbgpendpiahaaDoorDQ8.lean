/- Texts that the proof of D rests on, one behind the other. -/
import Derived.Test.YtmgbgpendpiahaaDoorDQ7
import Derived.Test.YtmgbgpendpiahaaDoorChecked
import Derived.Test.YtmgbgpendpiahaaDoorRows
import Derived.Lib.LaidTab
import Derived.Laws.OwnMore
import Derived.Deep.Cut
import Derived.Deep.LoopGhost

/- Package book: the table of the ops' functions. -/
namespace Go.Proofs.YtmgbgpendpiahaaDoor
open Go.RowKit

/-- The functions of the ops, by their kinds. -/
def doA : Array Value := #[.nilFunc, .func (.func 55) #[] #[], .func (.func 56) #[] #[], .func (.func 57) #[] #[], .func (.func 58) #[] #[], .func (.func 59) #[] #[], .func (.func 60) #[] #[], .func (.func 61) #[] #[], .func (.func 62) #[] #[], .func (.func 63) #[] #[], .func (.func 64) #[] #[], .func (.func 65) #[] #[], .func (.func 66) #[] #[], .func (.func 67) #[] #[], .func (.func 68) #[] #[], .func (.func 69) #[] #[], .func (.func 70) #[] #[], .func (.func 71) #[] #[], .func (.func 72) #[] #[], .func (.func 73) #[] #[], .func (.func 74) #[] #[], .func (.func 75) #[] #[]]
def doF (z : Nat) : FuncId := (#[55, 56, 57, 58, 59, 60, 61, 62, 63, 64, 65, 66, 67, 68, 69, 70, 71, 72, 73, 74, 75] : Array FuncId).getD (z - 1) 0
theorem doA_get {z : Nat} (h1 : 1 ≤ z) (h2 : z < 22) : doA[z]? = some (.func (.func (doF z)) #[] #[]) := by
  match z, h1, h2 with
  | 1, _, _ | 2, _, _ | 3, _, _ | 4, _, _ | 5, _, _ | 6, _, _ | 7, _, _ | 8, _, _ | 9, _, _ | 10, _, _ | 11, _, _ | 12, _, _ | 13, _, _ | 14, _, _ | 15, _, _ | 16, _, _ | 17, _, _ | 18, _, _ | 19, _, _ | 20, _, _ | 21, _, _ => rfl
  | n + 22, _, h => exact absurd h (by omega)
theorem doF_cases {z : Nat} (h1 : 1 ≤ z) (h2 : z < 22) : doF z = 55 ∨ doF z = 56 ∨ doF z = 57 ∨ doF z = 58 ∨ doF z = 59 ∨ doF z = 60 ∨ doF z = 61 ∨ doF z = 62 ∨ doF z = 63 ∨ doF z = 64 ∨ doF z = 65 ∨ doF z = 66 ∨ doF z = 67 ∨ doF z = 68 ∨ doF z = 69 ∨ doF z = 70 ∨ doF z = 71 ∨ doF z = 72 ∨ doF z = 73 ∨ doF z = 74 ∨ doF z = 75 := by
  match z, h1, h2 with
  | 1, _, _ | 2, _, _ | 3, _, _ | 4, _, _ | 5, _, _ | 6, _, _ | 7, _, _ | 8, _, _ | 9, _, _ | 10, _, _ | 11, _, _ | 12, _, _ | 13, _, _ | 14, _, _ | 15, _, _ | 16, _, _ | 17, _, _ | 18, _, _ | 19, _, _ | 20, _, _ | 21, _, _ => decide +revert
  | n + 22, _, h => exact absurd h (by omega)
theorem doA_one : doA.all (·.oneCell') = true := by decide +kernel
theorem doA_size : doA.size = 22 := rfl
theorem nilA_size : (#[.nilFunc, .nilFunc, .nilFunc, .nilFunc, .nilFunc, .nilFunc, .nilFunc, .nilFunc, .nilFunc, .nilFunc, .nilFunc, .nilFunc, .nilFunc, .nilFunc, .nilFunc, .nilFunc, .nilFunc, .nilFunc, .nilFunc, .nilFunc, .nilFunc, .nilFunc] : Array Value).size = 22 := rfl

set_option maxRecDepth 100000 in
theorem doers_any (w : World) :
    Calls Tryd.prog 48 #[] w fun e w' => e = .returned (.agg doA) ∧ Ext w w' := by
  have hb := Blk.new w 72 #[.nilFunc, .nilFunc, .nilFunc, .nilFunc, .nilFunc, .nilFunc, .nilFunc, .nilFunc, .nilFunc, .nilFunc, .nilFunc, .nilFunc, .nilFunc, .nilFunc, .nilFunc, .nilFunc, .nilFunc, .nilFunc, .nilFunc, .nilFunc, .nilFunc, .nilFunc]
  have hx : Ext w (w.alloc (.cells #[.nilFunc, .nilFunc, .nilFunc, .nilFunc, .nilFunc, .nilFunc, .nilFunc, .nilFunc, .nilFunc, .nilFunc, .nilFunc, .nilFunc, .nilFunc, .nilFunc, .nilFunc, .nilFunc, .nilFunc, .nilFunc, .nilFunc, .nilFunc, .nilFunc, .nilFunc] 72)) := (Below.refl _ _).alloc (Nat.le_refl _) _
  have hi : (Tryd.prog.info? 72).map (·.size) = some doA.size := by kernel_rfl
  have HB := Lib.hid hb
  have HX := Lib.hid hx
  have HI := Lib.hid hi
  clear hb hx hi
  go_enter Tryd.func48, Tryd.ntmps48
  go_wp2_with (refine wpList_storeB rfl 72 _ _ rfl w.heap.size doA rfl rfl 72 _ HB.out HI.out rfl doA_one w.heap.size w HX.out (Nat.le_refl _) ?_; intro w2 hb2 hx2)
  exact bodyPost_ret (results_cell_row rfl _ _ w.heap.size 72 _ (0, 0) _ rfl hb2 rfl rfl (by kernel_rfl)) rfl ⟨rfl, hx2⟩

end Go.Proofs.YtmgbgpendpiahaaDoor

/- (without names) Layer 8, the reference: names, how many numbers a kind has, an op's numbers, whether it is right. -/
namespace Go.Proofs.YtmgbgpendpiahaaDoor
open Go.RowKit

/-- A name as a string. -/
def strB (l : List UInt8) : ByteArray := ⟨l.toArray⟩
theorem strB_list (l : List UInt8) : (strB l).data.toList = l := by simp [strB]
theorem strB_back (s : ByteArray) : strB s.data.toList = s := by simp [strB]
/-- An op as a value. -/
def opV (o : OpN) : Value := .agg #[.int .i64 o.1, .int .i64 o.2.1, .int .i64 o.2.2.1, .int .i64 o.2.2.2.1, .int .i64 o.2.2.2.2.1, .int .i64 o.2.2.2.2.2.1, .int .i64 o.2.2.2.2.2.2]

theorem kind_cases {k : Int} (h : 1 ≤ k ∧ k ≤ 21) : k = 1 ∨ k = 2 ∨ k = 3 ∨ k = 4 ∨ k = 5 ∨ k = 6 ∨ k = 7 ∨ k = 8 ∨ k = 9 ∨ k = 10 ∨ k = 11 ∨ k = 12 ∨ k = 13 ∨ k = 14 ∨ k = 15 ∨ k = 16 ∨ k = 17 ∨ k = 18 ∨ k = 19 ∨ k = 20 ∨ k = 21 := by omega

theorem many_ne {k : Int} (h : ¬ (1 ≤ k ∧ k ≤ 21)) : manyK k = 1 := by
  rw [manyK, if_neg (by omega), if_neg (by omega), if_neg (by omega)]

set_option maxRecDepth 100000 in
set_option maxHeartbeats 4000000 in
theorem RefMany08 (k : Int) (w : World) :
    Calls Tryd.prog 77 #[.int .i64 k] w fun e w' => e = .returned (.int .i64 (manyK k : Int)) ∧ w = w' := by
  by_cases h : 1 ≤ k ∧ k ≤ 21
  · rcases kind_cases h with rfl | rfl | rfl | rfl | rfl | rfl | rfl | rfl | rfl | rfl | rfl | rfl | rfl | rfl | rfl | rfl | rfl | rfl | rfl | rfl | rfl
    all_goals
      clear h
      go_enter Tryd.func77, Tryd.ntmps77
      go_wp2
      go_ret
      exact ⟨rfl, rfl⟩
  · have hm := many_ne h
    have e1 : (k == 1) = false := by rw [beq_eq_false_iff_ne]; omega
    have e4 : (k == 4) = false := by rw [beq_eq_false_iff_ne]; omega
    have e5 : (k == 5) = false := by rw [beq_eq_false_iff_ne]; omega
    have e6 : (k == 6) = false := by rw [beq_eq_false_iff_ne]; omega
    have e21 : (k == 21) = false := by rw [beq_eq_false_iff_ne]; omega
    have e8 : (k == 8) = false := by rw [beq_eq_false_iff_ne]; omega
    have e9 : (k == 9) = false := by rw [beq_eq_false_iff_ne]; omega
    have e10 : (k == 10) = false := by rw [beq_eq_false_iff_ne]; omega
    have e12 : (k == 12) = false := by rw [beq_eq_false_iff_ne]; omega
    have e13 : (k == 13) = false := by rw [beq_eq_false_iff_ne]; omega
    have e19 : (k == 19) = false := by rw [beq_eq_false_iff_ne]; omega
    have e20 : (k == 20) = false := by rw [beq_eq_false_iff_ne]; omega
    rw [hm]
    clear hm h
    go_enter Tryd.func77, Tryd.ntmps77
    go_wp2
    go_ret
    exact ⟨rfl, rfl⟩

set_option maxRecDepth 100000 in
set_option maxHeartbeats 4000000 in
theorem RefNumbers08 (o : OpN) (w : World) :
    Calls Tryd.prog 76 #[opV o] w fun e w' => ∃ b, e = .returned (.slice (some ⟨b, 0, none⟩) 6 6) ∧ w.heap.size ≤ b ∧ Rd w' (.slice (some ⟨b, 0, none⟩) 6 6) ((numsO o).map I) ∧ Ext w w' := by
  obtain ⟨k, a, b, c, d, e, f⟩ := o
  unfold opV numsO
  dsimp only
  go_enter Tryd.func76, Tryd.ntmps76
  go_wp2
  go_ret
  refine ⟨_, rfl, by simp, ?_, ((Below.refl _ w).alloc (Nat.le_refl _) _).alloc (by simp) _⟩
  exact Rd.litI _ [a, b, c, d, e, f] _ _ _ _ (by simp) rfl rfl (by simp)

end Go.Proofs.YtmgbgpendpiahaaDoor

/- Layer 8, the reference: whether an op is right. -/
namespace Go.Proofs.YtmgbgpendpiahaaDoor
open Go.RowKit

def numAtO (o : OpN) (i : Nat) : Int := (numsO o).getD i 0
def okAtO (o : OpN) (i : Nat) : Bool := decide (0 ≤ numAtO o i ∧ numAtO o i ≤ 1000000) && (decide (i < manyK o.1) || numAtO o i == 0)
theorem nums_get (o : OpN) {i : Nat} (h : i < 6) : (numsO o)[i]? = some (numAtO o i) := by
  rw [numAtO, List.getD_eq_getElem?_getD, List.getElem?_eq_getElem (by rw [numsO_len]; exact h), Option.getD_some]
theorem right_of_ok (o : OpN) : rightO o = true ↔ (1 ≤ o.1 ∧ o.1 ≤ 21) ∧ ∀ i, i < 6 → okAtO o i = true := by
  rw [rightO_iff]
  constructor
  · rintro ⟨h1, h2, h3⟩
    refine ⟨h1, fun i hi => ?_⟩
    have hg := nums_get o hi
    have hin := h2 _ (List.mem_of_getElem? hg)
    rw [okAtO, decide_eq_true hin, Bool.true_and]
    by_cases hm : i < manyK o.1
    · rw [decide_eq_true hm]
      rfl
    · have h0 : numAtO o i = 0 := h3 _ (by
        rw [List.mem_drop_iff_getElem]
        obtain ⟨hlt, he⟩ := List.getElem?_eq_some_iff.1 hg
        exact ⟨i - manyK o.1, by omega, by rw [← he]; congr 1; omega⟩)
      rw [h0]
      simp
  · rintro ⟨h1, h2⟩
    refine ⟨h1, fun n hn => ?_, fun n hn => ?_⟩
    · obtain ⟨i, hi, he⟩ := List.getElem_of_mem hn
      have hg := nums_get o (i := i) hi
      rw [List.getElem?_eq_getElem hi, he] at hg
      injection hg with hg
      have := h2 i hi
      rw [okAtO, Bool.and_eq_true, decide_eq_true_eq, ← hg] at this
      exact this.1
    · rw [List.mem_drop_iff_getElem] at hn
      obtain ⟨i, hi, he⟩ := hn
      have hi6 : i + manyK o.1 < 6 := hi
      have hg := nums_get o hi6
      have he' : (numsO o)[i + manyK o.1]'hi6 = n := by rw [← he]; congr 1; omega
      rw [List.getElem?_eq_getElem hi6, he'] at hg
      injection hg with hg
      have := h2 _ hi6
      rw [okAtO, Bool.and_eq_true, Bool.or_eq_true, decide_eq_true_eq, beq_iff_eq, ← hg] at this
      rcases this.2 with h | h
      · have := of_decide_eq_true h
        omega
      · exact h
theorem right_no {o : OpN} {i : Nat} (h : i < 6) (hn : okAtO o i = false) : rightO o = false := by
  rw [Bool.eq_false_iff]
  intro hr
  have := ((right_of_ok o).1 hr).2 i h
  rw [hn] at this
  cases this
theorem right_all {o : OpN} (h : ∀ i, i < 6 → okAtO o i = true) : rightO o = decide (1 ≤ o.1 ∧ o.1 ≤ 21) := by
  by_cases hk : 1 ≤ o.1 ∧ o.1 ≤ 21
  · rw [decide_eq_true hk]
    exact (right_of_ok o).2 ⟨hk, h⟩
  · rw [decide_eq_false hk, Bool.eq_false_iff]
    exact fun hr => hk ((right_of_ok o).1 hr).1

set_option maxRecDepth 100000 in
set_option maxHeartbeats 4000000 in
theorem RefRight08 (o : OpN) (w : World) :
    Calls Tryd.prog 49 #[opV o] w fun e w' => e = .returned (.bool (rightO o)) ∧ Ext w w' := by
  have KN := fun w' => RefNumbers08 o w'
  have KM := fun w' => RefMany08 o.1 w'
  have hno := fun (i : Nat) (h : i < 6) (hn : okAtO o i = false) => right_no h hn
  have hyes := right_all (o := o)
  have hget := fun (i : Nat) (h : i < 6) => nums_get o h
  have hok : ∀ i : Nat, okAtO o i = (decide (0 ≤ numAtO o i ∧ numAtO o i ≤ 1000000) && (decide (i < manyK o.1) || numAtO o i == 0)) := fun i => rfl
  have hm6 := manyK_le o.1
  have HM6 := Lib.hid hm6
  have HKM := Lib.hid KM
  have HNO := Lib.hid hno
  have HYES := Lib.hid hyes
  have HGET := Lib.hid hget
  have HOK := Lib.hid hok
  have HKN := Lib.hid KN
  clear KN KM hno hyes hget hok hm6
  obtain ⟨k, a, b, c, d, e, f⟩ := o
  generalize ho : ((k, a, b, c, d, e, f) : OpN) = o at *
  have hk : o.1 = k := by rw [← ho]
  have hv : opV o = .agg #[.int .i64 k, .int .i64 a, .int .i64 b, .int .i64 c, .int .i64 d, .int .i64 e, .int .i64 f] := by rw [← ho]; rfl
  rw [hk] at HKM HM6 HYES HOK
  rw [hv] at HKN ⊢
  clear ho hv
  obtain ⟨mk, hmk⟩ : ∃ x, x = manyK k := ⟨_, rfl⟩
  rw [← hmk] at HKM HM6 HOK
  clear hmk hk
  go_enter Tryd.func49, Tryd.ntmps49
  go_wp2_with fail
  refine (HKN.out _).mono ?_
  rintro e2 w2 ⟨b2, rfl, hb2, hr2, hx2⟩
  have hE : Ext w (w.alloc (.cells #[.int .i64 k, .int .i64 a, .int .i64 b, .int .i64 c, .int .i64 d, .int .i64 e, .int .i64 f] 35)) := (Below.refl _ _).alloc (Nat.le_refl _) _
  have hbk : Blk w2 w.heap.size 35 #[.int .i64 k, .int .i64 a, .int .i64 b, .int .i64 c, .int .i64 d, .int .i64 e, .int .i64 f] := (Blk.new w 35 #[.int .i64 k, .int .i64 a, .int .i64 b, .int .i64 c, .int .i64 d, .int .i64 e, .int .i64 f]).ext hx2
  have c0 : w2.cell? ⟨w.heap.size, 0, none⟩ = some (.int .i64 k) := hbk.cell 0
  have HX2 := Lib.hid (hE.trans hx2)
  have hcell : ∀ i, i < 6 → w2.cell? ⟨b2, i, none⟩ = some (.int .i64 (numAtO o i)) := by
    intro i hi
    obtain ⟨A, c', e', q1, q2, q3⟩ := hr2
    obtain ⟨b', o', e1, e2, e3⟩ := q3 (by rw [List.length_map, numsO_len]; decide)
    cases e'
    cases e1
    have := e3 i (I (numAtO o i)) (by rw [List.getElem?_map, HGET.out i hi]; rfl)
    rwa [Nat.zero_add] at this
  have HCELL := Lib.hid hcell
  clear hr2 hx2 hE hbk hcell hb2
  go_wp2
  go_loop [4] (fun i => ∃ n : Nat, i = .int .i64 n ∧ n ≤ 6 ∧ Hid (∀ j, j < n → okAtO o j = true)) (fun i => 6 - (intOf i).toNat)
  case atStart => exact ⟨0, rfl, by decide, Lib.hid (fun j hj => absurd hj (Nat.not_lt_zero j))⟩
  case round =>
    obtain ⟨n, rfl, hn, HA⟩ := hrel
    by_cases hlt : n < 6
    · have cn := HCELL.out n hlt
      have hokn := HOK.out n
      have hnon := HNO.out n hlt
      generalize hx : numAtO o n = x at *
      have l6 : decide ((n : Int) < 6) = true := decide_eq_true (by omega)
      by_cases h1 : x < 0
      · have hz : rightO o = false := hnon (by rw [hokn, decide_eq_false (by omega)]; rfl)
        have HZ := Lib.hid hz
        have d1 : decide (x < 0) = true := decide_eq_true h1
        clear hokn hnon hz hx h1
        go_wp2
        go_ret
        exact ⟨by rw [HZ.out]; rfl, HX2.out⟩
      · have d1 : decide (x < 0) = false := decide_eq_false h1
        by_cases h2 : 1000000 < x
        · have hz : rightO o = false := hnon (by rw [hokn, decide_eq_false (by omega)]; rfl)
          have HZ := Lib.hid hz
          have d2 : decide (1000000 < x) = true := decide_eq_true h2
          clear hokn hnon hz hx h1 h2
          go_wp2
          go_ret
          exact ⟨by rw [HZ.out]; rfl, HX2.out⟩
        · have d2 : decide (1000000 < x) = false := decide_eq_false h2
          have hin : decide (0 ≤ x ∧ x ≤ 1000000) = true := decide_eq_true (by omega)
          by_cases h3 : n < mk
          · have hy : okAtO o n = true := by rw [hokn, hin, decide_eq_true h3]; rfl
            have HY : Hid (∀ j, j < n + 1 → okAtO o j = true) := Lib.hid (fun j hj => by
              rcases Nat.lt_or_ge j n with h | h
              · exact HA.out j h
              · have : j = n := by omega
                rw [this]
                exact hy)
            have d3 : decide ((mk : Int) ≤ (n : Int)) = false := decide_eq_false (by omega)
            have d3' : decide (mk ≤ n) = false := decide_eq_false (by omega)
            clear hokn hnon hx h1 h2 h3 hy hin
            go_wp2_with (go_at_call 77; refine (HKM.out _).mono ?_; rintro e w' ⟨rfl, rfl⟩)
            go_round
            case rel => exact ⟨n + 1, by go_num, by omega, HY⟩
            case measure => simp [intOf]; omega
          · have d3 : decide ((mk : Int) ≤ (n : Int)) = true := decide_eq_true (by omega)
            have d3' : decide (mk ≤ n) = true := decide_eq_true (by omega)
            by_cases h4 : x = 0
            · have hy : okAtO o n = true := by rw [hokn, hin, h4]; simp
              have HY : Hid (∀ j, j < n + 1 → okAtO o j = true) := Lib.hid (fun j hj => by
                rcases Nat.lt_or_ge j n with h | h
                · exact HA.out j h
                · have : j = n := by omega
                  rw [this]
                  exact hy)
              have d4 : (x != 0) = false := by simp [h4]
              clear hokn hnon hx h1 h2 h3 hy hin h4
              go_wp2_with (go_at_call 77; refine (HKM.out _).mono ?_; rintro e w' ⟨rfl, rfl⟩)
              go_round
              case rel => exact ⟨n + 1, by go_num, by omega, HY⟩
              case measure => simp [intOf]; omega
            · have hz : rightO o = false := hnon (by
                rw [hokn, hin, decide_eq_false h3]
                simpa using h4)
              have HZ := Lib.hid hz
              have d4 : (x != 0) = true := by simp [h4]
              clear hokn hnon hz hx h1 h2 h3 hin h4
              go_wp2_with (go_at_call 77; refine (HKM.out _).mono ?_; rintro e w' ⟨rfl, rfl⟩)
              go_ret
              exact ⟨by rw [HZ.out]; rfl, HX2.out⟩
    · obtain rfl : n = 6 := by omega
      have hz := HYES.out HA.out
      have HZ := Lib.hid hz
      clear hz
      by_cases k1 : 1 ≤ k
      · have d1 : decide (k ≥ 1) = true := decide_eq_true k1
        have d1' : decide (1 ≤ k) = true := decide_eq_true k1
        by_cases k2 : k ≤ 21
        · have d2 : decide (k ≤ 21) = true := decide_eq_true k2
          go_wp2
          go_ret
          exact ⟨by rw [HZ.out, decide_eq_true ⟨k1, k2⟩]; rfl, HX2.out⟩
        · have d2 : decide (k ≤ 21) = false := decide_eq_false k2
          go_wp2
          go_ret
          exact ⟨by rw [HZ.out, decide_eq_false (by omega)]; rfl, HX2.out⟩
      · have d1 : decide (k ≥ 1) = false := decide_eq_false k1
        have d1' : decide (1 ≤ k) = false := decide_eq_false k1
        go_wp2
        go_ret
        exact ⟨by rw [HZ.out, decide_eq_false (by omega)]; rfl, HX2.out⟩

end Go.Proofs.YtmgbgpendpiahaaDoor

/- Layer 9: what the package-level variable holds that package ops reads. -/
namespace Go.Proofs.YtmgbgpendpiahaaDoor
open Go.RowKit

theorem var_ext {P : Program} {w w' : World} {n : String} {g : Nat} {cs : Array Value} (hg : P.globalNamed n = some g) (h : w.var? P n = some cs) (hx : Ext w w') : w'.var? P n = some cs := by
  have hlt : g < w.heap.size := by
    simp only [World.var?, hg, Option.bind_some] at h
    rcases Nat.lt_or_ge g w.heap.size with h' | h'
    · exact h'
    · rw [Array.getElem?_eq_none h'] at h
      simp at h
  rw [← h]
  unfold World.var?
  rw [hg]
  simp only [Option.bind_some]
  rw [hx.block g hlt]

/-- How many numbers, as the program's own table has it: there is no kind 0. -/
def cntK (k : Nat) : Int := if k = 0 then 0 else (manyK (k : Int) : Int)
def cntL : List Int := (List.range 22).map fun (k : Nat) => cntK k

theorem Tryd.gCounts : Tryd.prog.globalNamed "dunnage/ops.counts" = some 0 := by kernel_rfl

/-- What the variable holds. -/
structure Laid (w : World) : Prop where
  counts : w.var? Tryd.prog "dunnage/ops.counts" = some (cntL.map fun z => Value.int .i64 z).toArray
theorem Laid.ext {w w' : World} (h : Laid w) (hx : Ext w w') : Laid w' := ⟨var_ext Tryd.gCounts h.counts hx⟩
theorem Laid.count {w : World} (h : Laid w) (k : Nat) (hk : k < 22) : w.cell? ⟨0, k, none⟩ = some (.int .i64 (cntK k)) := by
  rw [World.var?_cell Tryd.gCounts h.counts k]
  simp [cntL, hk]
theorem Laid.ltc {w : World} (h : Laid w) : 0 < w.heap.size := World.block_lt_of_cell? w _ (h.count 0 (by decide))
theorem cntK_pos {k : Nat} (h : 1 ≤ k) : cntK k = (manyK (k : Int) : Int) := by rw [cntK, if_neg (by omega)]


end Go.Proofs.YtmgbgpendpiahaaDoor

/- Package ops: kinds, an op's numbers, whether it is right. -/
namespace Go.Proofs.YtmgbgpendpiahaaDoor
open Go.RowKit

set_option maxRecDepth 100000 in
theorem isKind_any (k : Int) (w : World) :
    Calls Tryd.prog 51 #[.int .i64 k] w fun e w' => e = .returned (.bool (decide (1 ≤ k ∧ k ≤ 21))) ∧ w = w' := by
  by_cases h1 : 0 < k
  · by_cases h2 : k < 22
    · have d1 : decide (0 < k) = true := decide_eq_true h1
      have d2 : decide (k < 22) = true := decide_eq_true h2
      rw [decide_eq_true (show 1 ≤ k ∧ k ≤ 21 by omega)]
      clear h1 h2
      go_enter Tryd.func51, Tryd.ntmps51
      go_wp2
      go_ret
      exact ⟨rfl, rfl⟩
    · have d1 : decide (0 < k) = true := decide_eq_true h1
      have d2 : decide (k < 22) = false := decide_eq_false h2
      rw [decide_eq_false (show ¬ (1 ≤ k ∧ k ≤ 21) by omega)]
      clear h1 h2
      go_enter Tryd.func51, Tryd.ntmps51
      go_wp2
      go_ret
      exact ⟨rfl, rfl⟩
  · have d1 : decide (0 < k) = false := decide_eq_false h1
    rw [decide_eq_false (show ¬ (1 ≤ k ∧ k ≤ 21) by omega)]
    clear h1
    go_enter Tryd.func51, Tryd.ntmps51
    go_wp2
    go_ret
    exact ⟨rfl, rfl⟩

/-- An op's six numbers as an array. -/
def arrO (o : OpN) : Array Value := #[.int .i64 o.2.1, .int .i64 o.2.2.1, .int .i64 o.2.2.2.1, .int .i64 o.2.2.2.2.1, .int .i64 o.2.2.2.2.2.1,  .int .i64 o.2.2.2.2.2.2]
def arrV (o : OpN) : Value := .agg (arrO o)
theorem arrO_get (o : OpN) {i : Nat} (h : i < 6) : (arrO o)[i]? = some (.int .i64 (numAtO o i)) := by
  rcases (show i = 0 ∨ i = 1 ∨ i = 2 ∨ i = 3 ∨ i = 4 ∨ i = 5 by omega) with rfl | rfl | rfl | rfl | rfl | rfl <;> rfl

set_option maxRecDepth 100000 in
theorem numbers_any (o : OpN) (w : World) :
    Calls Tryd.prog 52 #[opV o] w fun e w' => e = .returned (arrV o) ∧ Ext w w' := by
  obtain ⟨k, a, b, c, d, e, f⟩ := o
  unfold opV arrV arrO
  dsimp only
  go_enter Tryd.func52, Tryd.ntmps52
  go_wp2
  have hg : (w.alloc (.cells #[.int .i64 k, .int .i64 a, .int .i64 b, .int .i64 c, .int .i64 d, .int .i64 e, .int .i64 f] 35)).heap.size = w.heap.size + 1 := by simp
  have h9 := Blk.new (w.alloc (.cells #[.int .i64 k, .int .i64 a, .int .i64 b, .int .i64 c, .int .i64 d, .int .i64 e, .int .i64 f] 35)) 74 #[.int .i64 a, .int .i64 b, .int .i64 c, .int .i64 d, .int .i64 e, .int .i64 f]
  rw [hg] at h9
  exact bodyPost_ret (results_cell_row rfl _ _ (w.heap.size + 1) 74 _ (0, 0) _ rfl h9 rfl rfl (by kernel_rfl)) rfl ⟨rfl, ((Below.refl _ w).alloc (Nat.le_refl _) _).alloc (by simp) _⟩

theorem ok_step {o : OpN} {n : Nat} (h : ∀ j, j < n → okAtO o j = true) (hn : okAtO o n = true) : ∀ j, j < n + 1 → okAtO o j = true := fun j hj => by
  rcases Nat.lt_or_ge j n with h' | h'
  · exact h j h'
  · have : j = n := by omega
    rw [this]
    exact hn
theorem right_kind {o : OpN} (h : ¬ (1 ≤ o.1 ∧ o.1 ≤ 21)) : rightO o = false := by
  rw [Bool.eq_false_iff]
  exact fun hr => h (rightO_iff.1 hr).1

set_option maxRecDepth 100000 in
set_option maxHeartbeats 4000000 in
theorem Right_any (o : OpN) (w : World) (hL : Laid w) :
    Calls Tryd.prog 46 #[opV o] w fun e w' => e = .returned (.bool (rightO o)) ∧ Ext w w' := by
  have HKN := Lib.hid fun w' => numbers_any o w'
  have HKK := Lib.hid fun w' => isKind_any o.1 w'
  have HNO := Lib.hid (fun (i : Nat) (h : i < 6) (hn : okAtO o i = false) => right_no h hn)
  have HYES := Lib.hid (right_all (o := o))
  have HKD := Lib.hid (right_kind (o := o))
  have hok : ∀ i : Nat, okAtO o i = (decide (0 ≤ numAtO o i ∧ numAtO o i ≤ 1000000) && (decide (i < manyK o.1) || numAtO o i == 0)) := fun i => rfl
  have HOK := Lib.hid hok
  have HM6 := Lib.hid (manyK_le o.1)
  have HLD := Lib.hid hL
  clear hok hL
  obtain ⟨k, a, b, c, d, e, f⟩ := o
  generalize ho : ((k, a, b, c, d, e, f) : OpN) = o at *
  have hk : o.1 = k := by rw [← ho]
  have hv : opV o = .agg #[.int .i64 k, .int .i64 a, .int .i64 b, .int .i64 c, .int .i64 d, .int .i64 e, .int .i64 f] := by rw [← ho]; rfl
  have hav : arrV o = .agg (arrO o) := rfl
  have HAO := Lib.hid (fun (i : Nat) (h : i < 6) => arrO_get o h)
  rw [hk] at HKK HKD HYES HOK HM6
  rw [hv, hav] at HKN
  rw [hv]
  generalize arrO o = ao at *
  have hE : Ext w (w.alloc (.cells #[.int .i64 k, .int .i64 a, .int .i64 b, .int .i64 c, .int .i64 d, .int .i64 e, .int .i64 f] 35)) := (Below.refl _ _).alloc (Nat.le_refl _) _
  have hbk := Blk.new w 35 #[.int .i64 k, .int .i64 a, .int .i64 b, .int .i64 c, .int .i64 d, .int .i64 e, .int .i64 f]
  clear ho hv hav hk
  have HE := Lib.hid hE
  have HBK := Lib.hid hbk
  clear hE hbk
  by_cases h : 1 ≤ k ∧ k ≤ 21
  · obtain ⟨kn, rfl⟩ : ∃ n : Nat, k = (n : Int) := ⟨k.toNat, by omega⟩
    have hk1 : 1 ≤ kn := by omega
    have hk2 : kn < 22 := by omega
    rw [decide_eq_true h] at HKK HYES
    have HKR := Lib.hid h
    clear HKD h
    go_enter Tryd.func46, Tryd.ntmps46
    go_wp2_with fail
    refine (HKK.out _).mono ?_
    rintro e1 w1 ⟨rfl, rfl⟩
    go_wp2_with fail
    refine (HKN.out _).mono ?_
    rintro e2 w2 ⟨rfl, hx2⟩
    have HB2 := Lib.hid (HBK.out.ext hx2)
    have HX2 := Lib.hid (HE.out.trans hx2)
    have c0 : w2.cell? ⟨w.heap.size, 0, none⟩ = some (.int .i64 (kn : Int)) := HB2.out.cell 0
    have cc : w2.cell? ⟨0, kn, none⟩ = some (.int .i64 (manyK (kn : Int) : Int)) := by
      rw [← cntK_pos hk1]
      exact (HLD.out.ext HX2.out).count kn hk2
    generalize manyK (kn : Int) = mk at *
    obtain ⟨mi, hmi⟩ : ∃ mi : Int, mi = (mk : Int) := ⟨_, rfl⟩
    rw [← hmi] at cc
    have HMI := Lib.hid hmi
    have hix : ∀ n : Nat, n < 6 → (Instr.index 74 (.agg ao) (.int .i64 n)).run Tryd.prog w2 = .ok (.int .i64 (numAtO o n)) w2 := fun n hn => run_index_arr _ 3 6 _ _ n _ Tryd.underlying74 (Tryd.sizeOf3 w2) (Tryd.isAgg3 w2) hn (HAO.out n hn)
    have HIX := Lib.hid hix
    clear hx2 HE HBK hmi hix
    go_wp2
    go_loop [11] (fun i => ∃ n : Nat, i = .int .i64 n ∧ n ≤ 6 ∧ Hid (∀ j, j < n → okAtO o j = true)) (fun i => 6 - (intOf i).toNat)
    case atStart => exact ⟨0, rfl, by decide, Lib.hid (fun j hj => absurd hj (Nat.not_lt_zero j))⟩
    case round =>
      obtain ⟨n, rfl, hn, HA⟩ := hrel
      by_cases hlt : n < 6
      · have hokn := HOK.out n
        have hnon := HNO.out n hlt
        have hin6 := HIX.out n hlt
        generalize hx : numAtO o n = x at *
        have l6 : decide ((n : Int) < 6) = true := decide_eq_true (by omega)
        have HLT := Lib.hid hlt
        by_cases h1 : x < 0
        · have HZ := Lib.hid (hnon (by rw [hokn, decide_eq_false (by omega)]; rfl))
          have d1 : decide (x < 0) = true := decide_eq_true h1
          clear hokn hnon hx h1 hn
          go_wp2
          go_ret
          exact ⟨by rw [HZ.out]; rfl, HX2.out⟩
        · have d1 : decide (x < 0) = false := decide_eq_false h1
          by_cases h2 : 1000000 < x
          · have HZ := Lib.hid (hnon (by rw [hokn, decide_eq_false (by omega)]; rfl))
            have d2 : decide (1000000 < x) = true := decide_eq_true h2
            clear hokn hnon hx h1 h2 hn
            go_wp2
            go_ret
            exact ⟨by rw [HZ.out]; rfl, HX2.out⟩
          · have d2 : decide (1000000 < x) = false := decide_eq_false h2
            have hin : decide (0 ≤ x ∧ x ≤ 1000000) = true := decide_eq_true (by omega)
            by_cases h3 : n < mk
            · have HY := Lib.hid (ok_step HA.out (by rw [hokn, hin, decide_eq_true h3]; rfl))
              have d3 : decide (mi ≤ (n : Int)) = false := decide_eq_false (by have := HMI.out; omega)
              clear hokn hnon hx h1 h2 h3 hin hn
              go_wp2
              go_round
              case rel => exact ⟨n + 1, by go_num, HLT.out, HY⟩
              case measure => have := HLT.out; simp [intOf]; omega
            · have d3 : decide (mi ≤ (n : Int)) = true := decide_eq_true (by have := HMI.out; omega)
              by_cases h4 : x = 0
              · have HY := Lib.hid (ok_step HA.out (by rw [hokn, hin, h4]; simp))
                have d4 : (x != 0) = false := by simp [h4]
                clear hokn hnon hx h1 h2 h3 hin h4 hn
                go_wp2
                go_round
                case rel => exact ⟨n + 1, by go_num, HLT.out, HY⟩
                case measure => have := HLT.out; simp [intOf]; omega
              · have HZ := Lib.hid (hnon (by
                  rw [hokn, hin, decide_eq_false h3]
                  simpa using h4))
                have d4 : (x != 0) = true := by simp [h4]
                clear hokn hnon hx h1 h2 h3 hin h4 hn
                go_wp2
                go_ret
                exact ⟨by rw [HZ.out]; rfl, HX2.out⟩
      · obtain rfl : n = 6 := by omega
        have HZ := Lib.hid (HYES.out HA.out)
        go_wp2
        go_ret
        exact ⟨by rw [HZ.out]; rfl, HX2.out⟩
  · rw [decide_eq_false h] at HKK
    have HZ := Lib.hid (HKD.out h)
    clear HKD h HYES
    go_enter Tryd.func46, Tryd.ntmps46
    go_wp2_with fail
    refine (HKK.out _).mono ?_
    rintro e1 w1 ⟨rfl, rfl⟩
    go_wp2
    go_ret
    exact ⟨by rw [HZ.out]; rfl, HE.out⟩

end Go.Proofs.YtmgbgpendpiahaaDoor

/- Package book: an op is done. -/
namespace Go.Proofs.YtmgbgpendpiahaaDoor
open Go.RowKit

set_option maxRecDepth 100000 in
set_option maxHeartbeats 4000000 in
theorem do_wrong (F : Fp) (w : World) (g : Nat) (c : Cf) (vn vj : Value) (s : St) (z : Nat) (a1 a2 a3 a4 a5 a6 : Int) (h : Pg F w g c vn vj s) (hL : Laid w) (hz2 : z < 22) (hr : rightO ((z : Int), a1, a2, a3, a4, a5, a6) = false) :
    Calls Tryd.prog 38 #[.pointer (some ⟨g, 0, none⟩), .agg #[.int .i64 (z : Int), .int .i64 a1, .int .i64 a2, .int .i64 a3, .int .i64 a4, .int .i64 a5, .int .i64 a6]] w fun e w' => e = .returned (.int .i64 ((s, 1) : Res9).2) ∧ (∃ vn vj, Pg (F.since w w') w' g c vn vj ((s, 1) : Res9).1) ∧ Chg F w w' := by
  obtain ⟨hx, hbk⟩ := boxOp w #[.int .i64 (z : Int), .int .i64 a1, .int .i64 a2, .int .i64 a3, .int .i64 a4, .int .i64 a5, .int .i64 a6]
  obtain ⟨W1, hW1⟩ : ∃ W1, W1 = w.alloc (.cells #[.int .i64 (z : Int), .int .i64 a1, .int .i64 a2, .int .i64 a3, .int .i64 a4, .int .i64 a5, .int .i64 a6] 35) := ⟨_, rfl⟩
  rw [← hW1] at hx hbk
  have HR0 := Lib.hid (Right_any ((z : Int), a1, a2, a3, a4, a5, a6) W1 (hL.ext hx))
  have HX := Lib.hid hx
  have HP := Lib.hid (h.ext hx)
  have HB := Lib.hid hbk
  have HLK := Lib.hid fun W hx => lacks_any F W g c vn vj s z a1 a2 a3 a4 a5 a6 (HP.out.ext hx) hz2
  rw [show opV ((z : Int), a1, a2, a3, a4, a5, a6) = .agg #[.int .i64 (z : Int), .int .i64 a1, .int .i64 a2, .int .i64 a3, .int .i64 a4, .int .i64 a5, .int .i64 a6] from rfl] at HR0
  rw [hr] at HR0
  clear hx hbk h hL hr
  go_enter Tryd.func38, Tryd.ntmps38
  go_wp2_with fail
  rw [← hW1]
  clear hW1
  refine HR0.out.mono ?_
  rintro e1 w1 ⟨rfl, hx1⟩
  have HX1 := Lib.hid hx1
  have HB1 := Lib.hid (HB.out.ext hx1)
  clear hx1
  have HP1 := Lib.hid (HP.out.ext HX1.out)
  go_wp2
  go_ret
  exact MDone.of (res := (s, 1)) rfl rfl HP1.out (Chg.of_ext (HX.out.trans HX1.out))

set_option maxRecDepth 100000 in
set_option maxHeartbeats 4000000 in
theorem do_lacks (F : Fp) (w : World) (g : Nat) (c : Cf) (vn vj : Value) (s : St) (z : Nat) (a1 a2 a3 a4 a5 a6 : Int) (h : Pg F w g c vn vj s) (hL : Laid w) (hz2 : z < 22) (hr : rightO ((z : Int), a1, a2, a3, a4, a5, a6) = true) (hl : lacksS s ((z : Int), a1, a2, a3, a4, a5, a6) = true) :
    Calls Tryd.prog 38 #[.pointer (some ⟨g, 0, none⟩), .agg #[.int .i64 (z : Int), .int .i64 a1, .int .i64 a2, .int .i64 a3, .int .i64 a4, .int .i64 a5, .int .i64 a6]] w fun e w' => e = .returned (.int .i64 ((s, 4) : Res9).2) ∧ (∃ vn vj, Pg (F.since w w') w' g c vn vj ((s, 4) : Res9).1) ∧ Chg F w w' := by
  obtain ⟨hx, hbk⟩ := boxOp w #[.int .i64 (z : Int), .int .i64 a1, .int .i64 a2, .int .i64 a3, .int .i64 a4, .int .i64 a5, .int .i64 a6]
  obtain ⟨W1, hW1⟩ : ∃ W1, W1 = w.alloc (.cells #[.int .i64 (z : Int), .int .i64 a1, .int .i64 a2, .int .i64 a3, .int .i64 a4, .int .i64 a5, .int .i64 a6] 35) := ⟨_, rfl⟩
  rw [← hW1] at hx hbk
  have HR0 := Lib.hid (Right_any ((z : Int), a1, a2, a3, a4, a5, a6) W1 (hL.ext hx))
  have HX := Lib.hid hx
  have HP := Lib.hid (h.ext hx)
  have HB := Lib.hid hbk
  have HLK := Lib.hid fun W hx => lacks_any F W g c vn vj s z a1 a2 a3 a4 a5 a6 (HP.out.ext hx) hz2
  rw [show opV ((z : Int), a1, a2, a3, a4, a5, a6) = .agg #[.int .i64 (z : Int), .int .i64 a1, .int .i64 a2, .int .i64 a3, .int .i64 a4, .int .i64 a5, .int .i64 a6] from rfl] at HR0
  rw [hr] at HR0
  rw [hl] at HLK
  clear hx hbk h hL hr hl
  go_enter Tryd.func38, Tryd.ntmps38
  go_wp2_with fail
  rw [← hW1]
  clear hW1
  refine HR0.out.mono ?_
  rintro e1 w1 ⟨rfl, hx1⟩
  have HX1 := Lib.hid hx1
  have HB1 := Lib.hid (HB.out.ext hx1)
  clear hx1
  have q0 : w1.cell? ⟨w.heap.size, 0, none⟩ = some (.int .i64 (z : Int)) := HB1.out.cell 0
  have q1 : w1.cell? ⟨w.heap.size, 1, none⟩ = some (.int .i64 a1) := HB1.out.cell 1
  have q2 : w1.cell? ⟨w.heap.size, 2, none⟩ = some (.int .i64 a2) := HB1.out.cell 2
  have q3 : w1.cell? ⟨w.heap.size, 3, none⟩ = some (.int .i64 a3) := HB1.out.cell 3
  have q4 : w1.cell? ⟨w.heap.size, 4, none⟩ = some (.int .i64 a4) := HB1.out.cell 4
  have q5 : w1.cell? ⟨w.heap.size, 5, none⟩ = some (.int .i64 a5) := HB1.out.cell 5
  have q6 : w1.cell? ⟨w.heap.size, 6, none⟩ = some (.int .i64 a6) := HB1.out.cell 6
  go_wp2_with fail
  refine (HLK.out _ HX1.out).mono ?_
  rintro e2 w2 ⟨rfl, hx2⟩
  have HX2 := Lib.hid (HX1.out.trans hx2)
  have HP1 := Lib.hid (HP.out.ext HX2.out)
  clear hx2
  go_wp2
  go_ret
  exact MDone.of (res := (s, 4)) rfl rfl HP1.out (Chg.of_ext (HX.out.trans HX2.out))

set_option maxRecDepth 100000 in
set_option maxHeartbeats 4000000 in
theorem do_right (F : Fp) (w : World) (g : Nat) (c : Cf) (vn vj : Value) (s : St) (z : Nat) (a1 a2 a3 a4 a5 a6 : Int) (res : Res9) (h : Pg F w g c vn vj s) (hL : Laid w) (hz2 : z < 22) (hz1 : 1 ≤ z) (hr : rightO ((z : Int), a1, a2, a3, a4, a5, a6) = true) (hl : lacksS s ((z : Int), a1, a2, a3, a4, a5, a6) = false) (HC : ∀ W, Ext w W → Calls Tryd.prog (doF z) #[.pointer (some ⟨g, 0, none⟩), .agg #[.int .i64 (z : Int), .int .i64 a1, .int .i64 a2, .int .i64 a3, .int .i64 a4, .int .i64 a5, .int .i64 a6]] W fun e w' => e = .returned (.int .i64 res.2) ∧ (∃ vn vj, Pg (F.since W w') w' g c vn vj res.1) ∧ Chg F W w') :
    Calls Tryd.prog 38 #[.pointer (some ⟨g, 0, none⟩), .agg #[.int .i64 (z : Int), .int .i64 a1, .int .i64 a2, .int .i64 a3, .int .i64 a4, .int .i64 a5, .int .i64 a6]] w fun e w' => e = .returned (.int .i64 res.2) ∧ (∃ vn vj, Pg (F.since w w') w' g c vn vj res.1) ∧ Chg F w w' := by
  obtain ⟨hx, hbk⟩ := boxOp w #[.int .i64 (z : Int), .int .i64 a1, .int .i64 a2, .int .i64 a3, .int .i64 a4, .int .i64 a5, .int .i64 a6]
  obtain ⟨W1, hW1⟩ : ∃ W1, W1 = w.alloc (.cells #[.int .i64 (z : Int), .int .i64 a1, .int .i64 a2, .int .i64 a3, .int .i64 a4, .int .i64 a5, .int .i64 a6] 35) := ⟨_, rfl⟩
  rw [← hW1] at hx hbk
  have HR0 := Lib.hid (Right_any ((z : Int), a1, a2, a3, a4, a5, a6) W1 (hL.ext hx))
  have HX := Lib.hid hx
  have HP := Lib.hid (h.ext hx)
  have HB := Lib.hid hbk
  have HLK := Lib.hid fun W hx => lacks_any F W g c vn vj s z a1 a2 a3 a4 a5 a6 (HP.out.ext hx) hz2
  rw [show opV ((z : Int), a1, a2, a3, a4, a5, a6) = .agg #[.int .i64 (z : Int), .int .i64 a1, .int .i64 a2, .int .i64 a3, .int .i64 a4, .int .i64 a5, .int .i64 a6] from rfl] at HR0
  rw [hr] at HR0
  rw [hl] at HLK
  have HCC := Lib.hid HC
  have HD := Lib.hid fun W => doers_any W
  have HFI := Lib.hid h.isIn
  have HDF := Lib.hid (doF_cases hz1 hz2)
  have HIX : Hid (∀ W : World, (Instr.index 72 (.agg doA) (.int .i64 (z : Int))).run Tryd.prog W = .ok (.func (.func (doF z)) #[] #[]) W) := Lib.hid fun W =>
    run_index_arr _ 71 22 _ _ z _ Tryd.underlying72 (Tryd.sizeOf71 W) (Tryd.isAgg71 W) hz2 (doA_get hz1 hz2)
  clear hx hbk h hL hr hl HC
  go_enter Tryd.func38, Tryd.ntmps38
  go_wp2_with fail
  rw [← hW1]
  clear hW1
  refine HR0.out.mono ?_
  rintro e1 w1 ⟨rfl, hx1⟩
  have HX1 := Lib.hid hx1
  have HB1 := Lib.hid (HB.out.ext hx1)
  clear hx1
  have q0 : w1.cell? ⟨w.heap.size, 0, none⟩ = some (.int .i64 (z : Int)) := HB1.out.cell 0
  have q1 : w1.cell? ⟨w.heap.size, 1, none⟩ = some (.int .i64 a1) := HB1.out.cell 1
  have q2 : w1.cell? ⟨w.heap.size, 2, none⟩ = some (.int .i64 a2) := HB1.out.cell 2
  have q3 : w1.cell? ⟨w.heap.size, 3, none⟩ = some (.int .i64 a3) := HB1.out.cell 3
  have q4 : w1.cell? ⟨w.heap.size, 4, none⟩ = some (.int .i64 a4) := HB1.out.cell 4
  have q5 : w1.cell? ⟨w.heap.size, 5, none⟩ = some (.int .i64 a5) := HB1.out.cell 5
  have q6 : w1.cell? ⟨w.heap.size, 6, none⟩ = some (.int .i64 a6) := HB1.out.cell 6
  go_wp2_with fail
  refine (HLK.out _ HX1.out).mono ?_
  rintro e2 w2 ⟨rfl, hx2⟩
  have HX2 := Lib.hid (HX1.out.trans hx2)
  have HX3 := Lib.hid (HX.out.trans HX2.out)
  have HS4 : Hid (∀ W, Ext w2 W → (fun (W : World) => W.cell? ⟨w.heap.size, 0, none⟩ = some (.int .i64 (z : Int)) ∧ W.cell? ⟨w.heap.size, 1, none⟩ = some (.int .i64 a1) ∧ W.cell? ⟨w.heap.size, 2, none⟩ = some (.int .i64 a2) ∧ W.cell? ⟨w.heap.size, 3, none⟩ = some (.int .i64 a3) ∧ W.cell? ⟨w.heap.size, 4, none⟩ = some (.int .i64 a4) ∧ W.cell? ⟨w.heap.size, 5, none⟩ = some (.int .i64 a5) ∧ W.cell? ⟨w.heap.size, 6, none⟩ = some (.int .i64 a6)) W) := Lib.hid fun W hx => by
    have hb := HB.out.ext (HX2.out.trans hx)
    exact ⟨hb.cell 0, hb.cell 1, hb.cell 2, hb.cell 3, hb.cell 4, hb.cell 5, hb.cell 6⟩
  clear hx2 q0 q1 q2 q3 q4 q5 q6
  generalize doA = da at *
  generalize doF z = df at *
  go_wp2_with fail
  refine held_begin (by kernel_rfl) ?_
  have hHeld0 : True := True.intro
  refine held_more (S' := fun (W : World) => W.cell? ⟨w.heap.size, 0, none⟩ = some (.int .i64 (z : Int)) ∧ W.cell? ⟨w.heap.size, 1, none⟩ = some (.int .i64 a1) ∧ W.cell? ⟨w.heap.size, 2, none⟩ = some (.int .i64 a2) ∧ W.cell? ⟨w.heap.size, 3, none⟩ = some (.int .i64 a3) ∧ W.cell? ⟨w.heap.size, 4, none⟩ = some (.int .i64 a4) ∧ W.cell? ⟨w.heap.size, 5, none⟩ = some (.int .i64 a5) ∧ W.cell? ⟨w.heap.size, 6, none⟩ = some (.int .i64 a6)) (fun _ _ => True.intro) ?_
  have hHeld1 : (fun (W : World) => W.cell? ⟨w.heap.size, 0, none⟩ = some (.int .i64 (z : Int)) ∧ W.cell? ⟨w.heap.size, 1, none⟩ = some (.int .i64 a1) ∧ W.cell? ⟨w.heap.size, 2, none⟩ = some (.int .i64 a2) ∧ W.cell? ⟨w.heap.size, 3, none⟩ = some (.int .i64 a3) ∧ W.cell? ⟨w.heap.size, 4, none⟩ = some (.int .i64 a4) ∧ W.cell? ⟨w.heap.size, 5, none⟩ = some (.int .i64 a5) ∧ W.cell? ⟨w.heap.size, 6, none⟩ = some (.int .i64 a6)) _ := HS4.out _ (ext_drew9 (Ext.refl _))
  clear hHeld0
  refine held_take (i := 1) (v := ?_) rfl (by kernel_rfl) (by kernel_rfl) (by kernel_rfl) (by rfl) (by first | assumption | exact True.intro) ?_ ?_
  rotate_left
  · (intro w hSw; (try dsimp only at hSw); go_simp; (try with_reducible rfl))
  try simp only [Act.put, List.setIfInBounds_toArray, List.set_cons_zero, List.set_cons_succ]
  refine held_take (i := 2) (v := ?_) rfl (by kernel_rfl) (by kernel_rfl) (by kernel_rfl) (by rfl) (by first | assumption | exact True.intro) ?_ ?_
  rotate_left
  · (intro w hSw; (try dsimp only at hSw); go_simp; (try with_reducible rfl))
  try simp only [Act.put, List.setIfInBounds_toArray, List.set_cons_zero, List.set_cons_succ]
  refine held_take (i := 4) (v := ?_) rfl (by kernel_rfl) (by kernel_rfl) (by kernel_rfl) (by rfl) (by first | assumption | exact True.intro) ?_ ?_
  rotate_left
  · (intro w hSw; (try dsimp only at hSw); go_simp; (try with_reducible rfl))
  try simp only [Act.put, List.setIfInBounds_toArray, List.set_cons_zero, List.set_cons_succ]
  refine held_take (i := 5) (v := ?_) rfl (by kernel_rfl) (by kernel_rfl) (by kernel_rfl) (by rfl) (by first | assumption | exact True.intro) ?_ ?_
  rotate_left
  · (intro w hSw; (try dsimp only at hSw); go_simp; (try with_reducible rfl))
  try simp only [Act.put, List.setIfInBounds_toArray, List.set_cons_zero, List.set_cons_succ]
  refine held_op (i := 0) (by kernel_rfl) rfl (fun K hK => ?_)
  go_simp
  go_at_call 48
  (with_reducible refine (HD.out _).mono ?_)
  rintro e4 w4 ⟨rfl, hx4⟩
  refine hK _ _ ?_ (fun hHeld2 => ?_)
  · exact HS4.out _ (Ext.of_drew hx4)
  clear hK K hHeld1
  try simp only [Act.put, List.setIfInBounds_toArray, List.set_cons_zero, List.set_cons_succ]
  have hdf := HDF.out
  clear HDF
  rcases hdf with rfl | rfl | rfl | rfl | rfl | rfl | rfl | rfl | rfl | rfl | rfl | rfl | rfl | rfl | rfl | rfl | rfl | rfl | rfl | rfl | rfl
  all_goals
    have hix := HIX.out
    have hx5 : Ext w w4 := HX3.out.trans (Ext.of_drew hx4)
    have HX5 := Lib.hid hx5
    have HB4 := Lib.hid (HB.out.ext (HX2.out.trans (Ext.of_drew hx4)))
    have HKS : Hid (∀ W, Chg F w4 W → (fun (W : World) => W.cell? ⟨w.heap.size, 0, none⟩ = some (.int .i64 (z : Int)) ∧ W.cell? ⟨w.heap.size, 1, none⟩ = some (.int .i64 a1) ∧ W.cell? ⟨w.heap.size, 2, none⟩ = some (.int .i64 a2) ∧ W.cell? ⟨w.heap.size, 3, none⟩ = some (.int .i64 a3) ∧ W.cell? ⟨w.heap.size, 4, none⟩ = some (.int .i64 a4) ∧ W.cell? ⟨w.heap.size, 5, none⟩ = some (.int .i64 a5) ∧ W.cell? ⟨w.heap.size, 6, none⟩ = some (.int .i64 a6)) W) := Lib.hid fun W hc => by
      have hb := (hc.block w.heap.size HB4.out.lt (fun hF => by have := HFI.out _ hF; omega)).trans HB4.out
      have hb : Blk W w.heap.size 35 #[.int .i64 (z : Int), .int .i64 a1, .int .i64 a2, .int .i64 a3, .int .i64 a4, .int .i64 a5, .int .i64 a6] := hb
      exact ⟨hb.cell 0, hb.cell 1, hb.cell 2, hb.cell 3, hb.cell 4, hb.cell 5, hb.cell 6⟩
    refine held_take (i := 3) (v := ?_) rfl (by kernel_rfl) (by kernel_rfl) (by kernel_rfl) (by rfl) (by first | assumption | exact True.intro) ?_ ?_
    rotate_left
    · (intro w hSw; (try dsimp only at hSw); go_simp; (try with_reducible rfl))
    try simp only [Act.put, List.setIfInBounds_toArray, List.set_cons_zero, List.set_cons_succ]
    refine held_op (i := 6) (by kernel_rfl) rfl (fun K hK => ?_)
    go_simp
    (with_reducible refine (HCC.out _ (HX3.out.trans (Ext.of_drew hx4))).mono ?_)
    rintro e6 w6 ⟨rfl, hp6, hc6⟩
    refine hK _ _ ?_ (fun hHeld3 => ?_)
    · exact HKS.out _ hc6
    clear hK K hHeld2
    try simp only [Act.put, List.setIfInBounds_toArray, List.set_cons_zero, List.set_cons_succ]
    refine held_take (i := 7) (v := ?_) rfl (by kernel_rfl) (by kernel_rfl) (by kernel_rfl) (by rfl) (by first | assumption | exact True.intro) ?_ ?_
    rotate_left
    · (intro w hSw; (try dsimp only at hSw); go_simp; (try with_reducible rfl))
    try simp only [Act.put, List.setIfInBounds_toArray, List.set_cons_zero, List.set_cons_succ]
    refine wpAnyH_done (by kernel_rfl) ?_ _
    refine NoPanic.normal ?_
    clear hHeld3
    obtain ⟨vn6, vj6, hp6⟩ := hp6
    have HP6 := Lib.hid hp6
    have HC6 := Lib.hid hc6
    clear hp6 hc6 hx4 hx5 hix
    go_wp2
    go_ret
    exact MDone.of2 (res := res) rfl rfl HX5.out HP6.out HC6.out HFI.out

end Go.Proofs.YtmgbgpendpiahaaDoor

/- Package book: Apply. -/
namespace Go.Proofs.YtmgbgpendpiahaaDoor
open Go.RowKit

theorem Pg.make {w0 W : World} {g base : Nat} {c : Cf} {vn vj : Value} {s : St} (hb : Blk W g 63 (pgC c vn vj s)) (hg : w0.heap.size ≤ g) (ho : OwnSt base 48 52 W vn vj s) (hbase : w0.heap.size ≤ base)
    (hne : ∀ k, vn.ownBlock = some k ∨ vj.ownBlock = some k → k ≠ g) : Pg (fun k => w0.heap.size ≤ k ∧ k < W.heap.size) W g c vn vj s := by
  have own0 : ∀ {e : TypeId} {K n : Nat} {v : Value} {xs : List Value}, W.ownsRow base e K v n xs → W.ownsRow 0 e K v n xs := fun h => by
    refine ⟨h.1, ?_⟩
    rcases h.2 with hv | ⟨b, cap, cur, hv, _, r⟩
    · exact .inl hv
    · exact .inr ⟨b, cap, cur, hv, Nat.zero_le _, r⟩
  refine ⟨hb, ⟨hg, hb.lt⟩, fun k hk => hk.2, fun r hr => ?_, fun r hr e => ?_, ?_⟩
  · simp only [List.mem_cons, List.not_mem_nil, or_false] at hr
    rcases hr with rfl | rfl
    · exact ⟨own0 ho.nodes, fun k hk => ⟨Nat.le_trans hbase (ho.nodes.lt k hk).1, (ho.nodes.lt k hk).2⟩⟩
    · exact ⟨own0 ho.jobs, fun k hk => ⟨Nat.le_trans hbase (ho.jobs.lt k hk).1, (ho.jobs.lt k hk).2⟩⟩
  · simp only [List.mem_cons, List.not_mem_nil, or_false] at hr
    rcases hr with rfl | rfl
    · exact hne g (.inl e) rfl
    · exact hne g (.inr e) rfl
  · refine List.Pairwise.cons (fun r hr => ?_) (List.Pairwise.cons (fun r hr => by cases hr) List.Pairwise.nil)
    simp only [List.mem_cons, List.not_mem_nil, or_false] at hr
    subst hr
    exact ho.off

theorem results_cell_tmp_row {P : Program} {fn : Func} {p u : Tmp} {ty : TypeId} (h : fn.results = #[.cell p ty, .tmp u]) (tmps : Array Value) (w : World) (g : Nat) (t : TypeId) (cs : Array Value) (fr : Nat × Nat) (d : TypeDesc)
    (hp : tmps.getD p undef = .pointer (some ⟨g, 0, none⟩)) (hg : w.heap[g]? = some (.cells cs t fr))
    (hu : P.underlying ty = some d) (hd : (match d with | .struct _ | .array _ _ => true | _ => false) = true) (hi : (P.info? ty).map (·.size) = some cs.size) :
    (results fn tmps).run P w = .ok (.tuple #[.agg cs, tmps.getD u undef]) w := by
  have hp' : tmps[p]?.getD undef = .pointer (some ⟨g, 0, none⟩) := by simpa using hp
  rw [results_cell_tmp h]
  simp [hp', asAddr, run_loadVar_row w g t ty cs fr d hg hu hd hi]

theorem four_blocks (w : World) (t1 t2 t3 t4 : TypeId) (c1 c2 c3 c4 : Array Value) : ∃ W, W = (((w.alloc (.cells c1 t1)).alloc (.cells c2 t2)).alloc (.cells c3 t3)).alloc (.cells c4 t4) ∧ Ext w W ∧ Blk W w.heap.size t1 c1 ∧ Blk W (w.heap.size + 1) t2 c2 ∧ Blk W (w.heap.size + 2) t3 c3 ∧ Blk W (w.heap.size + 3) t4 c4 ∧ W.heap.size = w.heap.size + 4 := by
  refine ⟨_, rfl, ?_, ?_, ?_, ?_, ?_, by simp⟩
  · exact (ext3 w t1 t2 t3 c1 c2 c3).alloc (by simp; omega) _
  · exact (((Blk.new w t1 c1).alloc _).alloc _).alloc _
  · have := ((Blk.new (w.alloc (.cells c1 t1)) t2 c2).alloc (.cells c3 t3)).alloc (.cells c4 t4)
    have e : (w.alloc (.cells c1 t1)).heap.size = w.heap.size + 1 := by simp
    rw [e] at this
    exact this
  · have := (Blk.new ((w.alloc (.cells c1 t1)).alloc (.cells c2 t2)) t3 c3).alloc (.cells c4 t4)
    have e : ((w.alloc (.cells c1 t1)).alloc (.cells c2 t2)).heap.size = w.heap.size + 2 := by simp
    rw [e] at this
    exact this
  · have := Blk.new (((w.alloc (.cells c1 t1)).alloc (.cells c2 t2)).alloc (.cells c3 t3)) t4 c4
    have e : (((w.alloc (.cells c1 t1)).alloc (.cells c2 t2)).alloc (.cells c3 t3)).heap.size = w.heap.size + 3 := by simp
    rw [e] at this
    exact this

/-- A block is written, cell by cell. -/
structure PB (w0 : World) (g : Nat) (T : TypeId) (w : World) (cs : Array Value) : Prop where
  blk : Blk w g T cs
  same : ∀ k, k ≠ g → w.heap[k]? = w0.heap[k]?
  size : w.heap.size = w0.heap.size
  below : ∀ (B : Nat) (a : World), Below B a w0 → B ≤ g → Below B a w
theorem PB.start {w : World} {g : Nat} {T : TypeId} {cs : Array Value} (h : Blk w g T cs) : PB w g T w cs := ⟨h, fun _ _ => rfl, rfl, fun _ _ h _ => h⟩
theorem PB.set {w0 w : World} {g : Nat} {T : TypeId} {cs : Array Value} (h : PB w0 g T w cs) (i : Nat) (u : Value) : PB w0 g T (w.setCell ⟨g, i, none⟩ u) (cs.setIfInBounds i u) :=
  ⟨h.blk.set_ i u, fun k hk => (Below.heap_setCell _ _ _ _ hk).trans (h.same k hk), by simp [h.size], fun B a hb hg => Below.setCell (p := ⟨g, i, none⟩) (h.below B a hb hg) hg u⟩

theorem page_set {w : World} {g : Nat} (c : Cf) (vn vj : Value) (s : St) (hb : Blk w g 63 #[.int .i64 0, .int .i64 0, .int .i64 0, .int .i64 0, .int .i64 0, .int .i64 0, .int .i64 0, .int .i64 0, .int .i64 0, .slice none 0 0, .slice none 0 0, .int .i64 0, .int .i64 0, .int .i64 0, .int .i64 0]) :
    PB w g 63 (((((((((((((((w.setCell ⟨g, 0, none⟩ (.int .i64 c.nodes)).setCell ⟨g, 1, none⟩ (.int .i64 c.queues)).setCell ⟨g, 2, none⟩ (.int .i64 c.quota)).setCell ⟨g, 3, none⟩ (.int .i64 c.wave)).setCell ⟨g, 4, none⟩ (.int .i64 c.lease)).setCell ⟨g, 5, none⟩ (.int .i64 c.retry)).setCell ⟨g, 6, none⟩ (.int .i64 c.deadline)).setCell ⟨g, 7, none⟩ (.int .i64 c.room)).setCell ⟨g, 8, none⟩ (.int .i64 c.disk)).setCell ⟨g, 9, none⟩ (vn)).setCell ⟨g, 10, none⟩ (vj)).setCell ⟨g, 11, none⟩ (.int .i64 s.goal)).setCell ⟨g, 12, none⟩ (.int .i64 s.prior)).setCell ⟨g, 13, none⟩ (.int .i64 s.mode)).setCell ⟨g, 14, none⟩ (.int .i64 s.term)) (pgC c vn vj s) := by
  have h := PB.start hb
  replace h := h.set 0 (.int .i64 c.nodes)
  replace h := h.set 1 (.int .i64 c.queues)
  replace h := h.set 2 (.int .i64 c.quota)
  replace h := h.set 3 (.int .i64 c.wave)
  replace h := h.set 4 (.int .i64 c.lease)
  replace h := h.set 5 (.int .i64 c.retry)
  replace h := h.set 6 (.int .i64 c.deadline)
  replace h := h.set 7 (.int .i64 c.room)
  replace h := h.set 8 (.int .i64 c.disk)
  replace h := h.set 9 (vn)
  replace h := h.set 10 (vj)
  replace h := h.set 11 (.int .i64 s.goal)
  replace h := h.set 12 (.int .i64 s.prior)
  replace h := h.set 13 (.int .i64 s.mode)
  replace h := h.set 14 (.int .i64 s.term)
  simp only [List.setIfInBounds_toArray, List.set_cons_zero, List.set_cons_succ] at h
  exact h

end Go.Proofs.YtmgbgpendpiahaaDoor

/- Package book: New. -/
namespace Go.Proofs.YtmgbgpendpiahaaDoor
open Go.RowKit

def zeroN : Nd := ⟨false, false, false, 0, 0⟩
/-- A fleet's first state, or a zero one. -/
def newSt (c : Cf) : St := if mayC c = true then newS c.nodes.toNat else zeroS
/-- k nodes are made. -/
def newK (n k : Nat) : List Nd := List.replicate k newN ++ List.replicate (n - k) zeroN
theorem newK_len {n k : Nat} (h : k ≤ n) : (newK n k).length = n := by unfold newK; simp; omega
theorem newK_get {n k : Nat} (h : k < n) : (newK n k)[k]? = some zeroN := by
  unfold newK
  rw [List.getElem?_append_right (by simp), List.length_replicate, Nat.sub_self, List.getElem?_replicate, if_pos (by omega)]
theorem newK_set {n k : Nat} (h : k < n) : (newK n k).set k newN = newK n (k + 1) := by
  unfold newK
  rw [List.set_append_right _ _ (by simp)]
  obtain ⟨m, hm⟩ : ∃ m, n - k = m + 1 := ⟨n - k - 1, by omega⟩
  have e2 : n - (k + 1) = m := by omega
  rw [hm, e2, List.length_replicate, Nat.sub_self, List.replicate_succ, List.set_cons_zero, List.replicate_succ', List.append_assoc]
  rfl
theorem newK_all (n : Nat) : newK n n = List.replicate n newN := by unfold newK; simp
theorem newK_zero (n : Nat) : newK n 0 = List.replicate n zeroN := by unfold newK; simp

theorem row_step {w : World} {base g n cap i : Nat} {e : TypeId} {l : List Nd} {x : Nd} (h : w.ownsRow base e 5 (.slice (some ⟨g, 0, none⟩) n cap) n (nodesC (l.set i x))) (hl : i < l.length) (y : Nd) (j : Nat) (hj : j < 5) (u : Value) (hy : y.cells = x.cells.set j u) :
    (w.setCell ⟨g, i * 5 + j, none⟩ u).ownsRow base e 5 (.slice (some ⟨g, 0, none⟩) n cap) n (nodesC (l.set i y)) := by
  have h1 := (h.stored (i * 5 + j) u).1
  have hx : (l.set i x)[i]? = some x := List.getElem?_set_self hl
  have e1 : nodesC ((l.set i x).set i y) = (nodesC (l.set i x)).set (i * 5 + j) u := flat_set Nd.len hx j hj u hy
  rw [← e1, List.set_set] at h1
  exact h1
/-- A node of an own row is written whole. -/
theorem row_node {w : World} {base g n cap i : Nat} {e : TypeId} {l : List Nd} {x : Nd} (h : w.ownsRow base e 5 (.slice (some ⟨g, 0, none⟩) n cap) n (nodesC l)) (hi : l[i]? = some x) (y : Nd) :
    (((((w.setCell ⟨g, i * 5, none⟩ (.bool y.up)).setCell ⟨g, i * 5 + 1, none⟩ (.bool y.cordon)).setCell ⟨g, i * 5 + 2, none⟩ (.bool y.moving)).setCell ⟨g, i * 5 + 3, none⟩ (.int .i64 y.version)).setCell ⟨g, i * 5 + 4, none⟩ (.int .i64 y.job)).ownsRow base e 5 (.slice (some ⟨g, 0, none⟩) n cap) n (nodesC (l.set i y)) := by
  obtain ⟨hl, hx⟩ := List.getElem?_eq_some_iff.1 hi
  have hs : l.set i x = l := by rw [← hx]; exact List.set_getElem_self hl
  rw [← hs] at h
  have h1 := row_step h hl { x with up := y.up } 0 (by omega) (.bool y.up) rfl
  have h2 := row_step h1 hl { x with up := y.up, cordon := y.cordon } 1 (by omega) (.bool y.cordon) rfl
  have h3 := row_step h2 hl { x with up := y.up, cordon := y.cordon, moving := y.moving } 2 (by omega) (.bool y.moving) rfl
  have h4 := row_step h3 hl { x with up := y.up, cordon := y.cordon, moving := y.moving, version := y.version } 3 (by omega) (.int .i64 y.version) rfl
  exact row_step h4 hl y 4 (by omega) (.int .i64 y.job) rfl

theorem made_nodes (n : Nat) : (madeCells (Value.agg #[.bool false, .bool false, .bool false, .int .i64 0, .int .i64 0]).cells (n * 5)).toList = nodesC (List.replicate n zeroN) := by
  apply List.ext_getElem?
  intro j
  by_cases hj : j < n * 5
  · have h1 : (madeCells (Value.agg #[.bool false, .bool false, .bool false, .int .i64 0, .int .i64 0]).cells (n * 5)).toList[j]? = (zeroN.cells)[j % 5]? := by
      simp [madeCells, hj, Value.cells, zeroN, Nd.cells]
      rcases (show j % 5 = 0 ∨ j % 5 = 1 ∨ j % 5 = 2 ∨ j % 5 = 3 ∨ j % 5 = 4 by omega) with h | h | h | h | h <;> rw [h] <;> rfl
    rw [h1]
    have hq : j / 5 < n := by omega
    have := flat_get (f := Nd.cells) Nd.len (l := List.replicate n zeroN) (i := j / 5) (x := zeroN) (by rw [List.getElem?_replicate, if_pos hq]) (j % 5) (by omega)
    unfold nodesC
    rw [← this]
    congr 1
    omega
  · rw [List.getElem?_eq_none (by simp [madeCells]; omega), List.getElem?_eq_none (by unfold nodesC; rw [flat_len Nd.len, List.length_replicate]; omega)]

set_option maxRecDepth 100000 in
set_option maxHeartbeats 4000000 in
theorem New_any (c : Cf) (w : World) :
    Calls Tryd.prog 16 #[cfV c] w fun e w' => ∃ vn vj, e = .returned (stV vn vj (newSt c)) ∧ RdSt w' vn vj (newSt c) ∧ Ext w w' ∧ ∀ k, vn.ownBlock = some k ∨ vj.ownBlock = some k → w.heap.size ≤ k := by
  have HM := Lib.hid fun w' => May_any c w'
  obtain ⟨W2, hW2⟩ : ∃ W2, W2 = (w.alloc (.cells #[.int .i64 c.nodes, .int .i64 c.queues, .int .i64 c.quota, .int .i64 c.wave, .int .i64 c.lease, .int .i64 c.retry, .int .i64 c.deadline, .int .i64 c.room, .int .i64 c.disk] 23)).alloc (.cells #[.slice none 0 0, .slice none 0 0, .int .i64 0, .int .i64 0, .int .i64 0, .int .i64 0] 27) := ⟨_, rfl⟩
  have hx : Ext w W2 := by rw [hW2]; exact ext2 w _ _ _ _
  have hb0 : Blk W2 w.heap.size 23 #[.int .i64 c.nodes, .int .i64 c.queues, .int .i64 c.quota, .int .i64 c.wave, .int .i64 c.lease, .int .i64 c.retry, .int .i64 c.deadline, .int .i64 c.room, .int .i64 c.disk] := by rw [hW2]; exact (Blk.new w _ _).alloc _
  have hb1 : Blk W2 (w.heap.size + 1) 27 #[.slice none 0 0, .slice none 0 0, .int .i64 0, .int .i64 0, .int .i64 0, .int .i64 0] := by rw [hW2]; exact blk_second w _ _ _ _
  have HX := Lib.hid hx
  have HB0 := Lib.hid hb0
  have HB1 := Lib.hid hb1
  unfold cfV at HM
  unfold cfV
  clear hx hb0 hb1
  go_enter Tryd.func16, Tryd.ntmps16
  go_wp2_with fail
  rw [← hW2]
  clear hW2
  refine (HM.out _).mono ?_
  rintro e1 w1 ⟨rfl, hx1⟩
  have HXW := Lib.hid (HX.out.trans hx1)
  have HC0 := Lib.hid (HB0.out.ext hx1)
  have HC1 := Lib.hid (HB1.out.ext hx1)
  clear hx1
  have k0 : w1.cell? ⟨w.heap.size, 0, none⟩ = some (.int .i64 c.nodes) := HC0.out.cell 0
  have r0 : w1.cell? ⟨w.heap.size + 1, 0, none⟩ = some (.slice none 0 0) := HC1.out.cell 0
  have r1 : w1.cell? ⟨w.heap.size + 1, 1, none⟩ = some (.slice none 0 0) := HC1.out.cell 1
  have r2 : w1.cell? ⟨w.heap.size + 1, 2, none⟩ = some (.int .i64 0) := HC1.out.cell 2
  have r3 : w1.cell? ⟨w.heap.size + 1, 3, none⟩ = some (.int .i64 0) := HC1.out.cell 3
  have r4 : w1.cell? ⟨w.heap.size + 1, 4, none⟩ = some (.int .i64 0) := HC1.out.cell 4
  have r5 : w1.cell? ⟨w.heap.size + 1, 5, none⟩ = some (.int .i64 0) := HC1.out.cell 5
  have g0 : w1.frozen? ⟨w.heap.size + 1, 0, none⟩ = false := HC1.out.frozen 0
  have g1 : w1.frozen? ⟨w.heap.size + 1, 1, none⟩ = false := HC1.out.frozen 1
  have g2 : w1.frozen? ⟨w.heap.size + 1, 2, none⟩ = false := HC1.out.frozen 2
  have g3 : w1.frozen? ⟨w.heap.size + 1, 3, none⟩ = false := HC1.out.frozen 3
  have g4 : w1.frozen? ⟨w.heap.size + 1, 4, none⟩ = false := HC1.out.frozen 4
  have g5 : w1.frozen? ⟨w.heap.size + 1, 5, none⟩ = false := HC1.out.frozen 5
  cases hm : mayC c
  · have hnew : newSt c = zeroS := by rw [newSt, if_neg (by rw [hm]; simp)]
    have HN := Lib.hid hnew
    clear hnew
    go_wp2
    have hq := (((((PB.start HC1.out).set 0 (.slice none 0 0)).set 1 (.slice none 0 0)).set 2 (.int .i64 0)).set 3 (.int .i64 0)).set 4 (.int .i64 0)
    replace hq := hq.set 5 (.int .i64 0)
    simp only [List.setIfInBounds_toArray, List.set_cons_zero, List.set_cons_succ] at hq
    rw [HN.out]
    exact bodyPost_ret (results_cell_row rfl _ _ (w.heap.size + 1) 27 _ (0, 0) _ rfl hq.blk rfl rfl (by kernel_rfl)) rfl ⟨.slice none 0 0, .slice none 0 0, rfl, ⟨RdS.own (World.ownsRow_nil _ 0 48 5), RdS.own (World.ownsRow_nil _ 0 52 12)⟩, hq.below _ _ HXW.out (Nat.le_succ _), fun k hk => by rcases hk with hk | hk <;> cases hk⟩
  have hm2 : 1 ≤ c.nodes ∧ c.nodes ≤ 6 := by
    simp only [mayC, Bool.and_eq_true, inR_iff] at hm
    exact ⟨by omega, by omega⟩
  obtain ⟨n, hn⟩ : ∃ n : Nat, c.nodes = (n : Int) := ⟨c.nodes.toNat, by omega⟩
  have hnew : newSt c = newS n := by rw [newSt, if_pos hm, hn]; rfl
  have HN := Lib.hid hnew
  have hn6 : n ≤ 6 := by omega
  rw [hn] at k0
  obtain ⟨i0, hi, hz0, hz1, hz2⟩ := info_parts Tryd.infoNode
  have HI := Lib.hid hi
  have HZ0 := Lib.hid hz0
  have HZ1 := Lib.hid hz1
  have hby : i0.bytes * n ≤ 281474976710656 := by rw [hz2]; omega
  clear hnew hm2 hn hi hz0 hz1 hz2
  go_wp2_with (refine wpList_make_full _ rfl (.tmp 10) (.tmp 10) 24 rfl w1.heap.size 48 i0 _ 5 Tryd.underlying24 HI.out HZ0.out HZ1.out .i64 .i64 _ _ n rfl rfl rfl rfl hby (by unfold maxLen; omega) (Nat.le_refl _) ?_
               intro w3 ho3 hg3)
  rw [made_nodes] at ho3
  have hx3 : Ext w1 w3 := (Below.refl _ _).grown hg3 (Nat.le_refl _) (fun k hk => by cases hk)
  have hl3 : w1.heap.size < w3.heap.size := (ho3.lt w1.heap.size rfl).2
  have HX3 := Lib.hid hx3
  have HO3 := Lib.hid ho3
  clear ho3 hg3 hx3 k0 r0 r1 r2 r3 r4 r5 g0 g1 g2 g3 g4 g5
  go_loopg [16] n (fun gg i wr => ∃ q : Nat, i = .int .i64 q ∧ q ≤ n ∧ gg = n - q ∧ Hid (Ext w1 wr ∧ Blk wr w3.heap.size 27 #[.slice (some ⟨w1.heap.size, 0, none⟩) n n, .slice none 0 0, .int .i64 1, .int .i64 1, .int .i64 0, .int .i64 0] ∧ wr.ownsRow w1.heap.size 48 5 (.slice (some ⟨w1.heap.size, 0, none⟩) n n) n (nodesC (newK n q))))
  case atStart => exact ⟨0, rfl, Nat.zero_le _, by omega, Lib.hid ⟨Below.alloc HX3.out (by omega) _, Blk.new _ _ _, by rw [newK_zero]; exact HO3.out.alloc _⟩⟩
  case round =>
    obtain ⟨q, rfl, hq, rfl, HR⟩ := hrel
    have s0 : wr.cell? ⟨w3.heap.size, 0, none⟩ = some (.slice (some ⟨w1.heap.size, 0, none⟩) n n) := HR.out.2.1.cell 0
    by_cases hlt : q < n
    · have d1 : decide ((q : Int) < (n : Int)) = true := decide_eq_true (by omega)
      have d1' : decide (q < n) = true := decide_eq_true hlt
      have hgt := newK_get hlt
      have hlq := newK_len hq
      have hat : NdAt wr w1.heap.size (q * 5) zeroN := NdAt.of fun j u hu => by
        have hj : j < 5 := (List.getElem?_eq_some_iff.1 hu).1
        rw [HR.out.2.2.cellAt _ (by omega)]
        exact (flat_get Nd.len hgt j hj).trans hu
      obtain ⟨c0, c1, c2, c3, c4⟩ := hat
      have f0 := HR.out.2.2.frozenAt (q * 5)
      have f1 := HR.out.2.2.frozenAt (q * 5 + 1)
      have f2 := HR.out.2.2.frozenAt (q * 5 + 2)
      have f3 := HR.out.2.2.frozenAt (q * 5 + 3)
      have f4 := HR.out.2.2.frozenAt (q * 5 + 4)
      have HLT := Lib.hid hlt
      have HNEW := Lib.hid (row_node HR.out.2.2 hgt newN)
      rw [newK_set hlt] at HNEW
      have hne : w3.heap.size ≠ w1.heap.size := by omega
      have HPB := Lib.hid ((((((HR.out.2.1.far (p := ⟨w1.heap.size, q * 5, none⟩) hne (.bool true)).far (p := ⟨w1.heap.size, q * 5 + 1, none⟩) hne (.bool false)).far (p := ⟨w1.heap.size, q * 5 + 2, none⟩) hne (.bool false)).far (p := ⟨w1.heap.size, q * 5 + 3, none⟩) hne (.int .i64 1)).far (p := ⟨w1.heap.size, q * 5 + 4, none⟩) hne (.int .i64 0)))
      have HXR := Lib.hid (Below.setCell (p := ⟨w1.heap.size, q * 5 + 4, none⟩) (Below.setCell (p := ⟨w1.heap.size, q * 5 + 3, none⟩) (Below.setCell (p := ⟨w1.heap.size, q * 5 + 2, none⟩) (Below.setCell (p := ⟨w1.heap.size, q * 5 + 1, none⟩) (Below.setCell (p := ⟨w1.heap.size, q * 5, none⟩) HR.out.1 (Nat.le_refl _) (.bool true)) (Nat.le_refl _) (.bool false)) (Nat.le_refl _) (.bool false)) (Nat.le_refl _) (.int .i64 1)) (Nat.le_refl _) (.int .i64 0))
      clear hgt hlq
      go_wp2
      go_roundg (n - (q + 1))
      case measure => have := HLT.out; omega
      case rel => exact ⟨q + 1, by go_num, HLT.out, rfl, Lib.hid ⟨HXR.out, HPB.out, HNEW.out⟩⟩
    · have d1 : decide ((q : Int) < (n : Int)) = false := decide_eq_false (by omega)
      have d1' : decide (q < n) = false := decide_eq_false hlt
      obtain rfl : q = n := by omega
      have s1 : wr.cell? ⟨w3.heap.size, 1, none⟩ = some (.slice none 0 0) := HR.out.2.1.cell 1
      have s2 : wr.cell? ⟨w3.heap.size, 2, none⟩ = some (.int .i64 1) := HR.out.2.1.cell 2
      have s3 : wr.cell? ⟨w3.heap.size, 3, none⟩ = some (.int .i64 1) := HR.out.2.1.cell 3
      have s4 : wr.cell? ⟨w3.heap.size, 4, none⟩ = some (.int .i64 0) := HR.out.2.1.cell 4
      have s5 : wr.cell? ⟨w3.heap.size, 5, none⟩ = some (.int .i64 0) := HR.out.2.1.cell 5
      have HC1r := Lib.hid (HC1.out.ext HR.out.1)
      have r0 : wr.cell? ⟨w.heap.size + 1, 0, none⟩ = some (.slice none 0 0) := HC1r.out.cell 0
      have r1 : wr.cell? ⟨w.heap.size + 1, 1, none⟩ = some (.slice none 0 0) := HC1r.out.cell 1
      have r2 : wr.cell? ⟨w.heap.size + 1, 2, none⟩ = some (.int .i64 0) := HC1r.out.cell 2
      have r3 : wr.cell? ⟨w.heap.size + 1, 3, none⟩ = some (.int .i64 0) := HC1r.out.cell 3
      have r4 : wr.cell? ⟨w.heap.size + 1, 4, none⟩ = some (.int .i64 0) := HC1r.out.cell 4
      have r5 : wr.cell? ⟨w.heap.size + 1, 5, none⟩ = some (.int .i64 0) := HC1r.out.cell 5
      have g0 : wr.frozen? ⟨w.heap.size + 1, 0, none⟩ = false := HC1r.out.frozen 0
      have g1 : wr.frozen? ⟨w.heap.size + 1, 1, none⟩ = false := HC1r.out.frozen 1
      have g2 : wr.frozen? ⟨w.heap.size + 1, 2, none⟩ = false := HC1r.out.frozen 2
      have g3 : wr.frozen? ⟨w.heap.size + 1, 3, none⟩ = false := HC1r.out.frozen 3
      have g4 : wr.frozen? ⟨w.heap.size + 1, 4, none⟩ = false := HC1r.out.frozen 4
      have g5 : wr.frozen? ⟨w.heap.size + 1, 5, none⟩ = false := HC1r.out.frozen 5
      have hl1 : w.heap.size + 1 < w1.heap.size := HC1.out.lt
      go_wp2
      have hq' := (((((PB.start HC1r.out).set 0 (.slice (some ⟨w1.heap.size, 0, none⟩) q q)).set 1 (.slice none 0 0)).set 2 (.int .i64 1)).set 3 (.int .i64 1)).set 4 (.int .i64 0)
      replace hq' := hq'.set 5 (.int .i64 0)
      simp only [List.setIfInBounds_toArray, List.set_cons_zero, List.set_cons_succ] at hq'
      have hrow := HR.out.2.2
      rw [newK_all] at hrow
      rw [HN.out]
      refine bodyPost_ret (results_cell_row rfl _ _ (w.heap.size + 1) 27 _ (0, 0) _ rfl hq'.blk rfl rfl (by kernel_rfl)) rfl ⟨.slice (some ⟨w1.heap.size, 0, none⟩) q q, .slice none 0 0, rfl, ⟨?_, RdS.own (World.ownsRow_nil _ 0 52 12)⟩, hq'.below _ _ (HXW.out.trans HR.out.1) (Nat.le_succ _), fun k hk => ?_⟩
      rotate_left
      · have := HXW.out.size
        rcases hk with hk | hk
        · cases hk
          exact this
        · cases hk
      have hown := own_at hrow (w' := _) (fun k hk => hq'.same k (by cases hk; show w1.heap.size ≠ w.heap.size + 1; omega))
      have := RdS.own hown
      unfold RdNd
      rw [show (newS q).nodes = List.replicate q newN from rfl, List.length_replicate]
      exact this

end Go.Proofs.YtmgbgpendpiahaaDoor

/- The reference of layer 9: New. -/
namespace Go.Proofs.YtmgbgpendpiahaaDoor
open Go.RowKit

theorem blk_three (w : World) (t1 t2 t3 : TypeId) (c1 c2 c3 : Array Value) : ∃ W, W = ((w.alloc (.cells c1 t1)).alloc (.cells c2 t2)).alloc (.cells c3 t3) ∧ Ext w W ∧ Blk W w.heap.size t1 c1 ∧ Blk W (w.heap.size + 1) t2 c2 ∧ Blk W (w.heap.size + 2) t3 c3 ∧ W.heap.size = w.heap.size + 3 := by
  refine ⟨_, rfl, ext3 w t1 t2 t3 c1 c2 c3, ((Blk.new w t1 c1).alloc _).alloc _, ?_, ?_, by simp⟩
  · have := (Blk.new (w.alloc (.cells c1 t1)) t2 c2).alloc (.cells c3 t3)
    have e : (w.alloc (.cells c1 t1)).heap.size = w.heap.size + 1 := by simp
    rw [e] at this
    exact this
  · have := Blk.new ((w.alloc (.cells c1 t1)).alloc (.cells c2 t2)) t3 c3
    have e : ((w.alloc (.cells c1 t1)).alloc (.cells c2 t2)).heap.size = w.heap.size + 2 := by simp
    rw [e] at this
    exact this
theorem grown_blk {w w' : World} {row : Option Nat} {g : Nat} {T : TypeId} {cs : Array Value} (h : w.grownBy w' row) (hb : Blk w g T cs) (hne : some g ≠ row) : Blk w' g T cs := (h.block g hb.lt hne).trans hb

/-- Behind k nodes. -/
structure RnR (w : World) (c : Cf) (q : Nat) (wr : World) : Prop where
  out : ∃ v, Below w.heap.size w wr ∧ Blk wr w.heap.size 23 #[.int .i64 c.nodes, .int .i64 c.queues, .int .i64 c.quota, .int .i64 c.wave, .int .i64 c.lease, .int .i64 c.retry, .int .i64 c.deadline, .int .i64 c.room, .int .i64 c.disk] ∧
    Blk wr (w.heap.size + 1) 27 #[.slice none 0 0, .slice none 0 0, .int .i64 0, .int .i64 0, .int .i64 0, .int .i64 0] ∧ Blk wr (w.heap.size + 2) 27 #[v, .slice none 0 0, .int .i64 0, .int .i64 0, .int .i64 0, .int .i64 0] ∧
    wr.ownsRow (w.heap.size + 3) 48 5 v q (nodesC (List.replicate q newN)) ∧ w.heap.size + 3 ≤ wr.heap.size

set_option maxRecDepth 100000 in
set_option maxHeartbeats 4000000 in
theorem RefNew_any (c : Cf) (w : World) :
    Calls Tryd.prog 17 #[cfV c] w fun e w' => ∃ vn vj, e = .returned (stV vn vj (newSt c)) ∧ RdSt w' vn vj (newSt c) ∧ Ext w w' ∧ ∀ k, vn.ownBlock = some k ∨ vj.ownBlock = some k → w.heap.size ≤ k := by
  have HM := Lib.hid fun w' => RefMay_any c w'
  obtain ⟨W3, hW3, hx, hb0, hb1, hb2, hs⟩ := blk_three w 23 27 27 #[.int .i64 c.nodes, .int .i64 c.queues, .int .i64 c.quota, .int .i64 c.wave, .int .i64 c.lease, .int .i64 c.retry, .int .i64 c.deadline, .int .i64 c.room, .int .i64 c.disk] #[.slice none 0 0, .slice none 0 0, .int .i64 0, .int .i64 0, .int .i64 0, .int .i64 0] #[.slice none 0 0, .slice none 0 0, .int .i64 0, .int .i64 0, .int .i64 0, .int .i64 0]
  have HX := Lib.hid hx
  have HB0 := Lib.hid hb0
  have HB1 := Lib.hid hb1
  have HB2 := Lib.hid hb2
  have HS := Lib.hid hs
  unfold cfV at HM
  unfold cfV
  clear hx hb0 hb1 hb2 hs
  go_enter Tryd.func17, Tryd.ntmps17
  go_upto_region 2 with (fail)
  rw [← hW3]
  clear hW3
  have k0 : W3.cell? ⟨w.heap.size, 0, none⟩ = some (.int .i64 c.nodes) := HB0.out.cell 0
  have k1 : W3.cell? ⟨w.heap.size, 1, none⟩ = some (.int .i64 c.queues) := HB0.out.cell 1
  have k2 : W3.cell? ⟨w.heap.size, 2, none⟩ = some (.int .i64 c.quota) := HB0.out.cell 2
  have k3 : W3.cell? ⟨w.heap.size, 3, none⟩ = some (.int .i64 c.wave) := HB0.out.cell 3
  have k4 : W3.cell? ⟨w.heap.size, 4, none⟩ = some (.int .i64 c.lease) := HB0.out.cell 4
  have k5 : W3.cell? ⟨w.heap.size, 5, none⟩ = some (.int .i64 c.retry) := HB0.out.cell 5
  have k6 : W3.cell? ⟨w.heap.size, 6, none⟩ = some (.int .i64 c.deadline) := HB0.out.cell 6
  have k7 : W3.cell? ⟨w.heap.size, 7, none⟩ = some (.int .i64 c.room) := HB0.out.cell 7
  have k8 : W3.cell? ⟨w.heap.size, 8, none⟩ = some (.int .i64 c.disk) := HB0.out.cell 8
  go_wp2_with fail
  refine (HM.out _).mono ?_
  rintro e1 w1 ⟨rfl, hx1⟩
  have HXW := Lib.hid (HX.out.trans hx1)
  have HC0 := Lib.hid (HB0.out.ext hx1)
  have HC1 := Lib.hid (HB1.out.ext hx1)
  have HC2 := Lib.hid (HB2.out.ext hx1)
  have HSZ : Hid (w.heap.size + 3 ≤ w1.heap.size) := Lib.hid (by have := HS.out; have := hx1.size; omega)
  clear hx1 k0 k1 k2 k3 k4 k5 k6 k7 k8 HX HB0 HB1 HB2 HS
  cases hm : mayC c
  · have hnew : newSt c = zeroS := by rw [newSt, if_neg (by rw [hm]; simp)]
    have HN := Lib.hid hnew
    clear hnew
    have r0 : w1.cell? ⟨w.heap.size + 1, 0, none⟩ = some (.slice none 0 0) := HC1.out.cell 0
    have r1 : w1.cell? ⟨w.heap.size + 1, 1, none⟩ = some (.slice none 0 0) := HC1.out.cell 1
    have r2 : w1.cell? ⟨w.heap.size + 1, 2, none⟩ = some (.int .i64 0) := HC1.out.cell 2
    have r3 : w1.cell? ⟨w.heap.size + 1, 3, none⟩ = some (.int .i64 0) := HC1.out.cell 3
    have r4 : w1.cell? ⟨w.heap.size + 1, 4, none⟩ = some (.int .i64 0) := HC1.out.cell 4
    have r5 : w1.cell? ⟨w.heap.size + 1, 5, none⟩ = some (.int .i64 0) := HC1.out.cell 5
    have g0 : w1.frozen? ⟨w.heap.size + 1, 0, none⟩ = false := HC1.out.frozen 0
    have g1 : w1.frozen? ⟨w.heap.size + 1, 1, none⟩ = false := HC1.out.frozen 1
    have g2 : w1.frozen? ⟨w.heap.size + 1, 2, none⟩ = false := HC1.out.frozen 2
    have g3 : w1.frozen? ⟨w.heap.size + 1, 3, none⟩ = false := HC1.out.frozen 3
    have g4 : w1.frozen? ⟨w.heap.size + 1, 4, none⟩ = false := HC1.out.frozen 4
    have g5 : w1.frozen? ⟨w.heap.size + 1, 5, none⟩ = false := HC1.out.frozen 5
    have p0 : w1.cell? ⟨w.heap.size + 2, 0, none⟩ = some (.slice none 0 0) := HC2.out.cell 0
    have p1 : w1.cell? ⟨w.heap.size + 2, 1, none⟩ = some (.slice none 0 0) := HC2.out.cell 1
    have p2 : w1.cell? ⟨w.heap.size + 2, 2, none⟩ = some (.int .i64 0) := HC2.out.cell 2
    have p3 : w1.cell? ⟨w.heap.size + 2, 3, none⟩ = some (.int .i64 0) := HC2.out.cell 3
    have p4 : w1.cell? ⟨w.heap.size + 2, 4, none⟩ = some (.int .i64 0) := HC2.out.cell 4
    have p5 : w1.cell? ⟨w.heap.size + 2, 5, none⟩ = some (.int .i64 0) := HC2.out.cell 5
    go_wp2
    have hq := (((((PB.start HC1.out).set 0 (.slice none 0 0)).set 1 (.slice none 0 0)).set 2 (.int .i64 0)).set 3 (.int .i64 0)).set 4 (.int .i64 0)
    replace hq := hq.set 5 (.int .i64 0)
    simp only [List.setIfInBounds_toArray, List.set_cons_zero, List.set_cons_succ] at hq
    rw [HN.out]
    exact bodyPost_ret (results_cell_row rfl _ _ (w.heap.size + 1) 27 _ (0, 0) _ rfl hq.blk rfl rfl (by kernel_rfl)) rfl ⟨.slice none 0 0, .slice none 0 0, rfl, ⟨RdS.own (World.ownsRow_nil _ 0 48 5), RdS.own (World.ownsRow_nil _ 0 52 12)⟩, hq.below _ _ HXW.out (Nat.le_succ _), fun k hk => by rcases hk with hk | hk <;> cases hk⟩
  have hm2 : 1 ≤ c.nodes ∧ c.nodes ≤ 6 := by
    simp only [mayC, Bool.and_eq_true, inR_iff] at hm
    exact ⟨by omega, by omega⟩
  obtain ⟨n, hn⟩ : ∃ n : Nat, c.nodes = (n : Int) := ⟨c.nodes.toNat, by omega⟩
  have hnew : newSt c = newS n := by rw [newSt, if_pos hm, hn]; rfl
  have HN := Lib.hid hnew
  have HCN := Lib.hid hn
  have hn6 : n ≤ 6 := by omega
  have HR0 : Hid (RnR w c 0 w1) := Lib.hid ⟨.slice none 0 0, HXW.out, HC0.out, HC1.out, HC2.out, World.ownsRow_nil _ _ _ _, HSZ.out⟩
  clear hnew hm2 hn HXW HC0 HC1 HC2 HSZ HM
  go_wp2_with fail
  go_loopg [4] n (fun gg i wr => ∃ q : Nat, i = .int .i64 q ∧ q ≤ n ∧ gg = n - q ∧ Hid (RnR w c q wr))
  case atStart => exact ⟨0, rfl, Nat.zero_le _, by omega, HR0⟩
  case round =>
    obtain ⟨q, rfl, hq, rfl, HR⟩ := hrel
    clear HR0
    obtain ⟨v, hx, hb0, hb1, hb2, hrow, hsz⟩ := HR.out.out
    obtain ⟨A1, k1, rfl⟩ := own_slice hrow
    have k0 : wr.cell? ⟨w.heap.size, 0, none⟩ = some (.int .i64 n) := by rw [← HCN.out]; exact hb0.cell 0
    have p0 : wr.cell? ⟨w.heap.size + 2, 0, none⟩ = some (.slice A1 q k1) := hb2.cell 0
    have f0 : wr.frozen? ⟨w.heap.size + 2, 0, none⟩ = false := hb2.frozen 0
    have HX := Lib.hid hx
    have HB0 := Lib.hid hb0
    have HB1 := Lib.hid hb1
    have HB2 := Lib.hid hb2
    have HRW := Lib.hid hrow
    have HSZ := Lib.hid hsz
    clear hx hb0 hb1 hb2 hrow hsz HR
    by_cases hlt : q < n
    · have d1 : decide ((q : Int) < (n : Int)) = true := decide_eq_true (by omega)
      have d1' : decide (q < n) = true := decide_eq_true hlt
      have HLT := Lib.hid hlt
      have HQM : Hid (q + 1 ≤ maxLen) := Lib.hid (by unfold maxLen; omega)
      have HQB : Hid ((q + 1) * 24 ≤ 140737488355328) := Lib.hid (by omega)
      clear hlt
      go_wp2_with (at_builtin; refine wpList_pushN rfl (.tmp 16) (.tmp 18) 24 rfl (w.heap.size + 3) 48 _ 5 24 Tryd.underlying24 Tryd.infoNode rfl (by decide) (.slice A1 q k1) q _ HRW.out rfl #[.bool true, .bool false, .bool false, .int .i64 1, .int .i64 0] rfl (by simp [Value.oneCell']) rfl rfl HQM.out HQB.out HSZ.out ?_; intro v' w' hg; have hgs := hg.2.1.size; have pb := grown_blk hg.2.1 HB2.out (fun e => by have := (HRW.out.lt _ e.symm).1; omega); have p0' : w'.cell? ⟨w.heap.size + 2, 0, none⟩ = some (.slice A1 q k1) := pb.cell 0; have f0' : w'.frozen? ⟨w.heap.size + 2, 0, none⟩ = false := pb.frozen 0; obtain ⟨A2, k2, rfl⟩ := own_slice hg.1)
      have hb0' := grown_blk hg.2.1 HB0.out (fun e => by have := (HRW.out.lt _ e.symm).1; omega)
      have hb1' := grown_blk hg.2.1 HB1.out (fun e => by have := (HRW.out.lt _ e.symm).1; omega)
      have hx' : Below w.heap.size w w' := HX.out.grown hg.2.1 (HX.out.size) (fun k e => by have := (HRW.out.lt _ e).1; omega)
      have hrow' := hg.1
      rw [show nodesC (List.replicate q newN) ++ (#[Value.bool true, .bool false, .bool false, .int .i64 1, .int .i64 0] : Array Value).toList = nodesC (List.replicate (q + 1) newN) by rw [List.replicate_succ']; simp [nodesC, List.flatMap_append, newN, Nd.cells]] at hrow'
      have HRN : Hid (RnR w c (q + 1) (w'.setCell ⟨w.heap.size + 2, 0, none⟩ (.slice A2 (q + 1) k2))) := Lib.hid ⟨.slice A2 (q + 1) k2, Below.setCell hx' (by show w.heap.size ≤ w.heap.size + 2; omega) _, hb0'.far (by show w.heap.size ≠ w.heap.size + 2; omega) _, hb1'.far (by show w.heap.size + 1 ≠ w.heap.size + 2; omega) _, pb.set_ 0 (.slice A2 (q + 1) k2), own_at hrow' (fun k hk => Below.heap_setCell _ _ _ _ (by have := (hrow'.lt k hk).1; show k ≠ w.heap.size + 2; omega)), by have := HSZ.out; simp; omega⟩
      clear hb0' hb1' hx' hrow' pb p0' f0' hg hgs
      go_roundg (n - (q + 1))
      case measure => have := HLT.out; omega
      case rel => exact ⟨q + 1, by go_num, HLT.out, rfl, HRN⟩
    · have d1 : decide ((q : Int) < (n : Int)) = false := decide_eq_false (by omega)
      have d1' : decide (q < n) = false := decide_eq_false hlt
      obtain rfl : q = n := by omega
      have p1 : wr.cell? ⟨w.heap.size + 2, 1, none⟩ = some (.slice none 0 0) := HB2.out.cell 1
      have p2 : wr.cell? ⟨w.heap.size + 2, 2, none⟩ = some (.int .i64 0) := HB2.out.cell 2
      have p3 : wr.cell? ⟨w.heap.size + 2, 3, none⟩ = some (.int .i64 0) := HB2.out.cell 3
      have p4 : wr.cell? ⟨w.heap.size + 2, 4, none⟩ = some (.int .i64 0) := HB2.out.cell 4
      have p5 : wr.cell? ⟨w.heap.size + 2, 5, none⟩ = some (.int .i64 0) := HB2.out.cell 5
      have f2 : wr.frozen? ⟨w.heap.size + 2, 2, none⟩ = false := HB2.out.frozen 2
      have f3 : wr.frozen? ⟨w.heap.size + 2, 3, none⟩ = false := HB2.out.frozen 3
      have r0 : wr.cell? ⟨w.heap.size + 1, 0, none⟩ = some (.slice none 0 0) := HB1.out.cell 0
      have r1 : wr.cell? ⟨w.heap.size + 1, 1, none⟩ = some (.slice none 0 0) := HB1.out.cell 1
      have r2 : wr.cell? ⟨w.heap.size + 1, 2, none⟩ = some (.int .i64 0) := HB1.out.cell 2
      have r3 : wr.cell? ⟨w.heap.size + 1, 3, none⟩ = some (.int .i64 0) := HB1.out.cell 3
      have r4 : wr.cell? ⟨w.heap.size + 1, 4, none⟩ = some (.int .i64 0) := HB1.out.cell 4
      have r5 : wr.cell? ⟨w.heap.size + 1, 5, none⟩ = some (.int .i64 0) := HB1.out.cell 5
      have g0 : wr.frozen? ⟨w.heap.size + 1, 0, none⟩ = false := HB1.out.frozen 0
      have g1 : wr.frozen? ⟨w.heap.size + 1, 1, none⟩ = false := HB1.out.frozen 1
      have g2 : wr.frozen? ⟨w.heap.size + 1, 2, none⟩ = false := HB1.out.frozen 2
      have g3 : wr.frozen? ⟨w.heap.size + 1, 3, none⟩ = false := HB1.out.frozen 3
      have g4 : wr.frozen? ⟨w.heap.size + 1, 4, none⟩ = false := HB1.out.frozen 4
      have g5 : wr.frozen? ⟨w.heap.size + 1, 5, none⟩ = false := HB1.out.frozen 5
      clear hlt hq
      go_wp2
      have ha := ((PB.start HB2.out).set 2 (.int .i64 1)).set 3 (.int .i64 1)
      have hb1 := (ha.same (w.heap.size + 1) (by omega)).trans HB1.out
      have hq := (((((PB.start hb1).set 0 (.slice A1 q k1)).set 1 (.slice none 0 0)).set 2 (.int .i64 1)).set 3 (.int .i64 1)).set 4 (.int .i64 0)
      replace hq := hq.set 5 (.int .i64 0)
      simp only [List.setIfInBounds_toArray, List.set_cons_zero, List.set_cons_succ] at hq
      rw [HN.out]
      have hne : ∀ k, (Value.slice A1 q k1).ownBlock = some k → k ≠ w.heap.size + 1 ∧ k ≠ w.heap.size + 2 := fun k hk => by have := (HRW.out.lt k hk).1; omega
      have hrow := own_at (own_at HRW.out fun k hk => ha.same k (hne k hk).2) fun k hk => hq.same k (hne k hk).1
      have hl : (newS q).nodes.length = q := by simp [newS]
      refine bodyPost_ret (results_cell_row rfl _ _ (w.heap.size + 1) 27 _ (0, 0) _ rfl hq.blk rfl rfl (by kernel_rfl)) rfl ⟨.slice A1 q k1, .slice none 0 0, rfl, ⟨?_, RdS.own (World.ownsRow_nil _ 0 52 12)⟩, hq.below _ _ (ha.below _ _ HX.out (Nat.le_add_right _ _)) (Nat.le_succ _), fun k hk => ?_⟩
      · show RdS 5 _ _ (newS q).nodes.length (nodesC (newS q).nodes)
        rw [hl]
        exact RdS.own hrow
      · rcases hk with hk | hk
        · have := (HRW.out.lt k hk).1
          omega
        · cases hk

end Go.Proofs.YtmgbgpendpiahaaDoor
