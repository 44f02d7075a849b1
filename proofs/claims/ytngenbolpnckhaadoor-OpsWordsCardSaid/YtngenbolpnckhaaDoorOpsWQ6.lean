/- Texts that the proof of OpsW rests on, one behind the other. -/
import Derived.Test.YtngenbolpnckhaaDoorOpsWQ5
import Derived.Lib.SlicesS
import Derived.StillTailTactics
import Derived.Test.YtngenbolpnckhaaDoorRows
import Derived.Lay
import Derived.PinnedBridge
import Derived.LaidMore
import Derived.Stop.Joined
import Derived.Stop.LaidErr
import Derived.Shelf.Vars
import Derived.Lib.SmallJoins
import Derived.Lib.ItoaNum

/- Layer 8, the reference: the op of words. -/
namespace Go.Proofs.YtngenbolpnckhaaDoor
open Go.RowKit Go.PlainAid

/-- What has been read of the bytes behind a name. -/
def accP (s : List UInt8) (n i : Nat) : List Int := ((s.drop n).take (i - n)).foldl stepP []
theorem accP_zero (s : List UInt8) (n : Nat) : accP s n n = [] := by rw [accP, Nat.sub_self]; rfl
theorem accP_step {s : List UInt8} {n i : Nat} {c : UInt8} (hi : n ≤ i) (hc : s[i]? = some c) : accP s n (i + 1) = stepP (accP s n i) c := by
  rw [accP, accP, show i + 1 - n = (i - n) + 1 by omega, List.take_add_one, List.getElem?_drop, show n + (i - n) = i by omega, hc]
  simp [List.foldl_append]
theorem accP_in (s : List UInt8) (n : Nat) : ∀ (j : Nat), inP (accP s n (n + j))
  | 0 => by rw [Nat.add_zero, accP_zero]; exact fun n hn => by cases hn
  | j + 1 => by
    rcases h : s[n + j]? with _ | c
    · have : accP s n (n + (j + 1)) = accP s n (n + j) := by
        have hl := List.getElem?_eq_none_iff.1 h
        rw [accP, accP, List.take_of_length_le (by rw [List.length_drop]; omega), List.take_of_length_le (by rw [List.length_drop]; omega)]
      rw [this]
      exact accP_in s n j
    · rw [← Nat.add_assoc, accP_step (by omega) h]
      exact stepP_in (accP_in s n j)
theorem stepP_other {l : List Int} {c : UInt8} (h1 : c ≠ 32) (h2 : ¬ (48 ≤ c.toNat ∧ c.toNat ≤ 57 ∧ l ≠ [] ∧ l.getLastD 0 < 1000000)) : stepP l c = l := by rw [stepP, if_neg h1, if_neg h2]
theorem stepP_digit {l : List Int} {c : UInt8} (h1 : c ≠ 32) (h2 : 48 ≤ c.toNat ∧ c.toNat ≤ 57 ∧ l ≠ [] ∧ l.getLastD 0 < 1000000) : stepP l c = l.set (l.length - 1) (l.getLastD 0 * 10 + (c.toNat : Int) - 48) := by
  rw [stepP, if_neg h1, if_pos h2]
  obtain ⟨-, -, h3, -⟩ := h2
  obtain ⟨a, b, rfl⟩ : ∃ a b, l = a ++ [b] := ⟨l.dropLast, l.getLast h3, (List.dropLast_concat_getLast h3).symm⟩
  rw [List.length_append, List.length_singleton, Nat.add_sub_cancel, List.set_append_right _ _ (Nat.le_refl _), Nat.sub_self, List.dropLast_concat]
  simp

theorem no_more {s : List UInt8} {k : Nat} (h : ∀ j : Nat, 1 ≤ j → j < k → noK s (j : Int)) (hk : noK s (k : Int)) : ∀ j : Nat, 1 ≤ j → j < k + 1 → noK s (j : Int) := fun j h1 h2 => by
  rcases Nat.lt_or_ge j k with h' | h'
  · exact h j h1 h'
  · have : j = k := by omega
    rw [this]
    exact hk

set_option maxRecDepth 100000 in
set_option maxHeartbeats 40000000 in
theorem RefParse08 (s : List UInt8) (w : World) (hlen : s.length ≤ 1000000) :
    Calls Tryd.prog 17 #[.string (strB s)] w fun e w' => ∃ o ok, e = .returned (.tuple #[opV o, .bool ok]) ∧ ParseO s o ok ∧ Ext w w' := by
  have hE : Ext w (w.alloc (.cells #[.int .i64 0, .int .i64 0, .int .i64 0, .int .i64 0, .int .i64 0, .int .i64 0, .int .i64 0] 23)) := (Below.refl _ _).alloc (Nat.le_refl _) _
  have HE := Lib.hid hE
  have HBK := Lib.hid (Blk.new w 23 #[.int .i64 0, .int .i64 0, .int .i64 0, .int .i64 0, .int .i64 0, .int .i64 0, .int .i64 0])
  obtain ⟨sb, hsb⟩ : ∃ sb, sb = strB s := ⟨_, rfl⟩
  obtain ⟨M, hM⟩ : ∃ n, sb.size = n := ⟨_, rfl⟩
  have hml : M = s.length := by rw [← hM, hsb, strB_size]
  have HM := Lib.hid hml
  have hM7 : M ≤ 1000000 := by omega
  have hgb := get_bt sb
  have HBT : Hid (∀ n c, s[n]? = some c → bt sb n = (c.toNat : Int)) := Lib.hid fun n c h => by rw [hsb]; exact bt_strB s h
  have HEX : Hid (∀ n, sb.extract 0 n = strB (s.take n)) := Lib.hid fun n => by
    have := Lib.extract_from_zero sb n
    rw [hsb, strB_list] at this
    rw [← strB_back (sb.extract 0 n), hsb, this]
  have HSB := Lib.hid hsb
  rw [← hsb]
  clear hE hsb hml hlen
  go_enter Tryd.func17, Tryd.ntmps17
  go_wp2
  go_loopg [4] 21 (fun gg k' wr => ∃ k : Nat, k' = .int .i64 k ∧ 1 ≤ k ∧ k ≤ 22 ∧ gg = 22 - k ∧ Hid (Blk wr w.heap.size 23 #[.int .i64 0, .int .i64 0, .int .i64 0, .int .i64 0, .int .i64 0, .int .i64 0, .int .i64 0] ∧ Ext w wr ∧ ∀ j : Nat, 1 ≤ j → j < k → noK s (j : Int)))
  case atStart => exact ⟨1, rfl, by decide, by decide, rfl, Lib.hid ⟨HBK.out, HE.out, fun j h1 h2 => absurd h2 (by omega)⟩⟩
  case round =>
    obtain ⟨k, rfl, hk1, hk2, rfl, hs⟩ := hrel
    have HNO := Lib.hid hs.out.2.2
    by_cases hlt : k ≤ 21
    · have d1 : decide (k ≤ 21) = true := decide_eq_true hlt
      have d1' : decide ((k : Int) ≤ 21) = true := decide_eq_true (by omega)
      have HLT := Lib.hid hlt
      have HKN := Lib.hid (RefName08 (k : Int) wr)
      obtain ⟨n, hn⟩ : ∃ n, (nameK (k : Int)).length = n := ⟨_, rfl⟩
      have hn8 : n ≤ 8 := by rw [← hn]; exact nameK_len _
      have hnm : (strB (nameK (k : Int))).size = n := by rw [strB_size, hn]
      have HNM := Lib.hid hn
      have HBW := Lib.hid hs.out.1
      have HXW := Lib.hid hs.out.2.1
      clear hn hs
      go_wp2_with fail
      refine HKN.out.mono ?_
      rintro e2 w2 ⟨rfl, hx2⟩
      have HB2 := Lib.hid (HBW.out.ext hx2)
      have HX2 := Lib.hid (HXW.out.trans hx2)
      clear hx2 HBW HXW HKN
      by_cases h1 : M < n
      · have d2 : decide (M < n) = true := decide_eq_true h1
        have HN1 := Lib.hid (no_more HNO.out (no_short (s := s) (k := (k : Int)) (fun e => by
          have := congrArg List.length e
          rw [List.length_take, HNM.out, ← HM.out] at this
          omega)))
        clear h1
        generalize strB (nameK (k : Int)) = nm at *
        go_wp2
        go_roundg (22 - (k + 1))
        case measure => have := HLT.out; omega
        case rel => exact ⟨k + 1, by go_num, by omega, by have := HLT.out; omega, rfl, Lib.hid ⟨HB2.out, HX2.out, HN1.out⟩⟩
      · have d2 : decide (M < n) = false := decide_eq_false h1
        have hnM : n ≤ M := by omega
        by_cases h2 : s.take n = nameK (k : Int)
        · have e1 : ((sb.extract 0 n).toList == (strB (nameK (k : Int))).toList) = true := (Lib.bytes_beq_iff _ _).2 (by rw [HEX.out, h2])
          have HPX : Hid (s.take (nameK (k : Int)).length = nameK (k : Int)) := Lib.hid (by rw [HNM.out]; exact h2)
          clear h1 h2
          generalize strB (nameK (k : Int)) = nm at *
          go_wp2
          go_loopg [6, 7] (M - n) (fun gg v' i' wr2 => ∃ (i : Nat) (v : Value), v = v' ∧ i' = .int .i64 i ∧ n ≤ i ∧ i ≤ M ∧ gg = M - i ∧ Hid (Grew w2.heap.size 3 (.slice none 0 0) w2 ((accP s n i).map I) v wr2))
          case atStart => exact ⟨n, _, rfl, rfl, Nat.le_refl _, hnM, rfl, Lib.hid (by rw [accP_zero]; exact Grew.nil _)⟩
          case round =>
            obtain ⟨i, v, rfl, rfl, hni, hiM, rfl, hs2⟩ := hrel
            obtain ⟨l, hl⟩ : ∃ l, l = accP s n i := ⟨_, rfl⟩
            have HIN : Hid (inP l) := Lib.hid (by rw [hl]; have := accP_in s n (i - n); rwa [show n + (i - n) = i by omega] at this)
            have HG : Hid (Grew w2.heap.size 3 (.slice none 0 0) w2 (l.map I) v wr) := Lib.hid (by rw [hl]; exact hs2.out)
            have HAC := Lib.hid hl
            have HNI := Lib.hid hni
            have HIM := Lib.hid hiM
            have HKK := Lib.hid (And.intro hk1 hk2)
            clear hs2 hl
            obtain ⟨L, hL⟩ : ∃ L, l.length = L := ⟨_, rfl⟩
            have HL := Lib.hid hL
            obtain ⟨A, c, rfl⟩ := HG.out.slice_ (n := L) (by rw [List.length_map, hL])
            clear hL
            have hcut : Hid ((i = M ∨ 7 ≤ L) → ¬ textO (opOf (k : Int) l) = s → noK s (k : Int)) := Lib.hid fun h => by
              rw [← HL.out, HAC.out, accP, ← HNM.out] at h
              rw [HAC.out, accP, ← HNM.out]
              refine no_cut HPX.out ?_
              rcases h with h | h
              · exact .inl (by rw [List.length_drop, ← HM.out]; omega)
              · exact .inr h
            by_cases hi : i < M
            · have di : decide (i < M) = true := decide_eq_true hi
              have HIM0 : Hid (i + 1 ≤ M) := Lib.hid hi
              by_cases h7 : L < 7
              · have d7 : decide (L < 7) = true := decide_eq_true h7
                have d7' : decide ((L : Int) < 7) = true := decide_eq_true (by omega)
                obtain ⟨b, hb⟩ : ∃ b, s[i]? = some b := ⟨_, List.getElem?_eq_getElem (by rw [← HM.out]; exact hi)⟩
                have hbt := HBT.out i b hb
                have HST := Lib.hid (accP_step hni hb)
                rw [← HAC.out] at HST
                obtain ⟨z, hz⟩ : ∃ z : Int, (b.toNat : Int) = z := ⟨_, rfl⟩
                rw [hz] at hbt
                clear hb hcut
                by_cases h32 : b = 32
                · have hb0 : bt sb i = 32 := by rw [hbt, ← hz, h32]; rfl
                  have e32 : (z == 32) = true := by rw [beq_iff_eq, ← hbt, hb0]
                  have hll : (l.map I).length < 17592186044416 := by rw [List.length_map, HL.out]; omega
                  have HLL := Lib.hid hll
                  have hb5 : w2.heap.size ≤ wr.heap.size := HG.out.ext.size
                  clear hll hb0 hz
                  go_wp2_with (refine push_int rfl _ _ rfl w2.heap.size (.slice A L c) _ rfl HG.out.1 _ rfl rfl HLL.out hb5 ?_; intro v' w' hg')
                  go_roundg (M - (i + 1))
                  case measure => have := HIM0.out; omega
                  case rel => exact ⟨i + 1, v', rfl, by go_num, by have := HNI.out; omega, HIM0.out, rfl, Lib.hid (by rw [HST.out, h32, stepP_blank, List.map_append]; exact HG.out.trans hg')⟩
                · have e32 : (z == 32) = false := by
                    rw [beq_eq_false_iff_ne, ← hz]
                    exact fun h => h32 (UInt8.toNat_inj.1 (by have h' : ((32 : UInt8)).toNat = 32 := rfl; omega))
                  by_cases hd : 48 ≤ b.toNat ∧ b.toNat ≤ 57 ∧ l ≠ [] ∧ l.getLastD 0 < 1000000
                  · rw [stepP_digit h32 hd, HL.out, hz] at HST
                    obtain ⟨q1, q2, q3, q4⟩ := hd
                    have c1 : decide (48 ≤ z) = true := decide_eq_true (by omega)
                    have c2 : decide (z ≤ 57) = true := decide_eq_true (by omega)
                    have hL0 : 0 < L := by rw [← HL.out]; exact List.length_pos_iff.2 q3
                    have c3 : decide (0 < L) = true := decide_eq_true hL0
                    obtain ⟨x, hx⟩ : ∃ x, l.getLastD 0 = x := ⟨_, rfl⟩
                    rw [hx] at HST q4
                    have hxm : x ∈ l := by rw [← hx, List.getLastD_eq_getLast?, List.getLast?_eq_some_getLast q3, Option.getD_some]; exact List.getLast_mem q3
                    have hxl : l[L - 1]? = some x := by rw [← hx, ← HL.out, List.getLastD_eq_getLast?, ← List.getLast?_eq_getElem?, List.getLast?_eq_some_getLast q3]; rfl
                    obtain ⟨g, c', hv, -, -, -⟩ := HG.out.form (by rw [List.length_map, HL.out]; exact hL0)
                    rw [List.length_map, HL.out] at hv
                    injection hv with hA _ hc
                    subst hA hc
                    have hcell := HG.out.cellAt (L - 1) (by rw [List.length_map, HL.out]; omega)
                    rw [List.getElem?_map, hxl] at hcell
                    have hfr := HG.out.frozenAt (L - 1)
                    have HSE := Lib.hid (HG.out.set (L - 1) (I (x * 10 + z - 48)))
                    have hx2 := HIN.out x hxm
                    have c4 : decide (x < 1000000) = true := decide_eq_true q4
                    obtain ⟨m, hm⟩ : ∃ m, L - 1 = m := ⟨_, rfl⟩
                    have hmL : m < L := by omega
                    have hb255 : b.toNat ≤ 57 := q2
                    rw [hm] at hcell hfr HSE HST
                    have hw1 : IntKind.i64.wrap ((L : Int) - 1) = (m : Int) := by rw [IntKind.wrap_i64]; omega
                    have hw6 : Hid (wrap64 (wrap64 (wrap64 (x * 10) + wrap64 z) - 48) = x * 10 + z - 48) := Lib.hid (by rw [IntWalk.wrap64_in (x * 10) (by omega), IntWalk.wrap64_in z (by omega), IntWalk.wrap64_in (x * 10 + z) (by omega), IntWalk.wrap64_in (x * 10 + z - 48) (by omega)])
                    have c3' : decide ((0 : Int) < L) = true := decide_eq_true (by omega)
                    simp only [Option.map_some] at hcell
                    clear q1 q2 q3 q4 hxl hxm hx hm hx2 hL0 hz hb255
                    go_wp2
                    go_still_tail 18, (by kernel_rfl)
                    change wpList _ _ _ _ _ wr.drew
                    go_wp2
                    go_roundg (M - (i + 1))
                    case measure => have := HIM0.out; omega
                    case rel => exact ⟨i + 1, _, rfl, by go_num, by have := HNI.out; omega, HIM0.out, rfl, Lib.hid (by rw [HST.out, List.map_set, hw6.out]; exact Grew.step HSE.out (Below.drewN' (Ext.refl _) 1))⟩
                  · rw [stepP_other h32 hd] at HST
                    have hd4 : b.toNat < 48 ∨ (48 ≤ b.toNat ∧ (57 < b.toNat ∨ (b.toNat ≤ 57 ∧ (L = 0 ∨ (0 < L ∧ 1000000 ≤ l.getLastD 0))))) := by
                      have hl0 : l ≠ [] ↔ 0 < L := by rw [← HL.out]; exact List.length_pos_iff.symm
                      rw [hl0] at hd
                      omega
                    clear hd
                    rcases hd4 with q1 | ⟨q1, q2 | ⟨q2, q3 | ⟨q3, q4⟩⟩⟩
                    · have c1 : decide (48 ≤ z) = false := decide_eq_false (by omega)
                      clear q1 hz
                      go_wp2
                      go_roundg (M - (i + 1))
                      case measure => have := HIM0.out; omega
                      case rel => exact ⟨i + 1, _, rfl, by go_num, by have := HNI.out; omega, HIM0.out, rfl, Lib.hid (by rw [HST.out]; exact HG.out)⟩
                    · have c1 : decide (48 ≤ z) = true := decide_eq_true (by omega)
                      have c2 : decide (z ≤ 57) = false := decide_eq_false (by omega)
                      clear q1 q2 hz
                      go_wp2
                      go_roundg (M - (i + 1))
                      case measure => have := HIM0.out; omega
                      case rel => exact ⟨i + 1, _, rfl, by go_num, by have := HNI.out; omega, HIM0.out, rfl, Lib.hid (by rw [HST.out]; exact HG.out)⟩
                    · have c1 : decide (48 ≤ z) = true := decide_eq_true (by omega)
                      have c2 : decide (z ≤ 57) = true := decide_eq_true (by omega)
                      subst q3
                      clear q1 q2 hz
                      go_wp2
                      go_roundg (M - (i + 1))
                      case measure => have := HIM0.out; omega
                      case rel => exact ⟨i + 1, _, rfl, by go_num, by have := HNI.out; omega, HIM0.out, rfl, Lib.hid (by rw [HST.out]; exact HG.out)⟩
                    · have c1 : decide (48 ≤ z) = true := decide_eq_true (by omega)
                      have c2 : decide (z ≤ 57) = true := decide_eq_true (by omega)
                      have c3 : decide (0 < L) = true := decide_eq_true q3
                      have c3' : decide ((0 : Int) < L) = true := decide_eq_true (by omega)
                      obtain ⟨x, hx⟩ : ∃ x, l.getLastD 0 = x := ⟨_, rfl⟩
                      have hne : l ≠ [] := List.length_pos_iff.1 (by rw [HL.out]; exact q3)
                      rw [hx] at q4
                      have hxl : l[L - 1]? = some x := by rw [← hx, ← HL.out, List.getLastD_eq_getLast?, ← List.getLast?_eq_getElem?, List.getLast?_eq_some_getLast hne]; rfl
                      obtain ⟨g, c', hv, -, -, -⟩ := HG.out.form (by rw [List.length_map, HL.out]; exact q3)
                      rw [List.length_map, HL.out] at hv
                      injection hv with hA _ hc
                      subst hA hc
                      have hcell := HG.out.cellAt (L - 1) (by rw [List.length_map, HL.out]; omega)
                      rw [List.getElem?_map, hxl] at hcell
                      have hfr := HG.out.frozenAt (L - 1)
                      have c4 : decide (x < 1000000) = false := decide_eq_false (by omega)
                      obtain ⟨m, hm⟩ : ∃ m, L - 1 = m := ⟨_, rfl⟩
                      have hmL : m < L := by omega
                      rw [hm] at hcell hfr
                      have hw1 : IntKind.i64.wrap ((L : Int) - 1) = (m : Int) := by rw [IntKind.wrap_i64]; omega
                      simp only [Option.map_some] at hcell
                      clear q1 q2 q3 q4 hxl hne hx hm hz
                      go_wp2
                      go_roundg (M - (i + 1))
                      case measure => have := HIM0.out; omega
                      case rel => exact ⟨i + 1, _, rfl, by go_num, by have := HNI.out; omega, HIM0.out, rfl, Lib.hid (by rw [HST.out]; exact HG.out)⟩
              · have d7 : decide (L < 7) = false := decide_eq_false h7
                have d7' : decide ((L : Int) < 7) = false := decide_eq_false (by omega)
                have HNK := Lib.hid (hcut.out (.inr (by omega)))
                clear hcut h7 hi
                have HRD := Lib.hid (Rd.own HG.out.own)
                have hxr := HG.out.ext
                have HBR := Lib.hid (HB2.out.ext hxr)
                have HXR := Lib.hid (HX2.out.trans hxr)
                have HOF := Lib.hid (RefOf08 (k : Int) l (.slice A L c) wr HRD.out)
                have HYES : Hid (textO (opOf (k : Int) l) = s → ParseO s (opOf (k : Int) l) true) := Lib.hid fun h => yes_cut ⟨by omega, by omega⟩ HPX.out h
                have HTX := Lib.hid fun W => RefText08 (opOf (k : Int) l) W
                clear hxr
                generalize opOf (k : Int) l = o at *
                obtain ⟨a0, a1, a2, a3, a4, a5, a6⟩ := o
                rw [show opV (a0, a1, a2, a3, a4, a5, a6) = .agg #[.int .i64 a0, .int .i64 a1, .int .i64 a2, .int .i64 a3, .int .i64 a4, .int .i64 a5, .int .i64 a6] from rfl] at HOF HTX
                go_wp2_with fail
                refine HOF.out.mono ?_
                rintro e5 w5 ⟨rfl, hx5⟩
                have hx6 : Ext w5 (w5.alloc (.cells #[.int .i64 a0, .int .i64 a1, .int .i64 a2, .int .i64 a3, .int .i64 a4, .int .i64 a5, .int .i64 a6] 23)) := (Below.refl _ _).alloc (Nat.le_refl _) _
                have HO6 := Lib.hid (Blk.new w5 23 #[.int .i64 a0, .int .i64 a1, .int .i64 a2, .int .i64 a3, .int .i64 a4, .int .i64 a5, .int .i64 a6])
                have HB6 := Lib.hid ((HBR.out.ext hx5).ext hx6)
                have HX6 := Lib.hid ((HXR.out.trans hx5).trans hx6)
                clear hx5 hx6 HBR HXR HOF HRD HG
                go_wp2_with fail
                refine (HTX.out _).mono ?_
                rintro e7 w7 ⟨rfl, hx7⟩
                have HO7 := Lib.hid (HO6.out.ext hx7)
                have HB7 := Lib.hid (HB6.out.ext hx7)
                have HX7 := Lib.hid (HX6.out.trans hx7)
                clear hx7 HO6 HB6 HX6 HTX
                by_cases he : textO (a0, a1, a2, a3, a4, a5, a6) = s
                · have d8 : ((strB (textO (a0, a1, a2, a3, a4, a5, a6))).toList == sb.toList) = true := (Lib.bytes_beq_iff _ _).2 (by rw [HSB.out, he])
                  have HPY := Lib.hid (HYES.out he)
                  clear he HYES HNK
                  generalize strB (textO (a0, a1, a2, a3, a4, a5, a6)) = st at *
                  obtain ⟨m0, m1, m2, m3, m4, m5, m6⟩ := box_cells HO7.out
                  obtain ⟨c0, c1, c2, c3, c4, c5, c6⟩ := box_cells HB7.out
                  have f0 := HB7.out.frozen 0
                  have f1 := HB7.out.frozen 1
                  have f2 := HB7.out.frozen 2
                  have f3 := HB7.out.frozen 3
                  have f4 := HB7.out.frozen 4
                  have f5 := HB7.out.frozen 5
                  have f6 := HB7.out.frozen 6
                  go_wp2_with fail
                  refine end7 rfl HB7.out HX7.out _ rfl ?_ _ _ _ _ _ _ _ ?_
                  · rfl
                  · intro w9 hx9
                    exact ⟨(a0, a1, a2, a3, a4, a5, a6), true, rfl, HPY.out, hx9⟩
                · have d8 : ((strB (textO (a0, a1, a2, a3, a4, a5, a6))).toList == sb.toList) = false := (Lib.bytes_beq_false_iff _ _).2 (fun e => he (by rw [HSB.out] at e; have := congrArg (fun z => z.data.toList) e; simpa [strB] using this))
                  have HN1 := Lib.hid (no_more HNO.out (HNK.out he))
                  clear he HYES HNK
                  generalize strB (textO (a0, a1, a2, a3, a4, a5, a6)) = st at *
                  go_wp2
                  go_roundg (22 - (k + 1))
                  case measure => have := HLT.out; omega
                  case rel => exact ⟨k + 1, by go_num, by omega, by have := HLT.out; omega, rfl, Lib.hid ⟨HB7.out, HX7.out, HN1.out⟩⟩
            · have di : decide (i < M) = false := decide_eq_false hi
              have HNK := Lib.hid (hcut.out (.inl (by omega)))
              clear hcut hi
              have HRD := Lib.hid (Rd.own HG.out.own)
              have hxr := HG.out.ext
              have HBR := Lib.hid (HB2.out.ext hxr)
              have HXR := Lib.hid (HX2.out.trans hxr)
              have HOF := Lib.hid (RefOf08 (k : Int) l (.slice A L c) wr HRD.out)
              have HYES : Hid (textO (opOf (k : Int) l) = s → ParseO s (opOf (k : Int) l) true) := Lib.hid fun h => yes_cut ⟨by omega, by omega⟩ HPX.out h
              have HTX := Lib.hid fun W => RefText08 (opOf (k : Int) l) W
              clear hxr
              generalize opOf (k : Int) l = o at *
              obtain ⟨a0, a1, a2, a3, a4, a5, a6⟩ := o
              rw [show opV (a0, a1, a2, a3, a4, a5, a6) = .agg #[.int .i64 a0, .int .i64 a1, .int .i64 a2, .int .i64 a3, .int .i64 a4, .int .i64 a5, .int .i64 a6] from rfl] at HOF HTX
              go_wp2_with fail
              refine HOF.out.mono ?_
              rintro e5 w5 ⟨rfl, hx5⟩
              have hx6 : Ext w5 (w5.alloc (.cells #[.int .i64 a0, .int .i64 a1, .int .i64 a2, .int .i64 a3, .int .i64 a4, .int .i64 a5, .int .i64 a6] 23)) := (Below.refl _ _).alloc (Nat.le_refl _) _
              have HO6 := Lib.hid (Blk.new w5 23 #[.int .i64 a0, .int .i64 a1, .int .i64 a2, .int .i64 a3, .int .i64 a4, .int .i64 a5, .int .i64 a6])
              have HB6 := Lib.hid ((HBR.out.ext hx5).ext hx6)
              have HX6 := Lib.hid ((HXR.out.trans hx5).trans hx6)
              clear hx5 hx6 HBR HXR HOF HRD HG
              go_wp2_with fail
              refine (HTX.out _).mono ?_
              rintro e7 w7 ⟨rfl, hx7⟩
              have HO7 := Lib.hid (HO6.out.ext hx7)
              have HB7 := Lib.hid (HB6.out.ext hx7)
              have HX7 := Lib.hid (HX6.out.trans hx7)
              clear hx7 HO6 HB6 HX6 HTX
              by_cases he : textO (a0, a1, a2, a3, a4, a5, a6) = s
              · have d8 : ((strB (textO (a0, a1, a2, a3, a4, a5, a6))).toList == sb.toList) = true := (Lib.bytes_beq_iff _ _).2 (by rw [HSB.out, he])
                have HPY := Lib.hid (HYES.out he)
                clear he HYES HNK
                generalize strB (textO (a0, a1, a2, a3, a4, a5, a6)) = st at *
                obtain ⟨m0, m1, m2, m3, m4, m5, m6⟩ := box_cells HO7.out
                obtain ⟨c0, c1, c2, c3, c4, c5, c6⟩ := box_cells HB7.out
                have f0 := HB7.out.frozen 0
                have f1 := HB7.out.frozen 1
                have f2 := HB7.out.frozen 2
                have f3 := HB7.out.frozen 3
                have f4 := HB7.out.frozen 4
                have f5 := HB7.out.frozen 5
                have f6 := HB7.out.frozen 6
                go_wp2_with fail
                refine end7 rfl HB7.out HX7.out _ rfl ?_ _ _ _ _ _ _ _ ?_
                · rfl
                · intro w9 hx9
                  exact ⟨(a0, a1, a2, a3, a4, a5, a6), true, rfl, HPY.out, hx9⟩
              · have d8 : ((strB (textO (a0, a1, a2, a3, a4, a5, a6))).toList == sb.toList) = false := (Lib.bytes_beq_false_iff _ _).2 (fun e => he (by rw [HSB.out] at e; have := congrArg (fun z => z.data.toList) e; simpa [strB] using this))
                have HN1 := Lib.hid (no_more HNO.out (HNK.out he))
                clear he HYES HNK
                generalize strB (textO (a0, a1, a2, a3, a4, a5, a6)) = st at *
                go_wp2
                go_roundg (22 - (k + 1))
                case measure => have := HLT.out; omega
                case rel => exact ⟨k + 1, by go_num, by omega, by have := HLT.out; omega, rfl, Lib.hid ⟨HB7.out, HX7.out, HN1.out⟩⟩
        · have e1 : ((sb.extract 0 n).toList == (strB (nameK (k : Int))).toList) = false := (Lib.bytes_beq_false_iff _ _).2 (fun e => h2 (by rw [HEX.out] at e; have := congrArg (fun z => z.data.toList) e; simpa [strB] using this))
          have HN1 := Lib.hid (no_more HNO.out (no_short (s := s) (k := (k : Int)) (by rw [HNM.out]; exact h2)))
          clear h1 h2
          generalize strB (nameK (k : Int)) = nm at *
          go_wp2
          go_roundg (22 - (k + 1))
          case measure => have := HLT.out; omega
          case rel => exact ⟨k + 1, by go_num, by omega, by have := HLT.out; omega, rfl, Lib.hid ⟨HB2.out, HX2.out, HN1.out⟩⟩
    · have d1 : decide (k ≤ 21) = false := decide_eq_false hlt
      have d1' : decide ((k : Int) ≤ 21) = false := decide_eq_false (by omega)
      have HPN : Hid (ParseO s zeroO false) := Lib.hid (none_all fun j h1 h2 => HNO.out j h1 (by omega))
      have HBX := Lib.hid hs.out.1
      have HXX := Lib.hid hs.out.2.1
      clear hs hlt
      obtain ⟨c0, c1, c2, c3, c4, c5, c6⟩ := box_cells HBX.out
      have f0 := HBX.out.frozen 0
      have f1 := HBX.out.frozen 1
      have f2 := HBX.out.frozen 2
      have f3 := HBX.out.frozen 3
      have f4 := HBX.out.frozen 4
      have f5 := HBX.out.frozen 5
      have f6 := HBX.out.frozen 6
      go_wp2_with fail
      refine end7 rfl HBX.out HXX.out _ rfl ?_ _ _ _ _ _ _ _ ?_
      · rfl
      · intro w9 hx9
        exact ⟨zeroO, false, rfl, HPN.out, hx9⟩

end Go.Proofs.YtngenbolpnckhaaDoor

/- Two closed facts on the program that every row asks. -/
namespace Go.Proofs.YtngenbolpnckhaaDoor
open Go.RowKit

theorem Tryd.ownKnob : ownKnob Tryd.prog.godebug = none := by kernel_rfl

theorem Tryd.laidOut : laidOutB Tryd.prog = true := by kernel_rfl

end Go.Proofs.YtngenbolpnckhaaDoor

/- From a contract to the row of a law that lists package-level variables; what the listed variables give; a struct of seven numbers as an argument. -/
namespace Go.Proofs.YtngenbolpnckhaaDoor
open Go.Joins Go.ChangeShapes Go.WideShapes Go.ChangeAt Go.RowKit Go.Deep

section
variable {H : Type} {enc : TypeId × Value → H} {P : Program}
theorem law_liftL {C : Checked} {os : Os} {f : FuncId} {fn : Func} {s : ChangeSpec} {tb : TypeId} (L : List (String × DataW Unit)) (own : ownKnob C.prog.godebug = none) (started : os.Started) (noInit : C.prog.inits.idxOf? f = none) (hfn : C.prog.funcs[f]? = some fn)
    (hl : laidOutB C.prog = true) (hp : (fn.params.toList.all fun t => C.prog.readableRec t && decide (t < C.prog.types.size)) = true) (hres : fn.resultTypes = #[tb]) (htb : C.prog.underlying tb = some .bool) (hv : s.vars = []) (hpv : s.plain.varTypes C.prog = [])
    (hs : ∀ ds : List (DataW H), ds.length = fn.params.toList.length → s.fn H ds = { results := [.lit (.bool true)], args := ds })
    (witness : ∃ (w : World) (tape : Tape) (i : Input), w.os = os ∧ (w.forCall tape i).Shaped C.prog ∧ i.vars = [] ∧ Input.okWide C.prog (w.forCall tape i) .any w.heap.size f i ∧
      ((s.pre enc C.prog fn [] false (w.forCall tape i).memory i.args ∧ laidMetH C.prog L (w.forCall tape i).memory) ∧ sizedMet enc C.prog fn (OpenSpec.ofChange s) false (w.forCall tape i).memory i.args) ∧ ({} : Assume).holds C.prog (lone (Frame.enter C.prog f i.args .normal) [] (w.forCall tape i)))
    (contract : ∀ (W : World) (base : Nat) (args : Array Value) (ds : List (DataW H)) (p : List MemPlace), (∀ (j : Nat) t v, fn.params[j]? = some t → args[j]? = some v → Value.okWide C.prog W .any base t v) →
      DataW.TrodAll enc C.prog W 0 (fun _ => true) true fn.params.toList args.toList ds p → (DataW.weightsEach C.prog fn.params.toList ds).all (· ≤ reachBytes) = true → laidMetH C.prog L W → W.ShapedOpen C.prog →
      Calls C.prog f args W fun e W' => e = .returned (.bool true) ∧ Ext W W') :
    ReturnsInHanded {} C os f .any (fun w args => (s.pre enc C.prog fn [] false w args ∧ laidMetH C.prog L w) ∧ sizedMet enc C.prog fn (OpenSpec.ofChange s) false w args) (s.post enc C.prog fn false true false false) := by
  refine returnsInHanded_of_calls own started noInit witness ?_
  intro w tape i _ hsh _ hok hpre _
  obtain ⟨_, _, _, fn', hfn', _, _, _, _, hval⟩ := hok
  have e : fn' = fn := Option.some.inj (hfn'.symm.trans hfn)
  subst e
  obtain ⟨⟨⟨ds, gs, before, hw, _⟩, hx⟩, hz⟩ := hpre
  have hW := DataW.Whole.of_heap (w' := w.forCall tape i) (by rfl) hw
  have hL : laidMetH C.prog L (w.forCall tape i) := laidMetH.of_heap (by rfl) hx
  have hsz := hz.weights hw
  have hg : gs = [] := by
    obtain ⟨_, _, _, hV, _⟩ := hW
    rw [hv] at hV
    cases gs with
    | nil => rfl
    | cons _ _ => exact hV.elim
  subst hg
  have hsz' : (DataW.weightsEach C.prog fn'.params.toList ds).all (· ≤ reachBytes) = true := by
    have h1 : (DataW.weightsEach C.prog (fn'.params.toList ++ s.plain.varTypes C.prog) (ds ++ [])).all (· ≤ reachBytes) = true := hsz
    rwa [hpv, List.append_nil, List.append_nil] at h1
  have hW' := hW
  obtain ⟨p, q, hA, _, _, _, _⟩ := hW
  have hlen := trodAll_len _ _ _ _ hA
  refine (contract (w.forCall tape i) w.heap.size i.args ds p hval hA hsz' hL hsh).mono fun e W' ⟨he, hx⟩ => ?_
  subst he
  exact ChangeSpec.post_blind (post_true hl hp hres htb hv hW' (hs ds hlen) hx)

/-- A listed variable, wherever it stands on the list. -/
theorem laid_at {n : String} {d : DataW Unit} {W : World} : ∀ (L : List (String × DataW Unit)), (n, d) ∈ L → laidMet P L W → ∃ r, laidMet P ((n, d) :: r) W
  | x :: L, hm, h => by
    rcases List.mem_cons.1 hm with e | hm
    · rw [e]
      exact ⟨L, h⟩
    · exact laid_at L hm h.tail

theorem cells_of_strs {w : World} {base : Nat} {sp : Nat → Bool} {held : Bool} {fuel : Nat} {t e : TypeId} {n : Nat} {cs : List Value} {ls : List (List UInt8)} {p : List MemPlace}
    (ht : P.underlying t = some (.array n e)) (he : P.underlying e = some .string) (hce : P.cellsOf e = 1) (hct : P.cellsOf t = n)
    (h : DataW.trod enc P w base sp held fuel t cs = some (.agg (ls.map fun l => .lit (.string l)), p)) : cs = ls.map fun l => Value.string (strB l) := by
  cases fuel with
  | zero => simp [DataW.trod] at h
  | succ fuel =>
    simp only [DataW.trod, ht, hce, hct, Nat.mul_one] at h
    split at h
    · rename_i hl
      obtain ⟨xs, hm, hx⟩ := Option.map_eq_some_iff.1 h
      have hxs : xs.map (·.1) = ls.map fun l => (DataW.lit (.string l) : DataW H) := by
        have := congrArg Prod.fst hx
        simpa using this
      have hxl : xs.length = n := by simpa using Lib.mapM_length hm
      have hzl : ls.length = n := by
        have := congrArg List.length hxs
        simp at this
        omega
      apply List.ext_getElem?
      intro i
      by_cases hi : i < n
      · obtain ⟨b, hb, hf⟩ := Lib.mapM_at hm i i (by simp [hi])
        obtain ⟨z, hc, hz, _⟩ := DataW.trod_string he hf
        have h1 : cs[i]? = some (.string z) := by
          have := congrArg (·[0]?) hc
          simpa [List.getElem?_take, List.getElem?_drop] using this
        have h2 : (xs.map (·.1))[i]? = some (DataW.lit (.string z.data.toList) : DataW H) := by simp [hb, hz]
        rw [hxs] at h2
        simp only [List.getElem?_map, Option.map_eq_some_iff, DataW.lit.injEq, Lit.string.injEq] at h2
        obtain ⟨z', hz', e'⟩ := h2
        rw [h1, List.getElem?_map, hz', e', Option.map_some, strB_back]
      · rw [List.getElem?_eq_none (by omega), List.getElem?_eq_none (by simp; omega)]
    · cases h

/-- A struct of seven numbers. -/
theorem dec_op {w : World} {base : Nat} {sp : Nat → Bool} {held : Bool} {r : Reach} {b0 : Nat} {t ti : TypeId} {f0 f1 f2 f3 f4 f5 f6 : Field} {v : Value} {d : DataW H} {p : List MemPlace} (hs : P.underlying t = some (.struct #[f0, f1, f2, f3, f4, f5, f6])) (hone : oneCellFields P #[f0, f1, f2, f3, f4, f5, f6] = true) (hC : P.cellsOf t = 7)
    (hti : (f0.type = ti ∧ f1.type = ti ∧ f2.type = ti ∧ f3.type = ti ∧ f4.type = ti ∧ f5.type = ti ∧ f6.type = ti)) (hi : P.underlying ti = some (.int .i64)) (hv : Value.okWide P w r b0 t v) (h : DataW.Trod enc P w base sp held t v d p) : ∃ o : OpN, v = opV o := by
  obtain ⟨cs, rfl, hsz⟩ := okWide_struct hs hv
  obtain ⟨l⟩ := cs
  obtain ⟨t0, t1, t2, t3, t4, t5, t6⟩ := hti
  match l, hsz.trans hC with
  | [c0, c1, c2, c3, c4, c5, c6], _ =>
    obtain ⟨fuel, hf⟩ := h
    obtain ⟨xs, n, _, hx, _, hlen, hg⟩ := DataW.trod_struct hs hf
    obtain ⟨o0, k0⟩ := hone_of hone 0 f0 rfl
    obtain ⟨o1, k1⟩ := hone_of hone 1 f1 rfl
    obtain ⟨o2, k2⟩ := hone_of hone 2 f2 rfl
    obtain ⟨o3, k3⟩ := hone_of hone 3 f3 rfl
    obtain ⟨o4, k4⟩ := hone_of hone 4 f4 rfl
    obtain ⟨o5, k5⟩ := hone_of hone 5 f5 rfl
    obtain ⟨o6, k6⟩ := hone_of hone 6 f6 rfl
    match xs, hlen with
    | [y0, y1, y2, y3, y4, y5, y6], _ =>
      have g0 : DataW.trod enc P w base sp held n f0.type [c0] = some y0 := by simpa [Value.cells, o0, k0] using hg 0 f0 rfl
      have g1 : DataW.trod enc P w base sp held n f1.type [c1] = some y1 := by simpa [Value.cells, o1, k1] using hg 1 f1 rfl
      have g2 : DataW.trod enc P w base sp held n f2.type [c2] = some y2 := by simpa [Value.cells, o2, k2] using hg 2 f2 rfl
      have g3 : DataW.trod enc P w base sp held n f3.type [c3] = some y3 := by simpa [Value.cells, o3, k3] using hg 3 f3 rfl
      have g4 : DataW.trod enc P w base sp held n f4.type [c4] = some y4 := by simpa [Value.cells, o4, k4] using hg 4 f4 rfl
      have g5 : DataW.trod enc P w base sp held n f5.type [c5] = some y5 := by simpa [Value.cells, o5, k5] using hg 5 f5 rfl
      have g6 : DataW.trod enc P w base sp held n f6.type [c6] = some y6 := by simpa [Value.cells, o6, k6] using hg 6 f6 rfl
      obtain ⟨z0, e0, _, _⟩ := DataW.trod_int (t0 ▸ hi) g0
      obtain ⟨z1, e1, _, _⟩ := DataW.trod_int (t1 ▸ hi) g1
      obtain ⟨z2, e2, _, _⟩ := DataW.trod_int (t2 ▸ hi) g2
      obtain ⟨z3, e3, _, _⟩ := DataW.trod_int (t3 ▸ hi) g3
      obtain ⟨z4, e4, _, _⟩ := DataW.trod_int (t4 ▸ hi) g4
      obtain ⟨z5, e5, _, _⟩ := DataW.trod_int (t5 ▸ hi) g5
      obtain ⟨z6, e6, _, _⟩ := DataW.trod_int (t6 ▸ hi) g6
      simp only [List.cons.injEq, and_true] at e0 e1 e2 e3 e4 e5 e6
      subst e0 e1 e2 e3 e4 e5 e6
      exact ⟨(z0, z1, z2, z3, z4, z5, z6), rfl⟩
end

/-! ### What the listed variables give -/
theorem star_err : "*" ++ "errors.errorString" = "*errors.errorString" := by decide
theorem Tryd.rowErr (u : TypeId) (h : Tryd.prog.typeName? 3 u = some "*errors.errorString") : u = 102 :=
  typeName_ptr_named (nm := "errors.errorString") (by rw [star_err]; kernel_rfl) (by kernel_rfl) (by decide) u (by rw [star_err]; exact h)
theorem names_datum : Rows.laid_dunnage_ops_names (H := Unit) = .agg (((List.range 22).map fun (k : Nat) => nameK (k : Int)).map fun l => .lit (.string l)) := by kernel_rfl
theorem counts_datum : Rows.laid_dunnage_ops_counts (H := Unit) = Lib.tabData .i64 cntL := by kernel_rfl
theorem pow_datum : Rows.laid_internal_strconv_uint64pow10 (H := Unit) = Lib.tabData .u64 Lib.pow10Tab := by kernel_rfl

theorem laid_of {W : World} (L : List (String × DataW Unit)) (h : laidMet Tryd.prog L W) (hsh : W.ShapedOpen Tryd.prog)
    (m1 : ("dunnage/ops.names", Rows.laid_dunnage_ops_names) ∈ L) (m2 : ("dunnage/ops.counts", Rows.laid_dunnage_ops_counts) ∈ L) (m3 : ("internal/strconv.uint64pow10", Rows.laid_internal_strconv_uint64pow10) ∈ L)
    (m4 : ("strconv.ErrSyntax", Rows.laid_strconv_ErrSyntax) ∈ L) (m5 : ("strconv.ErrRange", Rows.laid_strconv_ErrRange) ∈ L) : Laid W := by
  obtain ⟨r1, h1⟩ := laid_at L m1 h
  obtain ⟨r2, h2⟩ := laid_at L m2 h
  obtain ⟨r3, h3⟩ := laid_at L m3 h
  obtain ⟨r4, h4⟩ := laid_at L m4 h
  obtain ⟨r5, h5⟩ := laid_at L m5 h
  rw [names_datum] at h1
  rw [counts_datum] at h2
  rw [pow_datum] at h3
  have hml : ∃ m, W.cell? ⟨4, 0, none⟩ = some (.int .i64 m) :=
    cell_of_shapedOpen_int hsh (of_decide_eq_true (by kernel_rfl)) (zero := #[.int .i64 0]) (t := 3) (by kernel_rfl) rfl (by kernel_rfl) (by kernel_rfl) Tryd.underlying3
  refine ⟨?_, ?_, ?_, ?_, ?_, hml, ?_⟩
  · obtain ⟨ps, ⟨g', t', cs, fuel, p, q, hg', ht', hvar, hd, _, _⟩, _⟩ := h1
    obtain rfl := Option.some.inj (Tryd.gNames.symm.trans hg')
    obtain rfl := Option.some.inj ((show (Tryd.prog.globals[1]?).map (·.type) = some 58 by kernel_rfl).symm.trans ht')
    have hc := cells_of_strs Tryd.underlying58 Tryd.underlying9 (by kernel_rfl) (by kernel_rfl) hd
    rw [hvar, namL]
    congr 1
    rw [← Array.toArray_toList (xs := cs), hc, List.map_map]
    rfl
  · exact Lib.tabIs_of_head Tryd.gCounts (t := 46) (by kernel_rfl) Tryd.underlying46 Tryd.underlying3 (by kernel_rfl) (by kernel_rfl) h2
  · exact Lib.tabIs_of_head Tryd.gPow (t := 106) (by kernel_rfl) Tryd.underlying106 Tryd.underlying86 (by kernel_rfl) (by kernel_rfl) h3
  · obtain ⟨a, _, hv, _⟩ := laid_sentinel h4 Tryd.gSyn (show (Tryd.prog.globals[2]?).map (·.type) = some 54 by kernel_rfl) Tryd.underlying54 Tryd.rowErr Tryd.underlying102 Tryd.underlying104 rfl rfl Tryd.underlying9 (by kernel_rfl) (by kernel_rfl)
    exact ⟨_, _, hv⟩
  · obtain ⟨a, _, hv, _⟩ := laid_sentinel h5 Tryd.gRng (show (Tryd.prog.globals[3]?).map (·.type) = some 54 by kernel_rfl) Tryd.underlying54 Tryd.rowErr Tryd.underlying102 Tryd.underlying104 rfl rfl Tryd.underlying9 (by kernel_rfl) (by kernel_rfl)
    exact ⟨_, _, hv⟩
  · obtain ⟨m, hm⟩ := hml
    exact World.block_lt_of_cell? W _ hm

end Go.Proofs.YtngenbolpnckhaaDoor
