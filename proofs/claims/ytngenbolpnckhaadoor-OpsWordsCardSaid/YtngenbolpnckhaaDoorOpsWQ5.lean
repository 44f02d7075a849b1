/- Texts that the proof of OpsW rests on, one behind the other. -/
import Derived.Test.YtngenbolpnckhaaDoorOpsWQ4
import Derived.Deep.LoopGhost
import Derived.Test.YtngenbolpnckhaaDoorRows
import Derived.Shelf.Strings.Split
import Derived.Shelf.Strings.OnBuilder
import Derived.Shelf.Strconv.Itoa3
import Derived.Shelf.Strconv.ErrVarAll
import Derived.Shelf.LaysM
import Derived.Shelf.LaysC
import Derived.Lib.AtoiTie
import Derived.Test.YtngenbolpnckhaaDoorProg
import Derived.Lib.AppendIntMem
import Derived.Lib.JoinLaws
import Derived.Lib.AtoiErrMem
import Derived.PlainAid

/- Layer 8, the reference: a number's digits. -/
namespace Go.Proofs.YtngenbolpnckhaaDoor
open Go.RowKit

theorem digB_len (n : Nat) : (digB n).length ≤ n + 1 := by
  induction n using Nat.strongRecOn with
  | _ n ih =>
    by_cases h : n < 10
    · rw [digB_lo h]
      simp
    · rw [digB_hi h, List.length_append, List.length_singleton]
      have := ih (n / 10) (by omega)
      omega
theorem strB_size (l : List UInt8) : (strB l).size = l.length := by simp [strB, ByteArray.size]

set_option maxRecDepth 100000 in
set_option maxHeartbeats 1000000 in
theorem RefDigits08 (n : Nat) : ∀ w : World, n ≤ 1000000000000 → Calls Tryd.prog 38 #[.int .i64 (n : Int)] w fun e w' => e = .returned (.string (strB (digB n))) ∧ Ext w w' := by
  induction n using Nat.strongRecOn with
  | _ n ih =>
    intro w hn
    by_cases h : n < 10
    · have d1 : decide ((n : Int) < 10) = true := decide_eq_true (by omega)
      have hd : strB (digB n) = ⟨#[UInt8.ofNat (48 + n)]⟩ := by rw [digB_lo h]; rfl
      rw [hd]
      have w1 : IntKind.u8.wrap ((48 : Int) + (n : Int)) = ((48 + n : Nat) : Int) := by unfold IntKind.wrap; simp [IntKind.bits, IntKind.signed]; omega
      have hb : B (UInt8.ofNat (48 + n)) = .int .u8 (48 + (n : Int)) := by
        show Value.int .u8 (((UInt8.ofNat (48 + n)).toNat : Nat) : Int) = _
        rw [UInt8.toNat_ofNat', Nat.mod_eq_of_lt (by omega)]
        push_cast
        rfl
      have hrd : Rd (w.alloc (.cells #[.int .u8 (48 + (n : Int))] 5)) (.slice (some ⟨w.heap.size, 0, none⟩) 1 1) ([UInt8.ofNat (48 + n)].map B) := by
        rw [List.map_cons, List.map_nil, hb]
        exact Rd.lit w #[.int .u8 (48 + (n : Int))] _ (show 1 ≤ maxLen by unfold maxLen; omega)
      generalize UInt8.ofNat (48 + n) = u at *
      have kc := run_conv_rd (P := Tryd.prog) _ 24 9 5 Tryd.underlying24 Tryd.underlying5 Tryd.underlying9 _ _ hrd
      have hx : Ext w (w.alloc (.cells #[.int .u8 (48 + (n : Int))] 5)) := (Ext.refl _).alloc (Nat.le_refl _) _
      clear hd hb hrd ih
      go_enter Tryd.func38, Tryd.ntmps38
      go_wp2
      go_ret
      exact ⟨rfl, hx⟩
    · have d1 : decide ((n : Int) < 10) = false := decide_eq_false (by omega)
      have k1 : ∀ W : World, Calls Tryd.prog 38 #[.int .i64 ((n : Int) / 10)] W fun e w' => e = .returned (.string (strB (digB (n / 10)))) ∧ Ext W w' := fun W => ih (n / 10) (by omega) W (by omega)
      have k2 : ∀ W : World, Calls Tryd.prog 38 #[.int .i64 ((n : Int) % 10)] W fun e w' => e = .returned (.string (strB (digB (n % 10)))) ∧ Ext W w' := fun W => ih (n % 10) (by omega) W (by omega)
      have hd : strB (digB n) = strB (digB (n / 10)) ++ strB (digB (n % 10)) := by
        rw [digB_hi h, digB_lo (n := n % 10) (by omega)]
        apply ByteArray.ext
        simp [strB]
      have hsz : ¬ 9223372036854775807 < (strB (digB (n / 10))).size + (strB (digB (n % 10))).size := by
        have h1 := digB_len (n / 10)
        have h2 := digB_len (n % 10)
        rw [strB_size, strB_size]
        omega
      rw [hd]
      generalize strB (digB (n / 10)) = s1 at *
      generalize strB (digB (n % 10)) = s2 at *
      have K1 := Lib.hid k1
      have K2 := Lib.hid k2
      clear hd ih k1 k2
      go_enter Tryd.func38, Tryd.ntmps38
      go_wp2_with fail
      refine (K1.out _).mono ?_
      rintro e wa ⟨rfl, hx1⟩
      go_wp2_with fail
      refine (K2.out _).mono ?_
      rintro e wb ⟨rfl, hx2⟩
      have hx := hx1.trans hx2
      go_wp2
      go_ret
      exact ⟨rfl, hx⟩

end Go.Proofs.YtngenbolpnckhaaDoor

/- Layer 8, the reference: an op's words. -/
namespace Go.Proofs.YtngenbolpnckhaaDoor
open Go.RowKit

theorem names_short : ∀ s ∈ namesL, s.length ≤ 8 := by decide +kernel
theorem nameK_len (k : Int) : (nameK k).length ≤ 8 := by
  by_cases h : 1 ≤ k ∧ k ≤ 21
  · exact names_short _ (nameK_mem h)
  · rw [nameK_no h]
    simp
theorem wordsB_len : ∀ a : List Int, (∀ n ∈ a, 0 ≤ n ∧ n ≤ 1000000) → (wordsB a).length ≤ a.length * 1000002
  | [], _ => by simp [wordsB]
  | n :: a, h => by
    have := wordsB_len a fun m hm => h m (List.mem_cons_of_mem _ hm)
    have hd := digB_len n.toNat
    have hn := h n (List.mem_cons_self ..)
    have e : wordsB (n :: a) = 32 :: (digB n.toNat ++ wordsB a) := by simp [wordsB]
    rw [e, List.length_cons, List.length_append, List.length_cons]
    omega

/-- A right op's words, number by number. -/
theorem text_steps {o : OpN} (h : rightO o = true) : ∃ S : Nat → List UInt8, S 0 = nameK o.1 ∧ S (manyK o.1) = textO o ∧ (∀ n, n < manyK o.1 → S (n + 1) = (S n ++ [32]) ++ digB (numAtO o n).toNat) ∧
    (∀ n, n < manyK o.1 → 0 ≤ numAtO o n ∧ numAtO o n ≤ 1000000) ∧ ∀ n, n ≤ manyK o.1 → (S n).length ≤ 10000000 := by
  have hm := manyK_le o.1
  have hget : ∀ n (hn : n < manyK o.1), (argsO o)[n]? = some (numAtO o n) := fun n hn => by
    rw [argsO, List.getElem?_take, if_pos hn]
    exact nums_get o (by omega)
  refine ⟨fun n => nameK o.1 ++ wordsB ((argsO o).take n), ?_, ?_, fun n hn => ?_, fun n hn => ?_, fun n hn => ?_⟩
  · simp [wordsB]
  · dsimp only
    rw [textO, if_pos h, List.take_of_length_le (by rw [argsO_len]; exact Nat.le_refl _)]
  · have hl : n < (argsO o).length := by rw [argsO_len]; exact hn
    have he : (argsO o)[n] = numAtO o n := by
      have := hget n hn
      rw [List.getElem?_eq_getElem hl] at this
      exact Option.some.inj this
    dsimp only
    rw [List.take_succ_eq_append_getElem hl, wordsB_snoc, he, List.append_assoc, List.append_assoc]
    rfl
  · exact args_in h _ (List.mem_of_getElem? (hget n hn))
  · rw [List.length_append]
    have h1 := nameK_len o.1
    have h2 := wordsB_len ((argsO o).take n) fun m hm => args_in h m (List.mem_of_mem_take hm)
    have h3 : ((argsO o).take n).length ≤ 6 := by rw [List.length_take]; omega
    have h4 := Nat.mul_le_mul_right 1000002 h3
    omega

theorem strB_app (a b : List UInt8) : strB (a ++ b) = strB a ++ strB b := by
  apply ByteArray.ext
  simp [strB]

set_option maxRecDepth 100000 in
set_option maxHeartbeats 4000000 in
theorem RefText08 (o : OpN) (w : World) :
    Calls Tryd.prog 21 #[opV o] w fun e w' => e = .returned (.string (strB (textO o))) ∧ Ext w w' := by
  have HKR := Lib.hid fun w' => RefRight08 o w'
  have HKN := Lib.hid fun w' => RefNumbers08 o w'
  have HKM := Lib.hid fun w' => RefMany08 o.1 w'
  have HKA := Lib.hid fun w' => RefName08 o.1 w'
  have HGET := Lib.hid fun (i : Nat) (h : i < 6) => nums_get o h
  have HM6 := Lib.hid (manyK_le o.1)
  have hno : rightO o = false → textO o = [] := fun h => by rw [textO, if_neg (by rw [h]; decide)]
  have HNO := Lib.hid hno
  have HST := Lib.hid (@text_steps o)
  clear hno
  obtain ⟨k, a, b, c, d, e, f⟩ := o
  generalize ho : ((k, a, b, c, d, e, f) : OpN) = o at *
  have hk : o.1 = k := by rw [← ho]
  have hv : opV o = .agg #[.int .i64 k, .int .i64 a, .int .i64 b, .int .i64 c, .int .i64 d, .int .i64 e, .int .i64 f] := by rw [← ho]; rfl
  rw [hk] at HKM HM6 HKA HST
  rw [hv] at HKN HKR ⊢
  clear ho hv hk
  generalize manyK k = mk at *
  cases hR : rightO o with
  | false =>
    have hz := HNO.out hR
    rw [hR] at HKR
    rw [hz]
    clear HNO HST hz hR
    have hE : Ext w (w.alloc (.cells #[.int .i64 k, .int .i64 a, .int .i64 b, .int .i64 c, .int .i64 d, .int .i64 e, .int .i64 f] 23)) := (Below.refl _ _).alloc (Nat.le_refl _) _
    go_enter Tryd.func21, Tryd.ntmps21
    go_wp2_with fail
    refine (HKR.out _).mono ?_
    rintro e2 w2 ⟨rfl, hx2⟩
    have hx := hE.trans hx2
    go_wp2
    go_ret
    exact ⟨rfl, hx⟩
  | true =>
    obtain ⟨S, h0, hend, hstep, hin, hlen⟩ := HST.out hR
    rw [hR] at HKR
    have hsz : ∀ n, n ≤ mk → ¬ 9223372036854775807 < (strB (S n)).size + 1 := fun n hn => by
      have := hlen n hn
      rw [strB_size]
      omega
    rw [← h0] at HKA
    rw [← hend]
    have HSTEP := Lib.hid hstep
    have HIN := Lib.hid hin
    have HSZ := Lib.hid hsz
    have HLEN := Lib.hid hlen
    clear HNO HST hR h0 hend hstep hin hsz hlen
    go_enter Tryd.func21, Tryd.ntmps21
    have hbk := Blk.new w 23 #[.int .i64 k, .int .i64 a, .int .i64 b, .int .i64 c, .int .i64 d, .int .i64 e, .int .i64 f]
    have hE : Ext w (w.alloc (.cells #[.int .i64 k, .int .i64 a, .int .i64 b, .int .i64 c, .int .i64 d, .int .i64 e, .int .i64 f] 23)) := (Below.refl _ _).alloc (Nat.le_refl _) _
    have HBK := Lib.hid hbk
    have HE := Lib.hid hE
    clear hbk hE
    go_wp2_with fail
    refine (HKR.out _).mono ?_
    rintro e2 w2 ⟨rfl, hx2⟩
    have hb2 := HBK.out.ext hx2
    have c0 : w2.cell? ⟨w.heap.size, 0, none⟩ = some (.int .i64 k) := hb2.cell 0
    have HB2 := Lib.hid hb2
    have HX2 := Lib.hid (HE.out.trans hx2)
    clear hx2 hb2
    go_wp2_with fail
    refine (HKA.out _).mono ?_
    rintro e3 w3 ⟨rfl, hx3⟩
    have HB3 := Lib.hid (HB2.out.ext hx3)
    have HX3 := Lib.hid (HX2.out.trans hx3)
    clear hx3 c0 HB2 HX2
    go_wp2
    go_loopg [3, 4] mk (fun gg s i wr => ∃ n : Nat, i = .int .i64 n ∧ s = .string (strB (S n)) ∧ n ≤ mk ∧ gg = mk - n ∧ Hid (Blk wr w.heap.size 23 #[.int .i64 k, .int .i64 a, .int .i64 b, .int .i64 c, .int .i64 d, .int .i64 e, .int .i64 f] ∧ Ext w wr))
    case atStart => exact ⟨0, rfl, rfl, Nat.zero_le _, rfl, Lib.hid ⟨HB3.out, HX3.out⟩⟩
    case round =>
      obtain ⟨n, rfl, rfl, hn, rfl, hs⟩ := hrel
      have c0 : wr.cell? ⟨w.heap.size, 0, none⟩ = some (.int .i64 k) := hs.out.1.cell 0
      have c1 : wr.cell? ⟨w.heap.size, 1, none⟩ = some (.int .i64 a) := hs.out.1.cell 1
      have c2 : wr.cell? ⟨w.heap.size, 2, none⟩ = some (.int .i64 b) := hs.out.1.cell 2
      have c3 : wr.cell? ⟨w.heap.size, 3, none⟩ = some (.int .i64 c) := hs.out.1.cell 3
      have c4 : wr.cell? ⟨w.heap.size, 4, none⟩ = some (.int .i64 d) := hs.out.1.cell 4
      have c5 : wr.cell? ⟨w.heap.size, 5, none⟩ = some (.int .i64 e) := hs.out.1.cell 5
      have c6 : wr.cell? ⟨w.heap.size, 6, none⟩ = some (.int .i64 f) := hs.out.1.cell 6
      by_cases hlt : n < mk
      · have d1 : decide (n < mk) = true := decide_eq_true hlt
        have kd : ∀ W : World, Calls Tryd.prog 38 #[.int .i64 (numAtO o n)] W fun e w' => e = .returned (.string (strB (digB (numAtO o n).toNat))) ∧ Ext W w' := fun W => by
          have h := HIN.out n hlt
          have := RefDigits08 (numAtO o n).toNat W (by omega)
          rwa [Int.toNat_of_nonneg h.1] at this
        have hss : strB (S (n + 1)) = (strB (S n) ++ ⟨#[32]⟩) ++ strB (digB (numAtO o n).toNat) := by
          rw [HSTEP.out n hlt, strB_app, strB_app]
          rfl
        have hz1 := HSZ.out n hn
        have hz2 : ¬ 9223372036854775807 < (strB (S n)).size + 1 + (strB (digB (numAtO o n).toNat)).size := by
          have h1 := HLEN.out n hn
          have h2 := digB_len (numAtO o n).toNat
          have h3 := HIN.out n hlt
          rw [strB_size, strB_size]
          omega
        have hgn := HGET.out n (by have := HM6.out; omega)
        have HGN := Lib.hid hgn
        have hn6 : n < 6 := by have := HM6.out; omega
        have HLT := Lib.hid hlt
        generalize numAtO o n = x at *
        generalize strB (digB x.toNat) = sd at *
        generalize strB (S n) = sn at *
        have HKD := Lib.hid kd
        have HSS := Lib.hid hss
        clear kd hss hgn HBK HE HB3 HX3 hlt
        go_wp2_with fail
        refine (HKM.out _).mono ?_
        rintro e4 w4 ⟨rfl, rfl⟩
        go_wp2_with fail
        refine (HKN.out _).mono ?_
        rintro e5 w5 ⟨b5, rfl, hb5, hr5, hx5⟩
        have cn : w5.cell? ⟨b5, n, none⟩ = some (.int .i64 x) := by
          obtain ⟨A, c', e', q1, q2, q3⟩ := hr5
          obtain ⟨b', o', e1, e2, e3⟩ := q3 (by rw [List.length_map, numsO_len]; decide)
          cases e'
          cases e1
          have := e3 n (I x) (by rw [List.getElem?_map, HGN.out]; rfl)
          rwa [Nat.zero_add] at this
        have HB5 := Lib.hid (hs.out.1.ext hx5)
        have HX5 := Lib.hid (hs.out.2.trans hx5)
        clear hr5 hx5 hb5 hs c0 c1 c2 c3 c4 c5 c6
        go_wp2_with fail
        refine (HKD.out _).mono ?_
        rintro e6 w6 ⟨rfl, hx6⟩
        have HB6 := Lib.hid (HB5.out.ext hx6)
        have HX6 := Lib.hid (HX5.out.trans hx6)
        clear hx6 HB5 HX5 cn
        go_wp2_with fail
        go_roundg (mk - (n + 1))
        case measure => have := HLT.out; omega
        case rel => exact ⟨n + 1, by go_num, by rw [HSS.out], by have := HLT.out; omega, rfl, Lib.hid ⟨HB6.out, HX6.out⟩⟩
      · have d1 : decide (n < mk) = false := decide_eq_false hlt
        obtain rfl : n = mk := by omega
        have HX := Lib.hid hs.out.2
        clear HBK HE HB3 HX3 hlt hs c1 c2 c3 c4 c5 c6
        go_wp2_with fail
        refine (HKM.out _).mono ?_
        rintro e4 w4 ⟨rfl, rfl⟩
        go_wp2_with fail
        go_ret
        exact ⟨rfl, HX.out⟩

end Go.Proofs.YtngenbolpnckhaaDoor

/- Slices of strings in this translation's numbers. -/
namespace Go.Proofs.YtngenbolpnckhaaDoor
open Go.RowKit

theorem Tryd.infoStr : (Tryd.prog.info? 9).map (fun i => (i.zero, i.size, i.bytes)) = some (some (.string ⟨#[]⟩), 1, 16) := by kernel_rfl

/-- 'l = append(l, x)', l a row of strings of the call's own. -/
theorem push_str {w : World} {ops : Array Oper} {rest : List Oper} {o : Oper} {a : Act} {Q : Exit → Act → World → Prop} {gx : Nat} (hgd : o.guard = none) (s x : Operand)
    (ho : o.op = .call { callee := .builtin .append, args := #[s, x], argTypes := #[51, 51] })
    (base : Nat) (v : Value) (xs : List Value) (hs : a.eval s = v) (hown : w.ownsRow base 9 1 v xs.length xs) (u : Value) (h1 : u.oneCell' = true)
    (hx : a.eval x = .slice (some ⟨gx, 0, none⟩) 1 1) (hlen : xs.length < 1000000000) (hbase : base ≤ w.heap.size)
    (h : ∀ v' w', Grew base 9 v w (xs ++ [u]) v' w' → wpList Tryd.prog ops Q rest (a.put o.dst v') w') (hgx : gx = w.heap.size := by simp) : wpList Tryd.prog ops Q (o :: rest) a (w.alloc (.cells #[u] 9)) := by
  subst hgx
  exact wpList_push hgd s x 51 ho base 9 (.string ⟨#[]⟩) 16 Tryd.underlying51 Tryd.infoStr rfl v xs hs hown u h1 hx (by unfold maxLen; omega) (by omega) hbase h

end Go.Proofs.YtngenbolpnckhaaDoor

/- Contracts of Go's library at this program, laid by the kit's tools in plain words. -/
namespace Go.Proofs
open Go.Shelf
def Tryd.lays156_ren : Go.Shelf.Ren := ⟨fun | 156 => 37 | 165 => 50 | 166 => 51 | 169 => 52 | 240 => 62 | 241 => 63 | 276 => 75 | 277 => 76 | n => n, fun | 31 => 51 | 9 => 9 | 3 => 3 | 4 => 4 | 0 => 0 | 20 => 20 | 72 => 69 | 76 => 55 | 70 => 67 | 37 => 24 | 75 => 54 | 127 => 82 | 164 => 98 | 5 => 5 | 80 => 71 | n => n, fun | n => n⟩
theorem Tryd.lays156 : Go.Proofs.Lays.n156 Tryd.prog Tryd.lays156_ren := {
  mixed := by kernel_rfl
  f156 := Tryd.func37.trans (congrArg some (by kernel_rfl))
  f165 := Tryd.func50.trans (congrArg some (by kernel_rfl))
  f166 := Tryd.func51.trans (congrArg some (by kernel_rfl))
  f169 := Tryd.func52.trans (congrArg some (by kernel_rfl))
  f240 := Tryd.func62.trans (congrArg some (by kernel_rfl))
  f241 := Tryd.func63.trans (congrArg some (by kernel_rfl))
  f276 := Tryd.func75.trans (congrArg some (by kernel_rfl))
  f277 := Tryd.func76.trans (congrArg some (by kernel_rfl))
  t0 := Tryd.underlying0
  a0 := Tryd.isAgg0
  z0 := Tryd.sizeOf0
  v0 := Tryd.zeroValue0
  t3 := Tryd.underlying3
  a3 := Tryd.isAgg3
  z3 := Tryd.sizeOf3
  v3 := Tryd.zeroValue3
  t4 := Tryd.underlying4
  a4 := Tryd.isAgg4
  z4 := Tryd.sizeOf4
  v4 := Tryd.zeroValue4
  t9 := Tryd.underlying9
  a9 := Tryd.isAgg9
  z9 := Tryd.sizeOf9
  v9 := Tryd.zeroValue9
  t20 := Tryd.underlying20
  a20 := Tryd.isAgg20
  z20 := Tryd.sizeOf20
  v20 := Tryd.zeroValue20
  t31 := Tryd.underlying51
  a31 := Tryd.isAgg51
  z31 := Tryd.sizeOf51
  v31 := Tryd.zeroValue51
  t37 := Tryd.underlying24
  a37 := Tryd.isAgg24
  z37 := Tryd.sizeOf24
  v37 := Tryd.zeroValue24
  t70 := Tryd.underlying67
  a70 := Tryd.isAgg67
  z70 := Tryd.sizeOf67
  v70 := Tryd.zeroValue67
  t72 := Tryd.underlying69
  a72 := Tryd.isAgg69
  z72 := Tryd.sizeOf69
  v72 := Tryd.zeroValue69
  t75 := Tryd.underlying54
  a75 := Tryd.isAgg54
  z75 := Tryd.sizeOf54
  v75 := Tryd.zeroValue54
  t76 := Tryd.underlying55
  a76 := Tryd.isAgg55
  z76 := Tryd.sizeOf55
  v76 := Tryd.zeroValue55
  t127 := Tryd.underlying82
  a127 := Tryd.isAgg82
  z127 := Tryd.sizeOf82
  v127 := Tryd.zeroValue82
  t164 := Tryd.underlying98
  a164 := Tryd.isAgg98
  z164 := Tryd.sizeOf98
  v164 := Tryd.zeroValue98 }
theorem Tryd.Builder_Extra_156 : Builder.Extra Tryd.prog Tryd.lays156_ren := {
  sizeBuilder := by kernel_rfl
  liesBuilder := by kernel_rfl
  t5 := Tryd.underlying5
  a5 := Tryd.isAgg5
  z5 := Tryd.sizeOf5
  v5 := Tryd.zeroValue5
  infoByte := by kernel_rfl
  cellsByte := by kernel_rfl
  sizeByte := by kernel_rfl
  neB5 := by decide }
open Go.RowKit in
theorem Tryd.strings_Join_none (a : Option Addr) (c : Nat) (sep : ByteArray) (w : World) :
    Calls Tryd.prog 37 #[.slice a 0 c, .string sep] w fun e w' => e = .returned (.string ⟨#[]⟩) ∧ w' = w := Any.strings_Join_none Tryd.lays156 Tryd.Builder_Extra_156 a c sep w
open Go.RowKit in
theorem Tryd.strings_Join (bk o c : Nat) (xs : List ByteArray) (sep : ByteArray) (w : World) (hcells : ∀ (j : Nat) x, xs[j]? = some x → w.cell? ⟨bk, o + j, none⟩ = some (.string x)) (hbk : bk < w.heap.size) (hN : xs.length ≤ 140737488355328) (hcap : xs.length ≤ c) (hlen : (Lib.join (xs.map (·.data.toList)) sep.data.toList).length ≤ 140737488355328) :
    Calls Tryd.prog 37 #[.slice (some ⟨bk, o, none⟩) xs.length c, .string sep] w fun e w' => e = .returned (.string ⟨(Lib.join (xs.map (·.data.toList)) sep.data.toList).toArray⟩) ∧ Below w.heap.size w w' := Any.strings_Join Tryd.lays156 Tryd.Builder_Extra_156 bk o c xs sep w hcells hbk hN hcap hlen
def Tryd.laysM171_ren : Go.Shelf.Ren := ⟨fun | 171 => 36 | 243 => 49 | 246 => 61 | 283 => 71 | 284 => 72 | 285 => 73 | 286 => 74 | 129 => 85 | 317 => 84 | 318 => 86 | 319 => 87 | 320 => 88 | 337 => 91 | 338 => 92 | n => n, fun | 3 => 3 | 9 => 9 | 2 => 2 | 4 => 4 | 171 => 93 | 0 => 0 | 53 => 86 | 37 => 24 | 5 => 5 | 173 => 96 | 212 => 106 | 51 => 107 | 20 => 20 | 213 => 108 | 46 => 72 | 232 => 117 | 233 => 118 | n => n, fun | 17 => 5 | 18 => 8 | 19 => 9 | n => n⟩
theorem Tryd.laysM171 : Go.Proofs.LaysM.n171 Tryd.prog Tryd.laysM171_ren := {
  mixed := by kernel_rfl
  f129 := Tryd.func85.trans (congrArg some (by kernel_rfl))
  f171 := Tryd.func36.trans (congrArg some (by kernel_rfl))
  f243 := Tryd.func49.trans (congrArg some (by kernel_rfl))
  f246 := Tryd.func61.trans (congrArg some (by kernel_rfl))
  f283 := Tryd.func71.trans (congrArg some (by kernel_rfl))
  f284 := Tryd.func72.trans (congrArg some (by kernel_rfl))
  f285 := Tryd.func73.trans (congrArg some (by kernel_rfl))
  f286 := Tryd.func74.trans (congrArg some (by kernel_rfl))
  f317 := Tryd.func84.trans (congrArg some (by kernel_rfl))
  f318 := Tryd.func86.trans (congrArg some (by kernel_rfl))
  f319 := Tryd.func87.trans (congrArg some (by kernel_rfl))
  f320 := Tryd.func88.trans (congrArg some (by kernel_rfl))
  f337 := Tryd.func91.trans (congrArg some (by kernel_rfl))
  f338 := Tryd.func92.trans (congrArg some (by kernel_rfl))
  t0 := Tryd.underlying0
  a0 := Tryd.isAgg0
  z0 := Tryd.sizeOf0
  v0 := Tryd.zeroValue0
  t2 := Tryd.underlying2
  a2 := Tryd.isAgg2
  z2 := Tryd.sizeOf2
  v2 := Tryd.zeroValue2
  t3 := Tryd.underlying3
  a3 := Tryd.isAgg3
  z3 := Tryd.sizeOf3
  v3 := Tryd.zeroValue3
  t4 := Tryd.underlying4
  a4 := Tryd.isAgg4
  z4 := Tryd.sizeOf4
  v4 := Tryd.zeroValue4
  t5 := Tryd.underlying5
  a5 := Tryd.isAgg5
  z5 := Tryd.sizeOf5
  v5 := Tryd.zeroValue5
  t9 := Tryd.underlying9
  a9 := Tryd.isAgg9
  z9 := Tryd.sizeOf9
  v9 := Tryd.zeroValue9
  t20 := Tryd.underlying20
  a20 := Tryd.isAgg20
  z20 := Tryd.sizeOf20
  v20 := Tryd.zeroValue20
  t37 := Tryd.underlying24
  a37 := Tryd.isAgg24
  z37 := Tryd.sizeOf24
  v37 := Tryd.zeroValue24
  t46 := Tryd.underlying72
  a46 := Tryd.isAgg72
  z46 := Tryd.sizeOf72
  v46 := Tryd.zeroValue72
  t51 := Tryd.underlying107
  a51 := Tryd.isAgg107
  z51 := Tryd.sizeOf107
  v51 := Tryd.zeroValue107
  t53 := Tryd.underlying86
  a53 := Tryd.isAgg86
  z53 := Tryd.sizeOf86
  v53 := Tryd.zeroValue86
  t171 := Tryd.underlying93
  a171 := Tryd.isAgg93
  z171 := Tryd.sizeOf93
  v171 := Tryd.zeroValue93
  t173 := Tryd.underlying96
  a173 := Tryd.isAgg96
  z173 := Tryd.sizeOf96
  v173 := Tryd.zeroValue96
  t212 := Tryd.underlying106
  a212 := Tryd.isAgg106
  z212 := Tryd.sizeOf106
  v212 := Tryd.zeroValue106
  t213 := Tryd.underlying108
  a213 := Tryd.isAgg108
  z213 := Tryd.sizeOf108
  t232 := Tryd.underlying117
  a232 := Tryd.isAgg117
  z232 := Tryd.sizeOf117
  v232 := Tryd.zeroValue117
  t233 := Tryd.underlying118
  a233 := Tryd.isAgg118
  z233 := Tryd.sizeOf118
  v233 := Tryd.zeroValue118
  g17 := by kernel_rfl
  g18 := by kernel_rfl
  g19 := by kernel_rfl
  i0 := by kernel_rfl
  i2 := by kernel_rfl
  i3 := by kernel_rfl
  i4 := by kernel_rfl
  i5 := by kernel_rfl
  i9 := by kernel_rfl
  i20 := by kernel_rfl
  i37 := by kernel_rfl
  i46 := by kernel_rfl
  i51 := by kernel_rfl
  i53 := by kernel_rfl
  i171 := by kernel_rfl
  i173 := by kernel_rfl
  i212 := by kernel_rfl
  i232 := by kernel_rfl
  i233 := by kernel_rfl
  m17 := by kernel_rfl
  m18 := by kernel_rfl
  m19 := by kernel_rfl }
open Go.RowKit Go.Sort Go.Lib in
theorem Tryd.strconv_Itoa (n : Int) (h0 : -9223372036854775808 ≤ n) (h1 : n ≤ 9223372036854775807) (w : World) (htab : Lib.TabIs Tryd.prog w "internal/strconv.uint64pow10" .u64 Lib.pow10Tab) :
    Calls Tryd.prog 36 #[.int .i64 n] w fun e w' => e = .returned (.string ⟨(Lib.itoa n).toArray⟩) ∧ ∃ k os, w' = grow (w.drewN k) os := Any.strconv_Itoa Tryd.laysM171 n h0 h1 w htab
def Tryd.laysC172_ren : Go.Shelf.Ren := ⟨fun | 172 => 34 | 244 => 47 | 245 => 48 | 247 => 56 | 279 => 57 | 280 => 58 | 281 => 59 | 282 => 60 | 287 => 68 | 316 => 69 | 171 => 36 | 205 => 70 | 321 => 82 | 322 => 83 | 243 => 49 | 246 => 61 | 283 => 71 | 284 => 72 | 285 => 73 | 286 => 74 | 129 => 85 | 317 => 84 | 318 => 86 | 319 => 87 | 320 => 88 | 337 => 91 | 338 => 92 | n => n, fun | 9 => 9 | 3 => 3 | 75 => 54 | 76 => 55 | 4 => 4 | 5 => 5 | 167 => 75 | 37 => 24 | 0 => 0 | 85 => 76 | 2 => 2 | 168 => 78 | 53 => 86 | 175 => 87 | 46 => 72 | 210 => 91 | 127 => 82 | 145 => 104 | 143 => 102 | 21 => 21 | 171 => 93 | 173 => 96 | 212 => 106 | 51 => 107 | 20 => 20 | 213 => 108 | 232 => 117 | 233 => 118 | 80 => 71 | n => n, fun | 15 => 2 | 16 => 3 | 17 => 5 | 18 => 8 | 19 => 9 | n => n⟩
theorem Tryd.laysC172 : Go.Proofs.LaysC.n172 Tryd.prog Tryd.laysC172_ren := {
  mixed := by kernel_rfl
  f129 := Tryd.func85.trans (congrArg some (by kernel_rfl))
  f171 := Tryd.func36.trans (congrArg some (by kernel_rfl))
  f172 := Tryd.func34.trans (congrArg some (by kernel_rfl))
  f205 := Tryd.func70.trans (congrArg some (by kernel_rfl))
  f243 := Tryd.func49.trans (congrArg some (by kernel_rfl))
  f244 := Tryd.func47.trans (congrArg some (by kernel_rfl))
  f245 := Tryd.func48.trans (congrArg some (by kernel_rfl))
  f246 := Tryd.func61.trans (congrArg some (by kernel_rfl))
  f247 := Tryd.func56.trans (congrArg some (by kernel_rfl))
  f279 := Tryd.func57.trans (congrArg some (by kernel_rfl))
  f280 := Tryd.func58.trans (congrArg some (by kernel_rfl))
  f281 := Tryd.func59.trans (congrArg some (by kernel_rfl))
  f282 := Tryd.func60.trans (congrArg some (by kernel_rfl))
  f283 := Tryd.func71.trans (congrArg some (by kernel_rfl))
  f284 := Tryd.func72.trans (congrArg some (by kernel_rfl))
  f285 := Tryd.func73.trans (congrArg some (by kernel_rfl))
  f286 := Tryd.func74.trans (congrArg some (by kernel_rfl))
  f287 := Tryd.func68.trans (congrArg some (by kernel_rfl))
  f316 := Tryd.func69.trans (congrArg some (by kernel_rfl))
  f317 := Tryd.func84.trans (congrArg some (by kernel_rfl))
  f318 := Tryd.func86.trans (congrArg some (by kernel_rfl))
  f319 := Tryd.func87.trans (congrArg some (by kernel_rfl))
  f320 := Tryd.func88.trans (congrArg some (by kernel_rfl))
  f321 := Tryd.func82.trans (congrArg some (by kernel_rfl))
  f322 := Tryd.func83.trans (congrArg some (by kernel_rfl))
  f337 := Tryd.func91.trans (congrArg some (by kernel_rfl))
  f338 := Tryd.func92.trans (congrArg some (by kernel_rfl))
  t0 := Tryd.underlying0
  a0 := Tryd.isAgg0
  z0 := Tryd.sizeOf0
  v0 := Tryd.zeroValue0
  t2 := Tryd.underlying2
  a2 := Tryd.isAgg2
  z2 := Tryd.sizeOf2
  v2 := Tryd.zeroValue2
  t3 := Tryd.underlying3
  a3 := Tryd.isAgg3
  z3 := Tryd.sizeOf3
  v3 := Tryd.zeroValue3
  t4 := Tryd.underlying4
  a4 := Tryd.isAgg4
  z4 := Tryd.sizeOf4
  v4 := Tryd.zeroValue4
  t5 := Tryd.underlying5
  a5 := Tryd.isAgg5
  z5 := Tryd.sizeOf5
  v5 := Tryd.zeroValue5
  t9 := Tryd.underlying9
  a9 := Tryd.isAgg9
  z9 := Tryd.sizeOf9
  v9 := Tryd.zeroValue9
  t20 := Tryd.underlying20
  a20 := Tryd.isAgg20
  z20 := Tryd.sizeOf20
  v20 := Tryd.zeroValue20
  t21 := Tryd.underlying21
  a21 := Tryd.isAgg21
  z21 := Tryd.sizeOf21
  v21 := Tryd.zeroValue21
  t37 := Tryd.underlying24
  a37 := Tryd.isAgg24
  z37 := Tryd.sizeOf24
  v37 := Tryd.zeroValue24
  t46 := Tryd.underlying72
  a46 := Tryd.isAgg72
  z46 := Tryd.sizeOf72
  v46 := Tryd.zeroValue72
  t51 := Tryd.underlying107
  a51 := Tryd.isAgg107
  z51 := Tryd.sizeOf107
  v51 := Tryd.zeroValue107
  t53 := Tryd.underlying86
  a53 := Tryd.isAgg86
  z53 := Tryd.sizeOf86
  v53 := Tryd.zeroValue86
  t75 := Tryd.underlying54
  a75 := Tryd.isAgg54
  z75 := Tryd.sizeOf54
  v75 := Tryd.zeroValue54
  t76 := Tryd.underlying55
  a76 := Tryd.isAgg55
  z76 := Tryd.sizeOf55
  v76 := Tryd.zeroValue55
  t85 := Tryd.underlying76
  a85 := Tryd.isAgg76
  z85 := Tryd.sizeOf76
  v85 := Tryd.zeroValue76
  t127 := Tryd.underlying82
  a127 := Tryd.isAgg82
  z127 := Tryd.sizeOf82
  v127 := Tryd.zeroValue82
  t143 := Tryd.underlying102
  a143 := Tryd.isAgg102
  z143 := Tryd.sizeOf102
  v143 := Tryd.zeroValue102
  t145 := Tryd.underlying104
  a145 := Tryd.isAgg104
  z145 := Tryd.sizeOf104
  v145 := Tryd.zeroValue104
  t167 := Tryd.underlying75
  a167 := Tryd.isAgg75
  z167 := Tryd.sizeOf75
  v167 := Tryd.zeroValue75
  t168 := Tryd.underlying78
  a168 := Tryd.isAgg78
  z168 := Tryd.sizeOf78
  v168 := Tryd.zeroValue78
  t171 := Tryd.underlying93
  a171 := Tryd.isAgg93
  z171 := Tryd.sizeOf93
  v171 := Tryd.zeroValue93
  t173 := Tryd.underlying96
  a173 := Tryd.isAgg96
  z173 := Tryd.sizeOf96
  v173 := Tryd.zeroValue96
  t175 := Tryd.underlying87
  a175 := Tryd.isAgg87
  z175 := Tryd.sizeOf87
  v175 := Tryd.zeroValue87
  t210 := Tryd.underlying91
  a210 := Tryd.isAgg91
  z210 := Tryd.sizeOf91
  v210 := Tryd.zeroValue91
  t212 := Tryd.underlying106
  a212 := Tryd.isAgg106
  z212 := Tryd.sizeOf106
  v212 := Tryd.zeroValue106
  t213 := Tryd.underlying108
  a213 := Tryd.isAgg108
  z213 := Tryd.sizeOf108
  t232 := Tryd.underlying117
  a232 := Tryd.isAgg117
  z232 := Tryd.sizeOf117
  v232 := Tryd.zeroValue117
  t233 := Tryd.underlying118
  a233 := Tryd.isAgg118
  z233 := Tryd.sizeOf118
  v233 := Tryd.zeroValue118
  g15 := by kernel_rfl
  g16 := by kernel_rfl
  g17 := by kernel_rfl
  g18 := by kernel_rfl
  g19 := by kernel_rfl
  t80 := Tryd.underlying71
  a80 := Tryd.isAgg71
  z80 := Tryd.sizeOf71
  v80 := Tryd.zeroValue71
  i0 := by kernel_rfl
  i2 := by kernel_rfl
  i3 := by kernel_rfl
  i4 := by kernel_rfl
  i5 := by kernel_rfl
  i9 := by kernel_rfl
  i20 := by kernel_rfl
  i21 := by kernel_rfl
  i37 := by kernel_rfl
  i46 := by kernel_rfl
  i51 := by kernel_rfl
  i53 := by kernel_rfl
  i75 := by kernel_rfl
  i76 := by kernel_rfl
  i80 := by kernel_rfl
  i85 := by kernel_rfl
  i127 := by kernel_rfl
  i143 := by kernel_rfl
  i145 := by kernel_rfl
  i167 := by kernel_rfl
  i168 := by kernel_rfl
  i171 := by kernel_rfl
  i173 := by kernel_rfl
  i175 := by kernel_rfl
  i210 := by kernel_rfl
  i212 := by kernel_rfl
  i232 := by kernel_rfl
  i233 := by kernel_rfl
  m15 := by kernel_rfl
  m16 := by kernel_rfl
  m17 := by kernel_rfl
  m18 := by kernel_rfl
  m19 := by kernel_rfl
  c0 := by kernel_rfl
  c2 := by kernel_rfl
  c3 := by kernel_rfl
  c4 := by kernel_rfl
  c5 := by kernel_rfl
  c9 := by kernel_rfl
  c20 := by kernel_rfl
  c21 := by kernel_rfl
  c37 := by kernel_rfl
  c46 := by kernel_rfl
  c51 := by kernel_rfl
  c53 := by kernel_rfl
  c75 := by kernel_rfl
  c76 := by kernel_rfl
  c80 := by kernel_rfl
  c85 := by kernel_rfl
  c127 := by kernel_rfl
  c143 := by kernel_rfl
  c145 := by kernel_rfl
  c167 := by kernel_rfl
  c168 := by kernel_rfl
  c171 := by kernel_rfl
  c173 := by kernel_rfl
  c175 := by kernel_rfl
  c210 := by kernel_rfl
  c212 := by kernel_rfl
  c213 := by kernel_rfl
  c232 := by kernel_rfl
  c233 := by kernel_rfl }
open Go.RowKit in
theorem Tryd.strconv_Atoi_ok (s : ByteArray) (hmax : s.size ≤ 9223372036854775806) (v : Int) (h : Lib.atoiAll s.data.toList = .ok v) (w : World) :
    Calls Tryd.prog 34 #[.string s] w fun e w' => e = .returned (.tuple #[.int .i64 v, .nilIface]) ∧ (w' = w ∨ ∃ t, w' = Lib.bytesWorld w 5 t) := Any.strconv_Atoi_ok Tryd.laysC172 s hmax v h w
open Go.RowKit in
theorem Tryd.strconv_Atoi_syntax_var (s : ByteArray) (hlim : s.size ≤ 281474976710656) (h : Lib.atoiAll s.data.toList = Lib.NumEnd.ofOption none) (tp : TypeId) (p : Value) (w : World) (hvar : w.var? Tryd.prog "strconv.ErrSyntax" = some #[.iface tp p]) :
    Calls Tryd.prog 34 #[.string s] w fun e w' => ∃ N, e = .returned (.tuple #[.int .i64 0, .iface 78 (.pointer (some ⟨N, 0, none⟩))]) ∧ w.heap.size ≤ N ∧ w'.heap[N]? = some (.cells #[.string ⟨#[65, 116, 111, 105]⟩, .string s, .iface tp p] 91 (0, 0)) ∧ Below w.heap.size w w' := Any.strconv_Atoi_syntax_var Tryd.laysC172 s hlim h tp p w hvar
open Go.RowKit in
theorem Tryd.strconv_Atoi_range_var (s : ByteArray) (hlim : s.size ≤ 281474976710656) (h : Lib.atoiAll s.data.toList = .range) (tp : TypeId) (p : Value) (w : World) (hvar : w.var? Tryd.prog "strconv.ErrRange" = some #[.iface tp p]) :
    Calls Tryd.prog 34 #[.string s] w fun e w' => ∃ N, e = .returned (.tuple #[.int .i64 (Lib.atoiSat s.data.toList), .iface 78 (.pointer (some ⟨N, 0, none⟩))]) ∧ w.heap.size ≤ N ∧ w'.heap[N]? = some (.cells #[.string ⟨#[65, 116, 111, 105]⟩, .string s, .iface tp p] 91 (0, 0)) ∧ Below w.heap.size w w' := Any.strconv_Atoi_range_var Tryd.laysC172 s hlim h tp p w hvar
def Tryd.lays147_ren : Go.Shelf.Ren := ⟨fun | 147 => 33 | 221 => 46 | 268 => 53 | 138 => 54 | 143 => 55 | 195 => 64 | 197 => 65 | 218 => 66 | 219 => 67 | 260 => 77 | 217 => 78 | 225 => 79 | 224 => 80 | 267 => 81 | 266 => 89 | 314 => 90 | n => n, fun | 9 => 9 | 3 => 3 | 31 => 51 | 4 => 4 | 0 => 0 | 105 => 83 | 21 => 21 | 5 => 5 | 46 => 72 | 119 => 110 | 139 => 113 | 138 => 112 | 146 => 114 | 51 => 107 | n => n, fun | 1 => 4 | 3 => 6 | 4 => 7 | n => n⟩
theorem Tryd.lays147 : Go.Proofs.Lays.n147 Tryd.prog Tryd.lays147_ren := {
  mixed := by kernel_rfl
  f138 := Tryd.func54.trans (congrArg some (by kernel_rfl))
  f143 := Tryd.func55.trans (congrArg some (by kernel_rfl))
  f147 := Tryd.func33.trans (congrArg some (by kernel_rfl))
  f195 := Tryd.func64.trans (congrArg some (by kernel_rfl))
  f197 := Tryd.func65.trans (congrArg some (by kernel_rfl))
  f217 := Tryd.func78.trans (congrArg some (by kernel_rfl))
  f218 := Tryd.func66.trans (congrArg some (by kernel_rfl))
  f219 := Tryd.func67.trans (congrArg some (by kernel_rfl))
  f221 := Tryd.func46.trans (congrArg some (by kernel_rfl))
  f224 := Tryd.func80.trans (congrArg some (by kernel_rfl))
  f225 := Tryd.func79.trans (congrArg some (by kernel_rfl))
  f260 := Tryd.func77.trans (congrArg some (by kernel_rfl))
  f266 := Tryd.func89.trans (congrArg some (by kernel_rfl))
  f267 := Tryd.func81.trans (congrArg some (by kernel_rfl))
  f268 := Tryd.func53.trans (congrArg some (by kernel_rfl))
  f314 := Tryd.func90.trans (congrArg some (by kernel_rfl))
  t0 := Tryd.underlying0
  a0 := Tryd.isAgg0
  z0 := Tryd.sizeOf0
  v0 := Tryd.zeroValue0
  t3 := Tryd.underlying3
  a3 := Tryd.isAgg3
  z3 := Tryd.sizeOf3
  v3 := Tryd.zeroValue3
  t4 := Tryd.underlying4
  a4 := Tryd.isAgg4
  z4 := Tryd.sizeOf4
  v4 := Tryd.zeroValue4
  t5 := Tryd.underlying5
  a5 := Tryd.isAgg5
  z5 := Tryd.sizeOf5
  v5 := Tryd.zeroValue5
  t9 := Tryd.underlying9
  a9 := Tryd.isAgg9
  z9 := Tryd.sizeOf9
  v9 := Tryd.zeroValue9
  t21 := Tryd.underlying21
  a21 := Tryd.isAgg21
  z21 := Tryd.sizeOf21
  v21 := Tryd.zeroValue21
  t31 := Tryd.underlying51
  a31 := Tryd.isAgg51
  z31 := Tryd.sizeOf51
  v31 := Tryd.zeroValue51
  t46 := Tryd.underlying72
  a46 := Tryd.isAgg72
  z46 := Tryd.sizeOf72
  v46 := Tryd.zeroValue72
  t51 := Tryd.underlying107
  a51 := Tryd.isAgg107
  z51 := Tryd.sizeOf107
  v51 := Tryd.zeroValue107
  t105 := Tryd.underlying83
  a105 := Tryd.isAgg83
  z105 := Tryd.sizeOf83
  v105 := Tryd.zeroValue83
  t119 := Tryd.underlying110
  a119 := Tryd.isAgg110
  z119 := Tryd.sizeOf110
  t138 := Tryd.underlying112
  a138 := Tryd.isAgg112
  z138 := Tryd.sizeOf112
  v138 := Tryd.zeroValue112
  t139 := Tryd.underlying113
  a139 := Tryd.isAgg113
  z139 := Tryd.sizeOf113
  v139 := Tryd.zeroValue113
  t146 := Tryd.underlying114
  a146 := Tryd.isAgg114
  z146 := Tryd.sizeOf114
  v146 := Tryd.zeroValue114
  g1 := by kernel_rfl
  g3 := by kernel_rfl
  g4 := by kernel_rfl }
open Go.RowKit Go.Lib in
theorem Tryd.strings_SplitN (s sep : ByteArray) (n : Nat) (m : Int) (w : World) (hs : s.size < 4294967281) (hm : w.cell? ⟨4, 0, none⟩ = some (.int .i64 m)) (h1 : 1 ≤ sep.size) (hn : 1 ≤ n) (hn63 : n ≤ 9223372036854775807) :
    Calls Tryd.prog 33 #[.string s, .string sep, .int .i64 n] w fun e w' =>
      e = .returned (.slice (some ⟨w.heap.size, 0, none⟩) (Lib.splitB sep 0 (min n (s.size + 1) - 1) s).length (min n (s.size + 1))) ∧ w' = w.alloc (.cells (Lib.cellsOf (Lib.splitB sep 0 (min n (s.size + 1) - 1) s) (min n (s.size + 1))) 9) := Any.strings_SplitN Tryd.lays147 (by kernel_rfl) s sep n m w hs hm h1 hn hn63
end Go.Proofs

/- Package ops: an op's words. -/
namespace Go.Proofs.YtngenbolpnckhaaDoor
open Go.RowKit

/-- The digits are the library's. -/
theorem digB_lib (n : Nat) : Lib.decDigits n = digB n := by
  induction n using Nat.strongRecOn with
  | _ n ih =>
    by_cases h : n < 10
    · rw [Lib.decDigits, dif_pos h, digB_lo h]
    · rw [Lib.decDigits, dif_neg h, digB_hi h, ih (n / 10) (by omega)]
theorem Itoa_any (n : Int) (w : World) (h0 : 0 ≤ n) (h1 : n ≤ 1000000) (hL : Laid w) :
    Calls Tryd.prog 36 #[.int .i64 n] w fun e w' => e = .returned (.string (strB (digB n.toNat))) ∧ Ext w w' := by
  refine (Tryd.strconv_Itoa n (by omega) (by omega) w hL.tab).mono ?_
  rintro e w' ⟨rfl, k, os, rfl⟩
  refine ⟨?_, Lib.below_grow _ w (Nat.le_refl _) k os⟩
  rw [Lib.itoa, if_neg (by omega), digB_lib]
  rfl
theorem join_words (o : OpN) : Lib.join (wordsL o (argsO o).length) [32] = nameK o.1 ++ wordsB (argsO o) := by
  rw [wordsL, Lib.join_cons, List.take_length]
  congr 1
  rw [Lib.joinTail, List.map_map, wordsB, List.flatMap_def]
  rfl
theorem textO_len {o : OpN} (h : rightO o = true) : (nameK o.1 ++ wordsB (argsO o)).length ≤ 10000000 := by
  have h1 := nameK_len o.1
  have h2 := wordsB_len (argsO o) (args_in h)
  have h3 := argsO_len o
  have h4 := manyK_le o.1
  have : (argsO o).length * 1000002 ≤ 6 * 1000002 := Nat.mul_le_mul_right _ (by omega)
  rw [List.length_append]
  omega

/-- Words as values. -/
def wV (l : List (List UInt8)) : List Value := l.map fun b => Value.string (strB b)
theorem wV_len (l : List (List UInt8)) : (wV l).length = l.length := List.length_map _
theorem wV_snoc (l : List (List UInt8)) (b : List UInt8) : wV (l ++ [b]) = wV l ++ [.string (strB b)] := by simp [wV]
theorem Grew.far {base : Nat} {e : TypeId} {g0 n0 c0 : Nat} {w w' : World} {xs : List Value} {v' : Value} (h : Grew base e (.slice (some ⟨g0, 0, none⟩) n0 c0) w xs v' w') {b o : Nat} {u : Value} (hc : w.cell? ⟨b, o, none⟩ = some u) (hb : b < w.heap.size) (hn : b ≠ g0) : w'.cell? ⟨b, o, none⟩ = some u :=
  (World.cell?_of_block (w := w) (h.2.1.block b hb (fun e => hn (by injection e)))).trans hc

/-- What a list of words is told as. -/
theorem Join_any (l : List (List UInt8)) (base : Nat) (v0 v : Value) (w0 w : World) (hg : Grew base 9 v0 w0 (wV l) v w) (hl : 0 < l.length) (hl2 : l.length ≤ 1000) (hlen : (Lib.join l [32]).length ≤ 10000000) :
    Calls Tryd.prog 37 #[v, .string ⟨#[32]⟩] w fun e w' => e = .returned (.string (strB (Lib.join l [32]))) ∧ Ext w w' := by
  obtain ⟨g, cap, rfl, hcap, -, hlt⟩ := hg.form (by rw [wV_len]; exact hl)
  have he : (l.map strB).map (fun x => x.data.toList) = l := by
    rw [List.map_map]
    conv => rhs; rw [← List.map_id l]
    exact List.map_congr_left fun b _ => strB_list b
  rw [wV_len] at hcap ⊢
  have h := Tryd.strings_Join g 0 cap (l.map strB) ⟨#[32]⟩ w (fun j x hx => by
    rw [Nat.zero_add, hg.cellAt j (by rw [wV_len]; have := (List.getElem?_eq_some_iff.1 hx).1; simpa using this)]
    rw [List.getElem?_map] at hx
    obtain ⟨b, hb, rfl⟩ := Option.map_eq_some_iff.1 hx
    rw [wV, List.getElem?_map, hb]
    rfl) hlt (by rw [List.length_map]; omega) (by rw [List.length_map]; exact hcap) (by rw [he]; exact Nat.le_trans hlen (by decide))
  rw [List.length_map] at h
  refine h.mono ?_
  rintro e w' ⟨rfl, hx⟩
  refine ⟨?_, hx⟩
  rw [he]
  rfl

set_option maxRecDepth 100000 in
set_option maxHeartbeats 4000000 in
theorem Text_any (o : OpN) (w : World) (hL : Laid w) :
    Calls Tryd.prog 20 #[opV o] w fun e w' => e = .returned (.string (strB (textO o))) ∧ Ext w w' := by
  have HLD := Lib.hid hL
  have HKR := Lib.hid fun w' h => Right_any o w' h
  cases hR : rightO o with
  | false =>
    have hz : strB (textO o) = ⟨#[]⟩ := by rw [textO, if_neg (by rw [hR]; decide)]; rfl
    rw [hz]
    rw [hR] at HKR
    clear hz hR
    obtain ⟨k, a, b, c, d, e, f⟩ := o
    rw [show opV (k, a, b, c, d, e, f) = .agg #[.int .i64 k, .int .i64 a, .int .i64 b, .int .i64 c, .int .i64 d, .int .i64 e, .int .i64 f] from rfl] at HKR ⊢
    have hE : Ext w (w.alloc (.cells #[.int .i64 k, .int .i64 a, .int .i64 b, .int .i64 c, .int .i64 d, .int .i64 e, .int .i64 f] 23)) := (Below.refl _ _).alloc (Nat.le_refl _) _
    have HKR' := Lib.hid (HKR.out _ (HLD.out.ext hE))
    clear HKR
    go_enter Tryd.func20, Tryd.ntmps20
    go_wp2_with fail
    refine HKR'.out.mono ?_
    rintro e2 w2 ⟨rfl, hx2⟩
    have hx := hE.trans hx2
    go_wp2
    go_ret
    exact ⟨rfl, hx⟩
  | true =>
    rw [hR] at HKR
    have hin := (rightO_iff.1 hR).1
    have HKI := Lib.hid fun W hW => itsNumbers_any o W hW hin
    have hal := argsO_len o
    have hm6 := manyK_le o.1
    have hjoin := join_words o
    have htext : textO o = nameK o.1 ++ wordsB (argsO o) := by rw [textO, if_pos hR]
    have HJL : Hid ((Lib.join (wordsL o (argsO o).length) [32]).length ≤ 10000000) := Lib.hid (by rw [hjoin]; exact textO_len hR)
    have hres : textO o = Lib.join (wordsL o (argsO o).length) [32] := by rw [hjoin, htext]
    have HIN := Lib.hid (args_in hR)
    have HS := Lib.hid fun n (x : Int) (h : (argsO o)[n]? = some x) => wordsL_step h
    have HW := Lib.hid fun n (h : n ≤ (argsO o).length) => wordsL_len h
    have HS0 : Hid (wordsL o 0 = [nameK o.1]) := Lib.hid rfl
    rw [hres]
    clear hR hjoin htext hres
    rw [← hal] at HKI hm6
    generalize argsO o = ar at *
    generalize wordsL o = S at *
    obtain ⟨k, a, b, c, d, e, f⟩ := o
    rw [show opV (k, a, b, c, d, e, f) = .agg #[.int .i64 k, .int .i64 a, .int .i64 b, .int .i64 c, .int .i64 d, .int .i64 e, .int .i64 f] from rfl] at HKR HKI ⊢
    simp only at hin hal HS0
    obtain ⟨kn, rfl⟩ : ∃ n : Nat, k = (n : Int) := ⟨k.toNat, by omega⟩
    have hk1 : 1 ≤ kn := by omega
    have hk2 : kn < 22 := by omega
    have hE : Ext w (w.alloc (.cells #[.int .i64 (kn : Int), .int .i64 a, .int .i64 b, .int .i64 c, .int .i64 d, .int .i64 e, .int .i64 f] 23)) := (Below.refl _ _).alloc (Nat.le_refl _) _
    have HKR' := Lib.hid (HKR.out _ (HLD.out.ext hE))
    have HBK := Lib.hid (Blk.new w 23 #[.int .i64 (kn : Int), .int .i64 a, .int .i64 b, .int .i64 c, .int .i64 d, .int .i64 e, .int .i64 f])
    have HE := Lib.hid hE
    have HM6 := Lib.hid hm6
    clear HKR hE hin hal hm6
    obtain ⟨mk, hmk⟩ : ∃ n, n = ar.length := ⟨_, rfl⟩
    rw [← hmk] at HKI HM6 HW HJL ⊢
    have HMK := Lib.hid hmk
    clear hmk
    go_enter Tryd.func20, Tryd.ntmps20
    go_wp2_with fail
    refine HKR'.out.mono ?_
    rintro e2 w2 ⟨rfl, hx2⟩
    have HB2 := Lib.hid (HBK.out.ext hx2)
    have HX2 := Lib.hid (HE.out.trans hx2)
    have hw2 : w.heap.size < w2.heap.size := HB2.out.lt
    obtain ⟨c0, c1, c2, c3, c4, c5, c6⟩ := box_cells HB2.out
    have cc := (HLD.out.ext HX2.out).name kn hk2
    have hltn := (HLD.out.ext HX2.out).ltn
    clear hx2 HBK HE HKR'
    have hE3 : Ext w2 (w2.alloc (.cells #[.string (strB (nameK (kn : Int)))] 9)) := (Below.refl _ _).alloc (Nat.le_refl _) _
    have HN3 := Lib.hid (Blk.new w2 9 #[.string (strB (nameK (kn : Int)))])
    have HE3 := Lib.hid hE3
    have HL3 := Lib.hid ((HLD.out.ext HX2.out).ext hE3)
    have HL2 := Lib.hid (HLD.out.ext HX2.out)
    have HSV : Hid (wV (S 0) = [.string (strB (nameK (kn : Int)))]) := Lib.hid (by rw [HS0.out]; rfl)
    clear hE3
    generalize strB (nameK (kn : Int)) = nm at *
    go_wp2_with fail
    refine (HKI.out _ HL3.out).mono ?_
    rintro e4 w4 ⟨b4, rfl, hb4, hr4, hx4⟩
    have hcell : ∀ (n : Nat) (x : Int), ar[n]? = some x → w4.cell? ⟨b4, n, none⟩ = some (.int .i64 x) ∧ b4 < w4.heap.size := by
      intro n x hn
      obtain ⟨A, c', e', q1, q2, q3⟩ := hr4
      obtain ⟨b', o', e1, e2, e3⟩ := q3 (by rw [List.length_map]; have := (List.getElem?_eq_some_iff.1 hn).1; omega)
      cases e'
      cases e1
      have := e3 n (I x) (by rw [List.getElem?_map, hn]; rfl)
      rw [Nat.zero_add] at this
      exact ⟨this, e2⟩
    have HCELL := Lib.hid hcell
    have hx24 := HE3.out.trans hx4
    have HX24 := Lib.hid hx24
    have HX4 := Lib.hid (HX2.out.trans hx24)
    have hg4 : Grew w2.heap.size 9 (.slice (some ⟨w2.heap.size, 0, none⟩) 1 1) w4 (wV (S 0)) (.slice (some ⟨w2.heap.size, 0, none⟩) 1 1) w4 := by
      rw [HSV.out]
      exact Grew.start (own_one (HN3.out.ext hx4) (Nat.le_refl _))
    have HG4 := Lib.hid hg4
    have hbg : w2.heap.size < b4 := by
      have : (w2.alloc (.cells #[.string nm] 9)).heap.size = w2.heap.size + 1 := by simp
      omega
    have HBG := Lib.hid hbg
    have HSZ := Lib.hid hx24.size
    clear hb4 hr4 hx4 hcell hx24 hg4 hbg HN3 c0 c1 c2 c3 c4 c5 c6 cc
    go_wp2
    go_loopg [3, 17] mk (fun gg s' i wr => ∃ (n : Nat) (s : Value), s = s' ∧ i = .int .i64 n ∧ n ≤ mk ∧ gg = mk - n ∧ Hid (Grew w2.heap.size 9 (.slice (some ⟨w2.heap.size, 0, none⟩) 1 1) w4 (wV (S n)) s wr))
    case atStart => exact ⟨0, _, rfl, rfl, Nat.zero_le _, rfl, HG4⟩
    case round =>
      obtain ⟨n, s, rfl, rfl, hn, rfl, hs⟩ := hrel
      have hxr : Ext w2 wr := Below.trans HX24.out (hs.out.below HSZ.out (fun k hk => by cases hk; exact Nat.le_refl _))
      have HXR := Lib.hid hxr
      by_cases hlt : n < mk
      · have d1 : decide (n < mk) = true := decide_eq_true hlt
        have hna : n < ar.length := by rw [← HMK.out]; exact hlt
        obtain ⟨x, hx⟩ : ∃ x, ar[n]? = some x := ⟨_, List.getElem?_eq_getElem hna⟩
        have hin := HIN.out x (List.mem_of_getElem? hx)
        have hcl := HCELL.out n x hx
        have cn := hs.out.far hcl.1 hcl.2 (fun e => by have := HBG.out; omega)
        have HKA := Lib.hid (Itoa_any x wr hin.1 hin.2 (HL2.out.ext hxr))
        have HST : Hid (wV (S (n + 1)) = wV (S n) ++ [.string (strB (digB x.toNat))]) := Lib.hid (by rw [HS.out n x hx, wV_snoc])
        have hll : (wV (S n)).length < 1000000000 := by
          rw [wV_len, HW.out n hn]
          have := HM6.out
          omega
        have HLL := Lib.hid hll
        have hm6 := HM6.out
        have HLT := Lib.hid hlt
        generalize strB (digB x.toNat) = sx at *
        clear hna hx hin hcl hxr hll
        go_wp2_with fail
        refine HKA.out.mono ?_
        rintro e5 w5 ⟨rfl, hx5⟩
        have HG5 := Lib.hid (hs.out.step hx5)
        have hb5 : w2.heap.size ≤ w5.heap.size := (HXR.out.trans hx5).size
        clear hs hx5 cn
        go_wp2_with (at_builtin; refine push_str rfl _ _ rfl w2.heap.size s _ rfl HG5.out.1 _ rfl rfl HLL.out hb5 ?_; intro v' w' hg')
        go_roundg (mk - (n + 1))
        case measure => have := HLT.out; omega
        case rel => exact ⟨n + 1, _, rfl, by go_num, HLT.out, rfl, Lib.hid (by rw [HST.out]; exact HG5.out.trans hg')⟩
      · have d1 : decide (n < mk) = false := decide_eq_false hlt
        obtain rfl : n = mk := by omega
        have HJ := Lib.hid (Join_any (S n) _ _ _ _ _ hs.out (by rw [HW.out n (Nat.le_refl _)]; omega) (by rw [HW.out n (Nat.le_refl _)]; have := HM6.out; omega) HJL.out)
        obtain ⟨sj, hsj⟩ : ∃ sj, sj = strB (Lib.join (S n) [32]) := ⟨_, rfl⟩
        rw [← hsj] at HJ
        have HSJ := Lib.hid hsj
        clear hsj
        clear hs hxr hlt
        go_wp2_with fail
        refine HJ.out.mono ?_
        rintro e5 w5 ⟨rfl, hx5⟩
        have hx := (HX2.out.trans HXR.out).trans hx5
        go_wp2
        go_ret
        exact ⟨by rw [← HSJ.out]; rfl, hx⟩

end Go.Proofs.YtngenbolpnckhaaDoor

/- Package ops: the library's calls that Parse makes, in the words of these texts. -/
namespace Go.Proofs.YtngenbolpnckhaaDoor
open Go.RowKit

theorem SplitN_any (s : List UInt8) (w : World) (hs : s.length ≤ 1000000) (hL : Laid w) :
    Calls Tryd.prog 33 #[.string (strB s), .string ⟨#[32]⟩, .int .i64 7] w fun e w' => ∃ g, e = .returned (.slice (some ⟨g, 0, none⟩) (splitW s).length (min 7 (s.length + 1))) ∧ w.heap.size ≤ g ∧ g < w'.heap.size ∧
      (∀ (j : Nat) (b : List UInt8), (splitW s)[j]? = some b → w'.cell? ⟨g, j, none⟩ = some (.string (strB b))) ∧ Ext w w' := by
  obtain ⟨m, hm⟩ := hL.ml
  have hz := strB_size s
  refine (Tryd.strings_SplitN (strB s) ⟨#[32]⟩ 7 m w (by rw [hz]; omega) hm (by decide) (by decide) (by decide)).mono ?_
  have hd : (Lib.splitB ⟨#[32]⟩ 0 (min 7 ((strB s).size + 1) - 1) (strB s)).map (fun x => x.data.toList) = splitW s := by
    rw [Lib.splitB_data, strB_list, hz]
    rfl
  have hl : (Lib.splitB ⟨#[32]⟩ 0 (min 7 ((strB s).size + 1) - 1) (strB s)).length = (splitW s).length := by rw [← hd, List.length_map]
  rintro e w' ⟨rfl, rfl⟩
  refine ⟨w.heap.size, by rw [hl, hz], Nat.le_refl _, by simp, fun j b hb => ?_, (Below.refl _ _).alloc (Nat.le_refl _) _⟩
  rw [← hd, List.getElem?_map] at hb
  obtain ⟨x, hx, rfl⟩ := Option.map_eq_some_iff.1 hb
  rw [cell_of_row _ _ j _ 9 (0, 0) (heap_alloc_new w _), Lib.cellsOf, List.getElem?_toArray, List.getElem?_append_left (by rw [List.length_map]; exact (List.getElem?_eq_some_iff.1 hx).1), List.getElem?_map, hx, strB_back]
  rfl

theorem Atoi_any (b : List UInt8) (w : World) (hb : b.length ≤ 1000000) (hL : Laid w) :
    Calls Tryd.prog 34 #[.string (strB b)] w fun e w' => Ext w w' ∧ ((∃ v, Lib.atoiAll b = .ok v ∧ e = .returned (.tuple #[.int .i64 v, .nilIface])) ∨
      ((∀ v, Lib.atoiAll b ≠ .ok v) ∧ ∃ x N, e = .returned (.tuple #[.int .i64 x, .iface 78 (.pointer (some ⟨N, 0, none⟩))]))) := by
  have hz := strB_size b
  obtain ⟨t1, p1, h1⟩ := hL.syn
  obtain ⟨t2, p2, h2⟩ := hL.rng
  rcases h : Lib.atoiAll b with v | _ | _
  · refine (Tryd.strconv_Atoi_ok (strB b) (by rw [hz]; omega) v (by rw [strB_list]; exact h) w).mono ?_
    rintro e w' ⟨rfl, rfl | ⟨t, rfl⟩⟩
    · exact ⟨Ext.refl _, .inl ⟨v, rfl, rfl⟩⟩
    · exact ⟨Lib.bytesWorld_below w _ t, .inl ⟨v, rfl, rfl⟩⟩
  · refine (Tryd.strconv_Atoi_syntax_var (strB b) (by rw [hz]; omega) (by rw [strB_list]; exact h) t1 p1 w h1).mono ?_
    rintro e w' ⟨N, rfl, -, -, hx⟩
    exact ⟨hx, .inr ⟨(fun v e => by cases e), 0, N, rfl⟩⟩
  · refine (Tryd.strconv_Atoi_range_var (strB b) (by rw [hz]; omega) (by rw [strB_list]; exact h) t2 p2 w h2).mono ?_
    rintro e w' ⟨N, rfl, -, -, hx⟩
    exact ⟨hx, .inr ⟨(fun v e => by cases e), _, N, rfl⟩⟩

end Go.Proofs.YtngenbolpnckhaaDoor

/- Package ops: the op of words. -/
namespace Go.Proofs.YtngenbolpnckhaaDoor
open Go.RowKit

theorem headD_at {s : List UInt8} {b : List UInt8} (h : (splitW s)[0]? = some b) : (splitW s).headD [] = b := by
  cases hs : splitW s with
  | nil =>
    rw [hs] at h
    cases h
  | cons c r =>
    rw [hs] at h
    simpa using h

set_option maxRecDepth 100000 in
set_option maxHeartbeats 4000000 in
theorem Parse_more (s : List UInt8) (w : World) (h0 : 0 < s.length) (hlen : s.length ≤ 1000000) (hL : Laid w) :
    Calls Tryd.prog 16 #[.string (strB s)] w fun e w' => ∃ o ok, e = .returned (.tuple #[opV o, .bool ok]) ∧ ParseO s o ok ∧ Ext w w' := by
  have HLD := Lib.hid hL
  have HLN := Lib.hid hlen
  have hE : Ext w (w.alloc (.cells #[.int .i64 0, .int .i64 0, .int .i64 0, .int .i64 0, .int .i64 0, .int .i64 0, .int .i64 0] 23)) := (Below.refl _ _).alloc (Nat.le_refl _) _
  have HE := Lib.hid hE
  have HBK := Lib.hid (Blk.new w 23 #[.int .i64 0, .int .i64 0, .int .i64 0, .int .i64 0, .int .i64 0, .int .i64 0, .int .i64 0])
  have HSN := Lib.hid (SplitN_any s _ hlen (hL.ext hE))
  obtain ⟨N, hN⟩ : ∃ n, n = (splitW s).length := ⟨_, rfl⟩
  obtain ⟨cp, hcp⟩ : ∃ n, n = min 7 (s.length + 1) := ⟨_, rfl⟩
  have hN0 : 0 < N := by rw [hN]; exact splitK_pos _ _
  have hN7 : N ≤ cp := by
    rw [hN, hcp]
    have := splitK_le (min 7 (s.length + 1) - 1) s
    rw [splitW]
    omega
  rw [← hN, ← hcp] at HSN
  have hc7 : cp ≤ 7 := by omega
  have hc1 : ¬ cp = 1 := by omega
  have hc1' : ¬ (cp : Int) = 1 := by omega
  have HPC := Lib.hid fun b (h : b ∈ splitW s) => Nat.le_trans (splitK_piece _ _ b h) hlen
  obtain ⟨mk, rfl⟩ : ∃ m, N = m + 1 := ⟨N - 1, by omega⟩
  have hTL : (splitW s).tail.length = mk := by rw [List.length_tail, ← hN]; omega
  have HTL := Lib.hid hTL
  have HT := Lib.hid fun (j : Nat) (b : List UInt8) (h : (splitW s).tail[j]? = some b) => (by rw [List.getElem?_tail] at h; exact h : (splitW s)[j + 1]? = some b)
  obtain ⟨b0, hb0⟩ : ∃ b, (splitW s)[0]? = some b := ⟨_, List.getElem?_eq_getElem (by omega)⟩
  have HB0 := Lib.hid hb0
  have HHD := Lib.hid (headD_at hb0)
  have HS0 := Lib.hid (strB_list s)
  clear hlen hL hE hTL hb0 hcp hN h0
  go_enter Tryd.func16, Tryd.ntmps16
  go_wp2_with fail
  refine HSN.out.mono ?_
  rintro e w2 ⟨g, rfl, hg1, hg2, hcl, hx2⟩
  have HCL := Lib.hid hcl
  have HB2 := Lib.hid (HBK.out.ext hx2)
  have HX2 := Lib.hid (HE.out.trans hx2)
  have HG2 := Lib.hid hg2
  have m0 : ((0 : Int) ≤ (mk : Int) + 1) := by omega
  have m1 : ((1 : Int) ≤ (mk : Int) + 1) := by omega
  have m2 : ((mk : Int) + 1) ≤ (cp : Int) := by omega
  clear hcl hx2 hg1 hg2 HSN HBK HE
  go_wp2
  go_loopg [5, 17] mk (fun gg v' i wr => ∃ (n : Nat) (v : Value) (l : List Int), v = v' ∧ i = .int .i64 n ∧ n ≤ mk ∧ gg = mk - n ∧ Hid (Grew w2.heap.size 3 (.slice none 0 0) w2 (l.map I) v wr ∧ l.length = n ∧ ((splitW s).tail.take n).map Lib.atoiAll = l.map Lib.NumEnd.ok))
  case atStart => exact ⟨0, _, [], rfl, rfl, Nat.zero_le _, rfl, Lib.hid ⟨Grew.nil _, rfl, rfl⟩⟩
  case round =>
    obtain ⟨n, v, l, rfl, rfl, hn, rfl, hs⟩ := hrel
    have hxr := hs.out.1.ext
    have HXR := Lib.hid hxr
    have HLR := Lib.hid ((HLD.out.ext HX2.out).ext hxr)
    by_cases hlt : n < mk
    · have d1 : decide (n < mk) = true := decide_eq_true hlt
      obtain ⟨b, hb⟩ : ∃ b, (splitW s).tail[n]? = some b := ⟨_, List.getElem?_eq_getElem (by rw [HTL.out]; exact hlt)⟩
      have hb1 := HT.out n b hb
      have cn : wr.cell? ⟨g, 1 + n, none⟩ = some (.string (strB b)) := (HXR.out.cell (p := ⟨g, 1 + n, none⟩) HG2.out).trans (HCL.out (1 + n) b (by rw [Nat.add_comm]; exact hb1))
      have HKA := Lib.hid (Atoi_any b wr (HPC.out b (List.mem_of_getElem? hb1)) HLR.out)
      have hll : (l.map I).length < 17592186044416 := by rw [List.length_map, hs.out.2.1]; omega
      have HLL := Lib.hid hll
      have HLT := Lib.hid hlt
      have hn7 : n < 7 := by omega
      have HFL := Lib.hid fun (h : ∀ v, Lib.atoiAll b ≠ .ok v) => parse_fail hb1 h
      have HNX : Hid (∀ v, Lib.atoiAll b = .ok v → ((splitW s).tail.take (n + 1)).map Lib.atoiAll = (l ++ [v]).map Lib.NumEnd.ok) := Lib.hid fun v h => by
        rw [List.take_add_one, hb, List.map_append, hs.out.2.2, List.map_append]
        simp [h]
      clear hb hb1 hxr hll
      generalize strB b = sb at *
      go_wp2_with fail
      refine HKA.out.mono ?_
      rintro e w5 ⟨hx5, ⟨x, hx, rfl⟩ | ⟨hno, x, Nn, rfl⟩⟩
      · have HG5 := Lib.hid (hs.out.1.step hx5)
        have HNL := Lib.hid hs.out.2.1
        have HNX' := Lib.hid (HNX.out x hx)
        have hb5 : w2.heap.size ≤ w5.heap.size := (HXR.out.trans hx5).size
        clear hs hx5 hx cn HNX HFL
        go_wp2_with (at_builtin; refine push_int rfl _ _ rfl w2.heap.size v _ rfl HG5.out.1 _ rfl rfl HLL.out hb5 ?_; intro v' w' hg')
        go_roundg (mk - (n + 1))
        case measure => have := HLT.out; omega
        case rel => exact ⟨n + 1, _, l ++ [x], rfl, by go_num, HLT.out, rfl, Lib.hid ⟨by rw [List.map_append]; exact HG5.out.trans hg', by rw [List.length_append, HNL.out]; rfl, HNX'.out⟩⟩
      · have HG := Lib.hid (HFL.out hno)
        have HBX := Lib.hid ((HB2.out.ext HXR.out).ext hx5)
        have HXX := Lib.hid ((HX2.out.trans HXR.out).trans hx5)
        clear hs hx5 hno cn HNX HFL
        obtain ⟨c0, c1, c2, c3, c4, c5, c6⟩ := box_cells HBX.out
        have f0 := HBX.out.frozen 0
        have f1 := HBX.out.frozen 1
        have f2 := HBX.out.frozen 2
        have f3 := HBX.out.frozen 3
        have f4 := HBX.out.frozen 4
        have f5 := HBX.out.frozen 5
        have f6 := HBX.out.frozen 6
        go_wp2_with fail
        refine end7 rfl HBX.out HXX.out _ rfl ?_ _ _ _ _ _ _ _ ?_
        · rfl
        · intro w9 hx9
          exact ⟨zeroO, false, rfl, HG.out, hx9⟩
    · have d1 : decide (n < mk) = false := decide_eq_false hlt
      obtain rfl : n = mk := by omega
      have hrl : ReadL (splitW s) l := by
        have := hs.out.2.2
        rw [List.take_of_length_le (by rw [HTL.out]; exact Nat.le_refl _)] at this
        exact this
      have HRL := Lib.hid hrl
      have HK := Lib.hid (kindOf_any b0 wr HLR.out)
      have hc0 : wr.cell? ⟨g, 0, none⟩ = some (.string (strB b0)) := (HXR.out.cell (p := ⟨g, 0, none⟩) HG2.out).trans (HCL.out 0 b0 HB0.out)
      obtain ⟨A5, c5, rfl, -, -⟩ := (Rd.own hs.out.1.own).sliceN (n := n) (by rw [List.length_map, hs.out.2.1])
      have HRD := Lib.hid (Rd.own hs.out.1.own)
      have HLL : Hid (l.length ≤ 1000000) := Lib.hid (by rw [hs.out.2.1]; omega)
      have HBR := Lib.hid (HB2.out.ext HXR.out)
      have HXW := Lib.hid (HX2.out.trans HXR.out)
      clear hs hrl hlt hxr
      generalize strB b0 = sb0 at *
      go_wp2_with fail
      refine HK.out.mono ?_
      rintro e w5 ⟨kd, rfl, hkd, rfl⟩
      have HKD : Hid (KindIs ((splitW s).headD []) kd) := Lib.hid (by rw [HHD.out]; exact hkd)
      have HM := Lib.hid (made_any (kd : Int) l _ wr HRD.out HLL.out HLR.out)
      have HNO := Lib.hid fun h => parse_end HRL.out HKD.out h
      have HYES := Lib.hid fun h1 h2 => parse_yes (s := s) (l := l) (kd := kd) h1 h2
      clear hkd
      generalize madeOk (kd : Int) l = ok at *
      generalize hmo : madeO (kd : Int) l = o at *
      clear hmo
      have HTX := Lib.hid fun W h => Text_any o W h
      obtain ⟨a0, a1, a2, a3, a4, a5, a6⟩ := o
      rw [show opV (a0, a1, a2, a3, a4, a5, a6) = .agg #[.int .i64 a0, .int .i64 a1, .int .i64 a2, .int .i64 a3, .int .i64 a4, .int .i64 a5, .int .i64 a6] from rfl] at HM HTX
      go_wp2_with fail
      refine HM.out.mono ?_
      rintro e w6 ⟨rfl, hx6⟩
      have hx7 : Ext w6 (w6.alloc (.cells #[.int .i64 a0, .int .i64 a1, .int .i64 a2, .int .i64 a3, .int .i64 a4, .int .i64 a5, .int .i64 a6] 23)) := (Below.refl _ _).alloc (Nat.le_refl _) _
      have HO7 := Lib.hid (Blk.new w6 23 #[.int .i64 a0, .int .i64 a1, .int .i64 a2, .int .i64 a3, .int .i64 a4, .int .i64 a5, .int .i64 a6])
      have HBX := Lib.hid ((HBR.out.ext hx6).ext hx7)
      have HXX := Lib.hid ((HXW.out.trans hx6).trans hx7)
      have HTX7 := Lib.hid (HTX.out _ (HLD.out.ext HXX.out))
      have HB6 := Lib.hid (HBR.out.ext hx6)
      have HX6 := Lib.hid (HXW.out.trans hx6)
      have hlt6 : w.heap.size < w6.heap.size := HB6.out.lt
      clear hx6 hx7 HTX HM hc0
      cases ok with
      | false =>
        have HG := Lib.hid (HNO.out (fun h => by cases h.1))
        clear HNO HYES
        go_wp2_with (refine wpList_storeB rfl 23 (.tmp 2) (.tmp 51) rfl w.heap.size #[.int .i64 0, .int .i64 0, .int .i64 0, .int .i64 0, .int .i64 0, .int .i64 0, .int .i64 0] rfl rfl 23 #[.int .i64 0, .int .i64 0, .int .i64 0, .int .i64 0, .int .i64 0, .int .i64 0, .int .i64 0] HBX.out (by kernel_rfl) rfl (by kernel_rfl) w.heap.size w HXX.out (Nat.le_refl _) ?_; intro w9 hb9 hx9)
        exact end_ct (p := 2) (q := 3) rfl hb9 _ rfl rfl ⟨zeroO, false, rfl, HG.out, hx9⟩
      | true =>
        go_wp2_with fail
        refine HTX7.out.mono ?_
        rintro e w8 ⟨rfl, hx8⟩
        have ho8 := HO7.out.ext hx8
        have HBX8 := Lib.hid (HBX.out.ext hx8)
        have HXX8 := Lib.hid (HXX.out.trans hx8)
        clear hx8 HBX HXX
        have HBX := HBX8
        have HXX := HXX8
        clear HBX8 HXX8
        obtain ⟨n0, n1, n2, n3, n4, n5, n6⟩ := box_cells ho8
        clear ho8
        obtain ⟨c0, c1, c2, c3, c4, c5, c6⟩ := box_cells HBX.out
        have f0 := HBX.out.frozen 0
        have f1 := HBX.out.frozen 1
        have f2 := HBX.out.frozen 2
        have f3 := HBX.out.frozen 3
        have f4 := HBX.out.frozen 4
        have f5 := HBX.out.frozen 5
        have f6 := HBX.out.frozen 6
        by_cases he : textO (a0, a1, a2, a3, a4, a5, a6) = s
        · have d2 : ((strB (textO (a0, a1, a2, a3, a4, a5, a6))).toList == (strB s).toList) = true := (Lib.bytes_beq_iff _ _).2 (by rw [he])
          have HG := Lib.hid (HYES.out (by first | rfl | trivial) he)
          clear he HNO HYES
          generalize strB (textO (a0, a1, a2, a3, a4, a5, a6)) = st at *
          go_wp2_with fail
          refine end7 rfl HBX.out HXX.out _ rfl ?_ _ _ _ _ _ _ _ ?_
          · rfl
          · intro w9 hx9
            exact ⟨(a0, a1, a2, a3, a4, a5, a6), true, rfl, HG.out, hx9⟩
        · have d2 : ((strB (textO (a0, a1, a2, a3, a4, a5, a6))).toList == (strB s).toList) = false := (Lib.bytes_beq_false_iff _ _).2 (fun e => he (by have := congrArg (fun x => x.data.toList) e; simpa [strB] using this))
          have HG := Lib.hid (HNO.out (fun h => he h.2))
          clear he HNO HYES
          generalize strB (textO (a0, a1, a2, a3, a4, a5, a6)) = st at *
          go_wp2_with fail
          refine end7 rfl HBX.out HXX.out _ rfl ?_ _ _ _ _ _ _ _ ?_
          · rfl
          · intro w9 hx9
            exact ⟨zeroO, false, rfl, HG.out, hx9⟩

set_option maxRecDepth 100000 in
set_option maxHeartbeats 4000000 in
theorem Parse_one (s : List UInt8) (w : World) (h0 : s.length = 0) (hlen : s.length ≤ 1000000) (hL : Laid w) :
    Calls Tryd.prog 16 #[.string (strB s)] w fun e w' => ∃ o ok, e = .returned (.tuple #[opV o, .bool ok]) ∧ ParseO s o ok ∧ Ext w w' := by
  have HLD := Lib.hid hL
  have HLN := Lib.hid hlen
  have hE : Ext w (w.alloc (.cells #[.int .i64 0, .int .i64 0, .int .i64 0, .int .i64 0, .int .i64 0, .int .i64 0, .int .i64 0] 23)) := (Below.refl _ _).alloc (Nat.le_refl _) _
  have HE := Lib.hid hE
  have HBK := Lib.hid (Blk.new w 23 #[.int .i64 0, .int .i64 0, .int .i64 0, .int .i64 0, .int .i64 0, .int .i64 0, .int .i64 0])
  have HSN := Lib.hid (SplitN_any s _ hlen (hL.ext hE))
  obtain ⟨N, hN⟩ : ∃ n, n = (splitW s).length := ⟨_, rfl⟩
  obtain ⟨cp, hcp⟩ : ∃ n, n = min 7 (s.length + 1) := ⟨_, rfl⟩
  have hN0 : 0 < N := by rw [hN]; exact splitK_pos _ _
  have hN7 : N ≤ cp := by
    rw [hN, hcp]
    have := splitK_le (min 7 (s.length + 1) - 1) s
    rw [splitW]
    omega
  rw [← hN, ← hcp] at HSN
  have hc7 : cp ≤ 7 := by omega
  have hc1 : cp = 1 := by omega
  subst hc1
  have HPC := Lib.hid fun b (h : b ∈ splitW s) => Nat.le_trans (splitK_piece _ _ b h) hlen
  obtain ⟨mk, rfl⟩ : ∃ m, N = m + 1 := ⟨N - 1, by omega⟩
  have hTL : (splitW s).tail.length = mk := by rw [List.length_tail, ← hN]; omega
  have HTL := Lib.hid hTL
  have HT := Lib.hid fun (j : Nat) (b : List UInt8) (h : (splitW s).tail[j]? = some b) => (by rw [List.getElem?_tail] at h; exact h : (splitW s)[j + 1]? = some b)
  obtain ⟨b0, hb0⟩ : ∃ b, (splitW s)[0]? = some b := ⟨_, List.getElem?_eq_getElem (by omega)⟩
  have HB0 := Lib.hid hb0
  have HHD := Lib.hid (headD_at hb0)
  have HS0 := Lib.hid (strB_list s)
  clear hlen hL hE hTL hb0 hcp hN h0
  go_enter Tryd.func16, Tryd.ntmps16
  go_wp2_with fail
  refine HSN.out.mono ?_
  rintro e w2 ⟨g, rfl, hg1, hg2, hcl, hx2⟩
  have HCL := Lib.hid hcl
  have HB2 := Lib.hid (HBK.out.ext hx2)
  have HX2 := Lib.hid (HE.out.trans hx2)
  have HG2 := Lib.hid hg2
  have m0 : ((0 : Int) ≤ (mk : Int) + 1) := by omega
  have m1 : ((1 : Int) ≤ (mk : Int) + 1) := by omega
  have m2 : ((mk : Int) + 1) ≤ 1 := by omega
  clear hcl hx2 hg1 hg2 HSN HBK HE
  go_wp2
  go_loopg [5, 17] mk (fun gg v' i wr => ∃ (n : Nat) (v : Value) (l : List Int), v = v' ∧ i = .int .i64 n ∧ n ≤ mk ∧ gg = mk - n ∧ Hid (Grew w2.heap.size 3 (.slice none 0 0) w2 (l.map I) v wr ∧ l.length = n ∧ ((splitW s).tail.take n).map Lib.atoiAll = l.map Lib.NumEnd.ok))
  case atStart => exact ⟨0, _, [], rfl, rfl, Nat.zero_le _, rfl, Lib.hid ⟨Grew.nil _, rfl, rfl⟩⟩
  case round =>
    obtain ⟨n, v, l, rfl, rfl, hn, rfl, hs⟩ := hrel
    have hxr := hs.out.1.ext
    have HXR := Lib.hid hxr
    have HLR := Lib.hid ((HLD.out.ext HX2.out).ext hxr)
    by_cases hlt : n < mk
    · exact absurd hlt (by omega)
    · have d1 : decide (n < mk) = false := decide_eq_false hlt
      obtain rfl : n = mk := by omega
      have hrl : ReadL (splitW s) l := by
        have := hs.out.2.2
        rw [List.take_of_length_le (by rw [HTL.out]; exact Nat.le_refl _)] at this
        exact this
      have HRL := Lib.hid hrl
      have HK := Lib.hid (kindOf_any b0 wr HLR.out)
      have hc0 : wr.cell? ⟨g, 0, none⟩ = some (.string (strB b0)) := (HXR.out.cell (p := ⟨g, 0, none⟩) HG2.out).trans (HCL.out 0 b0 HB0.out)
      obtain ⟨A5, c5, rfl, -, -⟩ := (Rd.own hs.out.1.own).sliceN (n := n) (by rw [List.length_map, hs.out.2.1])
      have HRD := Lib.hid (Rd.own hs.out.1.own)
      have HLL : Hid (l.length ≤ 1000000) := Lib.hid (by rw [hs.out.2.1]; omega)
      have HBR := Lib.hid (HB2.out.ext HXR.out)
      have HXW := Lib.hid (HX2.out.trans HXR.out)
      clear hs hrl hlt hxr
      generalize strB b0 = sb0 at *
      go_wp2_with fail
      refine HK.out.mono ?_
      rintro e w5 ⟨kd, rfl, hkd, rfl⟩
      have HKD : Hid (KindIs ((splitW s).headD []) kd) := Lib.hid (by rw [HHD.out]; exact hkd)
      have HM := Lib.hid (made_any (kd : Int) l _ wr HRD.out HLL.out HLR.out)
      have HNO := Lib.hid fun h => parse_end HRL.out HKD.out h
      have HYES := Lib.hid fun h1 h2 => parse_yes (s := s) (l := l) (kd := kd) h1 h2
      clear hkd
      generalize madeOk (kd : Int) l = ok at *
      generalize hmo : madeO (kd : Int) l = o at *
      clear hmo
      have HTX := Lib.hid fun W h => Text_any o W h
      obtain ⟨a0, a1, a2, a3, a4, a5, a6⟩ := o
      rw [show opV (a0, a1, a2, a3, a4, a5, a6) = .agg #[.int .i64 a0, .int .i64 a1, .int .i64 a2, .int .i64 a3, .int .i64 a4, .int .i64 a5, .int .i64 a6] from rfl] at HM HTX
      go_wp2_with fail
      refine HM.out.mono ?_
      rintro e w6 ⟨rfl, hx6⟩
      have hx7 : Ext w6 (w6.alloc (.cells #[.int .i64 a0, .int .i64 a1, .int .i64 a2, .int .i64 a3, .int .i64 a4, .int .i64 a5, .int .i64 a6] 23)) := (Below.refl _ _).alloc (Nat.le_refl _) _
      have HO7 := Lib.hid (Blk.new w6 23 #[.int .i64 a0, .int .i64 a1, .int .i64 a2, .int .i64 a3, .int .i64 a4, .int .i64 a5, .int .i64 a6])
      have HBX := Lib.hid ((HBR.out.ext hx6).ext hx7)
      have HXX := Lib.hid ((HXW.out.trans hx6).trans hx7)
      have HTX7 := Lib.hid (HTX.out _ (HLD.out.ext HXX.out))
      have HB6 := Lib.hid (HBR.out.ext hx6)
      have HX6 := Lib.hid (HXW.out.trans hx6)
      have hlt6 : w.heap.size < w6.heap.size := HB6.out.lt
      clear hx6 hx7 HTX HM hc0
      cases ok with
      | false =>
        have HG := Lib.hid (HNO.out (fun h => by cases h.1))
        clear HNO HYES
        go_wp2_with (refine wpList_storeB rfl 23 (.tmp 2) (.tmp 51) rfl w.heap.size #[.int .i64 0, .int .i64 0, .int .i64 0, .int .i64 0, .int .i64 0, .int .i64 0, .int .i64 0] rfl rfl 23 #[.int .i64 0, .int .i64 0, .int .i64 0, .int .i64 0, .int .i64 0, .int .i64 0, .int .i64 0] HBX.out (by kernel_rfl) rfl (by kernel_rfl) w.heap.size w HXX.out (Nat.le_refl _) ?_; intro w9 hb9 hx9)
        exact end_ct (p := 2) (q := 3) rfl hb9 _ rfl rfl ⟨zeroO, false, rfl, HG.out, hx9⟩
      | true =>
        go_wp2_with fail
        refine HTX7.out.mono ?_
        rintro e w8 ⟨rfl, hx8⟩
        have ho8 := HO7.out.ext hx8
        have HBX8 := Lib.hid (HBX.out.ext hx8)
        have HXX8 := Lib.hid (HXX.out.trans hx8)
        clear hx8 HBX HXX
        have HBX := HBX8
        have HXX := HXX8
        clear HBX8 HXX8
        obtain ⟨n0, n1, n2, n3, n4, n5, n6⟩ := box_cells ho8
        clear ho8
        obtain ⟨c0, c1, c2, c3, c4, c5, c6⟩ := box_cells HBX.out
        have f0 := HBX.out.frozen 0
        have f1 := HBX.out.frozen 1
        have f2 := HBX.out.frozen 2
        have f3 := HBX.out.frozen 3
        have f4 := HBX.out.frozen 4
        have f5 := HBX.out.frozen 5
        have f6 := HBX.out.frozen 6
        by_cases he : textO (a0, a1, a2, a3, a4, a5, a6) = s
        · have d2 : ((strB (textO (a0, a1, a2, a3, a4, a5, a6))).toList == (strB s).toList) = true := (Lib.bytes_beq_iff _ _).2 (by rw [he])
          have HG := Lib.hid (HYES.out (by first | rfl | trivial) he)
          clear he HNO HYES
          generalize strB (textO (a0, a1, a2, a3, a4, a5, a6)) = st at *
          go_wp2_with fail
          refine end7 rfl HBX.out HXX.out _ rfl ?_ _ _ _ _ _ _ _ ?_
          · rfl
          · intro w9 hx9
            exact ⟨(a0, a1, a2, a3, a4, a5, a6), true, rfl, HG.out, hx9⟩
        · have d2 : ((strB (textO (a0, a1, a2, a3, a4, a5, a6))).toList == (strB s).toList) = false := (Lib.bytes_beq_false_iff _ _).2 (fun e => he (by have := congrArg (fun x => x.data.toList) e; simpa [strB] using this))
          have HG := Lib.hid (HNO.out (fun h => he h.2))
          clear he HNO HYES
          generalize strB (textO (a0, a1, a2, a3, a4, a5, a6)) = st at *
          go_wp2_with fail
          refine end7 rfl HBX.out HXX.out _ rfl ?_ _ _ _ _ _ _ _ ?_
          · rfl
          · intro w9 hx9
            exact ⟨zeroO, false, rfl, HG.out, hx9⟩

theorem Parse_any (s : List UInt8) (w : World) (hlen : s.length ≤ 1000000) (hL : Laid w) :
    Calls Tryd.prog 16 #[.string (strB s)] w fun e w' => ∃ o ok, e = .returned (.tuple #[opV o, .bool ok]) ∧ ParseO s o ok ∧ Ext w w' := by
  by_cases h : s.length = 0
  · exact Parse_one s w h hlen hL
  · exact Parse_more s w (by omega) hlen hL

end Go.Proofs.YtngenbolpnckhaaDoor

/- Layer 8, the statements: what all of them ask first. -/
namespace Go.Proofs.YtngenbolpnckhaaDoor
open Go.RowKit

def opA : OpN := (9, 1, 3, 0, 0, 0, 0)
theorem right_A : rightO opA = true := by decide +kernel
theorem right_Z : rightO zeroO = false := by decide +kernel
theorem put_A : putO opA = [3, 9, 1, 3] := by
  rw [putO, if_pos right_A, show opA.1 :: argsO opA = [9, 1, 3] from rfl]
  simp only [listB, numsB, List.length_cons, List.length_nil, List.flatMap_cons, List.flatMap_nil, Int.toNat_one, show (9 : Int).toNat = 9 from rfl, show (3 : Int).toNat = 3 from rfl, numB_lo (show 0 + 1 + 1 + 1 < 128 by omega), numB_lo (show 1 < 128 by omega), numB_lo (show 9 < 128 by omega)]
  rfl
theorem text_A : textO opA = [104, 111, 108, 100, 32, 49, 32, 51] := by
  rw [textO, if_pos right_A, show argsO opA = [1, 3] from rfl]
  simp only [wordsB, List.flatMap_cons, List.flatMap_nil, Int.toNat_one, show (3 : Int).toNat = 3 from rfl, digB_lo (show 1 < 10 by omega), digB_lo (show 3 < 10 by omega)]
  rfl
theorem get_A : GetO [3, 9, 1, 3] opA true := .inl ⟨rfl, right_A, put_A⟩
theorem parse_A : ParseO [104, 111, 108, 100, 32, 49, 32, 51] opA true := .inl ⟨rfl, right_A, text_A⟩
theorem lit_A : #[Value.int .u8 3, Value.int .u8 9, Value.int .u8 1, Value.int .u8 3] = (([3, 9, 1, 3] : List UInt8).map B).toArray := by simp [B]
theorem GetA_any (v : Value) (w : World) (hr : Rd w v (([3, 9, 1, 3] : List UInt8).map B)) (hL : Laid w) :
    Calls Tryd.prog 9 #[v] w fun e w' => e = .returned (.tuple #[.agg #[.int .i64 9, .int .i64 1, .int .i64 3, .int .i64 0, .int .i64 0, .int .i64 0, .int .i64 0], .bool true]) ∧ Ext w w' := by
  refine (Get_any _ _ _ hr (by decide) hL).mono ?_
  rintro e w' ⟨o, ok, rfl, hg, hx⟩
  obtain ⟨rfl, rfl⟩ := hg.one get_A
  exact ⟨rfl, hx⟩
theorem ParseA_any (w : World) (hL : Laid w) :
    Calls Tryd.prog 16 #[.string ⟨#[104, 111, 108, 100, 32, 49, 32, 51]⟩] w fun e w' => e = .returned (.tuple #[.agg #[.int .i64 9, .int .i64 1, .int .i64 3, .int .i64 0, .int .i64 0, .int .i64 0, .int .i64 0], .bool true]) ∧ Ext w w' := by
  refine (Parse_any [104, 111, 108, 100, 32, 49, 32, 51] w (by decide) hL).mono ?_
  rintro e w' ⟨o, ok, rfl, hg, hx⟩
  obtain ⟨rfl, rfl⟩ := hg.one parse_A
  exact ⟨rfl, hx⟩
theorem RightA_any (w : World) (hL : Laid w) : Calls Tryd.prog 11 #[.agg #[.int .i64 9, .int .i64 1, .int .i64 3, .int .i64 0, .int .i64 0, .int .i64 0, .int .i64 0]] w fun e w' => e = .returned (.bool true) ∧ Ext w w' := by
  have := Right_any opA w hL
  rw [right_A] at this
  exact this
theorem RightZ_any (w : World) (hL : Laid w) : Calls Tryd.prog 11 #[.agg #[.int .i64 0, .int .i64 0, .int .i64 0, .int .i64 0, .int .i64 0, .int .i64 0, .int .i64 0]] w fun e w' => e = .returned (.bool false) ∧ Ext w w' := by
  have := Right_any zeroO w hL
  rw [right_Z] at this
  exact this
theorem PutA_any (w : World) (hL : Laid w) : Calls Tryd.prog 14 #[.agg #[.int .i64 9, .int .i64 1, .int .i64 3, .int .i64 0, .int .i64 0, .int .i64 0, .int .i64 0]] w fun e w' => ∃ v, e = .returned v ∧ Rd w' v (([3, 9, 1, 3] : List UInt8).map B) ∧ Ext w w' := by
  have := Put_any opA w hL
  rw [put_A] at this
  exact this
theorem TextA_any (w : World) (hL : Laid w) : Calls Tryd.prog 20 #[.agg #[.int .i64 9, .int .i64 1, .int .i64 3, .int .i64 0, .int .i64 0, .int .i64 0, .int .i64 0]] w fun e w' => e = .returned (.string ⟨#[104, 111, 108, 100, 32, 49, 32, 51]⟩) ∧ Ext w w' := by
  have := Text_any opA w hL
  rw [text_A] at this
  exact this
theorem Name21_any (w : World) (hL : Laid w) : Calls Tryd.prog 18 #[.int .i64 21] w fun e w' => e = .returned (.string ⟨#[110, 101, 119, 116, 101, 114, 109]⟩) ∧ w = w' := Name_any 21 w hL

set_option maxRecDepth 100000 in
set_option maxHeartbeats 4000000 in
theorem alive8_any (w : World) (hL : Laid w) : Calls Tryd.prog 8 #[] w fun e w' => e = .returned (.bool true) ∧ Ext w w' := by
  have HLD := Lib.hid hL
  have hE1 : Ext w (w.alloc (.cells #[.int .i64 9, .int .i64 1, .int .i64 3, .int .i64 0, .int .i64 0, .int .i64 0, .int .i64 0] 23)) := (Below.refl _ _).alloc (Nat.le_refl _) _
  have HB1 := Lib.hid (Blk.new w 23 #[.int .i64 9, .int .i64 1, .int .i64 3, .int .i64 0, .int .i64 0, .int .i64 0, .int .i64 0])
  have hE2 : Ext (w.alloc (.cells #[.int .i64 9, .int .i64 1, .int .i64 3, .int .i64 0, .int .i64 0, .int .i64 0, .int .i64 0] 23)) ((w.alloc (.cells #[.int .i64 9, .int .i64 1, .int .i64 3, .int .i64 0, .int .i64 0, .int .i64 0, .int .i64 0] 23)).alloc (.cells #[.int .u8 3, .int .u8 9, .int .u8 1, .int .u8 3] 5)) := (Below.refl _ _).alloc (Nat.le_refl _) _
  have HE12 := Lib.hid (hE1.trans hE2)
  have HB2 := Lib.hid (HB1.out.ext hE2)
  have HR2 := Lib.hid (Rd.litB (w.alloc (.cells #[.int .i64 9, .int .i64 1, .int .i64 3, .int .i64 0, .int .i64 0, .int .i64 0, .int .i64 0] 23)) [3, 9, 1, 3] _ 5 4 (w.heap.size + 1) (by decide) lit_A rfl (by simp))
  clear hL hE1 hE2 HB1
  go_enter Tryd.func8, Tryd.ntmps8
  go_wp2_with fail
  refine (GetA_any _ _ HR2.out (HLD.out.ext HE12.out)).mono ?_
  rintro e w3 ⟨rfl, hx3⟩
  have HB3 := Lib.hid (HB2.out.ext hx3)
  have HX3 := Lib.hid (HE12.out.trans hx3)
  clear hx3 HB2 HE12 HR2
  have hE4 : Ext w3 (w3.alloc (.cells #[.int .i64 9, .int .i64 1, .int .i64 3, .int .i64 0, .int .i64 0, .int .i64 0, .int .i64 0] 23)) := (Below.refl _ _).alloc (Nat.le_refl _) _
  have HC4 := Lib.hid (Blk.new w3 23 #[.int .i64 9, .int .i64 1, .int .i64 3, .int .i64 0, .int .i64 0, .int .i64 0, .int .i64 0])
  have HB4 := Lib.hid (HB3.out.ext hE4)
  have HX4 := Lib.hid (HX3.out.trans hE4)
  clear hE4 HB3 HX3
  go_wp2_with fail
  refine (ParseA_any _ (HLD.out.ext HX4.out)).mono ?_
  rintro e w5 ⟨rfl, hx5⟩
  have hE6 : Ext w5 (w5.alloc (.cells #[.int .i64 9, .int .i64 1, .int .i64 3, .int .i64 0, .int .i64 0, .int .i64 0, .int .i64 0] 23)) := (Below.refl _ _).alloc (Nat.le_refl _) _
  have HD6 := Lib.hid (Blk.new w5 23 #[.int .i64 9, .int .i64 1, .int .i64 3, .int .i64 0, .int .i64 0, .int .i64 0, .int .i64 0])
  have HB6 := Lib.hid ((HB4.out.ext hx5).ext hE6)
  have HC6 := Lib.hid ((HC4.out.ext hx5).ext hE6)
  have HX6 := Lib.hid ((HX4.out.trans hx5).trans hE6)
  have l1 := (HB4.out.ext hx5).lt
  have l2 := (HC4.out.ext hx5).lt
  obtain ⟨b0, b1, b2, b3, b4, b5, b6⟩ := box_cells (HB4.out.ext hx5)
  obtain ⟨c0, c1, c2, c3, c4, c5, c6⟩ := box_cells (HC4.out.ext hx5)
  clear hE6 hx5 HB4 HC4 HX4
  go_wp2_with fail
  refine (RightA_any _ (HLD.out.ext HX6.out)).mono ?_
  rintro e w7 ⟨rfl, hx7⟩
  have HX7 := Lib.hid (HX6.out.trans hx7)
  have HB7 := Lib.hid (HB6.out.ext hx7)
  clear hx7 HX6 HB6 HC6 HD6 l1 l2 b0 b1 b2 b3 b4 b5 b6 c0 c1 c2 c3 c4 c5 c6
  go_wp2_with fail
  refine (RightZ_any _ (HLD.out.ext HX7.out)).mono ?_
  rintro e w8 ⟨rfl, hx8⟩
  have HX8 := Lib.hid (HX7.out.trans hx8)
  have HB8 := Lib.hid (HB7.out.ext hx8)
  clear hx8 HX7 HB7
  obtain ⟨b0, b1, b2, b3, b4, b5, b6⟩ := box_cells HB8.out
  go_wp2_with fail
  refine (PutA_any _ (HLD.out.ext HX8.out)).mono ?_
  rintro e w9 ⟨v9, rfl, hr9, hx9⟩
  obtain ⟨A9, k9, rfl, -, -⟩ := hr9.sliceN (n := 4) rfl
  have HR9 := Lib.hid hr9
  have HX9 := Lib.hid (HX8.out.trans hx9)
  have HB9 := Lib.hid (HB8.out.ext hx9)
  clear hr9 hx9 HX8 HB8 b0 b1 b2 b3 b4 b5 b6
  have hE10 : Ext w9 (w9.alloc (.cells #[.int .u8 3, .int .u8 9, .int .u8 1, .int .u8 3] 5)) := (Below.refl _ _).alloc (Nat.le_refl _) _
  have HE10 := Lib.hid hE10
  clear hE10
  go_wp2_with fail
  refine (Bytes_any [3, 9, 1, 3] [3, 9, 1, 3] _ _ _ (HR9.out.ext HE10.out) (Rd.litB w9 [3, 9, 1, 3] _ 5 4 _ (by decide) lit_A rfl rfl)).mono ?_
  rintro e w11 ⟨rfl, nd, hw11⟩
  have hx11 : Ext w9 w11 := by
    rw [hw11]
    exact Ext.trans HE10.out (Below.drewN' (Ext.refl _) nd)
  have HX11 := Lib.hid (HX9.out.trans hx11)
  have HB11 := Lib.hid (HB9.out.ext hx11)
  clear hw11 hx11 HE10 HX9 HB9 HR9
  obtain ⟨b0, b1, b2, b3, b4, b5, b6⟩ := box_cells HB11.out
  go_wp2_with fail
  refine (TextA_any _ (HLD.out.ext HX11.out)).mono ?_
  rintro e w12 ⟨rfl, hx12⟩
  have HX12 := Lib.hid (HX11.out.trans hx12)
  clear hx12 HX11 HB11 b0 b1 b2 b3 b4 b5 b6
  go_wp2_with fail
  refine (Name21_any _ (HLD.out.ext HX12.out)).mono ?_
  rintro e w13 ⟨rfl, rfl⟩
  go_wp2
  go_ret
  exact ⟨rfl, HX12.out⟩

end Go.Proofs.YtngenbolpnckhaaDoor

/- A string's bytes as numbers. -/
namespace Go.Proofs.YtngenbolpnckhaaDoor
open Go.RowKit Go.PlainAid

theorem bt_strB (T : List UInt8) {n : Nat} {c : UInt8} (h : T[n]? = some c) : bt (strB T) n = (c.toNat : Int) := by
  have hlt := (List.getElem?_eq_some_iff.1 h).1
  have hz := strB_size T
  rw [bt, dif_pos (by omega)]
  have e : (strB T)[n]'(by omega) = c := by
    have : T[n] = c := by
      rw [List.getElem?_eq_getElem hlt] at h
      injection h
    rw [← this]
    simp [strB, ByteArray.getElem_eq_getElem_data]
  rw [e]

end Go.Proofs.YtngenbolpnckhaaDoor
