/- Texts that the proof of OpsW rests on, one behind the other. -/
import Derived.Test.YtngenbolpnckhaaDoorOpsWQ2
import Derived.Test.YtngenbolpnckhaaDoorRows
import Derived.Lib.LaidTab
import Derived.Lib.ItoaMem
import Derived.Deep.RegionHeld3
import Derived.Lib.SlicesS
import Derived.Deep.QuietTactic
import Derived.BigQuiet
import Derived.StillTailTactics
import Derived.Deep.LoopGhost

/- Slices of bytes in this translation's numbers: what one element takes; the laws at an append. -/
namespace Go.Proofs.YtngenbolpnckhaaDoor
open Go.RowKit

theorem Tryd.infoU8 : (Tryd.prog.info? 5).map (fun i => (i.zero, i.size, i.bytes)) = some (some (.int .u8 0), 1, 1) := by kernel_rfl

/-- 'b = append(b, x)', b a row of bytes of the call's own. -/
theorem push_u8 {w : World} {ops : Array Oper} {rest : List Oper} {o : Oper} {a : Act} {Q : Exit → Act → World → Prop} {gx : Nat} (hgd : o.guard = none) (s x : Operand)
    (ho : o.op = .call { callee := .builtin .append, args := #[s, x], argTypes := #[24, 24] })
    (base : Nat) (v : Value) (xs : List Value) (hs : a.eval s = v) (hown : w.ownsRow base 5 1 v xs.length xs) (u : Value) (h1 : u.oneCell' = true)
    (hx : a.eval x = .slice (some ⟨gx, 0, none⟩) 1 1) (hlen : xs.length < 140737488355328) (hbase : base ≤ w.heap.size)
    (h : ∀ v' w', Grew base 5 v w (xs ++ [u]) v' w' → wpList Tryd.prog ops Q rest (a.put o.dst v') w') (hgx : gx = w.heap.size := by simp) : wpList Tryd.prog ops Q (o :: rest) a (w.alloc (.cells #[u] 5)) := by
  subst hgx
  exact wpList_push hgd s x 24 ho base 5 (.int .u8 0) 1 Tryd.underlying24 Tryd.infoU8 rfl v xs hs hown u h1 hx (by unfold maxLen; omega) (by omega) hbase h

/-- 'b = append(b, c...)', c what reads as a list of bytes. -/
theorem app_u8 {w : World} {ops : Array Oper} {rest : List Oper} {o : Oper} {a : Act} {Q : Exit → Act → World → Prop} (hgd : o.guard = none) (s x : Operand)
    (ho : o.op = .call { callee := .builtin .append, args := #[s, x], argTypes := #[24, 24] })
    (base : Nat) (v : Value) (xs : List Value) (hs : a.eval s = v) (hown : w.ownsRow base 5 1 v xs.length xs) (u : Value) (ys : List UInt8) (hx : a.eval x = u) (hr : Rd w u (ys.map B))
    (hbytes : xs.length + ys.length ≤ 140737488355328) (hbase : base ≤ w.heap.size)
    (h : ∀ v' w', Grew base 5 v w (xs ++ ys.map B) v' w' → wpList Tryd.prog ops Q rest (a.put o.dst v') w') : wpList Tryd.prog ops Q (o :: rest) a w :=
  wpList_appendRd hgd s x 24 ho base 5 (.int .u8 0) 1 Tryd.underlying24 Tryd.infoU8 rfl v xs hs hown u _ hx hr (bytes_oneCell ys) (by unfold maxLen; simp; omega) (by simp; omega) hbase h

end Go.Proofs.YtngenbolpnckhaaDoor

/- Slices of numbers in this translation's numbers. -/
namespace Go.Proofs.YtngenbolpnckhaaDoor
open Go.RowKit

theorem Tryd.infoInt : (Tryd.prog.info? 3).map (fun i => (i.zero, i.size, i.bytes)) = some (some (.int .i64 0), 1, 8) := by kernel_rfl

/-- 'l = append(l, x)', l a row of numbers of the call's own. -/
theorem push_int {w : World} {ops : Array Oper} {rest : List Oper} {o : Oper} {a : Act} {Q : Exit → Act → World → Prop} {gx : Nat} (hgd : o.guard = none) (s x : Operand)
    (ho : o.op = .call { callee := .builtin .append, args := #[s, x], argTypes := #[38, 38] })
    (base : Nat) (v : Value) (xs : List Value) (hs : a.eval s = v) (hown : w.ownsRow base 3 1 v xs.length xs) (u : Value) (h1 : u.oneCell' = true)
    (hx : a.eval x = .slice (some ⟨gx, 0, none⟩) 1 1) (hlen : xs.length < 17592186044416) (hbase : base ≤ w.heap.size)
    (h : ∀ v' w', Grew base 3 v w (xs ++ [u]) v' w' → wpList Tryd.prog ops Q rest (a.put o.dst v') w') (hgx : gx = w.heap.size := by simp) : wpList Tryd.prog ops Q (o :: rest) a (w.alloc (.cells #[u] 3)) := by
  subst hgx
  exact wpList_push hgd s x 38 ho base 3 (.int .i64 0) 8 Tryd.underlying38 Tryd.infoInt rfl v xs hs hown u h1 hx (by unfold maxLen; omega) (by omega) hbase h

end Go.Proofs.YtngenbolpnckhaaDoor

/- Layer 8, the reference: names, how many numbers a kind has, an op's numbers, whether it is right. -/
namespace Go.Proofs.YtngenbolpnckhaaDoor
open Go.RowKit

/-- A name as a string. -/
def strB (l : List UInt8) : ByteArray := ⟨l.toArray⟩
theorem strB_list (l : List UInt8) : (strB l).data.toList = l := by simp [strB]
theorem strB_back (s : ByteArray) : strB s.data.toList = s := by simp [strB]
/-- An op as a value. -/
def opV (o : OpN) : Value := .agg #[.int .i64 o.1, .int .i64 o.2.1, .int .i64 o.2.2.1, .int .i64 o.2.2.2.1, .int .i64 o.2.2.2.2.1, .int .i64 o.2.2.2.2.2.1, .int .i64 o.2.2.2.2.2.2]

theorem kind_cases {k : Int} (h : 1 ≤ k ∧ k ≤ 21) : k = 1 ∨ k = 2 ∨ k = 3 ∨ k = 4 ∨ k = 5 ∨ k = 6 ∨ k = 7 ∨ k = 8 ∨ k = 9 ∨ k = 10 ∨ k = 11 ∨ k = 12 ∨ k = 13 ∨ k = 14 ∨ k = 15 ∨ k = 16 ∨ k = 17 ∨ k = 18 ∨ k = 19 ∨ k = 20 ∨ k = 21 := by omega

set_option maxRecDepth 100000 in
set_option maxHeartbeats 4000000 in
theorem RefName08 (k : Int) (w : World) :
    Calls Tryd.prog 19 #[.int .i64 k] w fun e w' => e = .returned (.string (strB (nameK k))) ∧ Ext w w' := by
  have hE : ∀ cs, Ext w (w.alloc (.cells cs 9)) := fun cs => (Below.refl _ _).alloc (Nat.le_refl _) _
  have HE := Lib.hid hE
  clear hE
  by_cases h1 : k < 1
  · have hn : strB (nameK k) = ⟨#[]⟩ := by rw [nameK_no (by omega)]; rfl
    rw [hn]
    clear hn
    go_enter Tryd.func19, Tryd.ntmps19
    go_wp2
    go_ret
    exact ⟨rfl, HE.out _⟩
  · by_cases h2 : 21 < k
    · have hn : strB (nameK k) = ⟨#[]⟩ := by rw [nameK_no (by omega)]; rfl
      rw [hn]
      clear hn
      go_enter Tryd.func19, Tryd.ntmps19
      go_wp2
      go_ret
      exact ⟨rfl, HE.out _⟩
    · rcases kind_cases (k := k) (by omega) with rfl | rfl | rfl | rfl | rfl | rfl | rfl | rfl | rfl | rfl | rfl | rfl | rfl | rfl | rfl | rfl | rfl | rfl | rfl | rfl | rfl
      all_goals
        clear h1 h2
        go_enter Tryd.func19, Tryd.ntmps19
        go_wp2
        go_ret
        exact ⟨rfl, HE.out _⟩

theorem many_ne {k : Int} (h : ¬ (1 ≤ k ∧ k ≤ 21)) : manyK k = 1 := by
  rw [manyK, if_neg (by omega), if_neg (by omega), if_neg (by omega)]

set_option maxRecDepth 100000 in
set_option maxHeartbeats 4000000 in
theorem RefMany08 (k : Int) (w : World) :
    Calls Tryd.prog 29 #[.int .i64 k] w fun e w' => e = .returned (.int .i64 (manyK k : Int)) ∧ w = w' := by
  by_cases h : 1 ≤ k ∧ k ≤ 21
  · rcases kind_cases h with rfl | rfl | rfl | rfl | rfl | rfl | rfl | rfl | rfl | rfl | rfl | rfl | rfl | rfl | rfl | rfl | rfl | rfl | rfl | rfl | rfl
    all_goals
      clear h
      go_enter Tryd.func29, Tryd.ntmps29
      go_wp2
      go_ret
      exact ⟨rfl, rfl⟩
  · have hm := many_ne h
    have e1 : (k == 1) = false := by rw [beq_eq_false_iff_ne]; omega
    have e4 : (k == 4) = false := by rw [beq_eq_false_iff_ne]; omega
    have e5 : (k == 5) = false := by rw [beq_eq_false_iff_ne]; omega
    have e6 : (k == 6) = false := by rw [beq_eq_false_iff_ne]; omega
    have e21 : (k == 21) = false := by rw [beq_eq_false_iff_ne]; omega
    have e8 : (k == 8) = false := by rw [beq_eq_false_iff_ne]; omega
    have e9 : (k == 9) = false := by rw [beq_eq_false_iff_ne]; omega
    have e10 : (k == 10) = false := by rw [beq_eq_false_iff_ne]; omega
    have e12 : (k == 12) = false := by rw [beq_eq_false_iff_ne]; omega
    have e13 : (k == 13) = false := by rw [beq_eq_false_iff_ne]; omega
    have e19 : (k == 19) = false := by rw [beq_eq_false_iff_ne]; omega
    have e20 : (k == 20) = false := by rw [beq_eq_false_iff_ne]; omega
    rw [hm]
    clear hm h
    go_enter Tryd.func29, Tryd.ntmps29
    go_wp2
    go_ret
    exact ⟨rfl, rfl⟩

set_option maxRecDepth 100000 in
set_option maxHeartbeats 4000000 in
theorem RefNumbers08 (o : OpN) (w : World) :
    Calls Tryd.prog 28 #[opV o] w fun e w' => ∃ b, e = .returned (.slice (some ⟨b, 0, none⟩) 6 6) ∧ w.heap.size ≤ b ∧ Rd w' (.slice (some ⟨b, 0, none⟩) 6 6) ((numsO o).map I) ∧ Ext w w' := by
  obtain ⟨k, a, b, c, d, e, f⟩ := o
  unfold opV numsO
  dsimp only
  go_enter Tryd.func28, Tryd.ntmps28
  go_wp2
  go_ret
  refine ⟨_, rfl, by simp, ?_, ((Below.refl _ w).alloc (Nat.le_refl _) _).alloc (by simp) _⟩
  exact Rd.litI _ [a, b, c, d, e, f] _ _ _ _ (by simp) rfl rfl (by simp)

end Go.Proofs.YtngenbolpnckhaaDoor

/- Layer 8: what the package-level variables hold that package ops, and the library for it, read. -/
namespace Go.Proofs.YtngenbolpnckhaaDoor
open Go.RowKit

theorem var_ext {P : Program} {w w' : World} {n : String} {g : Nat} {cs : Array Value} (hg : P.globalNamed n = some g) (h : w.var? P n = some cs) (hx : Ext w w') : w'.var? P n = some cs := by
  have hlt : g < w.heap.size := by
    simp only [World.var?, hg, Option.bind_some] at h
    rcases Nat.lt_or_ge g w.heap.size with h' | h'
    · exact h'
    · rw [Array.getElem?_eq_none h'] at h
      simp at h
  rw [← h]
  unfold World.var?
  rw [hg]
  simp only [Option.bind_some]
  rw [hx.block g hlt]

/-- How many numbers, as the program's own table has it: there is no kind 0. -/
def cntK (k : Nat) : Int := if k = 0 then 0 else (manyK (k : Int) : Int)
def cntL : List Int := (List.range 22).map fun (k : Nat) => cntK k
def namL : List Value := (List.range 22).map fun (k : Nat) => Value.string (strB (nameK (k : Int)))

theorem Tryd.gNames : Tryd.prog.globalNamed "dunnage/ops.names" = some 1 := by kernel_rfl
theorem Tryd.gCounts : Tryd.prog.globalNamed "dunnage/ops.counts" = some 0 := by kernel_rfl
theorem Tryd.gSyn : Tryd.prog.globalNamed "strconv.ErrSyntax" = some 2 := by kernel_rfl
theorem Tryd.gRng : Tryd.prog.globalNamed "strconv.ErrRange" = some 3 := by kernel_rfl
theorem Tryd.gPow : Tryd.prog.globalNamed "internal/strconv.uint64pow10" = some 5 := by kernel_rfl

/-- What the variables hold. -/
structure Laid (w : World) : Prop where
  names : w.var? Tryd.prog "dunnage/ops.names" = some namL.toArray
  counts : w.var? Tryd.prog "dunnage/ops.counts" = some (cntL.map fun z => Value.int .i64 z).toArray
  tab : Lib.TabIs Tryd.prog w "internal/strconv.uint64pow10" .u64 Lib.pow10Tab
  syn : ∃ tp p, w.var? Tryd.prog "strconv.ErrSyntax" = some #[.iface tp p]
  rng : ∃ tp p, w.var? Tryd.prog "strconv.ErrRange" = some #[.iface tp p]
  ml : ∃ m, w.cell? ⟨4, 0, none⟩ = some (.int .i64 m)
  mlt : 4 < w.heap.size

theorem Laid.ext {w w' : World} (h : Laid w) (hx : Ext w w') : Laid w' where
  names := var_ext Tryd.gNames h.names hx
  counts := var_ext Tryd.gCounts h.counts hx
  tab := var_ext Tryd.gPow h.tab hx
  syn := by
    obtain ⟨tp, p, hs⟩ := h.syn
    exact ⟨tp, p, var_ext Tryd.gSyn hs hx⟩
  rng := by
    obtain ⟨tp, p, hs⟩ := h.rng
    exact ⟨tp, p, var_ext Tryd.gRng hs hx⟩
  ml := by
    obtain ⟨m, hm⟩ := h.ml
    exact ⟨m, (hx.cell (p := ⟨4, 0, none⟩) h.mlt).trans hm⟩
  mlt := Nat.lt_of_lt_of_le h.mlt hx.size

theorem Laid.name {w : World} (h : Laid w) (k : Nat) (hk : k < 22) : w.cell? ⟨1, k, none⟩ = some (.string (strB (nameK (k : Int)))) := by
  rw [World.var?_cell Tryd.gNames h.names k]
  simp [namL, hk]
theorem Laid.count {w : World} (h : Laid w) (k : Nat) (hk : k < 22) : w.cell? ⟨0, k, none⟩ = some (.int .i64 (cntK k)) := by
  rw [World.var?_cell Tryd.gCounts h.counts k]
  simp [cntL, hk]
theorem Laid.ltn {w : World} (h : Laid w) : 1 < w.heap.size := World.block_lt_of_cell? w _ (h.name 0 (by decide))
theorem Laid.ltc {w : World} (h : Laid w) : 0 < w.heap.size := World.block_lt_of_cell? w _ (h.count 0 (by decide))
theorem Laid.rown {w : World} (h : Laid w) : ∃ t fr, w.heap[1]? = some (.cells namL.toArray t fr) := by
  have h1 := h.names
  simp only [World.var?, Tryd.gNames, Option.bind_some] at h1
  split at h1
  · rename_i cs t fr he
    injection h1 with h1
    subst h1
    exact ⟨t, fr, he⟩
  · cases h1
theorem cntK_pos {k : Nat} (h : 1 ≤ k) : cntK k = (manyK (k : Int) : Int) := by rw [cntK, if_neg (by omega)]

end Go.Proofs.YtngenbolpnckhaaDoor

/- Layer 8, the reference: whether an op is right. -/
namespace Go.Proofs.YtngenbolpnckhaaDoor
open Go.RowKit

def numAtO (o : OpN) (i : Nat) : Int := (numsO o).getD i 0
def okAtO (o : OpN) (i : Nat) : Bool := decide (0 ≤ numAtO o i ∧ numAtO o i ≤ 1000000) && (decide (i < manyK o.1) || numAtO o i == 0)
theorem nums_get (o : OpN) {i : Nat} (h : i < 6) : (numsO o)[i]? = some (numAtO o i) := by
  rw [numAtO, List.getD_eq_getElem?_getD, List.getElem?_eq_getElem (by rw [numsO_len]; exact h), Option.getD_some]
theorem right_of_ok (o : OpN) : rightO o = true ↔ (1 ≤ o.1 ∧ o.1 ≤ 21) ∧ ∀ i, i < 6 → okAtO o i = true := by
  rw [rightO_iff]
  constructor
  · rintro ⟨h1, h2, h3⟩
    refine ⟨h1, fun i hi => ?_⟩
    have hg := nums_get o hi
    have hin := h2 _ (List.mem_of_getElem? hg)
    rw [okAtO, decide_eq_true hin, Bool.true_and]
    by_cases hm : i < manyK o.1
    · rw [decide_eq_true hm]
      rfl
    · have h0 : numAtO o i = 0 := h3 _ (by
        rw [List.mem_drop_iff_getElem]
        obtain ⟨hlt, he⟩ := List.getElem?_eq_some_iff.1 hg
        exact ⟨i - manyK o.1, by omega, by rw [← he]; congr 1; omega⟩)
      rw [h0]
      simp
  · rintro ⟨h1, h2⟩
    refine ⟨h1, fun n hn => ?_, fun n hn => ?_⟩
    · obtain ⟨i, hi, he⟩ := List.getElem_of_mem hn
      have hg := nums_get o (i := i) hi
      rw [List.getElem?_eq_getElem hi, he] at hg
      injection hg with hg
      have := h2 i hi
      rw [okAtO, Bool.and_eq_true, decide_eq_true_eq, ← hg] at this
      exact this.1
    · rw [List.mem_drop_iff_getElem] at hn
      obtain ⟨i, hi, he⟩ := hn
      have hi6 : i + manyK o.1 < 6 := hi
      have hg := nums_get o hi6
      have he' : (numsO o)[i + manyK o.1]'hi6 = n := by rw [← he]; congr 1; omega
      rw [List.getElem?_eq_getElem hi6, he'] at hg
      injection hg with hg
      have := h2 _ hi6
      rw [okAtO, Bool.and_eq_true, Bool.or_eq_true, decide_eq_true_eq, beq_iff_eq, ← hg] at this
      rcases this.2 with h | h
      · have := of_decide_eq_true h
        omega
      · exact h
theorem right_no {o : OpN} {i : Nat} (h : i < 6) (hn : okAtO o i = false) : rightO o = false := by
  rw [Bool.eq_false_iff]
  intro hr
  have := ((right_of_ok o).1 hr).2 i h
  rw [hn] at this
  cases this
theorem right_all {o : OpN} (h : ∀ i, i < 6 → okAtO o i = true) : rightO o = decide (1 ≤ o.1 ∧ o.1 ≤ 21) := by
  by_cases hk : 1 ≤ o.1 ∧ o.1 ≤ 21
  · rw [decide_eq_true hk]
    exact (right_of_ok o).2 ⟨hk, h⟩
  · rw [decide_eq_false hk, Bool.eq_false_iff]
    exact fun hr => hk ((right_of_ok o).1 hr).1

set_option maxRecDepth 100000 in
set_option maxHeartbeats 4000000 in
theorem RefRight08 (o : OpN) (w : World) :
    Calls Tryd.prog 12 #[opV o] w fun e w' => e = .returned (.bool (rightO o)) ∧ Ext w w' := by
  have KN := fun w' => RefNumbers08 o w'
  have KM := fun w' => RefMany08 o.1 w'
  have hno := fun (i : Nat) (h : i < 6) (hn : okAtO o i = false) => right_no h hn
  have hyes := right_all (o := o)
  have hget := fun (i : Nat) (h : i < 6) => nums_get o h
  have hok : ∀ i : Nat, okAtO o i = (decide (0 ≤ numAtO o i ∧ numAtO o i ≤ 1000000) && (decide (i < manyK o.1) || numAtO o i == 0)) := fun i => rfl
  have hm6 := manyK_le o.1
  have HM6 := Lib.hid hm6
  have HKM := Lib.hid KM
  have HNO := Lib.hid hno
  have HYES := Lib.hid hyes
  have HGET := Lib.hid hget
  have HOK := Lib.hid hok
  have HKN := Lib.hid KN
  clear KN KM hno hyes hget hok hm6
  obtain ⟨k, a, b, c, d, e, f⟩ := o
  generalize ho : ((k, a, b, c, d, e, f) : OpN) = o at *
  have hk : o.1 = k := by rw [← ho]
  have hv : opV o = .agg #[.int .i64 k, .int .i64 a, .int .i64 b, .int .i64 c, .int .i64 d, .int .i64 e, .int .i64 f] := by rw [← ho]; rfl
  rw [hk] at HKM HM6 HYES HOK
  rw [hv] at HKN ⊢
  clear ho hv
  obtain ⟨mk, hmk⟩ : ∃ x, x = manyK k := ⟨_, rfl⟩
  rw [← hmk] at HKM HM6 HOK
  clear hmk hk
  go_enter Tryd.func12, Tryd.ntmps12
  go_wp2_with fail
  refine (HKN.out _).mono ?_
  rintro e2 w2 ⟨b2, rfl, hb2, hr2, hx2⟩
  have hE : Ext w (w.alloc (.cells #[.int .i64 k, .int .i64 a, .int .i64 b, .int .i64 c, .int .i64 d, .int .i64 e, .int .i64 f] 23)) := (Below.refl _ _).alloc (Nat.le_refl _) _
  have hbk : Blk w2 w.heap.size 23 #[.int .i64 k, .int .i64 a, .int .i64 b, .int .i64 c, .int .i64 d, .int .i64 e, .int .i64 f] := (Blk.new w 23 #[.int .i64 k, .int .i64 a, .int .i64 b, .int .i64 c, .int .i64 d, .int .i64 e, .int .i64 f]).ext hx2
  have c0 : w2.cell? ⟨w.heap.size, 0, none⟩ = some (.int .i64 k) := hbk.cell 0
  have HX2 := Lib.hid (hE.trans hx2)
  have hcell : ∀ i, i < 6 → w2.cell? ⟨b2, i, none⟩ = some (.int .i64 (numAtO o i)) := by
    intro i hi
    obtain ⟨A, c', e', q1, q2, q3⟩ := hr2
    obtain ⟨b', o', e1, e2, e3⟩ := q3 (by rw [List.length_map, numsO_len]; decide)
    cases e'
    cases e1
    have := e3 i (I (numAtO o i)) (by rw [List.getElem?_map, HGET.out i hi]; rfl)
    rwa [Nat.zero_add] at this
  have HCELL := Lib.hid hcell
  clear hr2 hx2 hE hbk hcell hb2
  go_wp2
  go_loop [4] (fun i => ∃ n : Nat, i = .int .i64 n ∧ n ≤ 6 ∧ Hid (∀ j, j < n → okAtO o j = true)) (fun i => 6 - (intOf i).toNat)
  case atStart => exact ⟨0, rfl, by decide, Lib.hid (fun j hj => absurd hj (Nat.not_lt_zero j))⟩
  case round =>
    obtain ⟨n, rfl, hn, HA⟩ := hrel
    by_cases hlt : n < 6
    · have cn := HCELL.out n hlt
      have hokn := HOK.out n
      have hnon := HNO.out n hlt
      generalize hx : numAtO o n = x at *
      have l6 : decide ((n : Int) < 6) = true := decide_eq_true (by omega)
      by_cases h1 : x < 0
      · have hz : rightO o = false := hnon (by rw [hokn, decide_eq_false (by omega)]; rfl)
        have HZ := Lib.hid hz
        have d1 : decide (x < 0) = true := decide_eq_true h1
        clear hokn hnon hz hx h1
        go_wp2
        go_ret
        exact ⟨by rw [HZ.out]; rfl, HX2.out⟩
      · have d1 : decide (x < 0) = false := decide_eq_false h1
        by_cases h2 : 1000000 < x
        · have hz : rightO o = false := hnon (by rw [hokn, decide_eq_false (by omega)]; rfl)
          have HZ := Lib.hid hz
          have d2 : decide (1000000 < x) = true := decide_eq_true h2
          clear hokn hnon hz hx h1 h2
          go_wp2
          go_ret
          exact ⟨by rw [HZ.out]; rfl, HX2.out⟩
        · have d2 : decide (1000000 < x) = false := decide_eq_false h2
          have hin : decide (0 ≤ x ∧ x ≤ 1000000) = true := decide_eq_true (by omega)
          by_cases h3 : n < mk
          · have hy : okAtO o n = true := by rw [hokn, hin, decide_eq_true h3]; rfl
            have HY : Hid (∀ j, j < n + 1 → okAtO o j = true) := Lib.hid (fun j hj => by
              rcases Nat.lt_or_ge j n with h | h
              · exact HA.out j h
              · have : j = n := by omega
                rw [this]
                exact hy)
            have d3 : decide ((mk : Int) ≤ (n : Int)) = false := decide_eq_false (by omega)
            have d3' : decide (mk ≤ n) = false := decide_eq_false (by omega)
            clear hokn hnon hx h1 h2 h3 hy hin
            go_wp2_with (go_at_call 29; refine (HKM.out _).mono ?_; rintro e w' ⟨rfl, rfl⟩)
            go_round
            case rel => exact ⟨n + 1, by go_num, by omega, HY⟩
            case measure => simp [intOf]; omega
          · have d3 : decide ((mk : Int) ≤ (n : Int)) = true := decide_eq_true (by omega)
            have d3' : decide (mk ≤ n) = true := decide_eq_true (by omega)
            by_cases h4 : x = 0
            · have hy : okAtO o n = true := by rw [hokn, hin, h4]; simp
              have HY : Hid (∀ j, j < n + 1 → okAtO o j = true) := Lib.hid (fun j hj => by
                rcases Nat.lt_or_ge j n with h | h
                · exact HA.out j h
                · have : j = n := by omega
                  rw [this]
                  exact hy)
              have d4 : (x != 0) = false := by simp [h4]
              clear hokn hnon hx h1 h2 h3 hy hin h4
              go_wp2_with (go_at_call 29; refine (HKM.out _).mono ?_; rintro e w' ⟨rfl, rfl⟩)
              go_round
              case rel => exact ⟨n + 1, by go_num, by omega, HY⟩
              case measure => simp [intOf]; omega
            · have hz : rightO o = false := hnon (by
                rw [hokn, hin, decide_eq_false h3]
                simpa using h4)
              have HZ := Lib.hid hz
              have d4 : (x != 0) = true := by simp [h4]
              clear hokn hnon hz hx h1 h2 h3 hin h4
              go_wp2_with (go_at_call 29; refine (HKM.out _).mono ?_; rintro e w' ⟨rfl, rfl⟩)
              go_ret
              exact ⟨by rw [HZ.out]; rfl, HX2.out⟩
    · obtain rfl : n = 6 := by omega
      have hz := HYES.out HA.out
      have HZ := Lib.hid hz
      clear hz
      by_cases k1 : 1 ≤ k
      · have d1 : decide (k ≥ 1) = true := decide_eq_true k1
        have d1' : decide (1 ≤ k) = true := decide_eq_true k1
        by_cases k2 : k ≤ 21
        · have d2 : decide (k ≤ 21) = true := decide_eq_true k2
          go_wp2
          go_ret
          exact ⟨by rw [HZ.out, decide_eq_true ⟨k1, k2⟩]; rfl, HX2.out⟩
        · have d2 : decide (k ≤ 21) = false := decide_eq_false k2
          go_wp2
          go_ret
          exact ⟨by rw [HZ.out, decide_eq_false (by omega)]; rfl, HX2.out⟩
      · have d1 : decide (k ≥ 1) = false := decide_eq_false k1
        have d1' : decide (1 ≤ k) = false := decide_eq_false k1
        go_wp2
        go_ret
        exact ⟨by rw [HZ.out, decide_eq_false (by omega)]; rfl, HX2.out⟩

end Go.Proofs.YtngenbolpnckhaaDoor

/- The reference's layer 1: a number's bytes. -/
namespace Go.Proofs.YtngenbolpnckhaaDoor
open Go.RowKit

theorem RefIs_yes (n : Int) (w : World) (h0 : 0 ≤ n) (h1 : n < 9007199254740992) :
    Calls Tryd.prog 45 #[.int .i64 n] w fun e w' => e = .returned (.bool true) ∧ w = w' := by
  go_enter Tryd.func45, Tryd.ntmps45
  go_wp2
  go_ret
  exact ⟨rfl, rfl⟩

theorem RefIs_no (n : Int) (w : World) (h : ¬ (0 ≤ n ∧ n < 9007199254740992)) :
    Calls Tryd.prog 45 #[.int .i64 n] w fun e w' => e = .returned (.bool false) ∧ w = w' := by
  by_cases h0 : 0 ≤ n
  · have h1 : 9007199254740992 ≤ n := by omega
    have h2 : decide (n < 9007199254740992) = false := by simp; omega
    clear h
    go_enter Tryd.func45, Tryd.ntmps45
    go_wp2
    go_ret
    exact ⟨rfl, rfl⟩
  · clear h
    go_enter Tryd.func45, Tryd.ntmps45
    go_wp2
    go_ret
    exact ⟨rfl, rfl⟩

theorem RefNum_no (n : Int) (w : World) (hn : ¬ (0 ≤ n ∧ n < 9007199254740992)) :
    Calls Tryd.prog 44 #[.int .i64 n] w fun e w' => e = .returned (.slice none 0 0) ∧ w = w' := by
  have H := Lib.hid hn
  clear hn
  go_enter Tryd.func44, Tryd.ntmps44
  go_wp2
  refine wp_loop_rounds 1 ?_
  rw [rounds_succ]
  go_wp2_with (first | (go_at_call 45; refine (RefIs_no _ _ H.out).mono ?_; rintro e w' ⟨rfl, rfl⟩))
  go_ret
  exact ⟨rfl, rfl⟩

def ifz : Nat → Nat
  | 0 => 1
  | _ + 1 => 0

/-- The reference's bytes while it goes: of n, l has been put, m is left; the last byte is without its bit. -/
def NumSt (n : Nat) (l : List UInt8) (m : Nat) : Prop :=
  (l = [] ∧ m = n) ∨ ∃ l0 c, l = l0 ++ [c] ∧ c.toNat < 128 ∧ ((m = 0 ∧ l = numB n) ∨ (0 < m ∧ l0 ++ (c + 128) :: numB m = numB n))

theorem u8_add128 {c : UInt8} (h : c.toNat < 128) : ((c + 128).toNat : Int) = (c.toNat : Int) + 128 := by
  rw [UInt8.toNat_add]
  have : (128 : UInt8).toNat = 128 := rfl
  omega

theorem u8_ofNat_add (m : Nat) : UInt8.ofNat (m % 128) + 128 = UInt8.ofNat (m % 128 + 128) := by
  apply UInt8.toNat_inj.1
  rw [UInt8.toNat_add, u8_toNat, u8_toNat]
  have : (128 : UInt8).toNat = 128 := rfl
  omega

theorem numB_end (m : Nat) (pre : List UInt8) : (m / 128 = 0 → pre ++ [UInt8.ofNat (m % 128)] = pre ++ numB m) ∧ (0 < m / 128 → pre ++ (UInt8.ofNat (m % 128) + 128) :: numB (m / 128) = pre ++ numB m) := by
  refine ⟨fun h => ?_, fun h => ?_⟩
  · rw [numB_lo (by omega), Nat.mod_eq_of_lt (by omega)]
  · rw [numB_hi (n := m) (by omega), u8_ofNat_add]

theorem NumSt.first (n : Nat) : NumSt n [UInt8.ofNat (n % 128)] (n / 128) := by
  have he := numB_end n []
  refine .inr ⟨[], _, rfl, by rw [u8_toNat]; omega, ?_⟩
  rcases Nat.eq_zero_or_pos (n / 128) with h | h
  · exact .inl ⟨h, by simpa using he.1 h⟩
  · exact .inr ⟨h, by simpa using he.2 h⟩

theorem NumSt.next {n m : Nat} {l0 : List UInt8} {c : UInt8} (h : l0 ++ (c + 128) :: numB m = numB n) : NumSt n ((l0 ++ [c + 128]) ++ [UInt8.ofNat (m % 128)]) (m / 128) := by
  have he := numB_end m (l0 ++ [c + 128])
  refine .inr ⟨l0 ++ [c + 128], _, rfl, by rw [u8_toNat]; omega, ?_⟩
  rcases Nat.eq_zero_or_pos (m / 128) with h0 | h0
  · refine .inl ⟨h0, ?_⟩
    rw [he.1 h0, ← h]
    simp
  · refine .inr ⟨h0, ?_⟩
    rw [he.2 h0, ← h]
    simp

set_option maxRecDepth 100000 in
set_option maxHeartbeats 2000000 in
theorem RefNum_yes (n : Nat) (w : World) (hn : n < 9007199254740992) :
    Calls Tryd.prog 44 #[.int .i64 n] w fun e w' => ∃ v', e = .returned v' ∧ Grew w.heap.size 5 (.slice none 0 0) w ((numB n).map B) v' w' := by
  go_enter Tryd.func44, Tryd.ntmps44
  go_wp2
  go_loopw [0, 3, 4] (fun n' v' i' wr => ∃ (m : Nat) (l : List UInt8), n' = .int .i64 m ∧ i' = .int .i64 l.length ∧ m < 9007199254740992 ∧ NumSt n l m ∧ Grew w.heap.size 5 (.slice none 0 0) w (l.map B) v' wr) (fun n' _ i' _ => (intOf n').toNat + ifz (intOf i').toNat)
  case atStart => exact ⟨n, [], rfl, rfl, hn, .inl ⟨rfl, rfl⟩, Grew.nil w⟩
  case round =>
    obtain ⟨m, l, rfl, rfl, hm, hst, hg⟩ := hrel
    rcases hst with ⟨rfl, rfl⟩ | ⟨l0, c, rfl, hc, hst⟩
    · have hbw := hg.size
      simp only [List.length_nil]
      go_wp2_with (first | (go_at_call 45; refine (RefIs_yes _ _ (by omega) (by omega)).mono ?_; rintro e w' ⟨rfl, rfl⟩) | (at_builtin; refine push_u8 rfl _ _ rfl w.heap.size _ _ rfl hg.1 _ rfl rfl (by simp) hbw ?_; intro v' w' hg'))
      go_roundw
      case rel =>
        have hgg := hg.trans hg'
        rw [B_eq (u := UInt8.ofNat (m % 128)) (by rw [u8_toNat]; omega)] at hgg
        exact ⟨m / 128, [UInt8.ofNat (m % 128)], by go_num, rfl, by omega, NumSt.first m, by simpa using hgg⟩
      case measure => simp [intOf, ifz]; omega
    · have hlb : l0.length < 8 := by
        have h8 := numB_len8 hn
        rcases hst with ⟨_, h⟩ | ⟨_, h⟩
        · have := congrArg List.length h
          simp only [List.length_append, List.length_singleton] at this
          omega
        · have := congrArg List.length h
          simp only [List.length_append, List.length_cons] at this
          omega
      have hib : ((l0.length : Int) + 1 == 0) = false := by rw [beq_eq_false_iff_ne]; omega
      simp only [List.length_append, List.length_singleton, Int.natCast_add, Int.natCast_one]
      rcases hst with ⟨rfl, hfin⟩ | ⟨hpos, hst⟩
      · have hF := Lib.hid hfin
        clear hfin
        simp only [Int.natCast_zero]
        go_wp2_with (first | (go_at_call 45; refine (RefIs_yes _ _ (by omega) (by omega)).mono ?_; rintro e w' ⟨rfl, rfl⟩))
        go_ret
        exact ⟨_, rfl, by rw [← hF.out]; exact hg⟩
      · have hS := Lib.hid hst
        clear hst
        obtain ⟨g, cap, rfl, hcap, hgb, hgl⟩ := hg.form (by simp)
        have hc1 : wr.cell? ⟨g, l0.length, none⟩ = some (.int .u8 (c.toNat : Int)) := by
          rw [hg.cellAt _ (by simp)]
          simp
        have hf1 := hg.frozenAt l0.length
        have hcc : (c.toNat : Int) < 128 := by omega
        have HC := Lib.hid (u8_add128 hc)
        have hg2 := hg.set l0.length (.int .u8 ((c.toNat : Int) + 128))
        have hbw := hg2.size
        rw [show ((l0 ++ [c]).map B).set l0.length (.int .u8 ((c.toNat : Int) + 128)) = (l0 ++ [c + 128]).map B by
          rw [B_eq (u := c + 128) HC.out.symm]
          simp [List.set_append_right]] at hg2
        have hlt : ((l0 ++ [c + 128]).map B).length < 140737488355328 := by simp; omega
        generalize hcn : c.toNat = cn at hc1 hcc hc hg2 hbw
        have HCN := Lib.hid hcn
        clear hcn
        rw [List.length_map, List.length_append, List.length_singleton] at hg2 ⊢
        go_wp2_with (first | (go_at_call 45; refine (RefIs_yes _ _ (by omega) (by omega)).mono ?_; rintro e w' ⟨rfl, rfl⟩) | (at_builtin; refine push_u8 rfl _ _ rfl w.heap.size _ _ rfl hg2.1 _ rfl rfl hlt hbw ?_; intro v' w' hg'))
        go_roundw
        case rel =>
          have hgg := hg2.trans hg'
          rw [B_eq (u := UInt8.ofNat (m % 128)) (by rw [u8_toNat]; omega)] at hgg
          exact ⟨m / 128, (l0 ++ [c + 128]) ++ [UInt8.ofNat (m % 128)], by go_num, by simp; omega, by omega, NumSt.next hS.out, by simpa using hgg⟩
        case measure =>
          simp only [intOf]
          rw [show ((l0.length : Int) + 1 + 1).toNat = l0.length + 1 + 1 by omega, show ((l0.length : Int) + 1).toNat = l0.length + 1 by omega, ifz, ifz]
          omega

end Go.Proofs.YtngenbolpnckhaaDoor

/- Layer 1: what its lists and what is read at a place come to, as values. -/
namespace Go.Proofs.YtngenbolpnckhaaDoor
open Go.RowKit

/-- What GetNum answers at a place from 0 on. -/
def numAt (bs : List UInt8) (p : Nat) : Value := match getN (bs.drop p) with
  | some (n, j) => .tuple #[.int .i64 (n : Int), .int .i64 ((p + j : Nat) : Int), .bool true]
  | none => .tuple #[.int .i64 0, .int .i64 0, .bool false]

def ListPost (l : List Int) (w : World) (e : Ending) (w' : World) : Prop :=
  (∃ v, e = .returned v ∧ l.all isNumB = true ∧ Grew w.heap.size 5 (.slice none 0 0) w ((listB l).map B) v w') ∨ (e = .returned (.slice none 0 0) ∧ l.all isNumB = false ∧ Ext w w')

/-- What GetList answers. -/
def GLPost (r : Option (List Nat × Nat)) (w : World) (e : Ending) (w' : World) : Prop := match r with
  | some (l, q) => ∃ v', e = .returned (.tuple #[v', .int .i64 (q : Int), .bool true]) ∧ w'.ownsRow w.heap.size 3 1 v' l.length (l.map fun (n : Nat) => Value.int .i64 n) ∧ Ext w w'
  | none => e = .returned (.tuple #[.slice none 0 0, .int .i64 0, .bool false]) ∧ Ext w w'

end Go.Proofs.YtngenbolpnckhaaDoor

/- The reference's layer 1: a list's bytes. -/
namespace Go.Proofs.YtngenbolpnckhaaDoor
open Go.RowKit

theorem Rd.open_ {w : World} {A : Option Addr} {n c : Nat} {xs : List Value} (h : Rd w (.slice A n c) xs) : n = xs.length ∧ xs.length ≤ c ∧ c ≤ maxLen ∧ (0 < xs.length → ∃ b o, A = some ⟨b, o, none⟩ ∧ b < w.heap.size ∧ ∀ j u, xs[j]? = some u → w.cell? ⟨b, o + j, none⟩ = some u) := by
  obtain ⟨A', c', e, h1, h2, h3⟩ := h
  injection e with e1 e2 e3
  subst e1 e2 e3
  exact ⟨rfl, h1, h2, h3⟩

set_option maxRecDepth 100000 in
set_option maxHeartbeats 4000000 in
theorem RefList_any (l : List Int) (v : Value) (w : World) (hr : Rd w v (l.map I)) (hl : l.length ≤ 1000000) :
    Calls Tryd.prog 32 #[v] w (ListPost l w) := by
  obtain ⟨A, c, rfl, hlc, hcm, hcell⟩ := hr
  simp only [List.length_map] at *
  unfold maxLen at hcm
  have hlen := numB_len8 (n := l.length) (by omega)
  go_enter Tryd.func32, Tryd.ntmps32
  go_wp2_with (first | (go_at_call 44; refine (RefNum_yes l.length _ (by omega)).mono ?_; rintro e w' ⟨v', rfl, hg0⟩))
  go_loopw [3, 4] (fun v' i' wr => ∃ (k : Nat), i' = .int .i64 k ∧ k ≤ l.length ∧ (l.take k).all isNumB = true ∧ Grew w.heap.size 5 (.slice none 0 0) w ((numB l.length ++ numsB (l.take k)).map B) v' wr) (fun _ i' _ => l.length - (intOf i').toNat)
  case atStart => exact ⟨0, rfl, by omega, rfl, by simpa [numsB] using hg0⟩
  case round =>
    obtain ⟨k, rfl, hk, hall, hg⟩ := hrel
    have hbnd := numsB_len _ hall
    rw [List.length_take, Nat.min_eq_left hk] at hbnd
    have hlt : (numB l.length ++ numsB (l.take k)).length ≤ 8 + 8 * l.length := by simp only [List.length_append]; omega
    have HA := Lib.hid hall
    clear hall
    by_cases hlt2 : k < l.length
    · obtain ⟨b, o, rfl, hbl, hce⟩ := hcell (by omega)
      have hc1 : wr.cell? ⟨b, o + k, none⟩ = some (I l[k]) := (hg.ext.cell (p := ⟨b, o + k, none⟩) hbl).trans (hce k _ (by simp [hlt2]))
      clear hce hcell
      by_cases hn : isNumB l[k] = true
      · have H := Lib.hid (isNumB_iff.1 hn)
        obtain ⟨m, hm, hm2⟩ := isNum_some H.out
        have HL := Lib.hid hm
        rw [hm] at hc1
        unfold I at hc1
        clear hm hn
        have lm := numB_len8 hm2
        go_wp2_with (first | (go_at_call 45; refine (RefIs_yes _ _ (by omega) (by omega)).mono ?_; rintro e w' ⟨rfl, rfl⟩) | (go_at_call 44; refine (RefNum_yes m _ (by omega)).mono ?_; rintro e w2 ⟨v2, rfl, hg2⟩; obtain ⟨A2, c2, rfl⟩ := hg2.slice_ (n := (numB m).length) (List.length_map _)))
        have hg3 := hg.step hg2.ext
        have hr2 := Rd.own hg2.own
        have hne : Hid (∀ b2 o2, A2 = some ⟨b2, o2, none⟩ → u3.ownBlock ≠ some b2) := by
          intro b2 o2 e h
          subst e
          have h1 := (hg.own.lt b2 h).2
          have h2 := (hg2.own.lt b2 rfl).1
          omega
        obtain ⟨-, -, hc2m, hcell2⟩ := hr2.open_
        simp only [List.length_map] at hcell2
        unfold maxLen at hc2m
        generalize hw2 : w2 = w3 at *
        clear hg2 hw2 hc1 hr2
        obtain ⟨wo, rfl⟩ : ∃ wo : World, wo = wr := ⟨_, rfl⟩
        obtain ⟨vo, rfl⟩ : ∃ vo : Value, vo = u3 := ⟨_, rfl⟩
        go_loopw [3, 6] (fun v' i' wq => ∃ (q : Nat), i' = .int .i64 q ∧ q ≤ (numB m).length ∧ Grew w.heap.size 5 vo w3 (((numB l.length ++ numsB (l.take k)) ++ (numB m).take q).map B) v' wq) (fun _ i' _ => (numB m).length - (intOf i').toNat)
        case atStart => exact ⟨0, rfl, by omega, by simpa using Grew.start hg3.1⟩
        case round =>
          obtain ⟨q, rfl, hq, hgq⟩ := hrel
          have hlq : (((numB l.length ++ numsB (l.take k)) ++ (numB m).take q).map B).length < 140737488355328 := by
            rw [List.length_map, List.length_append, List.length_take]
            omega
          have hbq := Nat.le_trans hg3.size hgq.size
          by_cases hq2 : q < (numB m).length
          · obtain ⟨b2, o2, rfl, hb2, hce2⟩ := hcell2 (by omega)
            have hc2 : wr.cell? ⟨b2, o2 + q, none⟩ = some (B (numB m)[q]) := hgq.2.1.cell (hce2 q _ (by simp [hq2])) (fun e => hne.out b2 o2 rfl e.symm)
            clear hce2 hcell2
            have htk := Lib.hid (take_snoc (numB m) q hq2)
            generalize (numB m)[q] = bq at hc2 htk
            unfold B at hc2
            go_wp2_with (first | (at_builtin; refine push_u8 rfl _ _ rfl w.heap.size _ _ rfl hgq.1 _ rfl rfl hlq hbq ?_; intro v' w' hg'))
            go_roundw
            case rel =>
              have hgg := hgq.trans hg'
              refine ⟨q + 1, by go_num, by omega, ?_⟩
              rw [htk.out, ← List.append_assoc, List.map_append]
              exact hgg
            case measure => simp [intOf]; omega
          · obtain rfl : q = (numB m).length := by omega
            rw [List.take_length] at hgq
            clear hcell2
            go_wp2
            go_roundw
            case rel =>
              refine ⟨k + 1, by go_num, by omega, all_take_snoc hlt2 HA.out (isNumB_iff.2 H.out), ?_⟩
              rw [take_snoc l k hlt2, numsB_snoc, HL.out, Int.toNat_natCast, ← List.append_assoc]
              exact hg3.trans hgq
            case measure => simp [intOf]; omega
      · have H := Lib.hid (isNumB_not (Bool.eq_false_iff.2 hn))
        unfold I at hc1
        clear hn
        go_wp2_with (first | (go_at_call 45; refine (RefIs_no _ _ H.out).mono ?_; rintro e w' ⟨rfl, rfl⟩))
        go_ret
        exact .inr ⟨rfl, all_false_at hlt2 (Bool.eq_false_iff.2 fun h => H.out (isNumB_iff.1 h)), hg.ext⟩
    · have hkl : k = l.length := by omega
      subst hkl
      go_wp2
      go_ret
      rw [List.take_length] at hg HA
      exact .inl ⟨_, rfl, HA.out, hg⟩

end Go.Proofs.YtngenbolpnckhaaDoor

/- Layer 8, the reference: an op's bytes. -/
namespace Go.Proofs.YtngenbolpnckhaaDoor
open Go.RowKit

theorem own_one {w : World} {base g : Nat} {e : TypeId} {u : Value} (h : Blk w g e #[u]) (hg : base ≤ g) : w.ownsRow base e 1 (.slice (some ⟨g, 0, none⟩) 1 1) [u].length [u] :=
  ⟨rfl, .inr ⟨g, 1, #[u], rfl, hg, h, Nat.le_refl _, by unfold maxLen; omega, rfl, rfl⟩⟩
theorem rd_take {w : World} {A : Option Addr} {N c n : Nat} {xs : List Value} (h : Rd w (.slice A N c) xs) (hn : n ≤ xs.length) : Rd w (.slice A n c) (xs.take n) := by
  obtain ⟨A', c', e, h1, h2, h3⟩ := h
  cases e
  have hl : (xs.take n).length = n := by rw [List.length_take]; omega
  refine ⟨A, c, by rw [hl], by omega, h2, fun h0 => ?_⟩
  obtain ⟨b, o, q1, q2, q3⟩ := h3 (by omega)
  refine ⟨b, o, q1, q2, fun j u hu => q3 j u ?_⟩
  rw [List.getElem?_take] at hu
  split at hu
  · exact hu
  · cases hu

theorem Blk.drew_ {w : World} {g : Nat} {t : TypeId} {cs : Array Value} (h : Blk w g t cs) : Blk w.drew g t cs := h
theorem rd_takeI {w : World} {A : Option Addr} {N c n : Nat} {xs : List Int} (h : Rd w (.slice A N c) (xs.map I)) (hn : n ≤ xs.length) : Rd w (.slice A n c) ((xs.take n).map I) := by
  rw [List.map_take]
  exact rd_take h (by rw [List.length_map]; exact hn)

/-- A list of numbers appended to a row of one number that the call made, inside a statement whose order is open. -/
theorem stepApp1 {w : World} {ops : Array Oper} {o : Oper} {a : Act} {K : Act → World → Prop} {Q : Exit → Act → World → Prop} {E : Prop} (s x : Operand)
    (hop : o.op = .call { callee := .builtin .append, args := #[s, x], argTypes := #[38, 38] }) (hw : Region.wanted o (yielded ops a.tmps) = true)
    (base g : Nat) (k : Int) (hb : Blk w g 3 #[.int .i64 k]) (hg : base ≤ g) (hs : a.eval s = .slice (some ⟨g, 0, none⟩) 1 1) (u : Value) (ys : List Int) (hx : a.eval x = u) (hr : Rd w u (ys.map I))
    (hlen : ys.length ≤ 1000000)
    (h : ∀ v' w', Rd w' v' ((k :: ys).map I) → Below base w w' → K (a.put o.dst v') w') :
    if Region.wanted o (yielded ops a.tmps) = true then Oper.wp Tryd.prog o a w K Q else E := by
  rw [if_pos hw]
  have hgl := hb.lt
  obtain ⟨i0, hi, hz0, hz1, hz2⟩ := info_parts Tryd.infoInt
  obtain ⟨v', w', hrun, h2⟩ := run_append_rd (P := Tryd.prog) w base 38 o.type 3 i0 (.int .i64 0) 8 Tryd.underlying38 hi hz0 hz1 hz2 rfl _ _ (own_one hb hg) u _ hr
    (fun y hy => by obtain ⟨n, -, rfl⟩ := List.mem_map.1 hy; rfl) (by rw [List.length_map]; unfold maxLen; simp; omega) (by rw [List.length_map]; simp; omega) (by omega)
  unfold Oper.wp execOp
  simp only [hop, resolve, invoke, builtin, Sem.run_bind, Sem.run_pure, Result.andThen_ok, List.map_toArray, List.map_cons, List.map_nil, hs, hx, hrun]
  exact h v' w' (Rd.own h2.own) (h2.below (by omega) (fun j hj => by cases hj; exact hg))

theorem box_cells {w : World} {g : Nat} {t : TypeId} {v0 v1 v2 v3 v4 v5 v6 : Value} (h : Blk w g t #[v0, v1, v2, v3, v4, v5, v6]) :
    w.cell? ⟨g, 0, none⟩ = some v0 ∧ w.cell? ⟨g, 1, none⟩ = some v1 ∧ w.cell? ⟨g, 2, none⟩ = some v2 ∧ w.cell? ⟨g, 3, none⟩ = some v3 ∧ w.cell? ⟨g, 4, none⟩ = some v4 ∧ w.cell? ⟨g, 5, none⟩ = some v5 ∧ w.cell? ⟨g, 6, none⟩ = some v6 :=
  ⟨h.cell 0, h.cell 1, h.cell 2, h.cell 3, h.cell 4, h.cell 5, h.cell 6⟩

set_option maxRecDepth 100000 in
set_option maxHeartbeats 4000000 in
theorem RefPut08 (o : OpN) (w : World) :
    Calls Tryd.prog 15 #[opV o] w fun e w' => ∃ v, e = .returned v ∧ Rd w' v ((putO o).map B) ∧ Ext w w' := by
  have HKR := Lib.hid fun w' => RefRight08 o w'
  have HKN := Lib.hid fun w' => RefNumbers08 o w'
  have HKM := Lib.hid fun w' => RefMany08 o.1 w'
  have HM6 := Lib.hid (manyK_le o.1)
  have hno : rightO o = false → putO o = [] := fun h => by rw [putO, if_neg (by rw [h]; decide)]
  have HNO := Lib.hid hno
  have hyes : rightO o = true → ∀ v W, Rd W v ((o.1 :: (numsO o).take (manyK o.1)).map I) → Calls Tryd.prog 32 #[v] W fun e w' => ∃ v', e = .returned v' ∧ Rd w' v' ((putO o).map B) ∧ Ext W w' := fun h v W hv => by
    refine (RefList_any _ v W hv (by rw [List.length_cons, List.length_take, numsO_len]; omega)).mono ?_
    rintro e w' (⟨v', rfl, -, hg⟩ | ⟨-, hf, -⟩)
    · refine ⟨v', rfl, ?_, hg.ext⟩
      rw [putO, if_pos h]
      exact Rd.own hg.own
    · rw [show (o.1 :: (numsO o).take (manyK o.1)) = o.1 :: argsO o from rfl, args_isNum h] at hf
      cases hf
  have HYES := Lib.hid hyes
  clear hno hyes
  obtain ⟨k, a, b, c, d, e, f⟩ := o
  generalize ho : ((k, a, b, c, d, e, f) : OpN) = o at *
  have hk : o.1 = k := by rw [← ho]
  have hv : opV o = .agg #[.int .i64 k, .int .i64 a, .int .i64 b, .int .i64 c, .int .i64 d, .int .i64 e, .int .i64 f] := by rw [← ho]; rfl
  rw [hk] at HKM HM6 HYES
  rw [hv] at HKN HKR ⊢
  clear ho hv hk
  generalize manyK k = mk at *
  have hE : Ext w (w.alloc (.cells #[.int .i64 k, .int .i64 a, .int .i64 b, .int .i64 c, .int .i64 d, .int .i64 e, .int .i64 f] 23)) := (Below.refl _ _).alloc (Nat.le_refl _) _
  cases hR : rightO o with
  | false =>
    have hz := HNO.out hR
    rw [hR] at HKR
    rw [hz]
    clear HNO HYES hz hR
    go_enter Tryd.func15, Tryd.ntmps15
    go_wp2_with fail
    refine (HKR.out _).mono ?_
    rintro e2 w2 ⟨rfl, hx2⟩
    have hx := hE.trans hx2
    go_wp2
    go_ret
    exact ⟨_, rfl, Rd.nil _, hx⟩
  | true =>
    rw [hR] at HKR
    have HKL := Lib.hid (HYES.out hR)
    clear HNO hR HYES
    generalize putO o = P at *
    generalize hnu : numsO o = N at *
    have hnl : N.length = 6 := by rw [← hnu]; rfl
    clear hnu
    have HNL := Lib.hid hnl
    clear hnl
    go_enter Tryd.func15, Tryd.ntmps15
    have HBK := Lib.hid (Blk.new w 23 #[.int .i64 k, .int .i64 a, .int .i64 b, .int .i64 c, .int .i64 d, .int .i64 e, .int .i64 f])
    have HE := Lib.hid hE
    clear hE
    go_wp2_with fail
    refine (HKR.out _).mono ?_
    rintro e2 w2 ⟨rfl, hx2⟩
    have HB2 := Lib.hid (HBK.out.ext hx2)
    have HX2 := Lib.hid (HE.out.trans hx2)
    have hw2 : w.heap.size < w2.heap.size := HB2.out.lt
    obtain ⟨c0, c1, c2, c3, c4, c5, c6⟩ := box_cells HB2.out
    have hm0 : (0 : Int) ≤ (mk : Int) := Int.natCast_nonneg _
    have hm6 : (mk : Int) ≤ 6 := by have := HM6.out; omega
    have hmn : mk ≤ N.length := by have := HM6.out; rw [HNL.out]; exact this
    have HMN := Lib.hid hmn
    have HTL : Hid ((N.take mk).length ≤ 1000000) := Lib.hid (by rw [List.length_take]; omega)
    clear hmn
    clear hx2 HBK HE
    go_wp2_with fail
    go_region_held3 (fun w' => w'.cell? ⟨w.heap.size, 0, none⟩ = some (.int .i64 k) ∧ w'.cell? ⟨w.heap.size, 1, none⟩ = some (.int .i64 a) ∧ w'.cell? ⟨w.heap.size, 2, none⟩ = some (.int .i64 b) ∧ w'.cell? ⟨w.heap.size, 3, none⟩ = some (.int .i64 c) ∧ w'.cell? ⟨w.heap.size, 4, none⟩ = some (.int .i64 d) ∧ w'.cell? ⟨w.heap.size, 5, none⟩ = some (.int .i64 e) ∧ w'.cell? ⟨w.heap.size, 6, none⟩ = some (.int .i64 f)) (first | go_keep | (exact box_cells HB4.out) | (exact box_cells HB9.out) | (exact box_cells HB10.out)) (first | (go_at_call 28; (with_reducible refine (HKN.out _).mono ?_); rintro e4 w4 ⟨b4, rfl, hb4, hr4, hx4⟩; (first | (have hy4 : Ext w2 w4 := hx4) | (have hy4 : Ext w2 w4 := Ext.trans (Below.drewN' (Ext.refl w2) 1) hx4) | (have hy4 : Ext w2 w4 := Ext.trans (Below.alloc (Ext.refl w2) (Nat.le_refl _) _) hx4) | (have hy4 : Ext w2 w4 := Ext.trans (Below.drewN' (Below.alloc (Ext.refl w2) (Nat.le_refl _) _) 1) hx4) | (have hy4 : Ext w2 w4 := Ext.trans (Below.alloc (Below.drewN' (Ext.refl w2) 1) (Nat.le_refl _) _) hx4) | (fail "hy4")); have HB4 := Lib.hid (HB2.out.ext hy4); have HT4 := Lib.hid (rd_takeI hr4 HMN.out)) | (go_at_call 32; (with_reducible refine (HKL.out _ _ hr9).mono ?_); rintro e10 w10 ⟨v10, rfl, hr10, hx10⟩; have HB10 := Lib.hid (HB9.out.ext hx10)) | (go_at_call 29; (with_reducible refine (HKM.out _).mono ?_); rintro e5 w5 ⟨rfl, rfl⟩) | (refine stepApp1 (.tmp 8) (.tmp 14) rfl rfl w2.heap.size _ k ?_ ?_ rfl _ (N.take mk) rfl ?_ HTL.out ?_; (first | (exact Blk.ext (Blk.new w2 _ _) hx4) | (exact Blk.ext (Blk.drew_ (Blk.new w2 _ _)) hx4) | (exact Blk.new w4 _ _) | (exact Blk.drew_ (Blk.new w4 _ _)) | (exact Blk.new w4.drew _ _) | (fail "hb")); (first | (exact Nat.le_refl _) | (exact Below.size hy4) | (fail "hg")); (first | (exact HT4.out) | (exact (Rd.ext HT4.out (Below.alloc (Ext.refl w4) (Nat.le_refl _) _))) | (exact (Rd.ext HT4.out (Below.drewN' (Below.alloc (Ext.refl w4) (Nat.le_refl _) _) 1))) | (exact (Rd.ext HT4.out (Below.alloc (Below.drewN' (Ext.refl w4) 1) (Nat.le_refl _) _))) | (exact (Rd.ext HT4.out (Below.drewN' (Ext.refl w4) 1))) | (fail "hr")); intro v9 w9 hr9 hb9; (first | (have hx9 : Ext w2 w9 := Below.trans hy4 hb9) | (have hx9 : Ext w2 w9 := Below.trans (Below.alloc hy4 (Below.size hy4) _) hb9) | (have hx9 : Ext w2 w9 := Below.trans (Below.drewN' (Below.alloc hy4 (Below.size hy4) _) 1) hb9) | (have hx9 : Ext w2 w9 := Below.trans (Below.alloc (Below.drewN' hy4 1) (Below.size hy4) _) hb9) | (have hx9 : Ext w2 w9 := Below.trans (Below.drewN' hy4 1) hb9) | (fail "hx9")); have HB9 := Lib.hid (HB2.out.ext hx9)))
    all_goals
      have hx := (HX2.out.trans hx9).trans hx10
      clear HB4 HB9 HB10 HT4 HTL HMN HB2 hb4 hr4 hb9 hr9 hx4 hy4 hx9
      go_wp2
      go_ret
      exact ⟨_, rfl, hr10, hx⟩

end Go.Proofs.YtngenbolpnckhaaDoor

/- Package ops: kinds, an op's numbers, whether it is right. -/
namespace Go.Proofs.YtngenbolpnckhaaDoor
open Go.RowKit

set_option maxRecDepth 100000 in
theorem isKind_any (k : Int) (w : World) :
    Calls Tryd.prog 26 #[.int .i64 k] w fun e w' => e = .returned (.bool (decide (1 ≤ k ∧ k ≤ 21))) ∧ w = w' := by
  by_cases h1 : 0 < k
  · by_cases h2 : k < 22
    · have d1 : decide (0 < k) = true := decide_eq_true h1
      have d2 : decide (k < 22) = true := decide_eq_true h2
      rw [decide_eq_true (show 1 ≤ k ∧ k ≤ 21 by omega)]
      clear h1 h2
      go_enter Tryd.func26, Tryd.ntmps26
      go_wp2
      go_ret
      exact ⟨rfl, rfl⟩
    · have d1 : decide (0 < k) = true := decide_eq_true h1
      have d2 : decide (k < 22) = false := decide_eq_false h2
      rw [decide_eq_false (show ¬ (1 ≤ k ∧ k ≤ 21) by omega)]
      clear h1 h2
      go_enter Tryd.func26, Tryd.ntmps26
      go_wp2
      go_ret
      exact ⟨rfl, rfl⟩
  · have d1 : decide (0 < k) = false := decide_eq_false h1
    rw [decide_eq_false (show ¬ (1 ≤ k ∧ k ≤ 21) by omega)]
    clear h1
    go_enter Tryd.func26, Tryd.ntmps26
    go_wp2
    go_ret
    exact ⟨rfl, rfl⟩

/-- An op's six numbers as an array. -/
def arrO (o : OpN) : Array Value := #[.int .i64 o.2.1, .int .i64 o.2.2.1, .int .i64 o.2.2.2.1, .int .i64 o.2.2.2.2.1, .int .i64 o.2.2.2.2.2.1,  .int .i64 o.2.2.2.2.2.2]
def arrV (o : OpN) : Value := .agg (arrO o)
theorem arrO_get (o : OpN) {i : Nat} (h : i < 6) : (arrO o)[i]? = some (.int .i64 (numAtO o i)) := by
  rcases (show i = 0 ∨ i = 1 ∨ i = 2 ∨ i = 3 ∨ i = 4 ∨ i = 5 by omega) with rfl | rfl | rfl | rfl | rfl | rfl <;> rfl

set_option maxRecDepth 100000 in
theorem numbers_any (o : OpN) (w : World) :
    Calls Tryd.prog 27 #[opV o] w fun e w' => e = .returned (arrV o) ∧ Ext w w' := by
  obtain ⟨k, a, b, c, d, e, f⟩ := o
  unfold opV arrV arrO
  dsimp only
  go_enter Tryd.func27, Tryd.ntmps27
  go_wp2
  have hg : (w.alloc (.cells #[.int .i64 k, .int .i64 a, .int .i64 b, .int .i64 c, .int .i64 d, .int .i64 e, .int .i64 f] 23)).heap.size = w.heap.size + 1 := by simp
  have h9 := Blk.new (w.alloc (.cells #[.int .i64 k, .int .i64 a, .int .i64 b, .int .i64 c, .int .i64 d, .int .i64 e, .int .i64 f] 23)) 44 #[.int .i64 a, .int .i64 b, .int .i64 c, .int .i64 d, .int .i64 e, .int .i64 f]
  rw [hg] at h9
  exact bodyPost_ret (results_cell_row rfl _ _ (w.heap.size + 1) 44 _ (0, 0) _ rfl h9 rfl rfl (by kernel_rfl)) rfl ⟨rfl, ((Below.refl _ w).alloc (Nat.le_refl _) _).alloc (by simp) _⟩

theorem ok_step {o : OpN} {n : Nat} (h : ∀ j, j < n → okAtO o j = true) (hn : okAtO o n = true) : ∀ j, j < n + 1 → okAtO o j = true := fun j hj => by
  rcases Nat.lt_or_ge j n with h' | h'
  · exact h j h'
  · have : j = n := by omega
    rw [this]
    exact hn
theorem right_kind {o : OpN} (h : ¬ (1 ≤ o.1 ∧ o.1 ≤ 21)) : rightO o = false := by
  rw [Bool.eq_false_iff]
  exact fun hr => h (rightO_iff.1 hr).1

set_option maxRecDepth 100000 in
set_option maxHeartbeats 4000000 in
theorem Right_any (o : OpN) (w : World) (hL : Laid w) :
    Calls Tryd.prog 11 #[opV o] w fun e w' => e = .returned (.bool (rightO o)) ∧ Ext w w' := by
  have HKN := Lib.hid fun w' => numbers_any o w'
  have HKK := Lib.hid fun w' => isKind_any o.1 w'
  have HNO := Lib.hid (fun (i : Nat) (h : i < 6) (hn : okAtO o i = false) => right_no h hn)
  have HYES := Lib.hid (right_all (o := o))
  have HKD := Lib.hid (right_kind (o := o))
  have hok : ∀ i : Nat, okAtO o i = (decide (0 ≤ numAtO o i ∧ numAtO o i ≤ 1000000) && (decide (i < manyK o.1) || numAtO o i == 0)) := fun i => rfl
  have HOK := Lib.hid hok
  have HM6 := Lib.hid (manyK_le o.1)
  have HLD := Lib.hid hL
  clear hok hL
  obtain ⟨k, a, b, c, d, e, f⟩ := o
  generalize ho : ((k, a, b, c, d, e, f) : OpN) = o at *
  have hk : o.1 = k := by rw [← ho]
  have hv : opV o = .agg #[.int .i64 k, .int .i64 a, .int .i64 b, .int .i64 c, .int .i64 d, .int .i64 e, .int .i64 f] := by rw [← ho]; rfl
  have hav : arrV o = .agg (arrO o) := rfl
  have HAO := Lib.hid (fun (i : Nat) (h : i < 6) => arrO_get o h)
  rw [hk] at HKK HKD HYES HOK HM6
  rw [hv, hav] at HKN
  rw [hv]
  generalize arrO o = ao at *
  have hE : Ext w (w.alloc (.cells #[.int .i64 k, .int .i64 a, .int .i64 b, .int .i64 c, .int .i64 d, .int .i64 e, .int .i64 f] 23)) := (Below.refl _ _).alloc (Nat.le_refl _) _
  have hbk := Blk.new w 23 #[.int .i64 k, .int .i64 a, .int .i64 b, .int .i64 c, .int .i64 d, .int .i64 e, .int .i64 f]
  clear ho hv hav hk
  have HE := Lib.hid hE
  have HBK := Lib.hid hbk
  clear hE hbk
  by_cases h : 1 ≤ k ∧ k ≤ 21
  · obtain ⟨kn, rfl⟩ : ∃ n : Nat, k = (n : Int) := ⟨k.toNat, by omega⟩
    have hk1 : 1 ≤ kn := by omega
    have hk2 : kn < 22 := by omega
    rw [decide_eq_true h] at HKK HYES
    have HKR := Lib.hid h
    clear HKD h
    go_enter Tryd.func11, Tryd.ntmps11
    go_wp2_with fail
    refine (HKK.out _).mono ?_
    rintro e1 w1 ⟨rfl, rfl⟩
    go_wp2_with fail
    refine (HKN.out _).mono ?_
    rintro e2 w2 ⟨rfl, hx2⟩
    have HB2 := Lib.hid (HBK.out.ext hx2)
    have HX2 := Lib.hid (HE.out.trans hx2)
    have c0 : w2.cell? ⟨w.heap.size, 0, none⟩ = some (.int .i64 (kn : Int)) := HB2.out.cell 0
    have cc : w2.cell? ⟨0, kn, none⟩ = some (.int .i64 (manyK (kn : Int) : Int)) := by
      rw [← cntK_pos hk1]
      exact (HLD.out.ext HX2.out).count kn hk2
    generalize manyK (kn : Int) = mk at *
    obtain ⟨mi, hmi⟩ : ∃ mi : Int, mi = (mk : Int) := ⟨_, rfl⟩
    rw [← hmi] at cc
    have HMI := Lib.hid hmi
    have hix : ∀ n : Nat, n < 6 → (Instr.index 44 (.agg ao) (.int .i64 n)).run Tryd.prog w2 = .ok (.int .i64 (numAtO o n)) w2 := fun n hn => run_index_arr _ 3 6 _ _ n _ Tryd.underlying44 (Tryd.sizeOf3 w2) (Tryd.isAgg3 w2) hn (HAO.out n hn)
    have HIX := Lib.hid hix
    clear hx2 HE HBK hmi hix
    go_wp2
    go_loop [11] (fun i => ∃ n : Nat, i = .int .i64 n ∧ n ≤ 6 ∧ Hid (∀ j, j < n → okAtO o j = true)) (fun i => 6 - (intOf i).toNat)
    case atStart => exact ⟨0, rfl, by decide, Lib.hid (fun j hj => absurd hj (Nat.not_lt_zero j))⟩
    case round =>
      obtain ⟨n, rfl, hn, HA⟩ := hrel
      by_cases hlt : n < 6
      · have hokn := HOK.out n
        have hnon := HNO.out n hlt
        have hin6 := HIX.out n hlt
        generalize hx : numAtO o n = x at *
        have l6 : decide ((n : Int) < 6) = true := decide_eq_true (by omega)
        have HLT := Lib.hid hlt
        by_cases h1 : x < 0
        · have HZ := Lib.hid (hnon (by rw [hokn, decide_eq_false (by omega)]; rfl))
          have d1 : decide (x < 0) = true := decide_eq_true h1
          clear hokn hnon hx h1 hn
          go_wp2
          go_ret
          exact ⟨by rw [HZ.out]; rfl, HX2.out⟩
        · have d1 : decide (x < 0) = false := decide_eq_false h1
          by_cases h2 : 1000000 < x
          · have HZ := Lib.hid (hnon (by rw [hokn, decide_eq_false (by omega)]; rfl))
            have d2 : decide (1000000 < x) = true := decide_eq_true h2
            clear hokn hnon hx h1 h2 hn
            go_wp2
            go_ret
            exact ⟨by rw [HZ.out]; rfl, HX2.out⟩
          · have d2 : decide (1000000 < x) = false := decide_eq_false h2
            have hin : decide (0 ≤ x ∧ x ≤ 1000000) = true := decide_eq_true (by omega)
            by_cases h3 : n < mk
            · have HY := Lib.hid (ok_step HA.out (by rw [hokn, hin, decide_eq_true h3]; rfl))
              have d3 : decide (mi ≤ (n : Int)) = false := decide_eq_false (by have := HMI.out; omega)
              clear hokn hnon hx h1 h2 h3 hin hn
              go_wp2
              go_round
              case rel => exact ⟨n + 1, by go_num, HLT.out, HY⟩
              case measure => have := HLT.out; simp [intOf]; omega
            · have d3 : decide (mi ≤ (n : Int)) = true := decide_eq_true (by have := HMI.out; omega)
              by_cases h4 : x = 0
              · have HY := Lib.hid (ok_step HA.out (by rw [hokn, hin, h4]; simp))
                have d4 : (x != 0) = false := by simp [h4]
                clear hokn hnon hx h1 h2 h3 hin h4 hn
                go_wp2
                go_round
                case rel => exact ⟨n + 1, by go_num, HLT.out, HY⟩
                case measure => have := HLT.out; simp [intOf]; omega
              · have HZ := Lib.hid (hnon (by
                  rw [hokn, hin, decide_eq_false h3]
                  simpa using h4))
                have d4 : (x != 0) = true := by simp [h4]
                clear hokn hnon hx h1 h2 h3 hin h4 hn
                go_wp2
                go_ret
                exact ⟨by rw [HZ.out]; rfl, HX2.out⟩
      · obtain rfl : n = 6 := by omega
        have HZ := Lib.hid (HYES.out HA.out)
        go_wp2
        go_ret
        exact ⟨by rw [HZ.out]; rfl, HX2.out⟩
  · rw [decide_eq_false h] at HKK
    have HZ := Lib.hid (HKD.out h)
    clear HKD h HYES
    go_enter Tryd.func11, Tryd.ntmps11
    go_wp2_with fail
    refine (HKK.out _).mono ?_
    rintro e1 w1 ⟨rfl, rfl⟩
    go_wp2
    go_ret
    exact ⟨by rw [HZ.out]; rfl, HE.out⟩

end Go.Proofs.YtngenbolpnckhaaDoor

/- Package ops: a kind's name, the kind of a name, an op's own numbers. -/
namespace Go.Proofs.YtngenbolpnckhaaDoor
open Go.RowKit

set_option maxRecDepth 100000 in
theorem Name_any (k : Int) (w : World) (hL : Laid w) :
    Calls Tryd.prog 18 #[.int .i64 k] w fun e w' => e = .returned (.string (strB (nameK k))) ∧ w = w' := by
  have HKK := Lib.hid fun w' => isKind_any k w'
  by_cases h : 1 ≤ k ∧ k ≤ 21
  · obtain ⟨kn, rfl⟩ : ∃ n : Nat, k = (n : Int) := ⟨k.toNat, by omega⟩
    have cc := hL.name kn (by omega)
    rw [decide_eq_true h] at HKK
    have h1 : 1 ≤ kn := by omega
    have h2 : kn < 22 := by omega
    clear h hL
    generalize strB (nameK (kn : Int)) = s at *
    go_enter Tryd.func18, Tryd.ntmps18
    go_wp2_with fail
    refine (HKK.out _).mono ?_
    rintro e1 w1 ⟨rfl, rfl⟩
    go_wp2
    go_ret
    exact ⟨rfl, rfl⟩
  · rw [decide_eq_false h] at HKK
    have hn : strB (nameK k) = ⟨#[]⟩ := by rw [nameK_no h]; rfl
    rw [hn]
    clear h hn hL
    go_enter Tryd.func18, Tryd.ntmps18
    go_wp2_with fail
    refine (HKK.out _).mono ?_
    rintro e1 w1 ⟨rfl, rfl⟩
    go_wp2
    go_ret
    exact ⟨rfl, rfl⟩

theorem kind_found {s : List UInt8} {n : Nat} (hn : n < 22) (h : strB (nameK (n : Int)) = strB s) : KindIs s n := by
  have h' : nameK (n : Int) = s := by
    have := congrArg (fun x => x.data.toList) h
    simpa [strB] using this
  by_cases h0 : n = 0
  · refine .inr ⟨h0, fun k hk e => ?_⟩
    rw [← h', h0, nameK_no (k := ((0 : Nat) : Int)) (by omega)] at e
    exact nameK_ne hk e
  · exact .inl ⟨by omega, by omega, h'⟩
theorem kind_none {s : List UInt8} (h : ∀ j : Nat, j < 22 → ¬ strB (nameK (j : Int)) = strB s) : KindIs s 0 := .inr ⟨rfl, fun k hk e => by
  refine h k.toNat (by omega) ?_
  rw [show ((k.toNat : Nat) : Int) = k by omega, e]⟩

theorem names_at {n : Nat} (h : n < 22) : namL.toArray[n]? = some (.string (strB (nameK (n : Int)))) := by simp [namL, h]

set_option maxRecDepth 100000 in
set_option maxHeartbeats 4000000 in
theorem kindOf_any (s : List UInt8) (w : World) (hL : Laid w) :
    Calls Tryd.prog 35 #[.string (strB s)] w fun e w' => ∃ kd : Nat, e = .returned (.int .i64 (kd : Int)) ∧ KindIs s kd ∧ w = w' := by
  obtain ⟨tt, fr, hb⟩ := hL.rown
  have hu := Tryd.underlying58
  have hi : (Tryd.prog.info? 58).map (·.size) = some namL.toArray.size := by kernel_rfl
  have HF : Hid (∀ n : Nat, n < 22 → strB (nameK (n : Int)) = strB s → KindIs s n) := Lib.hid fun n hn h => kind_found hn h
  have HG : Hid ((∀ j : Nat, j < 22 → ¬ strB (nameK (j : Int)) = strB s) → KindIs s 0) := Lib.hid fun h => kind_none h
  have HIX : Hid (∀ n : Nat, n < 22 → (Instr.index 58 (.agg namL.toArray) (.int .i64 n)).run Tryd.prog w = .ok (.string (strB (nameK (n : Int)))) w) := Lib.hid fun n hn =>
    run_index_arr _ 9 22 _ _ n _ Tryd.underlying58 (Tryd.sizeOf9 w) (Tryd.isAgg9 w) hn (names_at hn)
  clear hL
  obtain ⟨nm, hnm⟩ : ∃ nm : Nat → ByteArray, nm = fun (k : Nat) => strB (nameK (k : Int)) := ⟨_, rfl⟩
  have hnm' : ∀ k : Nat, strB (nameK (k : Int)) = nm k := fun k => by rw [hnm]
  simp only [hnm'] at HF HG HIX
  clear hnm hnm'
  generalize strB s = sb at *
  generalize namL.toArray = na at *
  have HB := Lib.hid hb
  have HU := Lib.hid hu
  have HI := Lib.hid hi
  clear hb hu hi
  go_enter Tryd.func35, Tryd.ntmps35
  go_wp2_with (refine wpList_load_row rfl 58 _ rfl 1 rfl tt na fr _ HB.out HU.out rfl HI.out ?_)
  go_loop [6] (fun i => ∃ n : Nat, i = .int .i64 n ∧ n ≤ 22 ∧ Hid (∀ j, j < n → ¬ nm j = sb)) (fun i => 22 - (intOf i).toNat)
  case atStart => exact ⟨0, rfl, by decide, Lib.hid (fun j hj => absurd hj (Nat.not_lt_zero j))⟩
  case round =>
    obtain ⟨n, rfl, hn, HA⟩ := hrel
    by_cases hlt : n < 22
    · have hix := HIX.out n hlt
      have l6 : decide ((n : Int) < 22) = true := decide_eq_true (by omega)
      have HLT := Lib.hid hlt
      have HFn := Lib.hid (HF.out n hlt)
      generalize hx : nm n = x at *
      by_cases he : x = sb
      · have d1 : (x.toList == sb.toList) = true := (Lib.bytes_beq_iff x sb).2 he
        have HZ := Lib.hid (HFn.out he)
        clear hx he HFn
        go_wp2
        go_ret
        exact ⟨n, rfl, HZ.out, rfl⟩
      · have d1 : (x.toList == sb.toList) = false := (Lib.bytes_beq_false_iff x sb).2 he
        have HA' : Hid (∀ j, j < n + 1 → ¬ nm j = sb) := Lib.hid fun j hj => by
          rcases Nat.lt_or_ge j n with h' | h'
          · exact HA.out j h'
          · have : j = n := by omega
            rw [this, hx]
            exact he
        clear hx he HFn
        go_wp2
        go_round
        case rel => exact ⟨n + 1, by go_num, HLT.out, HA'⟩
        case measure => have := HLT.out; simp [intOf]; omega
    · obtain rfl : n = 22 := by omega
      have HZ := Lib.hid (HG.out HA.out)
      go_wp2
      go_ret
      exact ⟨0, rfl, HZ.out, rfl⟩

set_option maxRecDepth 100000 in
set_option maxHeartbeats 4000000 in
theorem itsNumbers_any (o : OpN) (w : World) (hL : Laid w) (h : 1 ≤ o.1 ∧ o.1 ≤ 21) :
    Calls Tryd.prog 31 #[opV o] w fun e w' => ∃ b, e = .returned (.slice (some ⟨b, 0, none⟩) (manyK o.1) 6) ∧ w.heap.size ≤ b ∧ Rd w' (.slice (some ⟨b, 0, none⟩) (manyK o.1) 6) ((argsO o).map I) ∧ Ext w w' := by
  have HKN := Lib.hid fun w' => numbers_any o w'
  have HM6 := Lib.hid (manyK_le o.1)
  have HLD := Lib.hid hL
  have hrd : ∀ W b, Blk W b 44 (arrO o) → Rd W (.slice (some ⟨b, 0, none⟩) (manyK o.1) 6) ((argsO o).map I) := fun W b hb => by
    have h6 : Rd W (.slice (some ⟨b, 0, none⟩) 6 6) ((numsO o).map I) := by
      refine ⟨_, 6, rfl, by simp [numsO], by unfold maxLen; omega, fun _ => ⟨b, 0, rfl, hb.lt, fun j u hu => ?_⟩⟩
      rw [Nat.zero_add, hb.cell j, ← hu]
      have h2 : (arrO o).toList = (numsO o).map I := rfl
      rw [← h2, Array.getElem?_toList]
    exact rd_takeI h6 (by rw [numsO_len]; exact manyK_le _)
  have HRD := Lib.hid hrd
  clear hL hrd
  obtain ⟨k, a, b, c, d, e, f⟩ := o
  generalize ho : ((k, a, b, c, d, e, f) : OpN) = o at *
  have hk : o.1 = k := by rw [← ho]
  have hv : opV o = .agg #[.int .i64 k, .int .i64 a, .int .i64 b, .int .i64 c, .int .i64 d, .int .i64 e, .int .i64 f] := by rw [← ho]; rfl
  have hav : arrV o = .agg #[.int .i64 a, .int .i64 b, .int .i64 c, .int .i64 d, .int .i64 e, .int .i64 f] := by rw [← ho]; rfl
  have hao : arrO o = #[.int .i64 a, .int .i64 b, .int .i64 c, .int .i64 d, .int .i64 e, .int .i64 f] := by rw [← ho]; rfl
  rw [hk] at HM6 h HRD
  have hcnt : ∀ n : Nat, k = (n : Int) → 1 ≤ n → cntK n = (manyK k : Int) := fun n hn h1 => by rw [hn, cntK_pos h1]
  rw [hv, hav] at HKN
  rw [hao] at HRD
  rw [hv, hk]
  obtain ⟨kn, rfl⟩ : ∃ n : Nat, k = (n : Int) := ⟨k.toNat, by omega⟩
  have hk1 : 1 ≤ kn := by omega
  have hk2 : kn < 22 := by omega
  have HCNT := Lib.hid (hcnt kn rfl hk1)
  clear hcnt
  generalize manyK (kn : Int) = mk at *
  have hE : Ext w (w.alloc (.cells #[.int .i64 (kn : Int), .int .i64 a, .int .i64 b, .int .i64 c, .int .i64 d, .int .i64 e, .int .i64 f] 23)) := (Below.refl _ _).alloc (Nat.le_refl _) _
  have hbk := Blk.new w 23 #[.int .i64 (kn : Int), .int .i64 a, .int .i64 b, .int .i64 c, .int .i64 d, .int .i64 e, .int .i64 f]
  clear ho hv hav hao hk h
  have HE := Lib.hid hE
  have HBK := Lib.hid hbk
  clear hE hbk
  generalize argsO o = ar at *
  go_enter Tryd.func31, Tryd.ntmps31
  go_wp2_with fail
  refine (HKN.out _).mono ?_
  rintro e2 w2 ⟨rfl, hx2⟩
  have HB2 := Lib.hid (HBK.out.ext hx2)
  have HX2 := Lib.hid (HE.out.trans hx2)
  have c0 : w2.cell? ⟨w.heap.size, 0, none⟩ = some (.int .i64 (kn : Int)) := HB2.out.cell 0
  have cc : w2.cell? ⟨0, kn, none⟩ = some (.int .i64 (mk : Int)) := by
    rw [← HCNT.out]
    exact (HLD.out.ext HX2.out).count kn hk2
  have hm0 : (0 : Int) ≤ (mk : Int) := Int.natCast_nonneg _
  have hm6 : (mk : Int) ≤ 6 := by have := HM6.out; omega
  have hlt := HB2.out.lt
  have hltc := (HLD.out.ext HX2.out).ltc
  clear hx2 HE HBK
  go_wp2
  go_ret
  have hE2 : Ext w2 (w2.alloc (.cells #[.int .i64 a, .int .i64 b, .int .i64 c, .int .i64 d, .int .i64 e, .int .i64 f] 44)) := (Below.refl _ _).alloc (Nat.le_refl _) _
  exact ⟨_, rfl, HX2.out.size, HRD.out _ _ (Blk.new w2 _ _), HX2.out.trans hE2⟩

end Go.Proofs.YtngenbolpnckhaaDoor

/- Layer 8, the reference: an op of a kind and numbers; a number's digits. -/
namespace Go.Proofs.YtngenbolpnckhaaDoor
open Go.RowKit

theorem own_blk {w : World} {base : Nat} {e : TypeId} {g n : Nat} {xs : List Value} (h : w.ownsRow base e 1 (.slice (some ⟨g, 0, none⟩) n n) n xs) (hn : 0 < n) : Blk w g e xs.toArray := by
  have hl := h.1
  rcases h.2 with ⟨hv, h0⟩ | ⟨g', cap, cur, hv, hg, hh, hn', hcap, hs, ht⟩
  · omega
  · cases hv
    have : cur = xs.toArray := by
      apply Array.ext'
      rw [← ht, List.toList_toArray, List.take_of_length_le]
      rw [Array.length_toList, hs]
      omega
    rw [← this]
    exact hh

/-- 'make([]int, n)': a row of noughts. -/
theorem make_int {w : World} {ops : Array Oper} {rest : List Oper} {op : Oper} {a : Act} {Q : Exit → Act → World → Prop} (hgd : op.guard = none) (l c : Operand)
    (ho : op.op = .makeSlice 38 l c) (n : Nat) (hl : a.eval l = .int .i64 (n : Int)) (hc : a.eval c = .int .i64 (n : Int)) (hn : n ≤ 17592186044416) (h0 : 0 < n)
    (h : ∀ g w', w.heap.size ≤ g → Blk w' g 3 ((List.replicate n (Value.int .i64 0)).toArray) → Ext w w' → wpList Tryd.prog ops Q rest (a.put op.dst (.slice (some ⟨g, 0, none⟩) n n)) w') :
    wpList Tryd.prog ops Q (op :: rest) a w := by
  obtain ⟨i0, hi, hz0, hz1, hz2⟩ := info_parts Tryd.infoInt
  refine wpList_make_full w hgd l c 38 ho w.heap.size 3 i0 (.int .i64 0) 1 Tryd.underlying38 hi hz0 hz1 .i64 .i64 _ _ n hl hc rfl rfl (by rw [hz2]; omega) (by unfold maxLen; omega) (Nat.le_refl _) ?_
  intro w' hown hg
  have e : (madeCells (Value.int IntKind.i64 0).cells (n * 1)).toList = List.replicate n (Value.int .i64 0) := by
    rw [Nat.mul_one]
    exact toList_madeCells_one _ _
  rw [e] at hown
  exact h _ w' (Nat.le_refl _) (own_blk hown h0) ((Below.refl _ _).grown hg (Nat.le_refl _) (fun k hk => by cases hk))

/-- The first n numbers of six. -/
def fillI (l : List Int) (n : Nat) : List Int := l.take n ++ List.replicate (6 - n) 0
theorem fillI_len {l : List Int} {n : Nat} (h : n ≤ l.length) (h6 : n ≤ 6) : (fillI l n).length = 6 := by
  rw [fillI, List.length_append, List.length_take, List.length_replicate]
  omega
theorem fillI_step {l : List Int} {n : Nat} (h : n < l.length) (h6 : n < 6) : (fillI l n).set n l[n] = fillI l (n + 1) := by
  have ht : (l.take n).length = n := by rw [List.length_take]; omega
  rw [fillI, fillI, List.set_append_right _ _ (by omega), ht, Nat.sub_self, show 6 - n = (6 - (n + 1)) + 1 by omega, List.replicate_succ, List.set_cons_zero, List.take_succ_eq_append_getElem h, List.append_assoc]
  rfl
theorem fillI_get {l : List Int} {n : Nat} (h : n ≤ l.length) (h6 : n ≤ 6) (hn : n = 6 ∨ n = l.length) (i : Nat) (hi : i < 6) : (fillI l n)[i]? = some (l.getD i 0) := by
  rw [fillI]
  by_cases hlt : i < n
  · rw [List.getElem?_append_left (by rw [List.length_take]; omega), List.getElem?_take, if_pos hlt, List.getElem?_eq_getElem (by omega), List.getD_eq_getElem?_getD, List.getElem?_eq_getElem (by omega), Option.getD_some]
  · rw [List.getElem?_append_right (by rw [List.length_take]; omega), List.length_take, List.getElem?_replicate, if_pos (by omega), List.getD_eq_getElem?_getD, List.getElem?_eq_none (by omega), Option.getD_none]
theorem opOf_cells (_ : Int) (l : List Int) {n : Nat} (h : n ≤ l.length) (h6 : n ≤ 6) (hn : n = 6 ∨ n = l.length) : ∀ i, i < 6 → ((fillI l n).map I).toArray[i]? = some (.int .i64 (l.getD i 0)) := by
  intro i hi
  rw [List.getElem?_toArray, List.getElem?_map, fillI_get h h6 hn i hi]
  rfl

def OfSt (w : World) (g : Nat) (l : List Int) (n : Nat) (wr : World) : Prop :=
  Blk wr g 3 ((fillI l n).map I).toArray ∧ Blk wr w.heap.size 23 #[I 0, I 0, I 0, I 0, I 0, I 0, I 0] ∧ Below w.heap.size w wr
theorem OfSt.step {w wr : World} {g n : Nat} {l : List Int} (h : OfSt w g l n wr) (hg : w.heap.size + 1 ≤ g) (hn : n < l.length) (h6 : n < 6) : OfSt w g l (n + 1) (wr.setCell ⟨g, n, none⟩ (.int .i64 l[n])) := by
  obtain ⟨h1, h2, h3⟩ := h
  refine ⟨?_, h2.far (show w.heap.size ≠ g by omega) _, h3.setCell (show w.heap.size ≤ g by omega) _⟩
  have := h1.set_ n (.int .i64 l[n])
  rw [List.setIfInBounds_toArray] at this
  have e : ((fillI l n).map I).set n (.int .i64 l[n]) = (fillI l (n + 1)).map I := by
    rw [← fillI_step hn h6, List.map_set]
  rw [e] at this
  exact this
theorem OfSt.cell {w wr : World} {g n : Nat} {l : List Int} (h : OfSt w g l n wr) (hl : n ≤ l.length) (h6 : n ≤ 6) {i : Nat} (hi : i < 6) : ∃ u, wr.cell? ⟨g, i, none⟩ = some (.int .i64 u) := by
  have := h.1.cell i
  rw [List.getElem?_toArray, List.getElem?_map, List.getElem?_eq_getElem (by rw [fillI_len hl h6]; exact hi)] at this
  exact ⟨_, this⟩

theorem OfSt.full {w wr : World} {g n : Nat} {l : List Int} (h : OfSt w g l n wr) (v0 v1 v2 v3 v4 v5 v6 : Value) :
    Blk (((((((wr.setCell ⟨w.heap.size, 0, none⟩ v0).setCell ⟨w.heap.size, 1, none⟩ v1).setCell ⟨w.heap.size, 2, none⟩ v2).setCell ⟨w.heap.size, 3, none⟩ v3).setCell ⟨w.heap.size, 4, none⟩ v4).setCell ⟨w.heap.size, 5, none⟩ v5).setCell ⟨w.heap.size, 6, none⟩ v6) w.heap.size 23 #[v0, v1, v2, v3, v4, v5, v6] ∧
    Ext w (((((((wr.setCell ⟨w.heap.size, 0, none⟩ v0).setCell ⟨w.heap.size, 1, none⟩ v1).setCell ⟨w.heap.size, 2, none⟩ v2).setCell ⟨w.heap.size, 3, none⟩ v3).setCell ⟨w.heap.size, 4, none⟩ v4).setCell ⟨w.heap.size, 5, none⟩ v5).setCell ⟨w.heap.size, 6, none⟩ v6) := by
  refine ⟨((((((h.2.1.set_ 0 v0).set_ 1 v1).set_ 2 v2).set_ 3 v3).set_ 4 v4).set_ 5 v5).set_ 6 v6, ?_⟩
  have hl : w.heap.size ≤ w.heap.size := Nat.le_refl _
  exact ((((((h.2.2.setCell hl v0).setCell hl v1).setCell hl v2).setCell hl v3).setCell hl v4).setCell hl v5).setCell hl v6

set_option maxRecDepth 100000 in
theorem of_end {fn : Func} (hf : fn.results = #[.cell 4 23]) {w wr : World} {g n : Nat} {k : Int} {l : List Int} (h : OfSt w g l n wr) (a : Act) (ha : a.tmps.getD 4 undef = .pointer (some ⟨w.heap.size, 0, none⟩)) (hd : a.defers = []) (v0 v1 v2 v3 v4 v5 v6 : Value)
    (hv : Value.agg #[v0, v1, v2, v3, v4, v5, v6] = opV (opOf k l)) :
    bodyPost Tryd.prog fn (fun e w' => e = .returned (opV (opOf k l)) ∧ Ext w w') Exit.ret a
      (((((((wr.setCell ⟨w.heap.size, 0, none⟩ v0).setCell ⟨w.heap.size, 1, none⟩ v1).setCell ⟨w.heap.size, 2, none⟩ v2).setCell ⟨w.heap.size, 3, none⟩ v3).setCell ⟨w.heap.size, 4, none⟩ v4).setCell ⟨w.heap.size, 5, none⟩ v5).setCell ⟨w.heap.size, 6, none⟩ v6).drew := by
  have HB := h.full v0 v1 v2 v3 v4 v5 v6
  generalize (((((((wr.setCell ⟨w.heap.size, 0, none⟩ v0).setCell ⟨w.heap.size, 1, none⟩ v1).setCell ⟨w.heap.size, 2, none⟩ v2).setCell ⟨w.heap.size, 3, none⟩ v3).setCell ⟨w.heap.size, 4, none⟩ v4).setCell ⟨w.heap.size, 5, none⟩ v5).setCell ⟨w.heap.size, 6, none⟩ v6) = w9 at HB ⊢
  have h9 : w9.drew.heap[w.heap.size]? = some (.cells #[v0, v1, v2, v3, v4, v5, v6] 23 (0, 0)) := HB.1
  exact bodyPost_ret (results_cell_row hf a.tmps _ w.heap.size 23 _ (0, 0) _ ha h9 rfl rfl rfl) hd ⟨by rw [hv], Below.drewN' HB.2 1⟩

set_option maxRecDepth 100000 in
set_option maxHeartbeats 1000000 in
theorem RefOf08 (k : Int) (l : List Int) (v : Value) (w : World) (hr : Rd w v (l.map I)) :
    Calls Tryd.prog 25 #[.int .i64 k, v] w fun e w' => e = .returned (opV (opOf k l)) ∧ Ext w w' := by
  obtain ⟨A, cp, rfl, hlc, hcm, hcell⟩ := hr
  simp only [List.length_map] at *
  unfold maxLen at hcm
  have HC := Lib.hid hcell
  clear hcell
  go_enter Tryd.func25, Tryd.ntmps25
  go_wp2_with (refine make_int rfl _ _ rfl 6 rfl rfl (by decide) (by decide) ?_; intro g w2 hg hb2 hx2)
  have hres : Blk w2 w.heap.size 23 _ := (Blk.new w 23 _).ext hx2
  have hxw : Below w.heap.size w w2 := ((Below.refl _ w).alloc (Nat.le_refl _) _).trans (hx2.mono (by simp))
  have hg' : w.heap.size + 1 ≤ g := by simpa using hg
  have ST : Hid (OfSt w g l 0 w2) := Lib.hid ⟨hb2, hres, hxw⟩
  clear hb2 hres hxw hx2 hg
  go_loopg [6] 6 (fun gg i wr => ∃ n : Nat, i = .int .i64 n ∧ n ≤ l.length ∧ n ≤ 6 ∧ gg = 6 - n ∧ Hid (OfSt w g l n wr))
  case atStart => exact ⟨0, rfl, Nat.zero_le _, Nat.zero_le _, rfl, ST⟩
  case round =>
    obtain ⟨n, rfl, hn, hn6, rfl, hs⟩ := hrel
    by_cases h1 : n < l.length
    · have d1 : decide ((n : Int) < (l.length : Int)) = true := decide_eq_true (by omega)
      by_cases h2 : n < 6
      · have d2 : decide ((n : Int) < 6) = true := decide_eq_true (by omega)
        obtain ⟨b, o, rfl, hb, hcl⟩ := HC.out (by omega)
        have hlen := h1
        have c0 : wr.cell? ⟨b, o + n, none⟩ = some (.int .i64 l[n]) := (hs.out.2.2.cell (p := ⟨b, o + n, none⟩) hb).trans (hcl n _ (by rw [List.getElem?_map, List.getElem?_eq_getElem h1]; rfl))
        obtain ⟨u, c1⟩ := hs.out.cell (by omega) (by omega) h2
        have f1 := hs.out.1.frozen n
        have HS := Lib.hid (hs.out.step hg' h1 h2)
        clear hcl hs ST
        generalize l[n] = un at *
        go_wp2_with fail
        go_roundg (6 - (n + 1))
        case measure => omega
        case rel => exact ⟨n + 1, by go_num, by omega, by omega, rfl, HS⟩
      · have d2 : decide ((n : Int) < 6) = false := decide_eq_false (by omega)
        have hx := hs.out.2.2
        have hend : n = 6 ∨ n = l.length := by omega
        have e := fun i hi => (hs.out.1.cell i).trans (opOf_cells k l hn hn6 hend i hi)
        have c0 := e 0 (by decide)
        have c1 := e 1 (by decide)
        have c2 := e 2 (by decide)
        have c3 := e 3 (by decide)
        have c4 := e 4 (by decide)
        have c5 := e 5 (by decide)
        have r0 : wr.cell? ⟨w.heap.size, 0, none⟩ = some (.int .i64 0) := hs.out.2.1.cell 0
        have f0 : wr.frozen? ⟨w.heap.size, 0, none⟩ = false := hs.out.2.1.frozen 0
        have r1 : wr.cell? ⟨w.heap.size, 1, none⟩ = some (.int .i64 0) := hs.out.2.1.cell 1
        have f1 : wr.frozen? ⟨w.heap.size, 1, none⟩ = false := hs.out.2.1.frozen 1
        have r2 : wr.cell? ⟨w.heap.size, 2, none⟩ = some (.int .i64 0) := hs.out.2.1.cell 2
        have f2 : wr.frozen? ⟨w.heap.size, 2, none⟩ = false := hs.out.2.1.frozen 2
        have r3 : wr.cell? ⟨w.heap.size, 3, none⟩ = some (.int .i64 0) := hs.out.2.1.cell 3
        have f3 : wr.frozen? ⟨w.heap.size, 3, none⟩ = false := hs.out.2.1.frozen 3
        have r4 : wr.cell? ⟨w.heap.size, 4, none⟩ = some (.int .i64 0) := hs.out.2.1.cell 4
        have f4 : wr.frozen? ⟨w.heap.size, 4, none⟩ = false := hs.out.2.1.frozen 4
        have r5 : wr.cell? ⟨w.heap.size, 5, none⟩ = some (.int .i64 0) := hs.out.2.1.cell 5
        have f5 : wr.frozen? ⟨w.heap.size, 5, none⟩ = false := hs.out.2.1.frozen 5
        have r6 : wr.cell? ⟨w.heap.size, 6, none⟩ = some (.int .i64 0) := hs.out.2.1.cell 6
        have f6 : wr.frozen? ⟨w.heap.size, 6, none⟩ = false := hs.out.2.1.frozen 6
        have HS := Lib.hid hs
        clear ST e hs
        go_wp2
        go_still_tail 20, (by kernel_rfl)
        change wpList _ _ _ _ _ wr.drew
        go_wp2
        refine of_end ?_ HS.out.out _ ?_ ?_ _ _ _ _ _ _ _ ?_ <;> rfl
    · have d1 : decide ((n : Int) < (l.length : Int)) = false := decide_eq_false (by omega)
      have hx := hs.out.2.2
      have hend : n = 6 ∨ n = l.length := by omega
      have e := fun i hi => (hs.out.1.cell i).trans (opOf_cells k l hn hn6 hend i hi)
      have c0 := e 0 (by decide)
      have c1 := e 1 (by decide)
      have c2 := e 2 (by decide)
      have c3 := e 3 (by decide)
      have c4 := e 4 (by decide)
      have c5 := e 5 (by decide)
      have r0 : wr.cell? ⟨w.heap.size, 0, none⟩ = some (.int .i64 0) := hs.out.2.1.cell 0
      have f0 : wr.frozen? ⟨w.heap.size, 0, none⟩ = false := hs.out.2.1.frozen 0
      have r1 : wr.cell? ⟨w.heap.size, 1, none⟩ = some (.int .i64 0) := hs.out.2.1.cell 1
      have f1 : wr.frozen? ⟨w.heap.size, 1, none⟩ = false := hs.out.2.1.frozen 1
      have r2 : wr.cell? ⟨w.heap.size, 2, none⟩ = some (.int .i64 0) := hs.out.2.1.cell 2
      have f2 : wr.frozen? ⟨w.heap.size, 2, none⟩ = false := hs.out.2.1.frozen 2
      have r3 : wr.cell? ⟨w.heap.size, 3, none⟩ = some (.int .i64 0) := hs.out.2.1.cell 3
      have f3 : wr.frozen? ⟨w.heap.size, 3, none⟩ = false := hs.out.2.1.frozen 3
      have r4 : wr.cell? ⟨w.heap.size, 4, none⟩ = some (.int .i64 0) := hs.out.2.1.cell 4
      have f4 : wr.frozen? ⟨w.heap.size, 4, none⟩ = false := hs.out.2.1.frozen 4
      have r5 : wr.cell? ⟨w.heap.size, 5, none⟩ = some (.int .i64 0) := hs.out.2.1.cell 5
      have f5 : wr.frozen? ⟨w.heap.size, 5, none⟩ = false := hs.out.2.1.frozen 5
      have r6 : wr.cell? ⟨w.heap.size, 6, none⟩ = some (.int .i64 0) := hs.out.2.1.cell 6
      have f6 : wr.frozen? ⟨w.heap.size, 6, none⟩ = false := hs.out.2.1.frozen 6
      have HS := Lib.hid hs
      clear ST e hs
      go_wp2
      go_still_tail 20, (by kernel_rfl)
      change wpList _ _ _ _ _ wr.drew
      go_wp2
      refine of_end ?_ HS.out.out _ ?_ ?_ _ _ _ _ _ _ _ ?_ <;> rfl

end Go.Proofs.YtngenbolpnckhaaDoor

/- The reference's layer 1: the number at a place. -/
namespace Go.Proofs.YtngenbolpnckhaaDoor
open Go.RowKit

def GNRel (bs : List UInt8) (p : Nat) (n' s' i' : Value) : Prop :=
  ∃ (i acc st : Nat), i' = .int .i64 i ∧ n' = .int .i64 acc ∧ s' = .int .i64 st ∧ Hid (st = 128 ^ i) ∧ i ≤ 8 ∧ acc < 128 ^ i ∧ Hid (scanN (8 - i) (bs.drop (p + i)) i acc = getN (bs.drop p))

set_option maxRecDepth 100000 in
set_option maxHeartbeats 4000000 in
theorem RefGetNum_at (bs : List UInt8) (v : Value) (p : Nat) (w : World) (hr : Rd w v (bs.map B)) (hp63 : p < 9223372036854775808) :
    Calls Tryd.prog 41 #[v, .int .i64 p] w fun e w' => e = .returned (numAt bs p) ∧ Ext w w' := by
  obtain ⟨A, c, rfl, hlc, hcm, hcell⟩ := hr
  simp only [List.length_map] at *
  unfold maxLen at hcm
  by_cases hpl : p < bs.length
  · obtain ⟨b, o, rfl, hbl, hce⟩ := hcell (by omega)
    clear hcell
    go_enter Tryd.func41, Tryd.ntmps41
    go_wp2
    go_loop [7, 8, 9] (fun n' s' i' => GNRel bs p n' s' i') (fun _ _ i' => 8 - (intOf i').toNat)
    case atStart => exact ⟨0, 0, 1, rfl, rfl, rfl, rfl, by omega, by omega, rfl⟩
    case round =>
      obtain ⟨i, acc, st, rfl, rfl, rfl, hst, hi, hacc, hsc0⟩ := hrel
      have hsc := hsc0.out
      clear hsc0
      by_cases h8 : i < 8
      · by_cases hp : p + i < bs.length
        · have hc1 : w.cell? ⟨b, o + (p + i), none⟩ = some (B bs[p + i]) := hce (p + i) _ (by simp [hp])
          clear hce
          rw [show 8 - i = (7 - i) + 1 by omega, scanN_step i acc (drop_cons hp)] at hsc
          have hcl := bs[p + i].toNat_lt
          unfold B at hc1
          generalize bs[p + i].toNat = c at hc1 hsc hcl
          have hlt := group_lt i acc c h8 hacc
          have hl8 := pow128_le (show i + 1 ≤ 8 by omega)
          have hl7 := pow128_le (show i ≤ 7 by omega)
          have hst7 : st ≤ 562949953421312 := by have := hst.out; omega
          have hlen := fun hc => numB_group_len (c := c) hacc hc
          have hq : Hid (128 ^ i * (c % 128) = st * (c % 128)) := by unfold Hid; rw [hst.out]
          rw [hq.out] at hlt hsc hlen
          have hql : st * (c % 128) ≤ 71494644084506624 := Nat.le_trans (Nat.mul_le_mul hst7 (show c % 128 ≤ 127 by omega)) (by omega)
          have hqc : (st : Int) * ((c : Int) % 128) = ((st * (c % 128) : Nat) : Int) := by simp
          generalize st * (c % 128) = q at *
          have hw1 : IntKind.i64.wrap ((st : Int) * ((c : Int) % 128)) = (q : Int) := by rw [hqc]; exact IntWalk.i64_in _ (by omega)
          clear hqc
          generalize hN : acc + q = N at hsc hlt hlen
          have hNi : (acc : Int) + (q : Int) = (N : Int) := by omega
          have hw2 : IntKind.i64.wrap ((acc : Int) + (q : Int)) = (N : Int) := by rw [hNi]; exact IntWalk.i64_in _ (by omega)
          have HN := Lib.hid hN
          clear hN
          by_cases hc : 128 ≤ c
          · rw [if_pos hc] at hsc
            have hSC := Lib.hid hsc
            have HL := Lib.hid hlen
            clear hsc hlen
            clear hNi
            go_wp2
            refine ⟨⟨_, _, _, _, _, _, ⟨i + 1, N, st * 128, rfl, rfl, rfl, by unfold Hid; rw [hst.out, Nat.pow_succ], by omega, hlt, by unfold Hid; rw [← hSC.out, show 8 - (i + 1) = 7 - i by omega]; rfl⟩, rfl, rfl, rfl, rfl, by go_num, by go_num⟩, ?_⟩
            simp [intOf]; omega
          · rw [if_neg hc] at hsc
            have hln := hlen (by omega)
            clear hlen
            by_cases hn : 9007199254740992 ≤ N
            · rw [if_pos (.inl hn)] at hsc
              have hF : Hid (numAt bs p = .tuple #[.int .i64 0, .int .i64 0, .bool false]) := by unfold Hid; rw [numAt, ← hsc]
              have hno : Hid (¬ (0 ≤ (N : Int) ∧ (N : Int) < 9007199254740992)) := by unfold Hid; omega
              have hib : (((0 : Int) == (i : Int) + 1) = false) := by rw [beq_eq_false_iff_ne]; omega
              have hib2 : (((0 : Int) != (i : Int) + 1) = true) := by rw [bne_iff_ne]; omega
              clear hsc hn hln hNi
              go_wp2_with (go_at_call 44; refine (RefNum_no _ _ hno.out).mono ?_; rintro e w2 ⟨rfl, rfl⟩)
              go_ret3
              exact ⟨by rw [hF.out]; rfl, Ext.refl _⟩
            · have hnl : N < 9007199254740992 := by omega
              have hNL := Lib.hid hnl
              by_cases hc0 : c = 0 ∧ 0 < i
              · rw [if_pos (.inr hc0)] at hsc
                have hF : Hid (numAt bs p = .tuple #[.int .i64 0, .int .i64 0, .bool false]) := by unfold Hid; rw [numAt, ← hsc]
                have hne : ¬ (numB N).length = i + 1 := fun h => (hln.1 h) hc0
                have hib : (((numB N).length : Int) == (i : Int) + 1) = false := by rw [beq_eq_false_iff_ne]; omega
                have hib2 : (((numB N).length : Int) != (i : Int) + 1) = true := by rw [bne_iff_ne]; omega
                clear hsc hn hnl hln hNi hne hc0
                go_wp2_with (go_at_call 44; refine (RefNum_yes N _ hNL.out).mono ?_; rintro e w2 ⟨v2, rfl, hg2⟩; obtain ⟨A2, c2, rfl⟩ := hg2.slice_ (n := (numB N).length) (List.length_map _))
                go_ret3
                exact ⟨by rw [hF.out]; rfl, hg2.ext⟩
              · rw [if_neg (by omega)] at hsc
                have hF : Hid (numAt bs p = .tuple #[.int .i64 (N : Int), .int .i64 ((p + (i + 1) : Nat) : Int), .bool true]) := by unfold Hid; rw [numAt, ← hsc]
                have hne : (numB N).length = i + 1 := hln.2 hc0
                have hib : (((numB N).length : Int) == (i : Int) + 1) = true := by rw [beq_iff_eq]; omega
                have hib2 : (((numB N).length : Int) != (i : Int) + 1) = false := by rw [bne_eq_false_iff_eq]; omega
                clear hsc hn hnl hln hNi hne hc0
                go_wp2_with (go_at_call 44; refine (RefNum_yes N _ hNL.out).mono ?_; rintro e w2 ⟨v2, rfl, hg2⟩; obtain ⟨A2, c2, rfl⟩ := hg2.slice_ (n := (numB N).length) (List.length_map _))
                go_ret3
                exact ⟨by rw [hF.out]; simp; omega, hg2.ext⟩
        · rw [List.drop_eq_nil_of_le (by omega), show 8 - i = (7 - i) + 1 by omega, scanN] at hsc
          have hF : Hid (numAt bs p = .tuple #[.int .i64 0, .int .i64 0, .bool false]) := by unfold Hid; rw [numAt, ← hsc]
          clear hsc
          go_wp2
          go_ret3
          exact ⟨by rw [hF.out]; rfl, Ext.refl _⟩
      · rw [show 8 - i = 0 by omega, scanN] at hsc
        have hF : Hid (numAt bs p = .tuple #[.int .i64 0, .int .i64 0, .bool false]) := by unfold Hid; rw [numAt, ← hsc]
        clear hsc
        go_wp2
        go_ret3
        exact ⟨by rw [hF.out]; rfl, Ext.refl _⟩
  · have hF : Hid (numAt bs p = .tuple #[.int .i64 0, .int .i64 0, .bool false]) := by
      unfold Hid
      rw [numAt, List.drop_eq_nil_of_le (by omega)]
      rfl
    clear hcell
    go_enter Tryd.func41, Tryd.ntmps41
    go_wp2
    go_ret3
    exact ⟨by rw [hF.out]; rfl, Ext.refl _⟩

theorem RefGetNum_neg (bs : List UInt8) (v : Value) (p : Int) (w : World) (hr : Rd w v (bs.map B)) (hp : p < 0) :
    Calls Tryd.prog 41 #[v, .int .i64 p] w fun e w' => e = .returned (.tuple #[.int .i64 0, .int .i64 0, .bool false]) ∧ w = w' := by
  obtain ⟨A, c, rfl, _⟩ := hr.slice_
  go_enter Tryd.func41, Tryd.ntmps41
  go_wp2
  go_ret3
  exact ⟨rfl, rfl⟩

theorem RefGetNum_some (bs : List UInt8) (v : Value) (p n j : Nat) (w : World) (hr : Rd w v (bs.map B)) (hp63 : p < 9223372036854775808) (h : getN (bs.drop p) = some (n, j)) :
    Calls Tryd.prog 41 #[v, .int .i64 p] w fun e w' => e = .returned (.tuple #[.int .i64 n, .int .i64 ((p + j : Nat) : Int), .bool true]) ∧ Ext w w' := by
  have e : numAt bs p = .tuple #[.int .i64 n, .int .i64 ((p + j : Nat) : Int), .bool true] := by rw [numAt, h]
  rw [← e]
  exact RefGetNum_at bs v p w hr hp63

theorem RefGetNum_none (bs : List UInt8) (v : Value) (p : Nat) (w : World) (hr : Rd w v (bs.map B)) (hp63 : p < 9223372036854775808) (h : getN (bs.drop p) = none) :
    Calls Tryd.prog 41 #[v, .int .i64 p] w fun e w' => e = .returned (.tuple #[.int .i64 0, .int .i64 0, .bool false]) ∧ Ext w w' := by
  have e : numAt bs p = .tuple #[.int .i64 0, .int .i64 0, .bool false] := by rw [numAt, h]
  rw [← e]
  exact RefGetNum_at bs v p w hr hp63

end Go.Proofs.YtngenbolpnckhaaDoor
