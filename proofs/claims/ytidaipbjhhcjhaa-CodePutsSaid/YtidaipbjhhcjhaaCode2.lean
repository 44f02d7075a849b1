/- Layer 1, package code, second part: lists, and what is read at a place. -/
import Derived.Test.YtidaipbjhhcjhaaCode
import Derived.Handy
namespace Go.Proofs.Ytidaipbjhhcjhaa
open Go.RowKit

def ListPost (l : List Int) (w : World) (e : Ending) (w' : World) : Prop :=
  (∃ v, e = .returned v ∧ l.all isNumB = true ∧ Grew w.heap.size 5 (.slice none 0 0) w ((listB l).map B) v w') ∨ (e = .returned (.slice none 0 0) ∧ l.all isNumB = false ∧ Ext w w')

set_option maxRecDepth 100000 in
set_option maxHeartbeats 2000000 in
theorem List_any (l : List Int) (v : Value) (w : World) (hr : Rd w v (l.map I)) (hl : l.length * 8 ≤ 140737488351232) :
    Calls Try.prog 14 #[v] w (ListPost l w) := by
  obtain ⟨A, c, rfl, hlc, hcm, hcell⟩ := hr
  simp only [List.length_map] at *
  unfold maxLen at hcm
  have hlen := numB_len8 (n := l.length) (by omega)
  go_enter Try.func14, Try.ntmps14
  go_wp2_with (go_at_call 24; refine (addNum_any w.heap.size _ [] _ _ (World.ownsRow_nil _ _ _ _) (Nat.le_refl _) (by omega) (by simp)).mono ?_; rintro e w' ⟨v', rfl, hg0⟩)
  go_loopw [3, 11] (fun v' i' wr => ∃ (k : Nat), i' = .int .i64 k ∧ k ≤ l.length ∧ (l.take k).all isNumB = true ∧ Grew w.heap.size 5 (.slice none 0 0) w ((numB l.length ++ numsB (l.take k)).map B) v' wr) (fun _ i' _ => l.length - (intOf i').toNat)
  case atStart => exact ⟨0, rfl, by omega, rfl, by simpa [numsB] using hg0⟩
  case round =>
    obtain ⟨k, rfl, hk, hall, hg⟩ := hrel
    have hbnd := numsB_len _ hall
    rw [List.length_take, Nat.min_eq_left hk] at hbnd
    have hlt : (numB l.length ++ numsB (l.take k)).length ≤ 140737488355318 := by simp only [List.length_append]; omega
    have HA := Lib.hid hall
    clear hall
    by_cases hlt2 : k < l.length
    · obtain ⟨b, o, rfl, hbl, hce⟩ := hcell (by omega)
      have hc1 : wr.cell? ⟨b, o + k, none⟩ = some (I l[k]) := (hg.ext.cell (p := ⟨b, o + k, none⟩) hbl).trans (hce k _ (by simp [hlt2]))
      clear hce hcell
      by_cases hn : isNumB l[k] = true
      · have H := Lib.hid (isNumB_iff.1 hn)
        obtain ⟨m, hm, hm2⟩ := isNum_some H.out
        have HL := Lib.hid hm
        rw [hm] at hc1
        unfold I at hc1
        clear hm hn
        go_wp2_with (first | (go_at_call 23; refine (isNum_yes _ _ (by omega) (by omega)).mono ?_; rintro e w' ⟨rfl, rfl⟩) | (go_at_call 24; refine (addNum_any w.heap.size _ _ _ _ hg.1 hg.size (by omega) hlt).mono ?_; rintro e w' ⟨v', rfl, hg2⟩))
        go_roundw
        case rel =>
          refine ⟨k + 1, by go_num, by omega, all_take_snoc hlt2 HA.out (isNumB_iff.2 H.out), ?_⟩
          rw [take_snoc l k hlt2, numsB_snoc, HL.out, Int.toNat_natCast, ← List.append_assoc]
          exact hg.trans hg2
        case measure => simp [intOf]; omega
      · have H := Lib.hid (isNumB_not (Bool.eq_false_iff.2 hn))
        unfold I at hc1
        clear hn
        go_wp2_with (first | (go_at_call 23; refine (isNum_no _ _ H.out).mono ?_; rintro e w' ⟨rfl, rfl⟩))
        go_ret
        exact .inr ⟨rfl, all_false_at hlt2 (Bool.eq_false_iff.2 fun h => H.out (isNumB_iff.1 h)), hg.ext⟩
    · have hkl : k = l.length := by omega
      subst hkl
      go_wp2
      go_ret
      rw [List.take_length] at hg HA
      exact .inl ⟨_, rfl, HA.out, hg⟩

theorem GetNum_neg (v : Value) (p : Int) (w : World) (hp : p < 0) :
    Calls Try.prog 16 #[v, .int .i64 p] w fun e w' => e = .returned (.tuple #[.int .i64 0, .int .i64 0, .bool false]) ∧ w = w' := by
  go_enter Try.func16, Try.ntmps16
  go_wp2
  go_ret3
  exact ⟨rfl, rfl⟩

theorem GetNum_some (bs : List UInt8) (v : Value) (p n j : Nat) (w : World) (hr : Rd w v (bs.map B)) (hp63 : p < 9223372036854775808) (h : getN (bs.drop p) = some (n, j)) :
    Calls Try.prog 16 #[v, .int .i64 p] w fun e w' => e = .returned (.tuple #[.int .i64 n, .int .i64 ((p + j : Nat) : Int), .bool true]) ∧ w = w' := by
  have e : numAt bs p = .tuple #[.int .i64 n, .int .i64 ((p + j : Nat) : Int), .bool true] := by rw [numAt, h]
  rw [← e]
  exact GetNum_at bs v p w hr hp63
theorem GetNum_none (bs : List UInt8) (v : Value) (p : Nat) (w : World) (hr : Rd w v (bs.map B)) (hp63 : p < 9223372036854775808) (h : getN (bs.drop p) = none) :
    Calls Try.prog 16 #[v, .int .i64 p] w fun e w' => e = .returned (.tuple #[.int .i64 0, .int .i64 0, .bool false]) ∧ w = w' := by
  have e : numAt bs p = .tuple #[.int .i64 0, .int .i64 0, .bool false] := by rw [numAt, h]
  rw [← e]
  exact GetNum_at bs v p w hr hp63

theorem conv_u8 {w : World} {ops : Array Oper} {rest : List Oper} {o : Oper} {a : Act} {Q : Exit → Act → World → Prop} (hgd : o.guard = none) (x : Operand)
    (ho : o.op = .convert 25 9 x) (u : Value) (ys : List UInt8) (hx : a.eval x = u) (hr : Rd w u (ys.map B))
    (h : wpList Try.prog ops Q rest (a.put o.dst (.string ⟨ys.toArray⟩)) w) : wpList Try.prog ops Q (o :: rest) a w :=
  wpList_conv hgd x 25 9 5 ho Try.underlying25 Try.underlying5 Try.underlying9 u ys hx hr h

theorem GetText_some (bs : List UInt8) (v : Value) (p n j : Nat) (w : World) (hr : Rd w v (bs.map B)) (hp63 : p < 9223372036854775808) (h : getN (bs.drop p) = some (n, j)) (hn : n ≤ bs.length - (p + j)) :
    Calls Try.prog 18 #[v, .int .i64 p] w fun e w' => e = .returned (.tuple #[.string ⟨((bs.drop (p + j)).take n).toArray⟩, .int .i64 ((p + j + n : Nat) : Int), .bool true]) ∧ w = w' := by
  have hj := getN_le h
  rw [List.length_drop] at hj
  have H := Lib.hid h
  clear h
  have hR := Lib.hid hr
  obtain ⟨A, c, rfl, hlc, hcm, hcell⟩ := hr
  simp only [List.length_map] at *
  unfold maxLen at hcm
  clear hcell
  go_enter Try.func18, Try.ntmps18
  have hcut : Rd w (.slice (if c = p + j then A else A.map (fun x => x.add (p + j))) n (c - (p + j))) (((bs.drop (p + j)).take n).map B) := by
    have := hR.out.cut (p + j) n (by simp; omega)
    simpa [List.map_take, List.map_drop] using this
  have hcv := run_conv_rd (P := Try.prog) w 25 9 5 Try.underlying25 Try.underlying5 Try.underlying9 _ _ hcut
  clear hcut
  go_wp2_with (first | (go_at_call 16; refine (GetNum_some bs _ p n j _ hR.out (by omega) H.out).mono ?_; rintro e w' ⟨rfl, rfl⟩))
  all_goals
    go_ret3
    exact ⟨rfl, rfl⟩

theorem GetText_none (bs : List UInt8) (v : Value) (p : Nat) (w : World) (hr : Rd w v (bs.map B)) (hp63 : p < 9223372036854775808) (h : textAt bs p = none) :
    Calls Try.prog 18 #[v, .int .i64 p] w fun e w' => e = .returned (.tuple #[.string ⟨#[]⟩, .int .i64 0, .bool false]) ∧ w = w' := by
  have hR := Lib.hid hr
  obtain ⟨A, c, rfl, hlc, hcm, hcell⟩ := hr
  simp only [List.length_map] at *
  unfold maxLen at hcm
  clear hcell
  unfold textAt at h
  rcases hg : getN (bs.drop p) with _ | ⟨n, j⟩
  · have H := Lib.hid hg
    clear hg h
    go_enter Try.func18, Try.ntmps18
    go_wp2_with (first | (go_at_call 16; refine (GetNum_none bs _ p _ hR.out (by omega) H.out).mono ?_; rintro e w' ⟨rfl, rfl⟩))
    go_ret3
    exact ⟨rfl, rfl⟩
  · rw [hg] at h
    have hj := getN_le hg
    rw [List.length_drop] at hj
    have hn : ¬ n ≤ bs.length - (p + j) := by
      intro hc
      simp [hc] at h
    have H := Lib.hid hg
    clear hg h
    go_enter Try.func18, Try.ntmps18
    go_wp2_with (first | (go_at_call 16; refine (GetNum_some bs _ p n j _ hR.out (by omega) H.out).mono ?_; rintro e w' ⟨rfl, rfl⟩))
    go_ret3
    exact ⟨rfl, rfl⟩

theorem GetText_neg (v : Value) (p : Int) (w : World) (hp : p < 0) :
    Calls Try.prog 18 #[v, .int .i64 p] w fun e w' => e = .returned (.tuple #[.string ⟨#[]⟩, .int .i64 0, .bool false]) ∧ w = w' := by
  go_enter Try.func18, Try.ntmps18
  go_wp2_with (first | (go_at_call 16; refine (GetNum_neg _ p _ hp).mono ?_; rintro e w' ⟨rfl, rfl⟩))
  go_ret3
  exact ⟨rfl, rfl⟩

/-! ### The closure of GetList: it takes the number at the place, and moves the place on -/
theorem take_some (bs : List UInt8) (v : Value) (b1 b2 b3 p n j : Nat) (ok : Bool) (w : World) (h1 : Blk w b1 25 #[v]) (h2 : Blk w b2 3 #[.int .i64 p]) (h3 : Blk w b3 4 #[.bool ok]) (h23 : b2 ≠ b3)
    (hr : Rd w v (bs.map B)) (hp63 : p < 9223372036854775808) (h : getN (bs.drop p) = some (n, j)) :
    Calls Try.prog 26 #[.pointer (some ⟨b1, 0, none⟩), .pointer (some ⟨b2, 0, none⟩), .pointer (some ⟨b3, 0, none⟩)] w fun e w' => e = .returned (.int .i64 n) ∧
      w' = (w.setCell ⟨b2, 0, none⟩ (.int .i64 ((p + j : Nat) : Int))).setCell ⟨b3, 0, none⟩ (.bool true) := by
  have H := Lib.hid h
  clear h
  have c1 := h1.cell1
  have c2 := h2.cell1
  have c3 := h3.cell1
  have f2 := h2.frozen 0
  have f3 := h3.frozen 0
  have c3' : (w.setCell ⟨b2, 0, none⟩ (.int .i64 ((p : Int) + (j : Int)))).cell? ⟨b3, 0, none⟩ = some (.bool ok) := (h3.far (p := ⟨b2, 0, none⟩) (fun e => h23 e.symm) _).cell1
  go_enter Try.func26, Try.ntmps26
  go_wp2_with (first | (go_at_call 16; refine (GetNum_some bs _ p n j _ hr (by omega) H.out).mono ?_; rintro e w' ⟨rfl, rfl⟩))
  go_ret
  exact ⟨rfl, rfl⟩

theorem take_none (bs : List UInt8) (v : Value) (b1 b2 b3 p : Nat) (ok : Bool) (w : World) (h1 : Blk w b1 25 #[v]) (h2 : Blk w b2 3 #[.int .i64 p]) (h3 : Blk w b3 4 #[.bool ok]) (h23 : b2 ≠ b3)
    (hr : Rd w v (bs.map B)) (hp63 : p < 9223372036854775808) (h : getN (bs.drop p) = none) :
    Calls Try.prog 26 #[.pointer (some ⟨b1, 0, none⟩), .pointer (some ⟨b2, 0, none⟩), .pointer (some ⟨b3, 0, none⟩)] w fun e w' => e = .returned (.int .i64 0) ∧
      w' = (w.setCell ⟨b2, 0, none⟩ (.int .i64 0)).setCell ⟨b3, 0, none⟩ (.bool false) := by
  have H := Lib.hid h
  clear h
  have c1 := h1.cell1
  have c2 := h2.cell1
  have c3 := h3.cell1
  have f2 := h2.frozen 0
  have f3 := h3.frozen 0
  have c3' : (w.setCell ⟨b2, 0, none⟩ (.int .i64 0)).cell? ⟨b3, 0, none⟩ = some (.bool ok) := (h3.far (p := ⟨b2, 0, none⟩) (fun e => h23 e.symm) _).cell1
  go_enter Try.func26, Try.ntmps26
  go_wp2_with (first | (go_at_call 16; refine (GetNum_none bs _ p _ hr (by omega) H.out).mono ?_; rintro e w' ⟨rfl, rfl⟩))
  go_ret
  exact ⟨rfl, rfl⟩

/-! ### GetList -/
theorem Try.infoInt : (Try.prog.info? 3).map (fun i => (i.zero, i.size, i.bytes)) = some (some (.int .i64 0), 1, 8) := by kernel_rfl

set_option maxHeartbeats 2000000 in
theorem GetList_first (bs : List UInt8) (v : Value) (p : Nat) (most : Int) (w : World) (hr : Rd w v (bs.map B)) (hp63 : p < 9223372036854775808) (h : getN (bs.drop p) = none) :
    Calls Try.prog 20 #[v, .int .i64 p, .int .i64 most] w fun e w' => e = .returned (.tuple #[.slice none 0 0, .int .i64 0, .bool false]) ∧ Ext w w' := by
  have H := Lib.hid h
  clear h
  have hlv : ∃ A cp, v = .slice A bs.length cp := by
    obtain ⟨A, cp, h, _⟩ := hr
    exact ⟨A, cp, by simpa using h⟩
  have hR := Lib.hid hr
  clear hr
  obtain ⟨A, cp, rfl⟩ := hlv
  go_enter Try.func20, Try.ntmps20
  go_wp2_with (first | (go_at_call 16; refine (GetNum_none bs _ p _ (hR.out.ext ((Below.refl _ _).alloc (Nat.le_refl _) _)) (by omega) H.out).mono ?_; rintro e w' ⟨rfl, rfl⟩))
  exact bodyPost_ret (v := .tuple #[.slice none 0 0, .int .i64 0, .bool false]) (by simp [results, Try.results20, go_sem]) rfl ⟨rfl, ((((Below.refl _ _).alloc (Nat.le_refl _) _).alloc (by simp) _).alloc (by simp; omega) _)⟩

/-- GetList's loop: the numbers taken so far lie in the list; the place, whether all went well, and the bytes, lie in blocks of their own. -/
structure LR (w wr : World) (V : Value) (c i q : Nat) (ns : List Nat) : Prop where
  own : wr.ownsRow w.heap.size 3 1 (.slice (some ⟨w.heap.size + 1 + 1 + 1, 0, none⟩) c c) c ((ns.map fun (n : Nat) => Value.int .i64 n) ++ List.replicate (c - i) (.int .i64 0))
  len : ns.length = i
  b1 : Blk wr w.heap.size 25 #[V]
  b2 : Blk wr (w.heap.size + 1) 3 #[.int .i64 q]
  b3 : Blk wr (w.heap.size + 1 + 1) 4 #[.bool true]
  ext : Ext w wr

theorem LR.start {w w1 : World} {V : Value} {c q : Nat} (hg : (((w.alloc (Obj.cells #[V] 25)).alloc (Obj.cells #[Value.int IntKind.i64 q] 3)).alloc (Obj.cells #[Value.bool true] 4)).grownBy w1 none)
    (hown : w1.ownsRow w.heap.size 3 1 (.slice (some ⟨w.heap.size + 1 + 1 + 1, 0, none⟩) c c) c (madeCells (Value.int IntKind.i64 0).cells (c * 1)).toList) : LR w w1 V c 0 q [] := by
  refine ⟨?_, rfl, ?_, ?_, ?_, ?_⟩
  · have e : (madeCells (Value.int IntKind.i64 0).cells (c * 1)).toList = List.replicate c (.int .i64 0) := by
      rw [show (Value.int IntKind.i64 0).cells = #[Value.int IntKind.i64 0] from rfl, toList_madeCells_one]
      simp
    rw [e] at hown
    simpa using hown
  · exact (((Blk.new w _ _).alloc _).alloc _).grown hg (by simp)
  · have := (((Blk.new (w.alloc (Obj.cells #[V] 25)) 3 #[.int .i64 q]).alloc (Obj.cells #[Value.bool true] 4))).grown hg (by simp)
    simpa using this
  · have := (Blk.new ((w.alloc (Obj.cells #[V] 25)).alloc (Obj.cells #[Value.int IntKind.i64 q] 3)) 4 #[.bool true]).grown hg (by simp)
    simpa using this
  · exact ((((Below.refl _ _).alloc (Nat.le_refl _) _).alloc (by simp) _).alloc (by simp; omega) _).grown hg (by simp; omega) (by simp)

theorem LR.take {w wr w2 : World} {V : Value} {c i q q' : Nat} {ns : List Nat} {b : Bool} (h : LR w wr V c i q ns) (hi : i < c)
    (h2 : w2 = (wr.setCell ⟨w.heap.size + 1, 0, none⟩ (.int .i64 q')).setCell ⟨w.heap.size + 1 + 1, 0, none⟩ (.bool b)) (n : Nat) :
    w2.cell? ⟨w.heap.size + 1 + 1 + 1, i, none⟩ = some (.int .i64 0) ∧ w2.frozen? ⟨w.heap.size + 1 + 1 + 1, i, none⟩ = false ∧
      (w2.setCell ⟨w.heap.size + 1 + 1 + 1, i, none⟩ (.int .i64 n)).cell? ⟨w.heap.size + 1 + 1, 0, none⟩ = some (.bool b) ∧ Ext w (w2.setCell ⟨w.heap.size + 1 + 1 + 1, i, none⟩ (.int .i64 n)) ∧
      (b = true → LR w (w2.setCell ⟨w.heap.size + 1 + 1 + 1, i, none⟩ (.int .i64 n)) V c (i + 1) q' (ns ++ [n])) := by
  obtain ⟨own, len, b1, b2, b3, ext⟩ := h
  have o2 : w2.ownsRow w.heap.size 3 1 (.slice (some ⟨w.heap.size + 1 + 1 + 1, 0, none⟩) c c) c ((ns.map fun (n : Nat) => Value.int .i64 n) ++ List.replicate (c - i) (.int .i64 0)) := by
    subst h2
    exact ownsRow_setCell_other (ownsRow_setCell_other own (by intro e; simp only [Value.ownBlock, Option.some.injEq] at e; omega) _) (by intro e; simp only [Value.ownBlock, Option.some.injEq] at e; omega) _
  have k2 : Blk w2 (w.heap.size + 1) 3 #[.int .i64 q'] := by
    subst h2
    exact (b2.set_ 0 _).far (by simp) _
  have k3 : Blk w2 (w.heap.size + 1 + 1) 4 #[.bool b] := by
    subst h2
    exact (b3.far (by simp) _).set_ 0 _
  have k1 : Blk w2 w.heap.size 25 #[V] := by
    subst h2
    exact (b1.far (by show w.heap.size ≠ w.heap.size + 1; omega) _).far (by show w.heap.size ≠ w.heap.size + 1 + 1; omega) _
  have e2 : Ext w w2 := by
    subst h2
    exact (ext.setCell (by simp) _).setCell (by simp; omega) _
  have hx : ((ns.map fun (n : Nat) => Value.int .i64 n) ++ List.replicate (c - i) (.int .i64 0))[i]? = some (.int .i64 0) := by
    rw [List.getElem?_append_right (by simp [len]), List.length_map, len, Nat.sub_self, List.getElem?_replicate, if_pos (by omega)]
  refine ⟨(o2.cellAt i (by omega)).trans hx, o2.frozenAt i, (k3.far (by show w.heap.size + 1 + 1 ≠ w.heap.size + 1 + 1 + 1; omega) _).cell1, e2.setCell (by show w.heap.size ≤ w.heap.size + 1 + 1 + 1; omega) _, fun hb => ?_⟩
  subst hb
  refine ⟨?_, by simp [len], k1.far (by show w.heap.size ≠ w.heap.size + 1 + 1 + 1; omega) _, k2.far (by show w.heap.size + 1 ≠ w.heap.size + 1 + 1 + 1; omega) _, k3.far (by show w.heap.size + 1 + 1 ≠ w.heap.size + 1 + 1 + 1; omega) _, e2.setCell (by show w.heap.size ≤ w.heap.size + 1 + 1 + 1; omega) _⟩
  have := (o2.stored i (.int .i64 n)).1
  have e : (((ns.map fun (n : Nat) => Value.int .i64 n) ++ List.replicate (c - i) (Value.int .i64 0)).set i (Value.int .i64 n)) = ((ns ++ [n]).map fun (n : Nat) => Value.int .i64 n) ++ List.replicate (c - (i + 1)) (Value.int .i64 0) := by
    rw [List.set_append_right _ _ (by simp [len])]
    simp only [List.length_map, len, Nat.sub_self, List.map_append, List.map_cons, List.map_nil, List.append_assoc]
    rw [show c - i = (c - (i + 1)) + 1 by omega, List.replicate_succ]
    rfl
  rw [e] at this
  exact this

/-- What GetList answers. -/
def GLPost (r : Option (List Nat × Nat)) (w : World) (e : Ending) (w' : World) : Prop := match r with
  | some (l, q) => ∃ v', e = .returned (.tuple #[v', .int .i64 (q : Int), .bool true]) ∧ w'.ownsRow w.heap.size 3 1 v' l.length (l.map fun (n : Nat) => Value.int .i64 n) ∧ Ext w w'
  | none => e = .returned (.tuple #[.slice none 0 0, .int .i64 0, .bool false]) ∧ Ext w w'

set_option maxHeartbeats 4000000 in
theorem GetList_at (bs : List UInt8) (v : Value) (p c j : Nat) (most : Int) (w : World) (hr : Rd w v (bs.map B)) (hp63 : p < 9223372036854775808) (h : getN (bs.drop p) = some (c, j)) (hc : (c : Int) ≤ most) (hcl : c ≤ bs.length - (p + j)) (hlen : bs.length ≤ 1099511627776) :
    Calls Try.prog 20 #[v, .int .i64 p, .int .i64 most] w (GLPost (readK c bs (p + j)) w) := by
  have hj := getN_le h
  rw [List.length_drop] at hj
  have H := Lib.hid h
  clear h
  have hmf : ∀ (fn : Fn) (first cap : Array Value) (w : World), (Instr.makeFunc fn first cap).run Try.prog w = .ok (.func fn first cap) w := fun _ _ _ _ => rfl
  have hlv : ∃ A cp, v = .slice A bs.length cp := by
    obtain ⟨A, cp, h, _⟩ := hr
    exact ⟨A, cp, by simpa using h⟩
  have hR := Lib.hid hr
  clear hr
  obtain ⟨A, cp, rfl⟩ := hlv
  obtain ⟨i0, hi, hz0, hz1, hz2⟩ := info_parts Try.infoInt
  go_enter Try.func20, Try.ntmps20
  go_wp2_with (first | (go_at_call 16; refine (GetNum_some bs _ p c j _ (hR.out.ext ((Below.refl _ _).alloc (Nat.le_refl _) _)) (by omega) H.out).mono ?_; rintro e w' ⟨rfl, rfl⟩) | (at_make; refine wpList_make_full _ rfl _ _ 22 rfl w.heap.size 3 i0 (.int .i64 0) 1 Try.underlying22 hi hz0 hz1 _ _ _ _ c rfl rfl rfl rfl (by rw [hz2]; omega) (by unfold maxLen; omega) (by simp; omega) ?_; intro w1 hown hgrow))
  have hL : LR w w1 (.slice A bs.length cp) c 0 (p + j) [] := LR.start (by simpa using hgrow) (by simpa using hown)
  clear hown hgrow hi hz0 hz1 hz2
  go_loopw [42] (fun i' wr => ∃ (i q : Nat) (ns : List Nat), i' = .int .i64 i ∧ i ≤ c ∧ q ≤ bs.length ∧ readK c bs (p + j) = (readK (c - i) bs q).map (fun r => (ns ++ r.1, r.2)) ∧ LR w wr (.slice A bs.length cp) c i q ns) (fun i' _ => c - (intOf i').toNat)
  case atStart => exact ⟨0, p + j, [], rfl, by omega, by omega, by simp, hL⟩
  case round =>
    obtain ⟨i, q, ns, rfl, hic, hq, hrd, hL⟩ := hrel
    have hR2 := hR.out.ext hL.ext
    by_cases hlt : i < c
    · rw [show c - i = (c - (i + 1)) + 1 by omega, readK] at hrd
      rcases hg : getN (bs.drop q) with _ | ⟨n, j2⟩
      · rw [hg] at hrd
        have HG := Lib.hid hg
        have HRD : Hid (readK c bs (p + j) = none) := by unfold Hid; simpa using hrd
        clear hg hrd
        go_wp2_with (first | (go_at_call 26; refine (take_none bs _ _ _ _ q true _ hL.b1 hL.b2 hL.b3 (by omega) hR2 (by omega) HG.out).mono ?_; rintro e w2 ⟨rfl, hw2⟩; obtain ⟨f1, f2, f3, f4, _⟩ := hL.take (q' := 0) hlt hw2 0; rw [show ((0 : Nat) : Int) = 0 from rfl] at f3 f4; clear hw2))
        refine bodyPost_ret (v := .tuple #[.slice none 0 0, .int .i64 0, .bool false]) (by simp [results, Try.results20, go_sem]) rfl ?_
        rw [HRD.out]
        exact ⟨rfl, f4⟩
      · rw [hg] at hrd
        have hj2 := getN_le hg
        rw [List.length_drop] at hj2
        have HG := Lib.hid hg
        have HRD : Hid (readK c bs (p + j) = Option.map (fun r => ((ns ++ [n]) ++ r.1, r.2)) (readK (c - (i + 1)) bs (q + j2))) := by
          unfold Hid
          rw [hrd]
          rcases h : readK (c - (i + 1)) bs (q + j2) with _ | ⟨a, b⟩ <;> simp [h]
        clear hg hrd
        go_wp2_with (first | (go_at_call 26; refine (take_some bs _ _ _ _ q n j2 true _ hL.b1 hL.b2 hL.b3 (by omega) hR2 (by omega) HG.out).mono ?_; rintro e w2 ⟨rfl, hw2⟩; obtain ⟨f1, f2, f3, f4, f5⟩ := hL.take (q' := q + j2) hlt hw2 n; have F5 := Lib.hid (f5 rfl); clear hw2 f5))
        go_roundw
        case rel => exact ⟨i + 1, q + j2, ns ++ [n], by go_num, by omega, by omega, HRD.out, F5.out⟩
        case measure => simp [intOf]; omega
    · obtain rfl : i = c := by omega
      have HRD := Lib.hid hrd
      have c2 := hL.b2.cell1
      clear hrd
      go_wp2
      go_quiet (fail)
      go_wp2
      refine bodyPost_ret (v := .tuple #[.slice (some ⟨w.heap.size + 1 + 1 + 1, 0, none⟩) i i, .int .i64 q, .bool true]) (by simp [results, Try.results20, go_sem]) rfl ?_
      rw [HRD.out, Nat.sub_self, readK]
      have hown := hL.own
      rw [Nat.sub_self, List.replicate_zero, List.append_nil] at hown
      refine ⟨_, rfl, ?_, Below.drewN' hL.ext _⟩
      simp only [List.append_nil, hL.len]
      exact hown

set_option maxHeartbeats 2000000 in
theorem GetList_long (bs : List UInt8) (v : Value) (p c j : Nat) (most : Int) (w : World) (hr : Rd w v (bs.map B)) (hp63 : p < 9223372036854775808) (h : getN (bs.drop p) = some (c, j)) (hc : (c : Int) ≤ most) (hcl : ¬ c ≤ bs.length - (p + j)) :
    Calls Try.prog 20 #[v, .int .i64 p, .int .i64 most] w fun e w' => e = .returned (.tuple #[.slice none 0 0, .int .i64 0, .bool false]) ∧ Ext w w' := by
  have hj := getN_le h
  rw [List.length_drop] at hj
  have H := Lib.hid h
  clear h
  have hlv : ∃ A cp, v = .slice A bs.length cp ∧ bs.length ≤ cp ∧ cp ≤ maxLen := by
    obtain ⟨A, cp, h, h2, h3, _⟩ := hr
    exact ⟨A, cp, by simpa using h, by simpa using h2, h3⟩
  have hR := Lib.hid hr
  clear hr
  obtain ⟨A, cp, rfl, h1, h2⟩ := hlv
  unfold maxLen at h2
  go_enter Try.func20, Try.ntmps20
  go_wp2_with (first | (go_at_call 16; refine (GetNum_some bs _ p c j _ (hR.out.ext ((Below.refl _ _).alloc (Nat.le_refl _) _)) (by omega) H.out).mono ?_; rintro e w' ⟨rfl, rfl⟩))
  exact bodyPost_ret (v := .tuple #[.slice none 0 0, .int .i64 0, .bool false]) (by simp [results, Try.results20, go_sem]) rfl ⟨rfl, ((((Below.refl _ _).alloc (Nat.le_refl _) _).alloc (by simp) _).alloc (by simp; omega) _)⟩

set_option maxHeartbeats 2000000 in
theorem GetList_many (bs : List UInt8) (v : Value) (p c j : Nat) (most : Int) (w : World) (hr : Rd w v (bs.map B)) (hp63 : p < 9223372036854775808) (h : getN (bs.drop p) = some (c, j)) (hc : ¬ (c : Int) ≤ most) :
    Calls Try.prog 20 #[v, .int .i64 p, .int .i64 most] w fun e w' => e = .returned (.tuple #[.slice none 0 0, .int .i64 0, .bool false]) ∧ Ext w w' := by
  have hj := getN_le h
  rw [List.length_drop] at hj
  have H := Lib.hid h
  clear h
  have hlv : ∃ A cp, v = .slice A bs.length cp ∧ bs.length ≤ cp ∧ cp ≤ maxLen := by
    obtain ⟨A, cp, h, h2, h3, _⟩ := hr
    exact ⟨A, cp, by simpa using h, by simpa using h2, h3⟩
  have hR := Lib.hid hr
  clear hr
  obtain ⟨A, cp, rfl, h1, h2⟩ := hlv
  unfold maxLen at h2
  go_enter Try.func20, Try.ntmps20
  go_wp2_with (first | (go_at_call 16; refine (GetNum_some bs _ p c j _ (hR.out.ext ((Below.refl _ _).alloc (Nat.le_refl _) _)) (by omega) H.out).mono ?_; rintro e w' ⟨rfl, rfl⟩))
  exact bodyPost_ret (v := .tuple #[.slice none 0 0, .int .i64 0, .bool false]) (by simp [results, Try.results20, go_sem]) rfl ⟨rfl, ((((Below.refl _ _).alloc (Nat.le_refl _) _).alloc (by simp) _).alloc (by simp; omega) _)⟩

set_option maxHeartbeats 2000000 in
theorem GetList_neg (bs : List UInt8) (v : Value) (p : Int) (most : Int) (w : World) (hr : Rd w v (bs.map B)) (hp : p < 0) :
    Calls Try.prog 20 #[v, .int .i64 p, .int .i64 most] w fun e w' => e = .returned (.tuple #[.slice none 0 0, .int .i64 0, .bool false]) ∧ Ext w w' := by
  have hlv : ∃ A cp, v = .slice A bs.length cp ∧ bs.length ≤ cp ∧ cp ≤ maxLen := by
    obtain ⟨A, cp, h, h2, h3, _⟩ := hr
    exact ⟨A, cp, by simpa using h, by simpa using h2, h3⟩
  clear hr
  obtain ⟨A, cp, rfl, h1, h2⟩ := hlv
  unfold maxLen at h2
  go_enter Try.func20, Try.ntmps20
  go_wp2_with (first | (go_at_call 16; refine (GetNum_neg _ p _ hp).mono ?_; rintro e w' ⟨rfl, rfl⟩))
  exact bodyPost_ret (v := .tuple #[.slice none 0 0, .int .i64 0, .bool false]) (by simp [results, Try.results20, go_sem]) rfl ⟨rfl, ((((Below.refl _ _).alloc (Nat.le_refl _) _).alloc (by simp) _).alloc (by simp; omega) _)⟩

theorem GetList_any (bs : List UInt8) (v : Value) (p : Nat) (most : Int) (w : World) (hr : Rd w v (bs.map B)) (hp63 : p < 9223372036854775808) (hlen : bs.length ≤ 1099511627776) :
    Calls Try.prog 20 #[v, .int .i64 p, .int .i64 most] w (GLPost (listAt bs p most) w) := by
  unfold listAt
  rcases h : getN (bs.drop p) with _ | ⟨c, j⟩
  · exact GetList_first bs v p most w hr hp63 h
  · by_cases hc : (c : Int) ≤ most
    · simp only [hc, if_true]
      by_cases hcl : c ≤ bs.length - (p + j)
      · exact GetList_at bs v p c j most w hr hp63 h hc hcl hlen
      · have hj := getN_le h
        rw [List.length_drop] at hj
        rcases hk : readK c bs (p + j) with _ | ⟨l, q⟩
        · exact GetList_long bs v p c j most w hr hp63 h hc hcl
        · have := readK_le c bs (p + j) l q (by omega) hk
          omega
    · simp only [hc, if_false]
      exact GetList_many bs v p c j most w hr hp63 h hc

end Go.Proofs.Ytidaipbjhhcjhaa
