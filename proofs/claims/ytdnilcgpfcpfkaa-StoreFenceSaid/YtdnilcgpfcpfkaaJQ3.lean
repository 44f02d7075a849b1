/- Texts that the proof of J rests on, one behind the other. -/
import Derived.Test.YtdnilcgpfcpfkaaJQ2
import Derived.Test.YtdnilcgpfcpfkaaRows
import Derived.Lib.SliceRun
import Derived.Lib.MinMax
import Derived.Laws.LoneSync
import Derived.Deep.DeepCutAuto
import Derived.Deep.CutBlock
import Derived.Laws.Rows
import Derived.BigQuiet
import Derived.Deep.RegionHeld3
import Derived.Lib.SlBytesConst
import Derived.Deep.QuietTactic

/- Slices of bytes in this translation's numbers: what one element takes; the laws at an append. -/
namespace Go.Proofs.Ytdnilcgpfcpfkaa
open Go.RowKit

theorem Try.infoU8 : (Try.prog.info? 5).map (fun i => (i.zero, i.size, i.bytes)) = some (some (.int .u8 0), 1, 1) := by kernel_rfl

/-- 'b = append(b, x)', b a row of bytes of the call's own. -/
theorem push_u8 {w : World} {ops : Array Oper} {rest : List Oper} {o : Oper} {a : Act} {Q : Exit → Act → World → Prop} {gx : Nat} (hgd : o.guard = none) (s x : Operand)
    (ho : o.op = .call { callee := .builtin .append, args := #[s, x], argTypes := #[27, 27] })
    (base : Nat) (v : Value) (xs : List Value) (hs : a.eval s = v) (hown : w.ownsRow base 5 1 v xs.length xs) (u : Value) (h1 : u.oneCell' = true)
    (hx : a.eval x = .slice (some ⟨gx, 0, none⟩) 1 1) (hlen : xs.length < 140737488355328) (hbase : base ≤ w.heap.size)
    (h : ∀ v' w', Grew base 5 v w (xs ++ [u]) v' w' → wpList Try.prog ops Q rest (a.put o.dst v') w') (hgx : gx = w.heap.size := by simp) : wpList Try.prog ops Q (o :: rest) a (w.alloc (.cells #[u] 5)) := by
  subst hgx
  exact wpList_push hgd s x 27 ho base 5 (.int .u8 0) 1 Try.underlying27 Try.infoU8 rfl v xs hs hown u h1 hx (by unfold maxLen; omega) (by omega) hbase h

/-- 'b = append(b, c...)', c what reads as a list of bytes. -/
theorem app_u8 {w : World} {ops : Array Oper} {rest : List Oper} {o : Oper} {a : Act} {Q : Exit → Act → World → Prop} (hgd : o.guard = none) (s x : Operand)
    (ho : o.op = .call { callee := .builtin .append, args := #[s, x], argTypes := #[27, 27] })
    (base : Nat) (v : Value) (xs : List Value) (hs : a.eval s = v) (hown : w.ownsRow base 5 1 v xs.length xs) (u : Value) (ys : List UInt8) (hx : a.eval x = u) (hr : Rd w u (ys.map B))
    (hbytes : xs.length + ys.length ≤ 140737488355328) (hbase : base ≤ w.heap.size)
    (h : ∀ v' w', Grew base 5 v w (xs ++ ys.map B) v' w' → wpList Try.prog ops Q rest (a.put o.dst v') w') : wpList Try.prog ops Q (o :: rest) a w :=
  wpList_appendRd hgd s x 27 ho base 5 (.int .u8 0) 1 Try.underlying27 Try.infoU8 rfl v xs hs hown u _ hx hr (bytes_oneCell ys) (by unfold maxLen; simp; omega) (by simp; omega) hbase h

end Go.Proofs.Ytdnilcgpfcpfkaa

/- Go's bytes.Clone: a copy of its own. -/
namespace Go.Proofs.Ytdnilcgpfcpfkaa
open Go.RowKit

theorem Clone_any (l : List UInt8) (v : Value) (w : World) (hr : Rd w v (l.map B)) (hlen : l.length ≤ 140737488355328) :
    Calls Try.prog 56 #[v] w fun e w' => ∃ v', e = .returned v' ∧ Grew w.heap.size 5 (.slice none 0 0) w (l.map B) v' w' := by
  have kn := fun (w : World) (a : Option Addr) (n c n' c' : Nat) => Lib.run_eql_slice_nil (P := Try.prog) w 27 5 a n c n' c' Try.underlying27
  obtain ⟨A, c, rfl, hlc, hcm⟩ := hr.sliceN (List.length_map _)
  unfold maxLen at hcm
  rcases A with _ | a
  · have h0 : l = [] := by
      rcases Nat.eq_zero_or_pos l.length with h | h
      · exact List.eq_nil_of_length_eq_zero h
      · obtain ⟨b, o, h, _⟩ := hr.get (by simpa using h)
        cases h
    subst h0
    have hg := Grew.nil (base := w.heap.size) (e := 5) w
    have HG := Lib.hid hg
    clear hg
    go_enter Try.func56, Try.ntmps56
    go_wp2
    go_ret
    exact ⟨_, rfl, HG.out⟩
  · have HR := Lib.hid hr
    clear hr
    go_enter Try.func56, Try.ntmps56
    go_wp2_with (at_builtin; refine app_u8 rfl _ _ rfl w.heap.size _ [] rfl (own_none _ _ _ rfl) _ l rfl (HR.out.ext ((Below.refl _ _).alloc (Nat.le_refl _) _)) (by simp; omega) (by simp) ?_; intro v2 w2 hg2; rw [List.nil_append] at hg2)
    go_ret
    exact ⟨_, rfl, Grew.from_empty rfl hg2⟩

end Go.Proofs.Ytdnilcgpfcpfkaa

/- Package store: where a job's checkpoints stand, and what is told of them. -/
namespace Go.Proofs.Ytdnilcgpfcpfkaa
open Go.RowKit

theorem isJob_any (job : Int) (w : World) :
    Calls Try.prog 57 #[.int .i64 job] w fun e w' => e = .returned (.bool (isJ job)) ∧ w = w' := by
  by_cases h1 : 1 ≤ job
  · have d1 : decide ((1 : Int) ≤ job) = true := decide_eq_true h1
    have HJ : Hid (isJ job = decide (job ≤ 24)) := Lib.hid (by unfold isJ; rw [d1]; rfl)
    go_enter Try.func57, Try.ntmps57
    go_wp2
    go_ret
    exact ⟨by rw [HJ.out]; rfl, rfl⟩
  · have d1 : decide ((1 : Int) ≤ job) = false := decide_eq_false h1
    have HJ : Hid (isJ job = false) := Lib.hid (by unfold isJ; rw [d1]; rfl)
    go_enter Try.func57, Try.ntmps57
    go_wp2
    go_ret
    exact ⟨by rw [HJ.out]; rfl, rfl⟩

theorem is_any (ep e : Int) (v : Value) (w : World) :
    Calls Try.prog 55 #[.agg #[.int .i64 ep, v], .int .i64 e] w fun x w' => x = .returned (.bool (decide (0 < ep) && decide (ep = e))) ∧ Ext w w' := by
  have hx : Ext w (w.alloc (.cells #[.int .i64 ep, v] 83)) := (Below.refl _ _).alloc (Nat.le_refl _) _
  have HX := Lib.hid hx
  by_cases h1 : 0 < ep
  · have d1 : decide ((0 : Int) < ep) = true := decide_eq_true h1
    clear hx
    go_enter Try.func55, Try.ntmps55
    go_wp2
    go_ret
    exact ⟨by simp [h1]; rfl, HX.out⟩
  · have d1 : decide ((0 : Int) < ep) = false := decide_eq_false h1
    clear hx
    go_enter Try.func55, Try.ntmps55
    go_wp2
    go_ret
    exact ⟨by simp [h1], HX.out⟩

/-- Where a job's pair is. -/
structure OfPost (N : Fp) (w : World) (g : Nat) (S : StoP) (job : Int) (e : Ending) (w' : World) : Prop where
  out : ∃ b o, e = .returned (.pointer (some ⟨b, o, none⟩)) ∧ PairAt N w' b o (ofJ S job) ∧ Ext w w' ∧
    ((isJ job = true ∧ b = g ∧ o = 2 + 4 * (job - 1).toNat) ∨ (isJ job = false ∧ w.heap.size ≤ b ∧ o = 0 ∧ Blk w' b 85 #[.int .i64 0, .slice none 0 0, .int .i64 0, .slice none 0 0]))

theorem newPair (N : Fp) (w : World) : PairAt N (w.alloc (.cells #[.int .i64 0, .slice none 0 0, .int .i64 0, .slice none 0 0] 85)) w.heap.size 0 zPr := by
  have hb := Blk.new w 85 #[.int .i64 0, .slice none 0 0, .int .i64 0, .slice none 0 0]
  exact ⟨⟨_, _, ⟨hb.cell 0, hb.cell 1, hb.cell 2, hb.cell 3⟩, zLp_rd N _⟩, fun i => hb.frozen i, hb.lt⟩

theorem of_any (N : Fp) (g : Nat) (S : StoP) (job : Int) (w : World) (h : SoAt N w g S) (hS : OkS S) :
    Calls Try.prog 54 #[.pointer (some ⟨g, 0, none⟩), .int .i64 job] w (OfPost N w g S job) := by
  have HI := Lib.hid (isJob_any job w)
  cases hj : isJ job with
  | true =>
    rw [hj] at HI
    have hp := h.pair hS hj
    have h1 := isJ_iff.1 hj
    obtain ⟨k, hk⟩ : ∃ k : Nat, job = (k : Int) + 1 := ⟨(job - 1).toNat, by omega⟩
    have hk2 : (job - 1).toNat = k := by omega
    have x0 : (0 : Int) ≤ (k : Int) ∧ (k : Int) < 24 := by omega
    have hw1 : wrap64 (job - 1) = (k : Int) := by rw [IntWalk.wrap64_in _ (by omega)]; omega
    have HP := Lib.hid hp
    have HJ := Lib.hid hj
    have HK := Lib.hid hk2
    clear h hS hp hj h1 hk hk2
    go_enter Try.func54, Try.ntmps54
    go_wp2_with fail
    refine HI.out.mono ?_
    rintro e1 w1 ⟨rfl, rfl⟩
    go_wp2
    go_ret
    exact ⟨_, _, rfl, by rw [show 2 + k * 4 = 2 + 4 * (job - 1).toNat by rw [HK.out]; omega]; exact HP.out, Ext.refl _, .inl ⟨HJ.out, rfl, by rw [HK.out]; omega⟩⟩
  | false =>
    rw [hj] at HI
    have hz := ofJ_no (S := S) hj
    have HZ := Lib.hid hz
    have HJ := Lib.hid hj
    clear h hS hz hj
    go_enter Try.func54, Try.ntmps54
    go_wp2_with fail
    refine HI.out.mono ?_
    rintro e1 w1 ⟨rfl, rfl⟩
    go_wp2
    go_ret
    exact ⟨_, _, rfl, by rw [HZ.out]; exact newPair N w, (Below.refl _ _).alloc (Nat.le_refl _) _, .inr ⟨HJ.out, Nat.le_refl _, rfl, Blk.new _ _ _⟩⟩

/-- What is told of a job. -/
theorem Counts_any (N : Fp) (g : Nat) (S : StoP) (job : Int) (w : World) (h : SoAt N w g S) (hS : OkS S) :
    Calls Try.prog 21 #[.pointer (some ⟨g, 0, none⟩), .int .i64 job] w fun e w' => e = .returned (.int .i64 (ofJ S job).c.ep) ∧ Ext w w' := by
  have HO := Lib.hid (of_any N g S job w h hS)
  clear h hS
  go_enter Try.func21, Try.ntmps21
  go_wp2_with fail
  refine HO.out.mono ?_
  rintro e1 w1 ⟨b, o, rfl, hp, hx, -⟩
  obtain ⟨vc, vs, ⟨c0, -, -, -⟩, -⟩ := hp.out
  have HX := Lib.hid hx
  clear hx hp
  go_wp2
  go_ret
  exact ⟨rfl, HX.out⟩
theorem Term_any (N : Fp) (g : Nat) (S : StoP) (w : World) (h : SoAt N w g S) :
    Calls Try.prog 23 #[.pointer (some ⟨g, 0, none⟩)] w fun e w' => e = .returned (.int .i64 S.term) ∧ w = w' := by
  obtain ⟨lp, -, hb, -⟩ := h.out
  have c1 : w.cell? ⟨g, 1, none⟩ = some (.int .i64 S.term) := hb.cell 1
  clear hb h
  go_enter Try.func23, Try.ntmps23
  go_wp2
  go_ret
  exact ⟨rfl, rfl⟩
theorem SoAt.c98 {N : Fp} {w : World} {g : Nat} {S : StoP} (h : SoAt N w g S) (hS : OkS S) : w.cell? ⟨g, 98, none⟩ = some (.int .i64 S.writes) := by
  obtain ⟨lp, h1, hb, -⟩ := h.out
  rw [hb.cell, List.getElem?_toArray]
  exact soC_last _ _ _ _ (by have := hS.len; rw [← h1, List.length_map] at this; exact this)
theorem Writes_any (N : Fp) (g : Nat) (S : StoP) (w : World) (h : SoAt N w g S) (hS : OkS S) :
    Calls Try.prog 24 #[.pointer (some ⟨g, 0, none⟩)] w fun e w' => e = .returned (.int .i64 S.writes) ∧ w = w' := by
  have c98 := h.c98 hS
  have HL : Hid (Calls Try.prog 59 #[.pointer (some ⟨g, 98, none⟩)] w fun e w' => e = .returned (.int .i64 S.writes) ∧ w = w') := Lib.hid (by
    have hcall := run_call_load (P := Try.prog) (f := 79) Try.func79 (by kernel_rfl) (by kernel_rfl) (by kernel_rfl) .i64 (by kernel_rfl) c98
    go_enter Try.func59, Try.ntmps59
    go_wp2
    go_ret
    exact ⟨rfl, rfl⟩)
  clear h hS
  go_enter Try.func24, Try.ntmps24
  go_wp2_with fail
  refine HL.out.mono ?_
  rintro e1 w1 ⟨rfl, rfl⟩
  go_wp2
  go_ret
  exact ⟨rfl, rfl⟩
theorem SoAt.fence {N : Fp} {w : World} {g : Nat} {S : StoP} (h : SoAt N w g S) (t : Int) : SoAt N (w.setCell ⟨g, 1, none⟩ (.int .i64 t)) g { S with term := t } := by
  obtain ⟨lp, h1, hb, hr⟩ := h.out
  have hc : Chg (fun k => k = g) w (w.setCell ⟨g, 1, none⟩ (.int .i64 t)) := (Chg.refl _ _).setCell (fun _ => rfl)
  refine ⟨⟨lp, h1, ?_, fun x hx => (hr x hx).chg hc (fun k hk => by rw [hk]; exact h.here)⟩, h.isIn.chg hc, h.here⟩
  have h2 := hb.set_ 1 (.int .i64 t)
  rw [List.setIfInBounds_toArray] at h2
  exact h2
theorem Fence_any (N : Fp) (g : Nat) (S : StoP) (t : Int) (w : World) (h : SoAt N w g S) :
    Calls Try.prog 16 #[.pointer (some ⟨g, 0, none⟩), .int .i64 t] w fun e w' => e = .returned (.tuple #[]) ∧ SoAt N w' g (fenceS S t) ∧ Chg (fun k => k = g) w w' := by
  obtain ⟨lp, -, hb, -⟩ := h.out
  have c1 : w.cell? ⟨g, 1, none⟩ = some (.int .i64 S.term) := hb.cell 1
  have f1 := hb.frozen 1
  have HF := Lib.hid (h.fence (max S.term t))
  clear hb h
  go_enter Try.func16, Try.ntmps16
  go_wp2
  go_end0
  exact ⟨rfl, HF.out, (Chg.refl _ _).setCell (fun _ => rfl)⟩

end Go.Proofs.Ytdnilcgpfcpfkaa

/- Package store: how many bytes there are. -/
namespace Go.Proofs.Ytdnilcgpfcpfkaa
open Go.RowKit

section
variable {P : Program} {w : World} {ops : Array Oper} {rest : List Oper} {o : Oper} {a : Act} {Q : Exit → Act → World → Prop}
/-- A whole variable that lies anywhere in a block. -/
theorem run_loadVar_at (w : World) (ad : Addr) (ty : TypeId) (l : List Value) (d : TypeDesc) (hu : P.underlying ty = some d) (hd : (match d with | .struct _ | .array _ _ => true | _ => false) = true)
    (hi : (P.info? ty).map (·.size) = some l.length) (h : ∀ j v, l[j]? = some v → w.cell? (ad.add j) = some v) : (loadVar ty ad).run P w = .ok (.agg l.toArray) w := by
  have hl := run_loadCells_list (P := P) w ad l h
  cases hq : P.info? ty with
  | none => simp [hq] at hi
  | some i =>
    simp only [hq, Option.map_some, Option.some.injEq] at hi
    cases d <;> simp_all [loadVar, isAgg, run_underlying, sizeOf, typeInfo, go_sem]
theorem wpList_loadV (hgd : o.guard = none) (t : TypeId) (p : Operand) (ho : o.op = .load t p) (ad : Addr) (hp : a.eval p = .pointer (some ad)) (v : Value) (hrun : (loadVar t ad).run P w = .ok v w)
    (h : wpList P ops Q rest (a.put o.dst v) w) : wpList P ops Q (o :: rest) a w := by
  refine wpList_plain hgd fun K hK => ?_
  unfold Oper.wp execOp
  simp only [ho, hp, Instr.loadAt, Instr.sureAddr, Sem.run_bind, Sem.run_pure, Result.andThen_ok, hrun]
  exact hK _ _ h
theorem wpList_indexV (hgd : o.guard = none) (t : TypeId) (x ix : Operand) (ho : o.op = .index t x ix) (v : Value) (hrun : (Instr.index t (a.eval x) (a.eval ix)).run P w = .ok v w)
    (h : wpList P ops Q rest (a.put o.dst v) w) : wpList P ops Q (o :: rest) a w := by
  refine wpList_plain hgd fun K hK => ?_
  unfold Oper.wp execOp
  simp only [ho, Sem.run_bind, Sem.run_pure, Result.andThen_ok, hrun]
  exact hK _ _ h
theorem run_index_agg (w : World) (t e : TypeId) (n m : Nat) (fs : Array Field) (hu : P.underlying t = some (.array n e)) (he : P.underlying e = some (.struct fs)) (hi : (P.info? e).map (·.size) = some m)
    (A : Array Value) (k : Nat) (hk : k < n) (c : Array Value) (hc : A.extract (k * m) (k * m + m) = c) : (Instr.index t (.agg A) (.int .i64 (k : Int))).run P w = .ok (.agg c) w := by
  cases hq : P.info? e with
  | none => simp [hq] at hi
  | some i =>
    simp only [hq, Option.map_some, Option.some.injEq] at hi
    have h1 : (0 : Int) ≤ (k : Int) ∧ (k : Int) < (n : Int) := by omega
    simp [Instr.index, run_underlying hu, asIntOf, part, isAgg, run_underlying he, sizeOf, typeInfo, hq, hi, h1.2, hc, go_sem]
    intro h; omega
end
theorem flat_cut4 : ∀ (lp : List LpP) (k : Nat), k < lp.length → ((lp.flatMap LpP.cells).drop (k * 4)).take 4 = (lp.getD k zLp).cells
  | [], _, h => absurd h (by simp)
  | x :: lp, 0, _ => by rw [List.flatMap_cons, Nat.zero_mul, List.drop_zero]; rfl
  | x :: lp, k + 1, h => by
    rw [List.flatMap_cons, Nat.succ_mul]
    exact flat_cut4 lp k (by simpa using h)
theorem usedJ_take (l : List PrP) (k : Nat) (hk : k < l.length) : usedJ (l.take (k + 1)) = usedJ (l.take k) + wtP (l.getD k zPr) := by
  rw [List.take_add_one, List.getElem?_eq_getElem hk, List.getD_eq_getElem?_getD, List.getElem?_eq_getElem hk]
  simp only [usedJ, List.map_append, List.sum_append, List.map_cons, List.map_nil, List.sum_cons, List.sum_nil, Option.getD_some, Option.toList_some, Nat.add_zero]
theorem usedJ_take_le (l : List PrP) : ∀ k, usedJ (l.take k) ≤ usedJ l := fun k => by
  have : usedJ (l.take k) + usedJ (l.drop k) = usedJ l := by
    have h := congrArg usedJ (List.take_append_drop k l)
    rw [← h]; simp only [usedJ, List.map_append, List.sum_append]
  omega

set_option maxRecDepth 100000 in
theorem Used_any (N : Fp) (g : Nat) (S : StoP) (w : World) (h : SoAt N w g S) (hS : OkS S) (hu : usedJ S.jobs ≤ 1000000000) :
    Calls Try.prog 22 #[.pointer (some ⟨g, 0, none⟩)] w fun e w' => e = .returned (.int .i64 (usedJ S.jobs : Int)) ∧ Ext w w' := by
  obtain ⟨lp, h1, hb, hr⟩ := h.out
  have hl : lp.length = 24 := by have := hS.len; rw [← h1, List.length_map] at this; exact this
  obtain ⟨A, hA⟩ : ∃ A, A = (lp.flatMap LpP.cells).toArray := ⟨_, rfl⟩
  have HLD : Hid ((loadVar 86 ⟨g, 2, none⟩).run Try.prog w = .ok (.agg A) w) := Lib.hid (by
    rw [hA]
    refine run_loadVar_at w _ _ _ _ Try.underlying86 rfl (by rw [flat4_len, hl]; kernel_rfl) (fun j v hj => ?_)
    have hjl : j < 96 := by have := (List.getElem?_eq_some_iff.1 hj).1; rw [flat4_len, hl] at this; exact this
    rw [Addr.add_lit, hb.cell, List.getElem?_toArray, show 2 + j = j + 1 + 1 by omega]
    show (lp.flatMap LpP.cells ++ _)[j]? = _
    rw [List.getElem?_append_left (by rw [flat4_len, hl]; exact hjl)]
    exact hj)
  have HIX : Hid (∀ (k : Nat) (W : World), k < 24 → (Instr.index 86 (.agg A) (.int .i64 (k : Int))).run Try.prog W = .ok (.agg #[.int .i64 (lp.getD k zLp).p.c.ep, (lp.getD k zLp).vc, .int .i64 (lp.getD k zLp).p.s.ep, (lp.getD k zLp).vs]) W) := Lib.hid (fun k W hk => by
    refine run_index_agg W _ _ 24 4 _ Try.underlying86 Try.underlying85 (by kernel_rfl) A k hk _ ?_
    rw [hA, List.extract_toArray]
    congr 1
    rw [List.extract_eq_take_drop, show k * 4 + 4 - k * 4 = 4 by omega]
    exact flat_cut4 lp k (by omega))
  have HRD : Hid (∀ (k : Nat) (W : World), Ext w W → k < 24 → (lp.getD k zLp).rd N W ∧ (lp.getD k zLp).p = S.jobs.getD k zPr) := Lib.hid (fun k W hx hk => by
    have hm : lp.getD k zLp ∈ lp := by rw [List.getD_eq_getElem?_getD, List.getElem?_eq_getElem (by omega)]; exact List.getElem_mem _
    exact ⟨(hr _ hm).chg (G := fun _ => False) (Chg.of_ext hx) (fun _ h => h.elim), by rw [← h1, getD_map]⟩)
  obtain ⟨J, hJ⟩ : ∃ J, J = S.jobs := ⟨_, rfl⟩
  have HJL : Hid (J.length = 24) := Lib.hid (by rw [hJ]; exact hS.len)
  have HU : Hid (usedJ J ≤ 1000000000) := Lib.hid (by rw [hJ]; exact hu)
  have HT : Hid (∀ k, k < 24 → usedJ (J.take (k + 1)) = usedJ (J.take k) + wtP (J.getD k zPr) ∧ usedJ (J.take (k + 1)) ≤ usedJ J) := Lib.hid (fun k hk => ⟨usedJ_take J k (by rw [hJ, hS.len]; exact hk), usedJ_take_le J _⟩)
  rw [← hJ] at HRD ⊢
  clear hb h hr h1 hS hA hl hJ hu
  go_enter Try.func22, Try.ntmps22
  go_upto_region 4 with (fail)
  iterate 10 go_step
  refine wpList_loadV (by rfl) _ _ (by rfl) ⟨g, 2, none⟩ (by rfl) (.agg A) HLD.out ?_
  clear HLD
  go_wp2
  go_loopw [3, 12] (fun n' i' wr => ∃ k : Nat, i' = .int .i64 k ∧ k ≤ 24 ∧ n' = .int .i64 (usedJ (J.take k) : Int) ∧ Ext w wr) (fun _ i' _ => 24 - (intOf i').toNat)
  case atStart => exact ⟨0, rfl, Nat.zero_le _, rfl, Ext.refl _⟩
  case round =>
    obtain ⟨k, rfl, hk, rfl, hx⟩ := hrel
    by_cases hlt : k < 24
    · have e1 : decide ((k : Int) < 24) = true := decide_eq_true (by omega)
      obtain ⟨hxr, hxp⟩ := HRD.out k wr hx hlt
      have hix := HIX.out k wr hlt
      have hte := HT.out k hlt
      have hub := HU.out
      rw [← hxp] at hte
      generalize lp.getD k zLp = x at hxr hxp hix hte
      obtain ⟨Ac, cc, hvc, -⟩ := hxr.1
      obtain ⟨As, cs, hvs, -⟩ := hxr.2
      rw [List.length_map] at hvc hvs
      rw [hvc, hvs] at hix
      obtain ⟨m, hm⟩ : ∃ m, m = usedJ (J.take k) := ⟨_, rfl⟩
      obtain ⟨nc, hnc⟩ : ∃ n, n = x.p.c.da.length := ⟨_, rfl⟩
      obtain ⟨ns, hns⟩ : ∃ n, n = x.p.s.da.length := ⟨_, rfl⟩
      rw [← hnc, ← hns] at hix
      unfold wtP at hte
      rw [← hnc, ← hns, ← hm] at hte
      have hw1 : wrap64 ((nc : Int) + (ns : Int)) = (nc : Int) + (ns : Int) := IntWalk.wrap64_in _ (by omega)
      have hw2 : wrap64 ((m : Int) + ((nc : Int) + (ns : Int))) = (m : Int) + ((nc : Int) + (ns : Int)) := IntWalk.wrap64_in _ (by omega)
      have HTE : Hid (usedJ (J.take (k + 1)) = m + (nc + ns)) := Lib.hid hte.1
      rw [← hm]
      clear hte hub hxr hxp hvc hvs hnc hns hm
      go_upto_region 6 with (fail)
      go_step
      refine wpList_indexV (by rfl) _ _ _ (by rfl) _ hix ?_
      clear hix
      go_wp2
      go_roundw
      case rel => exact ⟨k + 1, by go_num, by omega, by rw [HTE.out, hw2]; go_num, hx.trans ((Below.refl _ _).alloc (Nat.le_refl _) _)⟩
      case measure => simp [intOf]; omega
    · obtain rfl : k = 24 := by omega
      rw [List.take_of_length_le (i := 24) (by rw [HJL.out]; omega)]
      have e1 : decide ((24 : Int) < 24) = false := by decide
      go_wp2
      go_ret
      exact ⟨rfl, hx⟩

end Go.Proofs.Ytdnilcgpfcpfkaa

/- Package store: a checkpoint's data. -/
namespace Go.Proofs.Ytdnilcgpfcpfkaa
open Go.RowKit

theorem is_c (c : CkP) (e : Int) (b : Bool) (hb : isC c e = b) (v : Value) (w : World) :
    Calls Try.prog 55 #[.agg #[.int .i64 c.ep, v], .int .i64 e] w fun x w' => x = .returned (.bool b) ∧ Ext w w' := by
  subst hb
  exact is_any c.ep e v w
theorem RdF.made {N : Fp} {w w' : World} {v : Value} {l : List UInt8} (hN : N.isIn w) (h : Grew w.heap.size 5 (.slice none 0 0) w (l.map B) v w') : RdF (fun k => ¬ N k) w' v (l.map B) :=
  (RowF.made h).rdF.mono (fun k hk hN' => by have := hN k hN'; omega)
/-- The four cells, whatever is added. -/
theorem PairAt.cells {N : Fp} {w : World} {b o : Nat} {p : PrP} (h : PairAt N w b o p) : ∃ vc vs, (∀ W, Ext w W → (W.cell? ⟨b, o, none⟩ = some (.int .i64 p.c.ep) ∧ W.cell? ⟨b, o + 1, none⟩ = some vc ∧ W.cell? ⟨b, o + 2, none⟩ = some (.int .i64 p.s.ep) ∧ W.cell? ⟨b, o + 3, none⟩ = some vs ∧ W.cell? ⟨b, o + 2 + 1, none⟩ = some vs) ∧ LpP.rd N W ⟨p, vc, vs⟩) := by
  obtain ⟨vc, vs, ⟨c0, c1, c2, c3⟩, hr⟩ := h.out
  exact ⟨vc, vs, fun W hx => ⟨⟨(hx.cell (p := ⟨b, o, none⟩) h.lt).trans c0, (hx.cell (p := ⟨b, o + 1, none⟩) h.lt).trans c1, (hx.cell (p := ⟨b, o + 2, none⟩) h.lt).trans c2, (hx.cell (p := ⟨b, o + 3, none⟩) h.lt).trans c3, (hx.cell (p := ⟨b, o + 3, none⟩) h.lt).trans c3⟩, hr.chg (G := fun _ => False) (Chg.of_ext hx) (fun _ h => h.elim)⟩⟩

set_option maxRecDepth 100000 in
theorem Get_any (N : Fp) (g : Nat) (S : StoP) (job epoch : Int) (w : World) (h : SoAt N w g S) (hS : OkS S) :
    Calls Try.prog 18 #[.pointer (some ⟨g, 0, none⟩), .int .i64 job, .int .i64 epoch] w fun e w' =>
      ∃ v, e = .returned (.tuple #[v, .bool (getS S job epoch).2]) ∧ RdF (fun k => ¬ N k) w' v ((getS S job epoch).1.map B) ∧ Ext w w' := by
  have HO := Lib.hid (of_any N g S job w h hS)
  have HIN := Lib.hid h.isIn
  have ho := hS.of job
  have HCL := Lib.hid ho.cl
  have HSL := Lib.hid ho.sl
  clear h hS ho
  go_enter Try.func18, Try.ntmps18
  go_wp2_with fail
  refine HO.out.mono ?_
  rintro e1 w1 ⟨b, o, rfl, hp, hx, -⟩
  obtain ⟨vc, vs, hcc⟩ := hp.cells
  have HC := Lib.hid hcc
  have HX := Lib.hid hx
  obtain ⟨⟨c0, c1, c2, c3, c3'⟩, -⟩ := hcc w1 (Ext.refl _)
  obtain ⟨p, hpp⟩ : ∃ p, p = ofJ S job := ⟨_, rfl⟩
  have HG : Hid (getS S job epoch = if isC p.c epoch = true then (p.c.da, true) else if isC p.s epoch = true then (p.s.da, true) else ([], false)) := Lib.hid (by rw [hpp]; rfl)
  rw [← hpp] at HC HCL HSL c0 c2
  clear hp hx hcc HO hpp
  cases h1 : isC p.c epoch with
  | true =>
    rw [h1, if_pos rfl] at HG
    have HI := Lib.hid (is_c p.c epoch true h1)
    clear h1
    go_wp2_with fail
    refine (HI.out _ _).mono ?_
    rintro e2 w2 ⟨rfl, hx2⟩
    obtain ⟨⟨c0, c1, c2, c3, c3'⟩, hr⟩ := HC.out w2 hx2
    have HCN := Lib.hid (Clone_any p.c.da vc w2 hr.1.rd (by have := HCL.out; omega))
    have HX2 := Lib.hid (HX.out.trans hx2)
    clear hr hx2 HI
    go_wp2_with fail
    refine HCN.out.mono ?_
    rintro e3 w3 ⟨v3, rfl, hg3⟩
    have HX3 := Lib.hid (HX2.out.trans hg3.ext)
    have HR3 := Lib.hid (RdF.made (HIN.out.ext HX2.out) hg3)
    clear hg3 HCN
    go_wp2
    go_ret2
    exact ⟨_, by rw [HG.out]; rfl, by rw [HG.out]; exact HR3.out, HX3.out⟩
  | false =>
    rw [h1, if_neg (by decide)] at HG
    have HI := Lib.hid (is_c p.c epoch false h1)
    clear h1
    go_wp2_with fail
    refine (HI.out _ _).mono ?_
    rintro e2 w2 ⟨rfl, hx2⟩
    obtain ⟨⟨c0, c1, c2, c3, c3'⟩, -⟩ := HC.out w2 hx2
    have HX2 := Lib.hid hx2
    clear hx2 HI
    cases h1 : isC p.s epoch with
    | true =>
      rw [h1, if_pos rfl] at HG
      have HI := Lib.hid (is_c p.s epoch true h1)
      clear h1
      go_wp2_with fail
      refine (HI.out _ _).mono ?_
      rintro e3 w3 ⟨rfl, hx3⟩
      obtain ⟨⟨c0, c1, c2, c3, c3'⟩, hr⟩ := HC.out w3 (HX2.out.trans hx3)
      have HCN := Lib.hid (Clone_any p.s.da vs w3 hr.2.rd (by have := HSL.out; omega))
      have HX3 := Lib.hid (HX.out.trans (HX2.out.trans hx3))
      clear hr hx3 HI
      go_wp2_with fail
      refine HCN.out.mono ?_
      rintro e4 w4 ⟨v4, rfl, hg4⟩
      have HX4 := Lib.hid (HX3.out.trans hg4.ext)
      have HR4 := Lib.hid (RdF.made (HIN.out.ext HX3.out) hg4)
      clear hg4 HCN
      go_wp2
      go_ret2
      exact ⟨_, by rw [HG.out]; rfl, by rw [HG.out]; exact HR4.out, HX4.out⟩
    | false =>
      rw [h1, if_neg (by decide)] at HG
      have HI := Lib.hid (is_c p.s epoch false h1)
      clear h1
      go_wp2_with fail
      refine (HI.out _ _).mono ?_
      rintro e3 w3 ⟨rfl, hx3⟩
      have HX3 := Lib.hid (HX.out.trans (HX2.out.trans hx3))
      clear hx3 HI
      go_wp2
      go_ret2
      exact ⟨_, by rw [HG.out]; rfl, by rw [HG.out]; exact RdF.nilF _ _, HX3.out⟩

end Go.Proofs.Ytdnilcgpfcpfkaa

/- Package store: a new store, Commit and End. -/
namespace Go.Proofs.Ytdnilcgpfcpfkaa
open Go.RowKit

theorem Chg.set1 {w w' : World} {b : Nat} (h : Chg (fun k => k = b) w w') (o : Nat) (v : Value) : Chg (fun k => k = b) w (w'.setCell ⟨b, o, none⟩ v) := h.setCell (fun _ => rfl)
/-- A pair's four cells are written. -/
theorem SoAt.put4 {N : Fp} {w w' : World} {g : Nat} {S : StoP} (h : SoAt N w g S) (hS : OkS S) {job : Int} (hj : isJ job = true) (x : LpP) (hx : x.rd N w)
    (hw : w' = (((w.setCell ⟨g, 2 + 4 * (job - 1).toNat, none⟩ (.int .i64 x.p.c.ep)).setCell ⟨g, 2 + 4 * (job - 1).toNat + 1, none⟩ x.vc).setCell ⟨g, 2 + 4 * (job - 1).toNat + 2, none⟩ (.int .i64 x.p.s.ep)).setCell ⟨g, 2 + 4 * (job - 1).toNat + 3, none⟩ x.vs) :
    SoAt N w' g (setJ S job x.p) ∧ Chg (fun k => k = g) w w' := by
  obtain ⟨lp, h1, hb, hr⟩ := h.out
  have hk : (job - 1).toNat < lp.length := by have := hS.idx hj; rw [← h1, List.length_map] at this; exact this
  have hc : Chg (fun k => k = g) w w' := by rw [hw]; exact ((((Chg.refl _ _).set1 _ _).set1 _ _).set1 _ _).set1 _ _
  have hN : ∀ k, k = g → N k := fun k hk => by rw [hk]; exact h.here
  refine ⟨⟨⟨lp.set (job - 1).toNat x, ?_, ?_, fun y hy => ?_⟩, h.isIn.chg hc, h.here⟩, hc⟩
  · unfold setJ; rw [if_pos hj, List.map_set, h1]
  · have h2 := (((hb.set_ (2 + 4 * (job - 1).toNat) (.int .i64 x.p.c.ep)).set_ (2 + 4 * (job - 1).toNat + 1) x.vc).set_ (2 + 4 * (job - 1).toNat + 2) (.int .i64 x.p.s.ep)).set_ (2 + 4 * (job - 1).toNat + 3) x.vs
    simp only [List.setIfInBounds_toArray] at h2
    rw [soC_set4 _ _ _ _ _ _ hk] at h2
    rw [hw, (setJ_room S job x.p).1, (setJ_room S job x.p).2.1, (setJ_room S job x.p).2.2]
    exact h2
  · rcases List.mem_or_eq_of_mem_set hy with hy | rfl
    · exact (hr y hy).chg hc hN
    · exact hx.chg hc hN
/-- The two cells of what is staged are written. -/
theorem SoAt.put2 {N : Fp} {w w' : World} {g : Nat} {S : StoP} (h : SoAt N w g S) (hS : OkS S) {job : Int} (hj : isJ job = true) (e : Int) (d : List UInt8) (v : Value) (hv : RdF (fun k => ¬ N k) w v (d.map B))
    (hw : w' = (w.setCell ⟨g, 2 + 4 * (job - 1).toNat + 2, none⟩ (.int .i64 e)).setCell ⟨g, 2 + 4 * (job - 1).toNat + 3, none⟩ v) :
    SoAt N w' g (setJ S job ⟨(ofJ S job).c, ⟨e, d⟩⟩) ∧ Chg (fun k => k = g) w w' := by
  obtain ⟨lp, h1, hb, hr⟩ := h.out
  have hk : (job - 1).toNat < lp.length := by have := hS.idx hj; rw [← h1, List.length_map] at this; exact this
  have hc : Chg (fun k => k = g) w w' := by rw [hw]; exact ((Chg.refl _ _).set1 _ _).set1 _ _
  have hN : ∀ k, k = g → N k := fun k hk => by rw [hk]; exact h.here
  have hp : (lp.getD (job - 1).toNat zLp).p = ofJ S job := by
    unfold ofJ
    rw [if_pos hj, ← h1, getD_map]
  have hm : lp.getD (job - 1).toNat zLp ∈ lp := by rw [List.getD_eq_getElem?_getD, List.getElem?_eq_getElem hk]; exact List.getElem_mem hk
  refine ⟨⟨⟨lp.set (job - 1).toNat ⟨⟨(lp.getD (job - 1).toNat zLp).p.c, ⟨e, d⟩⟩, (lp.getD (job - 1).toNat zLp).vc, v⟩, ?_, ?_, fun y hy => ?_⟩, h.isIn.chg hc, h.here⟩, hc⟩
  · unfold setJ; rw [if_pos hj, List.map_set, h1, hp]
  · have h2 := (hb.set_ (2 + 4 * (job - 1).toNat + 2) (.int .i64 e)).set_ (2 + 4 * (job - 1).toNat + 3) v
    simp only [List.setIfInBounds_toArray] at h2
    rw [soC_set2 _ _ _ _ _ _ d _ hk] at h2
    rw [hw, (setJ_room S job _).1, (setJ_room S job _).2.1, (setJ_room S job _).2.2]
    exact h2
  · rcases List.mem_or_eq_of_mem_set hy with hy | rfl
    · exact (hr y hy).chg hc hN
    · exact ⟨(hr _ hm).1.chg hc (fun k hk hG => hk (hN k hG)), hv.chg hc (fun k hk hG => hk (hN k hG))⟩

set_option maxRecDepth 100000 in
theorem End_any (N : Fp) (g : Nat) (S : StoP) (job : Int) (w : World) (h : SoAt N w g S) (hS : OkS S) :
    Calls Try.prog 17 #[.pointer (some ⟨g, 0, none⟩), .int .i64 job] w fun e w' => e = .returned (.tuple #[]) ∧ SoAt N w' g (endS S job) ∧ Chg (fun k => k = g) w w' := by
  have HO := Lib.hid (of_any N g S job w h hS)
  have HS := Lib.hid h
  have HK := Lib.hid hS
  clear h hS
  go_enter Try.func17, Try.ntmps17
  go_wp2_with fail
  refine HO.out.mono ?_
  rintro e1 w1 ⟨b, o, rfl, hp, hx, hcase⟩
  obtain ⟨vc, vs, hcc⟩ := hp.cells
  obtain ⟨⟨c0, c1, c2, c3, c3'⟩, -⟩ := hcc w1 (Ext.refl _)
  have f0 := hp.fr o
  have f1 := hp.fr (o + 1)
  have f2 := hp.fr (o + 2)
  have f3 := hp.fr (o + 3)
  have HX := Lib.hid hx
  have HCA := Lib.hid hcase
  clear hp hcc hx hcase HO
  go_wp2
  go_end0
  refine ⟨rfl, ?_⟩
  rcases HCA.out with ⟨hj, rfl, rfl⟩ | ⟨hj, hb, rfl, hk⟩
  · have h1 := (HS.out.ext HX.out).put4 HK.out hj zLp (zLp_rd _ _) rfl
    exact ⟨h1.1, (Chg.of_ext HX.out).trans h1.2 (fun _ _ h => h)⟩
  · have hc := ((((Chg.refl (fun k => k = b) w1).set1 0 (.int .i64 0)).set1 (0 + 1) (.slice none 0 0)).set1 (0 + 2) (.int .i64 0)).set1 (0 + 3) (.slice none 0 0)
    have hx2 := hc.ext HX.out (fun k hk => by rw [hk]; exact hb)
    have e : endS S job = S := by unfold endS; rw [setJ_no hj]
    rw [e]
    exact ⟨HS.out.ext hx2, Chg.of_ext hx2⟩

set_option maxRecDepth 100000 in
theorem Commit_any (N : Fp) (g : Nat) (S : StoP) (job epoch : Int) (w : World) (h : SoAt N w g S) (hS : OkS S) :
    Calls Try.prog 20 #[.pointer (some ⟨g, 0, none⟩), .int .i64 job, .int .i64 epoch] w fun e w' =>
      e = .returned (.int .i64 (commitS S job epoch).1) ∧ SoAt N w' g (commitS S job epoch).2 ∧ Chg (fun k => k = g) w w' := by
  have HO := Lib.hid (of_any N g S job w h hS)
  have HS := Lib.hid h
  have HK := Lib.hid hS
  clear h hS
  go_enter Try.func20, Try.ntmps20
  go_wp2_with fail
  refine HO.out.mono ?_
  rintro e1 w1 ⟨b, o, rfl, hp, hx, hcase⟩
  obtain ⟨vc, vs, hcc⟩ := hp.cells
  have HC := Lib.hid hcc
  have HX := Lib.hid hx
  have HCA := Lib.hid hcase
  have HFR := Lib.hid (fun W (hw : Ext w1 W) (i : Nat) => (hp.ext hw).fr i)
  obtain ⟨⟨c0, c1, c2, c3, c3'⟩, -⟩ := hcc w1 (Ext.refl _)
  obtain ⟨p, hpp⟩ : ∃ p, p = ofJ S job := ⟨_, rfl⟩
  have HG : Hid (commitS S job epoch = if isC p.c epoch = true then (0, S) else if isC p.s epoch = true then (0, setJ S job ⟨p.s, zCk⟩) else (4, S)) := Lib.hid (by rw [hpp]; rfl)
  have HPP := Lib.hid hpp
  rw [← hpp] at HC c0 c2
  clear hp hx hcc hcase HO hpp
  cases h1 : isC p.c epoch with
  | true =>
    rw [h1, if_pos rfl] at HG
    have HI := Lib.hid (is_c p.c epoch true h1)
    clear h1
    go_wp2_with fail
    refine (HI.out _ _).mono ?_
    rintro e2 w2 ⟨rfl, hx2⟩
    have HX2 := Lib.hid (HX.out.trans hx2)
    clear hx2 HI
    go_wp2
    go_ret
    exact ⟨by rw [HG.out]; rfl, by rw [HG.out]; exact HS.out.ext HX2.out, Chg.of_ext HX2.out⟩
  | false =>
    rw [h1, if_neg (by decide)] at HG
    have HI := Lib.hid (is_c p.c epoch false h1)
    clear h1
    go_wp2_with fail
    refine (HI.out _ _).mono ?_
    rintro e2 w2 ⟨rfl, hx2⟩
    obtain ⟨⟨c0, c1, c2, c3, c3'⟩, -⟩ := HC.out w2 hx2
    have HX2 := Lib.hid hx2
    clear hx2 HI
    cases h1 : isC p.s epoch with
    | true =>
      rw [h1, if_pos rfl] at HG
      have HI := Lib.hid (is_c p.s epoch true h1)
      have HJ : Hid (isJ job = true) := Lib.hid (by
        cases hj : isJ job with
        | true => rfl
        | false => rw [HPP.out, ofJ_no hj] at h1; have := (isC_iff.1 h1).1; exact absurd this (by decide))
      clear h1
      go_wp2_with fail
      refine (HI.out _ _).mono ?_
      rintro e3 w3 ⟨rfl, hx3⟩
      obtain ⟨⟨c0, c1, c2, c3, c3'⟩, hr⟩ := HC.out w3 (HX2.out.trans hx3)
      have hf := HFR.out w3 (HX2.out.trans hx3)
      have f0 := hf o
      have f1 := hf (o + 1)
      have f2 := hf (o + 2)
      have f3 := hf (o + 3)
      have HX3 := Lib.hid (HX.out.trans (HX2.out.trans hx3))
      have HR := Lib.hid hr.2
      obtain ⟨As, cs, hvs, -⟩ := hr.2
      clear hr hx3 HI hf
      rw [List.length_map] at hvs
      have hvs : vs = .slice As p.s.da.length cs := hvs
      subst hvs
      go_wp2
      go_ret
      rw [HG.out]
      refine ⟨rfl, ?_⟩
      rcases HCA.out with ⟨hj, rfl, rfl⟩ | ⟨hj, -⟩
      · have h1 := (HS.out.ext HX3.out).put4 HK.out hj ⟨⟨p.s, zCk⟩, _, .slice none 0 0⟩ ⟨HR.out, RdF.nilF _ _⟩ rfl
        exact ⟨h1.1, (Chg.of_ext HX3.out).trans h1.2 (fun _ _ h => h)⟩
      · rw [HJ.out] at hj; cases hj
    | false =>
      rw [h1, if_neg (by decide)] at HG
      have HI := Lib.hid (is_c p.s epoch false h1)
      clear h1
      go_wp2_with fail
      refine (HI.out _ _).mono ?_
      rintro e3 w3 ⟨rfl, hx3⟩
      have HX3 := Lib.hid (HX.out.trans (HX2.out.trans hx3))
      clear hx3 HI
      go_wp2
      go_ret
      exact ⟨by rw [HG.out]; rfl, by rw [HG.out]; exact HS.out.ext HX3.out, Chg.of_ext HX3.out⟩

end Go.Proofs.Ytdnilcgpfcpfkaa

/- Package store: a new store, and Stage. -/
namespace Go.Proofs.Ytdnilcgpfcpfkaa
open Go.RowKit

theorem SoAt.count {N : Fp} {w : World} {g : Nat} {S : StoP} (h : SoAt N w g S) (hS : OkS S) (n : Int) : SoAt N (w.setCell ⟨g, 98, none⟩ (.int .i64 n)) g { S with writes := n } := by
  obtain ⟨lp, h1, hb, hr⟩ := h.out
  have hl : lp.length = 24 := by have := hS.len; rw [← h1, List.length_map] at this; exact this
  have hc := (Chg.refl (fun k => k = g) w).set1 98 (.int .i64 n)
  refine ⟨⟨lp, h1, ?_, fun x hx => (hr x hx).chg hc (fun k hk => by rw [hk]; exact h.here)⟩, h.isIn.chg hc, h.here⟩
  have h2 := hb.set_ 98 (.int .i64 n)
  rw [List.setIfInBounds_toArray, soC_setN _ _ _ _ _ hl] at h2
  exact h2
theorem Add_any (N : Fp) (g : Nat) (S : StoP) (w : World) (h : SoAt N w g S) (hS : OkS S) (h0 : 0 ≤ S.writes) (h1 : S.writes ≤ 1000000) :
    Calls Try.prog 58 #[.pointer (some ⟨g, 98, none⟩), .int .i64 1] w fun e w' => e = .returned (.int .i64 (S.writes + 1)) ∧ w' = w.setCell ⟨g, 98, none⟩ (.int .i64 (S.writes + 1)) := by
  obtain ⟨lp, -, hb, -⟩ := h.out
  have hc := h.c98 hS
  have hz := hb.frozen 98
  have hs : (Op.intArith .add .i64 S.writes 1).run Try.prog w = .ok (.int .i64 (S.writes + 1)) w := by
    simp [Op.intArith, go_sem]
    rw [IntWalk.i64_in _ (by omega)]
  have hcall := run_call_add (P := Try.prog) (f := 78) Try.func78 (by kernel_rfl) (by kernel_rfl) (by kernel_rfl) .i64 (by kernel_rfl) hc hz hs
  clear hb h hS hc hz hs
  go_enter Try.func58, Try.ntmps58
  go_wp2
  go_ret
  exact ⟨rfl, rfl⟩

theorem ext_drew11 {B : Nat} {a w : World} (h : Below B a w) : Below B a w.drew := Below.drewN' h 1

set_option maxRecDepth 100000 in
theorem Stage_any (N : Fp) (g : Nat) (S : StoP) (t job epoch : Int) (d : List UInt8) (A : Option Addr) (c : Nat) (w : World) (h : SoAt N w g S) (hS : OkS S) (hr : Rd w (.slice A d.length c) (d.map B)) (hd : d.length ≤ 1000000)
    (h0 : 0 ≤ S.writes) (h1 : S.writes ≤ 1000000) (hu : usedJ S.jobs ≤ 1000000) :
    Calls Try.prog 19 #[.pointer (some ⟨g, 0, none⟩), .int .i64 t, .int .i64 job, .int .i64 epoch, .slice A d.length c] w fun e w' =>
      e = .returned (.int .i64 (stageS S t job epoch d).1) ∧ SoAt N w' g (stageS S t job epoch d).2 ∧ Chg (fun k => k = g) w w' := by
  have HO := Lib.hid (of_any N g S job w h hS)
  have HS := Lib.hid h
  have HK := Lib.hid hS
  have HR := Lib.hid hr
  have HW := Lib.hid (And.intro h0 h1)
  have HJ := Lib.hid (fun W => isJob_any job W)
  have ho := hS.of job
  have HSL := Lib.hid ho.sl
  have HIN := Lib.hid h.isIn
  obtain ⟨nd, hnd⟩ : ∃ n, n = d.length := ⟨_, rfl⟩
  obtain ⟨R, hR⟩ : ∃ R, R = stageS S t job epoch d := ⟨_, rfl⟩
  have HRR := Lib.hid hR
  rw [← hR, ← hnd]
  unfold stageS at hR
  rw [← hnd] at hR hd
  have HND := Lib.hid hnd
  have HD := Lib.hid hd
  have HU := Lib.hid hu
  clear h hS hr h0 h1 hu ho hnd hd
  go_enter Try.func19, Try.ntmps19
  go_wp2_with fail
  refine HO.out.mono ?_
  rintro e1 w1 ⟨b, o, rfl, hp, hx, hcase⟩
  have HS1 := Lib.hid (HS.out.ext hx)
  have HX := Lib.hid hx
  have HCA := Lib.hid hcase
  have hsx := HS1.out
  obtain ⟨lp, -, hb, -⟩ := hsx.out
  have s1 : w1.cell? ⟨g, 1, none⟩ = some (.int .i64 S.term) := hb.cell 1
  have HP := Lib.hid hp
  clear hp hx hcase HO hsx hb
  -- an elder term
  by_cases c1 : t < S.term
  · have d1 : decide (t < S.term) = true := decide_eq_true c1
    rw [if_pos c1] at hR
    have HRE := Lib.hid hR
    clear c1 hR
    go_wp2
    go_ret
    exact ⟨by rw [HRE.out]; rfl, by rw [HRE.out]; exact HS1.out, Chg.of_ext HX.out⟩
  have d1 : decide (t < S.term) = false := decide_eq_false c1
  rw [if_neg c1] at hR
  have HRE := Lib.hid hR
  clear c1 hR
  -- an argument that isn't right
  have HARG : Hid (¬ (isJ job = true ∧ 1 ≤ epoch ∧ epoch ≤ 1000000 ∧ 1 ≤ nd ∧ nd ≤ 100) → R = (1, S)) := Lib.hid (fun hc => by rw [HRE.out, if_pos hc])
  cases hj : isJ job with
  | false =>
    have HI := Lib.hid (HJ.out w1)
    rw [hj] at HI HARG
    have HE : Hid (R = (1, S)) := Lib.hid (HARG.out (fun hc => by cases hc.1))
    clear hj
    go_wp2_with fail
    refine HI.out.mono ?_
    rintro e2 w2 ⟨rfl, rfl⟩
    go_wp2
    go_ret
    exact ⟨by rw [HE.out]; rfl, by rw [HE.out]; exact HS1.out, Chg.of_ext HX.out⟩
  | true =>
  have HI := Lib.hid (HJ.out w1)
  have HJT := Lib.hid hj
  rw [hj] at HI
  clear hj
  go_wp2_with fail
  refine HI.out.mono ?_
  rintro e2 w2 ⟨rfl, rfl⟩
  clear HI
  by_cases c2 : epoch < 1
  · have d2 : decide (epoch < 1) = true := decide_eq_true c2
    have HE : Hid (R = (1, S)) := Lib.hid (HARG.out (fun hc => by omega))
    clear c2
    go_wp2
    go_ret
    exact ⟨by rw [HE.out]; rfl, by rw [HE.out]; exact HS1.out, Chg.of_ext HX.out⟩
  have d2 : decide (epoch < 1) = false := decide_eq_false c2
  by_cases c3 : 1000000 < epoch
  · have d3 : decide ((1000000 : Int) < epoch) = true := decide_eq_true c3
    have HE : Hid (R = (1, S)) := Lib.hid (HARG.out (fun hc => by omega))
    clear c2 c3
    go_wp2
    go_ret
    exact ⟨by rw [HE.out]; rfl, by rw [HE.out]; exact HS1.out, Chg.of_ext HX.out⟩
  have d3 : decide ((1000000 : Int) < epoch) = false := decide_eq_false c3
  by_cases c4 : nd < 1
  · have d4 : decide ((nd : Int) < 1) = true := decide_eq_true (by omega)
    have HE : Hid (R = (1, S)) := Lib.hid (HARG.out (fun hc => by omega))
    clear c2 c3 c4
    go_wp2
    go_ret
    exact ⟨by rw [HE.out]; rfl, by rw [HE.out]; exact HS1.out, Chg.of_ext HX.out⟩
  have d4 : decide ((nd : Int) < 1) = false := decide_eq_false (by omega)
  by_cases c5 : 100 < nd
  · have d5 : decide ((100 : Int) < (nd : Int)) = true := decide_eq_true (by omega)
    have HE : Hid (R = (1, S)) := Lib.hid (HARG.out (fun hc => by omega))
    clear c2 c3 c4 c5
    go_wp2
    go_ret
    exact ⟨by rw [HE.out]; rfl, by rw [HE.out]; exact HS1.out, Chg.of_ext HX.out⟩
  have d5 : decide ((100 : Int) < (nd : Int)) = false := decide_eq_false (by omega)
  have HRE2 := Lib.hid (HRE.out.trans (if_neg (Classical.not_not.2 ⟨HJT.out, by omega, by omega, by omega, by omega⟩)))
  have HE1 : Hid (1 ≤ epoch ∧ 1 ≤ nd ∧ nd ≤ 100) := Lib.hid ⟨by omega, by omega, by omega⟩
  clear c2 c3 c4 c5 HARG HRE
  -- an elder epoch
  obtain ⟨hbg, hog⟩ : b = g ∧ o = 2 + 4 * (job - 1).toNat := by
    rcases HCA.out with ⟨-, h1, h2⟩ | ⟨h1, -⟩
    · exact ⟨h1, h2⟩
    · rw [HJT.out] at h1; cases h1
  have HOG := Lib.hid hog
  subst hbg
  clear hog HCA
  obtain ⟨vc, vs, hcc⟩ := HP.out.cells
  obtain ⟨⟨k0, k1, k2, k3, k3'⟩, hlr⟩ := hcc w1 (Ext.refl _)
  obtain ⟨p, hpp⟩ : ∃ p, p = ofJ S job := ⟨_, rfl⟩
  have HC := Lib.hid hcc
  have HPP := Lib.hid hpp
  rw [← hpp] at HC HRE2 HSL k0 k2
  obtain ⟨As, cs, hvs, -⟩ := hlr.2
  rw [List.length_map] at hvs
  replace hvs : vs = .slice As (ofJ S job).s.da.length cs := hvs
  rw [← hpp] at hvs
  obtain ⟨ns, hns⟩ : ∃ n, n = p.s.da.length := ⟨_, rfl⟩
  rw [← hns] at hvs HRE2 HSL
  subst hvs
  have HNS := Lib.hid hns
  have HFR := Lib.hid HP.out.fr
  clear hcc hlr hpp HP hns
  by_cases c6 : epoch ≤ p.c.ep
  · have d6 : decide (epoch ≤ p.c.ep) = true := decide_eq_true c6
    have HE : Hid (R = (6, S)) := Lib.hid (HRE2.out.trans (if_pos (.inl c6)))
    clear c6
    go_wp2
    go_ret
    exact ⟨by rw [HE.out]; rfl, by rw [HE.out]; exact HS1.out, Chg.of_ext HX.out⟩
  have d6 : decide (epoch ≤ p.c.ep) = false := decide_eq_false c6
  by_cases c7 : epoch < p.s.ep
  · have d7 : decide (epoch < p.s.ep) = true := decide_eq_true c7
    have HE : Hid (R = (6, S)) := Lib.hid (HRE2.out.trans (if_pos (.inr c7)))
    clear c6 c7
    go_wp2
    go_ret
    exact ⟨by rw [HE.out]; rfl, by rw [HE.out]; exact HS1.out, Chg.of_ext HX.out⟩
  have d7 : decide (epoch < p.s.ep) = false := decide_eq_false c7
  have HRE3 := Lib.hid (HRE2.out.trans (if_neg (fun hc => by rcases hc with hc | hc; exact c6 hc; exact c7 hc)))
  clear c6 c7 HRE2
  -- it is staged already
  cases h1 : isC p.s epoch with
  | true =>
    have HE : Hid (R = (0, S)) := Lib.hid (HRE3.out.trans (if_pos h1))
    have HI := Lib.hid (is_c p.s epoch true h1)
    clear h1
    go_wp2_with fail
    refine (HI.out _ _).mono ?_
    rintro e3 w3 ⟨rfl, hx3⟩
    have HX3 := Lib.hid hx3
    clear hx3 HI
    go_wp2
    go_ret
    exact ⟨by rw [HE.out]; rfl, by rw [HE.out]; exact HS1.out.ext HX3.out, Chg.of_ext (HX.out.trans HX3.out)⟩
  | false =>
  have HRE4 := Lib.hid (HRE3.out.trans (if_neg (by rw [h1]; decide)))
  have HI := Lib.hid (is_c p.s epoch false h1)
  clear h1 HRE3
  go_wp2_with fail
  refine (HI.out _ _).mono ?_
  rintro e3 w3 ⟨rfl, hx3⟩
  obtain ⟨⟨k0, k1, k2, k3, k3'⟩, -⟩ := HC.out w3 hx3
  have HX3 := Lib.hid (HX.out.trans hx3)
  have HS3 := Lib.hid (HS1.out.ext hx3)
  have HXX := Lib.hid hx3
  clear hx3 HI HS1
  obtain ⟨U, hU⟩ : ∃ U, U = usedJ S.jobs := ⟨_, rfl⟩
  have HUL : Hid (U ≤ 1000000) := Lib.hid (by rw [hU]; exact HU.out)
  have K1 : Hid (∀ W, Ext w3 W → Calls Try.prog 22 #[.pointer (some ⟨b, 0, none⟩)] W fun e w' => e = .returned (.int .i64 (U : Int)) ∧ Ext w3 w') := Lib.hid fun W hW => by
    have h9 := HU.out
    refine (Used_any N b S W (HS3.out.ext hW) HK.out (by omega)).mono ?_
    rintro e w' ⟨rfl, hh⟩
    exact ⟨by rw [hU], hW.trans hh⟩
  have HCS : Hid (∀ W, Ext w3 W → W.cell? ⟨b, o + 3, none⟩ = some (.slice As ns cs) ∧ W.cell? ⟨b, 0, none⟩ = some (.int .i64 S.room)) := Lib.hid fun W hW => by
    have h5 := HC.out W (HXX.out.trans hW)
    have h6 := HS3.out.ext hW
    obtain ⟨lp, -, hb, -⟩ := h6.out
    exact ⟨h5.1.2.2.2.1, hb.cell 0⟩
  rw [← hU] at HRE4
  clear hU
  have hw1 : IntKind.i64.wrap ((U : Int) - (ns : Int)) = (U : Int) - (ns : Int) := IntWalk.i64_in _ (by have := HUL.out; have := HSL.out; omega)
  obtain ⟨M, hM⟩ : ∃ M, M = (U : Int) - (ns : Int) + (nd : Int) := ⟨_, rfl⟩
  have HM := Lib.hid hM
  have hw2 : IntKind.i64.wrap ((U : Int) - (ns : Int) + (nd : Int)) = M := by rw [hM]; exact IntWalk.i64_in _ (by have := HUL.out; have := HSL.out; have := HD.out; omega)
  rw [← hM] at HRE4
  clear hM k0 k1 k2 k3 k3' s1
  have hge : Ext w3 w3 := Ext.refl w3
  go_wp2_with fail
  go_region_held3 (fun W => W.cell? ⟨b, o + 3, none⟩ = some (.slice As ns cs) ∧ W.cell? ⟨b, 0, none⟩ = some (.int .i64 S.room)) (first | exact HCS.out _ y1 | exact HCS.out _ (Ext.refl _) | exact HCS.out _ (ext_drew11 (Ext.refl _)) | go_keep) (first | (go_at_call 22; (first | (with_reducible refine (K1.out _ (Ext.refl w3)).mono ?_) | (with_reducible refine (K1.out _ (ext_drew11 (Ext.refl w3))).mono ?_)); rintro e4 w4 ⟨rfl, y1⟩))
  have HX4 := Lib.hid (HX3.out.trans y1)
  have HX14 := Lib.hid (HXX.out.trans y1)
  have HS4 := Lib.hid (HS3.out.ext y1)
  clear y1 HCS K1 HS3 HX3 HXX hw1 hw2 hge
  by_cases c8 : S.room < M
  · have d8 : decide (S.room < M) = true := decide_eq_true c8
    have HE : Hid (R = (3, S)) := Lib.hid (HRE4.out.trans (if_pos c8))
    clear c8
    rw [d8]
    go_wp2
    go_ret
    exact ⟨by rw [HE.out]; rfl, by rw [HE.out]; exact HS4.out, Chg.of_ext HX4.out⟩
  have d8 : decide (S.room < M) = false := decide_eq_false c8
  have HE : Hid (R = (0, { setJ S job ⟨p.c, ⟨epoch, d⟩⟩ with writes := S.writes + 1 })) := Lib.hid (by rw [HRE4.out, if_neg c8])
  have HCN : Hid (Calls Try.prog 56 #[.slice A nd c] w4 fun e w' => ∃ v', e = .returned v' ∧ Grew w4.heap.size 5 (.slice none 0 0) w4 (d.map B) v' w') := Lib.hid (by
    have h1 := HR.out.ext HX4.out
    rw [← HND.out] at h1
    exact Clone_any d _ w4 h1 (by have := HD.out; rw [HND.out] at this; omega))
  clear c8 HRE4
  rw [d8]
  go_wp2_with fail
  refine HCN.out.mono ?_
  rintro e5 w5 ⟨v5, rfl, hg5⟩
  have hv5 := RdF.made (HIN.out.ext HX4.out) hg5
  obtain ⟨A5, c5, hv⟩ := own_slice hg5.1
  rw [List.length_map] at hv
  subst hv
  have hx5 := hg5.ext
  have hs5 := HS4.out.ext hx5
  obtain ⟨h6, hc6⟩ := hs5.put2 HK.out HJT.out epoch d _ hv5 rfl
  rw [← HOG.out, ← HPP.out] at h6
  rw [← HOG.out] at hc6
  obtain ⟨lp5, -, hb5, -⟩ := hs5.out
  have f2 := hb5.frozen (o + 2)
  have f3 := hb5.frozen (o + 3)
  have f3' := hb5.frozen (o + 2 + 1)
  obtain ⟨⟨k0, k1, k2, k3, k3'⟩, -⟩ := HC.out w5 (HX14.out.trans hx5)
  have H6 := Lib.hid h6
  have HC6 := Lib.hid hc6
  have HX5 := Lib.hid (HX4.out.trans hx5)
  clear h6 hc6 hx5 hs5 hb5 hv5 hg5 HCN
  have HOK : Hid (OkS (setJ S job ⟨p.c, ⟨epoch, d⟩⟩)) := Lib.hid (by
    have h9 := HK.out.stage t job epoch d
    rw [← HRR.out, HE.out] at h9
    exact ⟨h9.len, h9.each, h9.room, h9.term⟩)
  have HWR : Hid ((setJ S job ⟨p.c, ⟨epoch, d⟩⟩).writes = S.writes) := Lib.hid (setJ_room _ _ _).2.2
  go_wp2_with fail
  refine (Add_any N b (setJ S job ⟨p.c, ⟨epoch, d⟩⟩) _ H6.out HOK.out (by rw [HWR.out]; exact HW.out.1) (by rw [HWR.out]; exact HW.out.2)).mono ?_
  rintro e6 w6 ⟨rfl, rfl⟩
  have h7 := H6.out.count HOK.out (S.writes + 1)
  have HC7 := Lib.hid ((Chg.of_ext HX5.out).trans (HC6.out.set1 98 (.int .i64 (S.writes + 1))) (fun _ _ h => h))
  have H7 := Lib.hid h7
  clear h7
  rw [HWR.out]
  go_wp2
  go_ret
  refine ⟨by rw [HE.out]; rfl, by rw [HE.out]; exact H7.out, HC7.out⟩

end Go.Proofs.Ytdnilcgpfcpfkaa

/- Package store: a new store; what a nil one answers. -/
namespace Go.Proofs.Ytdnilcgpfcpfkaa
open Go.RowKit

theorem soC_new (r : Int) : Try.zeroCells88.setIfInBounds 0 (.int .i64 r) = (soC r 0 (List.replicate 24 zLp) 0).toArray := by kernel_rfl

set_option maxRecDepth 100000 in
theorem New_any (room : Int) (w : World) :
    Calls Try.prog 25 #[.int .i64 room] w fun e w' => e = .returned (.pointer (some ⟨w.heap.size, 0, none⟩)) ∧ Ext w w' ∧ w.heap.size < w'.heap.size ∧
      ∀ N : Fp, N.isIn w' → N w.heap.size → SoAt N w' w.heap.size (newS room) := by
  go_enter Try.func25, Try.ntmps25
  go_wp2
  go_ret
  refine ⟨rfl, (Below.refl _ _).alloc (Nat.le_refl _) _, by simp, fun N hN hg => ⟨⟨List.replicate 24 zLp, rfl, ?_, fun x hx => by rw [List.eq_of_mem_replicate hx]; exact zLp_rd _ _⟩, hN, hg⟩⟩
  rw [soC_new]
  exact Blk.new _ _ _

/-! A nil store. -/
theorem of_nil (job : Int) (w : World) :
    Calls Try.prog 54 #[.pointer none, .int .i64 job] w fun e w' => ∃ b, e = .returned (.pointer (some ⟨b, 0, none⟩)) ∧ Ext w w' ∧ w.heap.size ≤ b ∧ Blk w' b 85 #[.int .i64 0, .slice none 0 0, .int .i64 0, .slice none 0 0] := by
  go_enter Try.func54, Try.ntmps54
  go_wp2
  go_ret
  exact ⟨_, rfl, (Below.refl _ _).alloc (Nat.le_refl _) _, Nat.le_refl _, Blk.new _ _ _⟩
theorem Fence_nil (t : Int) (w : World) : Calls Try.prog 16 #[.pointer none, .int .i64 t] w fun e w' => e = .returned (.tuple #[]) ∧ Ext w w' := by
  go_enter Try.func16, Try.ntmps16
  go_wp2
  go_end0
  exact ⟨rfl, Ext.refl _⟩
theorem Term_nil (w : World) : Calls Try.prog 23 #[.pointer none] w fun e w' => e = .returned (.int .i64 0) ∧ Ext w w' := by
  go_enter Try.func23, Try.ntmps23
  go_wp2
  go_ret
  exact ⟨rfl, Ext.refl _⟩
theorem Writes_nil (w : World) : Calls Try.prog 24 #[.pointer none] w fun e w' => e = .returned (.int .i64 0) ∧ Ext w w' := by
  go_enter Try.func24, Try.ntmps24
  go_wp2
  go_ret
  exact ⟨rfl, Ext.refl _⟩
theorem Used_nil (w : World) : Calls Try.prog 22 #[.pointer none] w fun e w' => e = .returned (.int .i64 0) ∧ Ext w w' := by
  go_enter Try.func22, Try.ntmps22
  go_wp2
  go_ret
  exact ⟨rfl, Ext.refl _⟩
theorem Stage_nil (t job e : Int) (v : Value) (w : World) : Calls Try.prog 19 #[.pointer none, .int .i64 t, .int .i64 job, .int .i64 e, v] w fun e w' => e = .returned (.int .i64 1) ∧ Ext w w' := by
  go_enter Try.func19, Try.ntmps19
  go_wp2
  go_ret
  exact ⟨rfl, Ext.refl _⟩
theorem Commit_nil (job e : Int) (w : World) : Calls Try.prog 20 #[.pointer none, .int .i64 job, .int .i64 e] w fun e w' => e = .returned (.int .i64 1) ∧ Ext w w' := by
  go_enter Try.func20, Try.ntmps20
  go_wp2
  go_ret
  exact ⟨rfl, Ext.refl _⟩
theorem Counts_nil (job : Int) (w : World) : Calls Try.prog 21 #[.pointer none, .int .i64 job] w fun e w' => e = .returned (.int .i64 0) ∧ Ext w w' := by
  go_enter Try.func21, Try.ntmps21
  go_wp2_with fail
  refine (of_nil job w).mono ?_
  rintro e1 w1 ⟨b, rfl, hx, -, hb⟩
  have c0 : w1.cell? ⟨b, 0, none⟩ = some (.int .i64 0) := hb.cell 0
  have HX := Lib.hid hx
  clear hx hb
  go_wp2
  go_ret
  exact ⟨rfl, HX.out⟩
theorem End_nil (job : Int) (w : World) : Calls Try.prog 17 #[.pointer none, .int .i64 job] w fun e w' => e = .returned (.tuple #[]) ∧ Ext w w' := by
  go_enter Try.func17, Try.ntmps17
  go_wp2_with fail
  refine (of_nil job w).mono ?_
  rintro e1 w1 ⟨b, rfl, hx, hlb, hb⟩
  have c0 : w1.cell? ⟨b, 0, none⟩ = some (.int .i64 0) := hb.cell 0
  have c1 : w1.cell? ⟨b, 1, none⟩ = some (.slice none 0 0) := hb.cell 1
  have c2 : w1.cell? ⟨b, 2, none⟩ = some (.int .i64 0) := hb.cell 2
  have c3 : w1.cell? ⟨b, 3, none⟩ = some (.slice none 0 0) := hb.cell 3
  have f0 := hb.frozen 0
  have f1 := hb.frozen 1
  have f2 := hb.frozen 2
  have f3 := hb.frozen 3
  have HX := Lib.hid (fun (W : World) (hc : Chg (fun k => k = b) w1 W) => hc.ext hx (fun k hk => by rw [hk]; exact hlb))
  clear hx hb hlb
  go_wp2
  go_end0
  exact ⟨rfl, HX.out _ (((((Chg.refl _ _).set1 _ _).set1 _ _).set1 _ _).set1 _ _)⟩
theorem Get_nil (job e : Int) (w : World) : Calls Try.prog 18 #[.pointer none, .int .i64 job, .int .i64 e] w fun x w' => x = .returned (.tuple #[.slice none 0 0, .bool false]) ∧ Ext w w' := by
  go_enter Try.func18, Try.ntmps18
  go_wp2_with fail
  refine (of_nil job w).mono ?_
  rintro e1 w1 ⟨b, rfl, hx, -, hb⟩
  have c0 : w1.cell? ⟨b, 0, none⟩ = some (.int .i64 0) := hb.cell 0
  have c1 : w1.cell? ⟨b, 1, none⟩ = some (.slice none 0 0) := hb.cell 1
  have HX := Lib.hid hx
  have HB := Lib.hid hb
  clear hx hb
  go_wp2_with fail
  refine (is_c zCk e false (by simp [isC, zCk]) (.slice none 0 0) w1).mono ?_
  rintro e2 w2 ⟨rfl, hx2⟩
  have hb := HB.out.ext hx2
  have c2 : w2.cell? ⟨b, 2, none⟩ = some (.int .i64 0) := hb.cell 2
  have c3 : w2.cell? ⟨b, 3, none⟩ = some (.slice none 0 0) := hb.cell 3
  have HX2 := Lib.hid (HX.out.trans hx2)
  clear hx2 hb
  go_wp2_with fail
  refine (is_c zCk e false (by simp [isC, zCk]) (.slice none 0 0) w2).mono ?_
  rintro e3 w3 ⟨rfl, hx3⟩
  have HX3 := Lib.hid (HX2.out.trans hx3)
  clear hx3
  go_wp2
  go_ret2
  exact ⟨rfl, HX3.out⟩

end Go.Proofs.Ytdnilcgpfcpfkaa

/- Package store: a store as a statement uses it, alone. -/
namespace Go.Proofs.Ytdnilcgpfcpfkaa
open Go.RowKit

theorem usedJ_all : ∀ l : List PrP, (∀ p ∈ l, OkP p) → usedJ l ≤ 200 * l.length
  | [], _ => Nat.le_refl _
  | a :: l, h => by
    have h1 := usedJ_all l fun p hp => h p (by simp [hp])
    have h2 := h a (by simp)
    have h3 := h2.cl
    have h4 := h2.sl
    simp only [usedJ, List.map_cons, List.sum_cons, List.length_cons, wtP] at h1 ⊢
    omega
theorem OkS.used_le {S : StoP} (h : OkS S) : usedJ S.jobs ≤ 4800 := by have h1 := usedJ_all S.jobs h.each; have h2 := h.len; omega
abbrev G1 (g : Nat) : Fp := fun k => k = g
/-- The store at g was made since w; n: how often something was staged, at most. -/
structure SW (w W : World) (g : Nat) (S : StoP) (n : Nat) : Prop where
  so : SoAt (G1 g) W g S
  ok : OkS S
  ext : Ext w W
  low : w.heap.size ≤ g
  wr : 0 ≤ S.writes ∧ S.writes ≤ (n : Int)

section
variable {w W W' : World} {g n : Nat} {S : StoP}
theorem SW.more (h : SW w W g S n) (hx : Ext W W') : SW w W' g S n := ⟨h.so.ext hx, h.ok, h.ext.trans hx, h.low, h.wr⟩
theorem SW.new {w W : World} (hx : Ext w W) (room : Int) : Calls Try.prog 25 #[.int .i64 room] W fun e w' => ∃ g, e = .returned (.pointer (some ⟨g, 0, none⟩)) ∧ SW w w' g (newS room) 0 :=
  (New_any room W).mono (by
    rintro e w' ⟨rfl, hx2, hl, hm⟩
    exact ⟨_, rfl, hm _ (fun k hk => by rw [hk]; exact hl) rfl, okS_new room, hx.trans hx2, hx.size, Int.le_refl 0, Int.le_refl 0⟩)
theorem SW.stage (h : SW w W g S n) (hn : n ≤ 1000) (t j e : Int) (d : List UInt8) (A : Option Addr) (c : Nat) (hr : Rd W (.slice A d.length c) (d.map B)) (hd : d.length ≤ 1000) :
    Calls Try.prog 19 #[.pointer (some ⟨g, 0, none⟩), .int .i64 t, .int .i64 j, .int .i64 e, .slice A d.length c] W fun x w' =>
      x = .returned (.int .i64 (stageS S t j e d).1) ∧ SW w w' g (stageS S t j e d).2 (n + 1) ∧ Chg (G1 g) W w' :=
  (Stage_any (G1 g) g S t j e d A c W h.so h.ok hr (by omega) h.wr.1 (by have := h.wr.2; omega) (by have := h.ok.used_le; omega)).mono (by
    rintro x w' ⟨rfl, hs, hc⟩
    have hw := stage_room S t j e d
    exact ⟨rfl, ⟨hs, h.ok.stage _ _ _ _, hc.ext h.ext (fun k hk => by have hk : k = g := hk; rw [hk]; exact h.low), h.low, by have := h.wr; omega, by have := h.wr; omega⟩, hc⟩)
theorem SW.commit (h : SW w W g S n) (j e : Int) :
    Calls Try.prog 20 #[.pointer (some ⟨g, 0, none⟩), .int .i64 j, .int .i64 e] W fun x w' =>
      x = .returned (.int .i64 (commitS S j e).1) ∧ SW w w' g (commitS S j e).2 n ∧ Chg (G1 g) W w' :=
  (Commit_any (G1 g) g S j e W h.so h.ok).mono (by
    rintro x w' ⟨rfl, hs, hc⟩
    have hw := commit_room S j e
    exact ⟨rfl, ⟨hs, h.ok.commit _ _, hc.ext h.ext (fun k hk => by have hk : k = g := hk; rw [hk]; exact h.low), h.low, by have := h.wr; omega, by have := h.wr; omega⟩, hc⟩)
theorem SW.end_ (h : SW w W g S n) (j : Int) :
    Calls Try.prog 17 #[.pointer (some ⟨g, 0, none⟩), .int .i64 j] W fun x w' => x = .returned (.tuple #[]) ∧ SW w w' g (endS S j) n ∧ Chg (G1 g) W w' :=
  (End_any (G1 g) g S j W h.so h.ok).mono (by
    rintro x w' ⟨rfl, hs, hc⟩
    have hw := setJ_room S j zPr
    exact ⟨rfl, ⟨hs, h.ok.end_ _, hc.ext h.ext (fun k hk => by have hk : k = g := hk; rw [hk]; exact h.low), h.low, by unfold endS; have := h.wr; omega, by unfold endS; have := h.wr; omega⟩, hc⟩)
theorem SW.fence (h : SW w W g S n) (t : Int) :
    Calls Try.prog 16 #[.pointer (some ⟨g, 0, none⟩), .int .i64 t] W fun x w' => x = .returned (.tuple #[]) ∧ SW w w' g (fenceS S t) n ∧ Chg (G1 g) W w' :=
  (Fence_any (G1 g) g S t W h.so).mono (by
    rintro x w' ⟨rfl, hs, hc⟩
    exact ⟨rfl, ⟨hs, h.ok.fence _, hc.ext h.ext (fun k hk => by have hk : k = g := hk; rw [hk]; exact h.low), h.low, h.wr⟩, hc⟩)
theorem SW.get (h : SW w W g S n) (j e : Int) :
    Calls Try.prog 18 #[.pointer (some ⟨g, 0, none⟩), .int .i64 j, .int .i64 e] W fun x w' =>
      ∃ v, x = .returned (.tuple #[v, .bool (getS S j e).2]) ∧ RdF (fun k => ¬ G1 g k) w' v ((getS S j e).1.map B) ∧ SW w w' g S n ∧ Ext W w' :=
  (Get_any (G1 g) g S j e W h.so h.ok).mono (by
    rintro x w' ⟨v, rfl, hv, hx⟩
    exact ⟨v, rfl, hv, h.more hx, hx⟩)
theorem SW.counts (h : SW w W g S n) (j : Int) :
    Calls Try.prog 21 #[.pointer (some ⟨g, 0, none⟩), .int .i64 j] W fun x w' => x = .returned (.int .i64 (ofJ S j).c.ep) ∧ SW w w' g S n ∧ Ext W w' :=
  (Counts_any (G1 g) g S j W h.so h.ok).mono (by
    rintro x w' ⟨rfl, hx⟩
    exact ⟨rfl, h.more hx, hx⟩)
theorem SW.used (h : SW w W g S n) :
    Calls Try.prog 22 #[.pointer (some ⟨g, 0, none⟩)] W fun x w' => x = .returned (.int .i64 (usedJ S.jobs : Int)) ∧ SW w w' g S n ∧ Ext W w' :=
  (Used_any (G1 g) g S W h.so h.ok (by have := h.ok.used_le; omega)).mono (by
    rintro x w' ⟨rfl, hx⟩
    exact ⟨rfl, h.more hx, hx⟩)
theorem SW.writes (h : SW w W g S n) :
    Calls Try.prog 24 #[.pointer (some ⟨g, 0, none⟩)] W fun x w' => x = .returned (.int .i64 S.writes) ∧ W = w' := Writes_any (G1 g) g S W h.so h.ok
theorem SW.term (h : SW w W g S n) :
    Calls Try.prog 23 #[.pointer (some ⟨g, 0, none⟩)] W fun x w' => x = .returned (.int .i64 S.term) ∧ W = w' := Term_any (G1 g) g S W h.so
end

end Go.Proofs.Ytdnilcgpfcpfkaa

/- Layer 11's statements: the document's example. -/
namespace Go.Proofs.Ytdnilcgpfcpfkaa
open Go.RowKit

set_option maxRecDepth 100000 in
set_option maxHeartbeats 4000000 in
theorem alive11_any (w : World) : Calls Try.prog 14 #[] w fun e w' => e = .returned (.bool true) ∧ Ext w w' := by
  have kc := fun (w : World) (C : Array Value) (n c : Nat) => Lib.run_convert_bytes_const (P := Try.prog) w 27 5 C n c Try.underlying27 Try.underlying5
  go_enter Try.func14, Try.ntmps14
  go_wp2_with fail
  refine (New_any 5 w).mono ?_
  rintro e0 w0 ⟨rfl, hx0, hl0, hm0⟩
  have HS0 := Lib.hid (hm0 (fun k => k = w.heap.size) (fun k hk => by rw [hk]; exact hl0) rfl)
  have HX0 := Lib.hid hx0
  clear hx0 hl0 hm0
  obtain ⟨u0, hu0⟩ : ∃ u, u = w0.alloc (.cells #[.int .u8 97, .int .u8 98, .int .u8 99] 5 (3, 4)) := ⟨_, rfl⟩
  have hz0 : u0.heap.size = w0.heap.size + 1 := by rw [hu0]; simp
  have hy0 : Ext w0 u0 := by rw [hu0]; exact (Below.refl _ _).alloc (Nat.le_refl _) _
  have hr0 : Rd u0 (.slice (some ⟨w0.heap.size, 0, none⟩) 3 3) (([97, 98, 99] : List UInt8).map B) := by rw [hu0]; exact Rd.litM w0 [97, 98, 99] _ _ 3 _ (3, 4) (by decide) (by simp [B]) rfl rfl
  have HC0 := Lib.hid (Stage_any (fun k => k = w.heap.size) w.heap.size exSa 0 1 2 [97, 98, 99] (some ⟨w0.heap.size, 0, none⟩) 3 u0 (HS0.out.ext hy0) exS_a hr0 (by decide) (by decide) (by decide) (by decide))
  have HY0 := Lib.hid (HX0.out.trans hy0)
  clear hz0 hy0 hr0
  go_wp2_with fail
  rw [← hu0]
  clear hu0
  refine HC0.out.mono ?_
  rintro e1 w1 ⟨rfl, hs, hc⟩
  have HX1 := Lib.hid (hc.ext HY0.out (fun k hk => by rw [hk]; exact Nat.le_refl _))
  have HS1 : Hid (SoAt (fun k => k = w.heap.size) w1 w.heap.size exSb) := Lib.hid hs
  rw [exS_1]
  clear hs hc HC0 HS0 HX0 HY0
  go_wp2_with fail
  refine (Commit_any (fun k => k = w.heap.size) w.heap.size exSb 1 2 w1 HS1.out exS_b).mono ?_
  rintro e2 w2 ⟨rfl, hs, hc⟩
  have HX2 := Lib.hid (hc.ext HX1.out (fun k hk => by rw [hk]; exact Nat.le_refl _))
  have HS2 : Hid (SoAt (fun k => k = w.heap.size) w2 w.heap.size exSc) := Lib.hid hs
  rw [exS_2]
  clear hs hc HS1 HX1
  go_wp2_with fail
  refine (Get_any (fun k => k = w.heap.size) w.heap.size exSc 1 2 w2 HS2.out exS_c).mono ?_
  rintro e3 w3 ⟨v3, rfl, hv3, hx3⟩
  rw [exS_3] at hv3 ⊢
  have HS3 := Lib.hid (HS2.out.ext hx3)
  have HX3 := Lib.hid (HX2.out.trans hx3)
  have HV3 := Lib.hid hv3.rd
  obtain ⟨A3, c3, hv, -⟩ := hv3.rd.sliceN (n := 3) rfl
  subst hv
  clear hv3 hx3 HS2 HX2
  have hcv := run_conv_rd (P := Try.prog) w3 27 9 5 Try.underlying27 Try.underlying5 Try.underlying9 (.slice A3 3 c3) [97, 98, 99] HV3.out
  obtain ⟨u3, hu3⟩ : ∃ u, u = w3.alloc (.cells #[.int .u8 120, .int .u8 121, .int .u8 122] 5 (3, 4)) := ⟨_, rfl⟩
  have hz3 : u3.heap.size = w3.heap.size + 1 := by rw [hu3]; simp
  have hy3 : Ext w3 u3 := by rw [hu3]; exact (Below.refl _ _).alloc (Nat.le_refl _) _
  have hr3 : Rd u3 (.slice (some ⟨w3.heap.size, 0, none⟩) 3 3) (([120, 121, 122] : List UInt8).map B) := by rw [hu3]; exact Rd.litM w3 [120, 121, 122] _ _ 3 _ (3, 4) (by decide) (by simp [B]) rfl rfl
  have HC3 := Lib.hid (Stage_any (fun k => k = w.heap.size) w.heap.size exSc 0 1 3 [120, 121, 122] (some ⟨w3.heap.size, 0, none⟩) 3 u3 (HS3.out.ext hy3) exS_c hr3 (by decide) (by rw [exS_8]; decide) (by rw [exS_8]; decide) (by rw [exS_6]; decide))
  have HY3 := Lib.hid (HX3.out.trans hy3)
  clear hz3 hy3 hr3
  go_wp2_with fail
  rw [← hu3]
  clear hu3
  refine HC3.out.mono ?_
  rintro e4 w4 ⟨rfl, hs, hc⟩
  have HX4 := Lib.hid (hc.ext HY3.out (fun k hk => by rw [hk]; exact Nat.le_refl _))
  rw [exS_4'] at hs
  rw [exS_4]
  have HS4 : Hid (SoAt (fun k => k = w.heap.size) w4 w.heap.size exSc) := Lib.hid hs
  clear hs hc HC3 HS3 HX3 HY3 hcv HV3
  obtain ⟨u4, hu4⟩ : ∃ u, u = w4.alloc (.cells #[.int .u8 120] 5 (1, 2)) := ⟨_, rfl⟩
  have hz4 : u4.heap.size = w4.heap.size + 1 := by rw [hu4]; simp
  have hy4 : Ext w4 u4 := by rw [hu4]; exact (Below.refl _ _).alloc (Nat.le_refl _) _
  have hr4 : Rd u4 (.slice (some ⟨w4.heap.size, 0, none⟩) 1 1) (([120] : List UInt8).map B) := by rw [hu4]; exact Rd.litM w4 [120] _ _ 1 _ (1, 2) (by decide) (by simp [B]) rfl rfl
  have HC4 := Lib.hid (Stage_any (fun k => k = w.heap.size) w.heap.size exSc 0 1 2 [120] (some ⟨w4.heap.size, 0, none⟩) 1 u4 (HS4.out.ext hy4) exS_c hr4 (by decide) (by rw [exS_8]; decide) (by rw [exS_8]; decide) (by rw [exS_6]; decide))
  have HY4 := Lib.hid (HX4.out.trans hy4)
  clear hz4 hy4 hr4
  go_wp2_with fail
  rw [← hu4]
  clear hu4
  refine HC4.out.mono ?_
  rintro e5 w5 ⟨rfl, hs, hc⟩
  have HX5 := Lib.hid (hc.ext HY4.out (fun k hk => by rw [hk]; exact Nat.le_refl _))
  rw [exS_5'] at hs
  rw [exS_5]
  have HS5 : Hid (SoAt (fun k => k = w.heap.size) w5 w.heap.size exSc) := Lib.hid hs
  clear hs hc HC4 HS4 HX4 HY4
  go_wp2_with fail
  refine (Used_any (fun k => k = w.heap.size) w.heap.size exSc w5 HS5.out exS_c (by rw [exS_6]; decide)).mono ?_
  rintro e6 w6 ⟨rfl, hx6⟩
  rw [exS_6]
  have HS6 := Lib.hid (HS5.out.ext hx6)
  have HX6 := Lib.hid (HX5.out.trans hx6)
  clear hx6 HS5 HX5
  go_wp2_with fail
  refine (Counts_any (fun k => k = w.heap.size) w.heap.size exSc 1 w6 HS6.out exS_c).mono ?_
  rintro e7 w7 ⟨rfl, hx7⟩
  rw [exS_7]
  have HS7 := Lib.hid (HS6.out.ext hx7)
  have HX7 := Lib.hid (HX6.out.trans hx7)
  clear hx7 HS6 HX6
  go_wp2_with fail
  refine (Writes_any (fun k => k = w.heap.size) w.heap.size exSc w7 HS7.out exS_c).mono ?_
  rintro e8 w8 ⟨rfl, rfl⟩
  rw [exS_8]
  go_wp2_with fail
  refine (Term_any (fun k => k = w.heap.size) w.heap.size exSc w7 HS7.out).mono ?_
  rintro e9 w9 ⟨rfl, rfl⟩
  rw [exS_9]
  go_wp2
  go_ret
  exact ⟨rfl, HX7.out⟩

end Go.Proofs.Ytdnilcgpfcpfkaa

/- The reference's words for 'the same bytes'. -/
namespace Go.Proofs.Ytdnilcgpfcpfkaa
open Go.RowKit

set_option maxHeartbeats 1000000 in
theorem Bytes_any (xs ys : List UInt8) (u v : Value) (w : World) (hu : Rd w u (xs.map B)) (hv : Rd w v (ys.map B)) :
    Calls Try.prog 29 #[u, v] w fun e w' => e = .returned (.bool (decide (xs = ys))) ∧ ∃ n, w' = w.drewN n := by
  obtain ⟨A, c, rfl, hlc, hcm, hca⟩ := hu
  obtain ⟨A', c', rfl, hlc', hcm', hcb⟩ := hv
  simp only [List.length_map] at *
  unfold maxLen at hcm hcm'
  by_cases hl : xs.length = ys.length
  · have HL := Lib.hid hl
    rw [hl] at hlc hca ⊢
    clear hl
    go_enter Try.func29, Try.ntmps29
    go_wp2
    go_loopw [5] (fun i' wr => ∃ i k : Nat, i' = .int .i64 i ∧ i ≤ ys.length ∧ xs.take i = ys.take i ∧ wr = w.drewN k) (fun i' _ => ys.length - (intOf i').toNat)
    case atStart => exact ⟨0, 0, rfl, by omega, rfl, rfl⟩
    case round =>
      obtain ⟨i, k, rfl, hi, htk, rfl⟩ := hrel
      have HT := Lib.hid htk
      clear htk
      by_cases hlt : i < ys.length
      · have hlx : i < xs.length := by have := HL.out; omega
        obtain ⟨b, o, rfl, hb, hc1⟩ := hca (by omega)
        obtain ⟨b', o', rfl, hb', hc2⟩ := hcb (by omega)
        have e1 : w.cell? ⟨b, o + i, none⟩ = some (B xs[i]) := hc1 i _ (by simp [hlx])
        have e2 : w.cell? ⟨b', o' + i, none⟩ = some (B ys[i]) := hc2 i _ (by simp [hlt])
        clear hc1 hc2 hca hcb
        generalize hx : xs[i] = x at e1
        generalize hy : ys[i] = y at e2
        have HX := Lib.hid hx
        have HY := Lib.hid hy
        clear hx hy
        simp only [B] at e1 e2
        by_cases hxy : x = y
        · subst hxy
          go_wp2
          go_quiet (fail)
          go_wp2
          go_roundw
          case rel => exact ⟨i + 1, _, by go_num, by omega, by rw [take_snoc _ _ hlx, take_snoc _ _ hlt, HT.out, HX.out, HY.out], rfl⟩
          case measure => simp [intOf]; omega
        · have hne : ((x.toNat : Int) == (y.toNat : Int)) = false := by rw [beq_eq_false_iff_ne]; intro e; exact hxy (by first | exact UInt8.toNat_inj.1 (by omega) | omega)
          have hne2 : ((x.toNat : Int) != (y.toNat : Int)) = true := by rw [bne_iff_ne]; intro e; exact hxy (by first | exact UInt8.toNat_inj.1 (by omega) | omega)
          have HN := Lib.hid hxy
          clear hxy
          go_wp2
          go_quiet (fail)
          go_wp2
          go_ret
          refine ⟨?_, _, World.drewN_drewN _ _ _⟩
          rw [decide_eq_false (fun e => HN.out (by rw [← HX.out, ← HY.out]; simp only [e]))]
          rfl
      · obtain rfl : i = ys.length := by omega
        go_wp2
        go_ret
        refine ⟨?_, _, rfl⟩
        have := HT.out
        rw [List.take_length, ← HL.out, List.take_length] at this
        rw [decide_eq_true this]
        rfl
  · have hlb : ((xs.length : Int) == (ys.length : Int)) = false := by rw [beq_eq_false_iff_ne]; omega
    have H := Lib.hid hl
    clear hl
    go_enter Try.func29, Try.ntmps29
    go_wp2
    go_ret
    exact ⟨by rw [decide_eq_false (fun e => H.out (by rw [e]))]; rfl, 0, rfl⟩

end Go.Proofs.Ytdnilcgpfcpfkaa

/- Layer 11's statement StoreTwice, walked. -/
namespace Go.Proofs.Ytdnilcgpfcpfkaa
open Go.RowKit

theorem Bytes_same (l : List UInt8) (u v : Value) (w : World) (hu : Rd w u (l.map B)) (hv : Rd w v (l.map B)) :
    Calls Try.prog 29 #[u, v] w fun e w' => e = .returned (.bool true) ∧ Ext w w' :=
  (Bytes_any l l u v w hu hv).mono (by
    rintro e w' ⟨rfl, n, rfl⟩
    exact ⟨by simp, Below.drewN' (Ext.refl _) n⟩)

set_option maxRecDepth 100000 in
set_option maxHeartbeats 4000000 in
theorem StoreTwice_calls (t j e : Int) (a b : List UInt8) (va vb : Value) (w : World) (ha : Rd w va (a.map B)) (hb : Rd w vb (b.map B)) :
    Calls Try.prog 7 #[.int .i64 t, .int .i64 j, .int .i64 e, va, vb] w fun x w' => x = .returned (.bool true) ∧ Ext w w' := by
  obtain ⟨A, ca, rfl, -, -⟩ := ha.sliceN (List.length_map _)
  obtain ⟨A', cb, rfl, -, -⟩ := hb.sliceN (List.length_map _)
  have HA := Lib.hid ha
  have HB := Lib.hid hb
  clear ha hb
  go_enter Try.func7, Try.ntmps7
  go_wp2_with fail
  refine (alive11_any w).mono ?_
  rintro e0 w0 ⟨rfl, hx0⟩
  have HX0 := Lib.hid hx0
  clear hx0
  by_cases h1 : 200 < a.length
  · have d1 : decide ((200 : Int) < (a.length : Int)) = true := decide_eq_true (by omega)
    clear h1
    go_wp2
    go_ret
    exact ⟨rfl, HX0.out⟩
  have d1 : decide ((200 : Int) < (a.length : Int)) = false := decide_eq_false (by omega)
  by_cases h2 : 200 < b.length
  · have d2 : decide ((200 : Int) < (b.length : Int)) = true := decide_eq_true (by omega)
    clear h1 h2
    go_wp2
    go_ret
    exact ⟨rfl, HX0.out⟩
  have d2 : decide ((200 : Int) < (b.length : Int)) = false := decide_eq_false (by omega)
  have HLA : Hid (a.length ≤ 200 ∧ b.length ≤ 200) := Lib.hid ⟨by omega, by omega⟩
  clear h1 h2
  go_wp2_with fail
  refine (SW.new HX0.out 5000).mono ?_
  rintro e1 w1 ⟨g, rfl, hs⟩
  have HS1 := Lib.hid hs
  clear hs HX0
  go_wp2_with fail
  refine (HS1.out.stage (by decide) t j e a A ca (HA.out.ext HS1.out.ext) (by have := HLA.out; omega)).mono ?_
  rintro e2 w2 ⟨rfl, hs, -⟩
  have HS2 := Lib.hid hs
  clear hs HS1
  by_cases h0 : (stageS (newS 5000) t j e a).1 = 0
  · have HT := Lib.hid (twice_new 5000 t j e a b h0)
    rw [h0]
    generalize (stageS (newS 5000) t j e a).2 = S1 at HS2 HT
    clear h0
    have e3 : ((0 : Int) != 0) = false := by decide
    go_wp2_with fail
    refine HS2.out.writes.mono ?_
    rintro e3 w3 ⟨rfl, rfl⟩
    go_wp2_with fail
    refine (HS2.out.stage (by decide) t j e b A' cb (HB.out.ext HS2.out.ext) (by have := HLA.out; omega)).mono ?_
    rintro e4 w4 ⟨rfl, hs, -⟩
    rw [HT.out.same] at hs
    have HS4 := Lib.hid hs
    clear hs HS2
    obtain ⟨r, hr⟩ : ∃ r, r = (stageS S1 t j e b).1 := ⟨_, rfl⟩
    have HR := Lib.hid hr
    rw [← hr]
    clear hr
    obtain ⟨wr, hwr⟩ : ∃ r, r = S1.writes := ⟨_, rfl⟩
    rw [← hwr]
    have HWR := Lib.hid hwr
    clear hwr
    have HGO : Hid (1 ≤ b.length → b.length ≤ 100 → r = 0) := Lib.hid (fun k1 k2 => HR.out.trans (HT.out.ok k1 k2))
    have K : Hid (∀ W, SW w W g S1 2 → Calls Try.prog 24 #[.pointer (some ⟨g, 0, none⟩)] W fun x w' => x = .returned (.int .i64 wr) ∧ W = w') := Lib.hid (fun W h => by rw [HWR.out]; exact h.writes)
    have HGT := Lib.hid HT.out.get
    have HCT := Lib.hid HT.out.counts
    have HNZ := Lib.hid HT.out.not
    have M1 : Hid ((commitS S1 j e).1 = 0 ∧ commitS (commitS S1 j e).2 j e = (0, (commitS S1 j e).2)) := Lib.hid ⟨HT.out.one, HT.out.two⟩
    by_cases k1 : 0 < b.length
    · have q1 : decide ((0 : Int) < (b.length : Int)) = true := decide_eq_true (by omega)
      have q1' : decide (0 < b.length) = true := decide_eq_true k1
      by_cases k2 : b.length ≤ 100
      · have q2 : decide ((b.length : Int) ≤ 100) = true := decide_eq_true (by omega)
        have q2' : decide (b.length ≤ 100) = true := decide_eq_true k2
        have hr0 : (r != 0) = false := by rw [HGO.out (by omega) k2]; decide
        clear k1 k2 HGO
        go_wp2_with fail
        refine (K.out w4 HS4.out).mono ?_
        rintro e5 w5 ⟨rfl, rfl⟩
        have hww : (wr != wr) = false := by simp
        go_wp2_with fail
        refine (HS4.out.commit j e).mono ?_
        rintro e5 w5 ⟨rfl, hs, -⟩
        rw [M1.out.1]
        generalize (commitS S1 j e).2 = S2 at hs HGT HCT HNZ M1
        have HS5 := Lib.hid hs
        clear hs
        go_wp2_with fail
        refine (HS5.out.commit j e).mono ?_
        rintro e6 w6 ⟨rfl, hs, -⟩
        rw [M1.out.2] at hs ⊢
        have HS6 := Lib.hid hs
        clear hs
        go_wp2_with fail
        refine (HS6.out.get j e).mono ?_
        rintro e7 w7 ⟨v7, rfl, hv7, hs, hx7⟩
        rw [HGT.out] at hv7 ⊢
        have HS7 := Lib.hid hs
        have HBY := Lib.hid (Bytes_same a v7 (.slice A a.length ca) w7 hv7.rd (HA.out.ext hs.ext))
        clear hs hv7 hx7
        go_wp2_with fail
        refine HBY.out.mono ?_
        rintro e8 w8 ⟨rfl, hw8⟩
        have HS8 := Lib.hid (HS7.out.more hw8)
        clear hw8 HBY
        go_wp2_with fail
        refine (HS8.out.counts j).mono ?_
        rintro e9 w9 ⟨rfl, hs, -⟩
        rw [HCT.out]
        have HS9 := Lib.hid hs
        clear hs
        go_wp2_with fail
        refine (HS9.out.stage (by decide) t j e b A' cb (HB.out.ext HS9.out.ext) (by have := HLA.out; omega)).mono ?_
        rintro e10 w10 ⟨rfl, hs, -⟩
        have HX10 := Lib.hid hs.ext
        clear hs
        generalize (stageS S2 t j e b).1 = r9 at HNZ
        have hr9 : (r9 != 0) = true := by simpa using HNZ.out
        go_wp2
        go_ret
        exact ⟨rfl, HX10.out⟩
      · have q2 : decide ((b.length : Int) ≤ 100) = false := decide_eq_false (by omega)
        have q2' : decide (b.length ≤ 100) = false := decide_eq_false k2
        clear k1 k2 HGO
        go_wp2_with fail
        refine (K.out w4 HS4.out).mono ?_
        rintro e5 w5 ⟨rfl, rfl⟩
        have hww : (wr != wr) = false := by simp
        go_wp2_with fail
        refine (HS4.out.commit j e).mono ?_
        rintro e5 w5 ⟨rfl, hs, -⟩
        rw [M1.out.1]
        generalize (commitS S1 j e).2 = S2 at hs HGT HCT HNZ M1
        have HS5 := Lib.hid hs
        clear hs
        go_wp2_with fail
        refine (HS5.out.commit j e).mono ?_
        rintro e6 w6 ⟨rfl, hs, -⟩
        rw [M1.out.2] at hs ⊢
        have HS6 := Lib.hid hs
        clear hs
        go_wp2_with fail
        refine (HS6.out.get j e).mono ?_
        rintro e7 w7 ⟨v7, rfl, hv7, hs, hx7⟩
        rw [HGT.out] at hv7 ⊢
        have HS7 := Lib.hid hs
        have HBY := Lib.hid (Bytes_same a v7 (.slice A a.length ca) w7 hv7.rd (HA.out.ext hs.ext))
        clear hs hv7 hx7
        go_wp2_with fail
        refine HBY.out.mono ?_
        rintro e8 w8 ⟨rfl, hw8⟩
        have HS8 := Lib.hid (HS7.out.more hw8)
        clear hw8 HBY
        go_wp2_with fail
        refine (HS8.out.counts j).mono ?_
        rintro e9 w9 ⟨rfl, hs, -⟩
        rw [HCT.out]
        have HS9 := Lib.hid hs
        clear hs
        go_wp2_with fail
        refine (HS9.out.stage (by decide) t j e b A' cb (HB.out.ext HS9.out.ext) (by have := HLA.out; omega)).mono ?_
        rintro e10 w10 ⟨rfl, hs, -⟩
        have HX10 := Lib.hid hs.ext
        clear hs
        generalize (stageS S2 t j e b).1 = r9 at HNZ
        have hr9 : (r9 != 0) = true := by simpa using HNZ.out
        go_wp2
        go_ret
        exact ⟨rfl, HX10.out⟩
    · have q1 : decide ((0 : Int) < (b.length : Int)) = false := decide_eq_false (by omega)
      have q1' : decide (0 < b.length) = false := decide_eq_false k1
      clear k1 HGO
      go_wp2_with fail
      refine (K.out w4 HS4.out).mono ?_
      rintro e5 w5 ⟨rfl, rfl⟩
      have hww : (wr != wr) = false := by simp
      go_wp2_with fail
      refine (HS4.out.commit j e).mono ?_
      rintro e5 w5 ⟨rfl, hs, -⟩
      rw [M1.out.1]
      generalize (commitS S1 j e).2 = S2 at hs HGT HCT HNZ M1
      have HS5 := Lib.hid hs
      clear hs
      go_wp2_with fail
      refine (HS5.out.commit j e).mono ?_
      rintro e6 w6 ⟨rfl, hs, -⟩
      rw [M1.out.2] at hs ⊢
      have HS6 := Lib.hid hs
      clear hs
      go_wp2_with fail
      refine (HS6.out.get j e).mono ?_
      rintro e7 w7 ⟨v7, rfl, hv7, hs, hx7⟩
      rw [HGT.out] at hv7 ⊢
      have HS7 := Lib.hid hs
      have HBY := Lib.hid (Bytes_same a v7 (.slice A a.length ca) w7 hv7.rd (HA.out.ext hs.ext))
      clear hs hv7 hx7
      go_wp2_with fail
      refine HBY.out.mono ?_
      rintro e8 w8 ⟨rfl, hw8⟩
      have HS8 := Lib.hid (HS7.out.more hw8)
      clear hw8 HBY
      go_wp2_with fail
      refine (HS8.out.counts j).mono ?_
      rintro e9 w9 ⟨rfl, hs, -⟩
      rw [HCT.out]
      have HS9 := Lib.hid hs
      clear hs
      go_wp2_with fail
      refine (HS9.out.stage (by decide) t j e b A' cb (HB.out.ext HS9.out.ext) (by have := HLA.out; omega)).mono ?_
      rintro e10 w10 ⟨rfl, hs, -⟩
      have HX10 := Lib.hid hs.ext
      clear hs
      generalize (stageS S2 t j e b).1 = r9 at HNZ
      have hr9 : (r9 != 0) = true := by simpa using HNZ.out
      go_wp2
      go_ret
      exact ⟨rfl, HX10.out⟩
  · have HN := Lib.hid (new_not 5000 t j e a h0)
    rw [HN.out.1] at HS2
    have hne : ((stageS (newS 5000) t j e a).1 != 0) = true := by simpa using h0
    clear h0
    go_wp2_with fail
    refine (HS2.out.get j e).mono ?_
    rintro e3 w3 ⟨v, rfl, -, hs, -⟩
    have HS3 := Lib.hid hs
    rw [HN.out.2.1]
    clear hs HS2
    go_wp2_with fail
    refine HS3.out.used.mono ?_
    rintro e4 w4 ⟨rfl, hs, -⟩
    have HS4 := Lib.hid hs
    rw [HN.out.2.2.1]
    clear hs HS3
    go_wp2_with fail
    refine (HS4.out.commit j e).mono ?_
    rintro e5 w5 ⟨rfl, hs, -⟩
    have HX5 := Lib.hid hs.ext
    rw [HN.out.2.2.2]
    clear hs HS4
    go_wp2
    go_ret
    exact ⟨rfl, HX5.out⟩

end Go.Proofs.Ytdnilcgpfcpfkaa

/- Two closed facts on the program that every row asks. -/
namespace Go.Proofs.Ytdnilcgpfcpfkaa
open Go.RowKit

theorem Try.ownKnob : ownKnob Try.prog.godebug = none := by kernel_rfl

theorem Try.laidOut : laidOutB Try.prog = true := by kernel_rfl

end Go.Proofs.Ytdnilcgpfcpfkaa

/- Layer 11's statements: may acts be looked at? -/
namespace Go.Proofs.Ytdnilcgpfcpfkaa
open Go.RowKit

def few11 (l : List Act4) : Bool := decide (l.length ≤ 60) && l.all fun x => decide (x.2.2.2.2.length ≤ 200)
theorem few11_iff {l : List Act4} : few11 l = true ↔ l.length ≤ 60 ∧ ∀ x ∈ l, x.2.2.2.2.length ≤ 200 := by simp [few11]
theorem few11_any (l : List Act4) (v : Value) (w : World) (h : RdActs4 w v l) :
    Calls Try.prog 15 #[v] w fun e w' => e = .returned (.bool (few11 l)) ∧ w = w' := by
  obtain ⟨A, c, rfl, hlc, hcm⟩ := h.slice_
  have HR := Lib.hid h
  clear h
  by_cases h60 : l.length ≤ 60
  · have d60 : decide (60 < l.length) = false := decide_eq_false (by omega)
    have d60' : decide ((60 : Int) < (l.length : Int)) = false := decide_eq_false (by omega)
    go_enter Try.func15, Try.ntmps15
    go_wp2
    go_loopw [3] (fun i wr => wr = w ∧ ∃ k : Nat, i = .int .i64 k ∧ k ≤ l.length ∧ Hid (∀ x ∈ l.take k, x.2.2.2.2.length ≤ 200)) (fun i _ => l.length - (intOf i).toNat)
    case atStart => exact ⟨rfl, 0, rfl, Nat.zero_le _, Lib.hid (by intro x hx; simp at hx)⟩
    case round =>
      obtain ⟨rfl, k, rfl, hk, HK⟩ := hrel
      by_cases hlt : k < l.length
      · have e1 : decide ((k : Int) < (l.length : Int)) = true := decide_eq_true (by omega)
        have e1' : decide (k < l.length) = true := decide_eq_true hlt
        obtain ⟨b, o, rfl, hb1, hcl⟩ := HR.out.get (by omega)
        obtain ⟨x, hx⟩ : ∃ x, l[k]? = some x := ⟨_, List.getElem?_eq_getElem hlt⟩
        obtain ⟨-, -, -, -, u, e4, hu⟩ := hcl k x hx
        have HXM := Lib.hid (List.mem_of_getElem? hx)
        have HXK := Lib.hid hx
        obtain ⟨Au, cu, rfl, -, -⟩ := hu.sliceN (List.length_map _)
        obtain ⟨n, hn⟩ : ∃ n, n = x.2.2.2.2.length := ⟨_, rfl⟩
        rw [← hn] at e4
        have HN := Lib.hid hn
        have HLT := Lib.hid hlt
        clear hcl hu hn hx
        by_cases h2 : 200 < n
        · have d2 : decide ((200 : Int) < (n : Int)) = true := decide_eq_true (by omega)
          have d2' : decide (200 < n) = true := decide_eq_true h2
          have HF : Hid (few11 l = false) := Lib.hid (by
            cases hf : few11 l with
            | false => rfl
            | true => have := (few11_iff.1 hf).2 _ HXM.out; rw [HN.out] at h2; omega)
          clear h2 hlt
          go_wp2
          go_ret
          exact ⟨by rw [HF.out]; rfl, rfl⟩
        · have d2 : decide ((200 : Int) < (n : Int)) = false := decide_eq_false (by omega)
          have d2' : decide (200 < n) = false := decide_eq_false h2
          have HK2 : Hid (∀ x ∈ l.take (k + 1), x.2.2.2.2.length ≤ 200) := Lib.hid (by
            rw [List.take_add_one, HXK.out]
            intro y hy
            rcases List.mem_append.1 hy with hy | hy
            · exact HK.out y hy
            · obtain rfl : y = x := by simpa using hy
              rw [← HN.out]; omega)
          have hwq : wrap64 ((k : Int) + 1) = (k : Int) + 1 := IntWalk.wrap64_in _ (by omega)
          clear h2 hlt
          go_wp2
          go_roundw
          case rel => first | exact ⟨rfl, k + 1, by go_num, HLT.out, HK2⟩ | exact ⟨trivial, k + 1, by go_num, HLT.out, HK2⟩
          case measure => simp [intOf]; have := HLT.out; omega
      · obtain rfl : k = l.length := by omega
        have e1 : decide ((l.length : Int) < (l.length : Int)) = false := decide_eq_false (by omega)
        have e1' : decide (l.length < l.length) = false := decide_eq_false (by omega)
        have HF : Hid (few11 l = true) := Lib.hid (few11_iff.2 ⟨h60, fun x hx => HK.out x (by rw [List.take_length]; exact hx)⟩)
        clear HK
        go_wp2
        go_ret
        exact ⟨by rw [HF.out]; rfl, rfl⟩
  · have d60 : decide (60 < l.length) = true := decide_eq_true (by omega)
    have d60' : decide ((60 : Int) < (l.length : Int)) = true := decide_eq_true (by omega)
    have HF : Hid (few11 l = false) := Lib.hid (by simp [few11, h60])
    clear h60
    go_enter Try.func15, Try.ntmps15
    go_wp2
    go_ret
    exact ⟨by rw [HF.out]; rfl, rfl⟩

end Go.Proofs.Ytdnilcgpfcpfkaa
