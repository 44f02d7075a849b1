/- Texts that the proof of K rests on, one behind the other. -/
import Derived.Test.YtkkmldoohokdfaaKQ13
import Derived.Lib.MinMax
import Derived.Laws.LoneSync
import Derived.Deep.DeepCutAuto
import Derived.Deep.CutBlock
import Derived.Laws.Rows
import Derived.BigQuiet
import Derived.Deep.RegionHeld3

/- Package store: where a job's checkpoints stand, and what is told of them. -/
namespace Go.Proofs.Ytkkmldoohokdfaa
open Go.RowKit

theorem isJob_any (job : Int) (w : World) :
    Calls Try.prog 47 #[.int .i64 job] w fun e w' => e = .returned (.bool (isJ job)) ∧ w = w' := by
  by_cases h1 : 1 ≤ job
  · have d1 : decide ((1 : Int) ≤ job) = true := decide_eq_true h1
    have HJ : Hid (isJ job = decide (job ≤ 24)) := Lib.hid (by unfold isJ; rw [d1]; rfl)
    go_enter Try.func47, Try.ntmps47
    go_wp2
    go_ret
    exact ⟨by rw [HJ.out]; rfl, rfl⟩
  · have d1 : decide ((1 : Int) ≤ job) = false := decide_eq_false h1
    have HJ : Hid (isJ job = false) := Lib.hid (by unfold isJ; rw [d1]; rfl)
    go_enter Try.func47, Try.ntmps47
    go_wp2
    go_ret
    exact ⟨by rw [HJ.out]; rfl, rfl⟩

theorem is_any (ep e : Int) (v : Value) (w : World) :
    Calls Try.prog 45 #[.agg #[.int .i64 ep, v], .int .i64 e] w fun x w' => x = .returned (.bool (decide (0 < ep) && decide (ep = e))) ∧ Ext w w' := by
  have hx : Ext w (w.alloc (.cells #[.int .i64 ep, v] 73)) := (Below.refl _ _).alloc (Nat.le_refl _) _
  have HX := Lib.hid hx
  by_cases h1 : 0 < ep
  · have d1 : decide ((0 : Int) < ep) = true := decide_eq_true h1
    clear hx
    go_enter Try.func45, Try.ntmps45
    go_wp2
    go_ret
    exact ⟨by simp [h1]; rfl, HX.out⟩
  · have d1 : decide ((0 : Int) < ep) = false := decide_eq_false h1
    clear hx
    go_enter Try.func45, Try.ntmps45
    go_wp2
    go_ret
    exact ⟨by simp, HX.out⟩

/-- Where a job's pair is. -/
structure OfPost (N : Fp) (w : World) (g : Nat) (S : StoP) (job : Int) (e : Ending) (w' : World) : Prop where
  out : ∃ b o, e = .returned (.pointer (some ⟨b, o, none⟩)) ∧ PairAt N w' b o (ofJ S job) ∧ Ext w w' ∧
    ((isJ job = true ∧ b = g ∧ o = 2 + 4 * (job - 1).toNat) ∨ (isJ job = false ∧ w.heap.size ≤ b ∧ o = 0 ∧ Blk w' b 75 #[.int .i64 0, .slice none 0 0, .int .i64 0, .slice none 0 0]))

theorem newPair (N : Fp) (w : World) : PairAt N (w.alloc (.cells #[.int .i64 0, .slice none 0 0, .int .i64 0, .slice none 0 0] 75)) w.heap.size 0 zPr := by
  have hb := Blk.new w 75 #[.int .i64 0, .slice none 0 0, .int .i64 0, .slice none 0 0]
  exact ⟨⟨_, _, ⟨hb.cell 0, hb.cell 1, hb.cell 2, hb.cell 3⟩, zLp_rd N _⟩, fun i => hb.frozen i, hb.lt⟩

theorem of_any (N : Fp) (g : Nat) (S : StoP) (job : Int) (w : World) (h : SoAt N w g S) (hS : OkS S) :
    Calls Try.prog 44 #[.pointer (some ⟨g, 0, none⟩), .int .i64 job] w (OfPost N w g S job) := by
  have HI := Lib.hid (isJob_any job w)
  cases hj : isJ job with
  | true =>
    rw [hj] at HI
    have hp := h.pair hS hj
    have h1 := isJ_iff.1 hj
    obtain ⟨k, hk⟩ : ∃ k : Nat, job = (k : Int) + 1 := ⟨(job - 1).toNat, by omega⟩
    have hk2 : (job - 1).toNat = k := by omega
    have x0 : (0 : Int) ≤ (k : Int) ∧ (k : Int) < 24 := by omega
    have hw1 : wrap64 (job - 1) = (k : Int) := by rw [IntWalk.wrap64_in _ (by omega)]; omega
    have HP := Lib.hid hp
    have HJ := Lib.hid hj
    have HK := Lib.hid hk2
    clear h hS hp hj h1 hk hk2
    go_enter Try.func44, Try.ntmps44
    go_wp2_with fail
    refine HI.out.mono ?_
    rintro e1 w1 ⟨rfl, rfl⟩
    go_wp2
    go_ret
    exact ⟨_, _, rfl, by rw [show 2 + k * 4 = 2 + 4 * (job - 1).toNat by rw [HK.out]; omega]; exact HP.out, Ext.refl _, .inl ⟨HJ.out, rfl, by rw [HK.out]; omega⟩⟩
  | false =>
    rw [hj] at HI
    have hz := ofJ_no (S := S) hj
    have HZ := Lib.hid hz
    have HJ := Lib.hid hj
    clear h hS hz hj
    go_enter Try.func44, Try.ntmps44
    go_wp2_with fail
    refine HI.out.mono ?_
    rintro e1 w1 ⟨rfl, rfl⟩
    go_wp2
    go_ret
    exact ⟨_, _, rfl, by rw [HZ.out]; exact newPair N w, (Below.refl _ _).alloc (Nat.le_refl _) _, .inr ⟨HJ.out, Nat.le_refl _, rfl, Blk.new _ _ _⟩⟩

/-- What is told of a job. -/
theorem Counts_any (N : Fp) (g : Nat) (S : StoP) (job : Int) (w : World) (h : SoAt N w g S) (hS : OkS S) :
    Calls Try.prog 15 #[.pointer (some ⟨g, 0, none⟩), .int .i64 job] w fun e w' => e = .returned (.int .i64 (ofJ S job).c.ep) ∧ Ext w w' := by
  have HO := Lib.hid (of_any N g S job w h hS)
  clear h hS
  go_enter Try.func15, Try.ntmps15
  go_wp2_with fail
  refine HO.out.mono ?_
  rintro e1 w1 ⟨b, o, rfl, hp, hx, -⟩
  obtain ⟨vc, vs, ⟨c0, -, -, -⟩, -⟩ := hp.out
  have HX := Lib.hid hx
  clear hx hp
  go_wp2
  go_ret
  exact ⟨rfl, HX.out⟩
theorem Term_any (N : Fp) (g : Nat) (S : StoP) (w : World) (h : SoAt N w g S) :
    Calls Try.prog 17 #[.pointer (some ⟨g, 0, none⟩)] w fun e w' => e = .returned (.int .i64 S.term) ∧ w = w' := by
  obtain ⟨lp, -, hb, -⟩ := h.out
  have c1 : w.cell? ⟨g, 1, none⟩ = some (.int .i64 S.term) := hb.cell 1
  clear hb h
  go_enter Try.func17, Try.ntmps17
  go_wp2
  go_ret
  exact ⟨rfl, rfl⟩
theorem SoAt.c98 {N : Fp} {w : World} {g : Nat} {S : StoP} (h : SoAt N w g S) (hS : OkS S) : w.cell? ⟨g, 98, none⟩ = some (.int .i64 S.writes) := by
  obtain ⟨lp, h1, hb, -⟩ := h.out
  rw [hb.cell, List.getElem?_toArray]
  exact soC_last _ _ _ _ (by have := hS.len; rw [← h1, List.length_map] at this; exact this)
theorem Writes_any (N : Fp) (g : Nat) (S : StoP) (w : World) (h : SoAt N w g S) (hS : OkS S) :
    Calls Try.prog 18 #[.pointer (some ⟨g, 0, none⟩)] w fun e w' => e = .returned (.int .i64 S.writes) ∧ w = w' := by
  have c98 := h.c98 hS
  have HL : Hid (Calls Try.prog 49 #[.pointer (some ⟨g, 98, none⟩)] w fun e w' => e = .returned (.int .i64 S.writes) ∧ w = w') := Lib.hid (by
    have hcall := run_call_load (P := Try.prog) (f := 83) Try.func83 (by kernel_rfl) (by kernel_rfl) (by kernel_rfl) .i64 (by kernel_rfl) c98
    go_enter Try.func49, Try.ntmps49
    go_wp2
    go_ret
    exact ⟨rfl, rfl⟩)
  clear h hS
  go_enter Try.func18, Try.ntmps18
  go_wp2_with fail
  refine HL.out.mono ?_
  rintro e1 w1 ⟨rfl, rfl⟩
  go_wp2
  go_ret
  exact ⟨rfl, rfl⟩
theorem SoAt.fence {N : Fp} {w : World} {g : Nat} {S : StoP} (h : SoAt N w g S) (t : Int) : SoAt N (w.setCell ⟨g, 1, none⟩ (.int .i64 t)) g { S with term := t } := by
  obtain ⟨lp, h1, hb, hr⟩ := h.out
  have hc : Chg (fun k => k = g) w (w.setCell ⟨g, 1, none⟩ (.int .i64 t)) := (Chg.refl _ _).setCell (fun _ => rfl)
  refine ⟨⟨lp, h1, ?_, fun x hx => (hr x hx).chg hc (fun k hk => by rw [hk]; exact h.here)⟩, h.isIn.chg hc, h.here⟩
  have h2 := hb.set_ 1 (.int .i64 t)
  rw [List.setIfInBounds_toArray] at h2
  exact h2
theorem Fence_any (N : Fp) (g : Nat) (S : StoP) (t : Int) (w : World) (h : SoAt N w g S) :
    Calls Try.prog 10 #[.pointer (some ⟨g, 0, none⟩), .int .i64 t] w fun e w' => e = .returned (.tuple #[]) ∧ SoAt N w' g (fenceS S t) ∧ Chg (fun k => k = g) w w' := by
  obtain ⟨lp, -, hb, -⟩ := h.out
  have c1 : w.cell? ⟨g, 1, none⟩ = some (.int .i64 S.term) := hb.cell 1
  have f1 := hb.frozen 1
  have HF := Lib.hid (h.fence (max S.term t))
  clear hb h
  go_enter Try.func10, Try.ntmps10
  go_wp2
  go_end0
  exact ⟨rfl, HF.out, (Chg.refl _ _).setCell (fun _ => rfl)⟩

end Go.Proofs.Ytkkmldoohokdfaa

/- Package store: how many bytes there are. -/
namespace Go.Proofs.Ytkkmldoohokdfaa
open Go.RowKit

section
variable {P : Program} {w : World} {ops : Array Oper} {rest : List Oper} {o : Oper} {a : Act} {Q : Exit → Act → World → Prop}
/-- A whole variable that lies anywhere in a block. -/
theorem run_loadVar_at (w : World) (ad : Addr) (ty : TypeId) (l : List Value) (d : TypeDesc) (hu : P.underlying ty = some d) (hd : (match d with | .struct _ | .array _ _ => true | _ => false) = true)
    (hi : (P.info? ty).map (·.size) = some l.length) (h : ∀ j v, l[j]? = some v → w.cell? (ad.add j) = some v) : (loadVar ty ad).run P w = .ok (.agg l.toArray) w := by
  have hl := run_loadCells_list (P := P) w ad l h
  cases hq : P.info? ty with
  | none => simp [hq] at hi
  | some i =>
    simp only [hq, Option.map_some, Option.some.injEq] at hi
    cases d <;> simp_all [loadVar, isAgg, run_underlying, sizeOf, typeInfo, go_sem]
theorem wpList_loadV (hgd : o.guard = none) (t : TypeId) (p : Operand) (ho : o.op = .load t p) (ad : Addr) (hp : a.eval p = .pointer (some ad)) (v : Value) (hrun : (loadVar t ad).run P w = .ok v w)
    (h : wpList P ops Q rest (a.put o.dst v) w) : wpList P ops Q (o :: rest) a w := by
  refine wpList_plain hgd fun K hK => ?_
  unfold Oper.wp execOp
  simp only [ho, hp, Instr.loadAt, Instr.sureAddr, Sem.run_bind, Sem.run_pure, Result.andThen_ok, hrun]
  exact hK _ _ h
theorem wpList_indexV (hgd : o.guard = none) (t : TypeId) (x ix : Operand) (ho : o.op = .index t x ix) (v : Value) (hrun : (Instr.index t (a.eval x) (a.eval ix)).run P w = .ok v w)
    (h : wpList P ops Q rest (a.put o.dst v) w) : wpList P ops Q (o :: rest) a w := by
  refine wpList_plain hgd fun K hK => ?_
  unfold Oper.wp execOp
  simp only [ho, Sem.run_bind, Sem.run_pure, Result.andThen_ok, hrun]
  exact hK _ _ h
theorem run_index_agg (w : World) (t e : TypeId) (n m : Nat) (fs : Array Field) (hu : P.underlying t = some (.array n e)) (he : P.underlying e = some (.struct fs)) (hi : (P.info? e).map (·.size) = some m)
    (A : Array Value) (k : Nat) (hk : k < n) (c : Array Value) (hc : A.extract (k * m) (k * m + m) = c) : (Instr.index t (.agg A) (.int .i64 (k : Int))).run P w = .ok (.agg c) w := by
  cases hq : P.info? e with
  | none => simp [hq] at hi
  | some i =>
    simp only [hq, Option.map_some, Option.some.injEq] at hi
    simp [Instr.index, run_underlying hu, asIntOf, part, isAgg, run_underlying he, sizeOf, typeInfo, hq, hi, hc, go_sem]
    intro h; omega
end
theorem flat_cut4 : ∀ (lp : List LpP) (k : Nat), k < lp.length → ((lp.flatMap LpP.cells).drop (k * 4)).take 4 = (lp.getD k zLp).cells
  | [], _, h => absurd h (by simp)
  | x :: lp, 0, _ => by rw [List.flatMap_cons, Nat.zero_mul, List.drop_zero]; rfl
  | x :: lp, k + 1, h => by
    rw [List.flatMap_cons, Nat.succ_mul]
    exact flat_cut4 lp k (by simpa using h)
theorem usedJ_take (l : List PrP) (k : Nat) (hk : k < l.length) : usedJ (l.take (k + 1)) = usedJ (l.take k) + wtP (l.getD k zPr) := by
  rw [List.take_add_one, List.getElem?_eq_getElem hk, List.getD_eq_getElem?_getD, List.getElem?_eq_getElem hk]
  simp only [usedJ, List.map_append, List.sum_append, List.map_cons, List.map_nil, List.sum_cons, List.sum_nil, Option.getD_some, Option.toList_some, Nat.add_zero]
theorem usedJ_take_le (l : List PrP) : ∀ k, usedJ (l.take k) ≤ usedJ l := fun k => by
  have : usedJ (l.take k) + usedJ (l.drop k) = usedJ l := by
    have h := congrArg usedJ (List.take_append_drop k l)
    rw [← h]; simp only [usedJ, List.map_append, List.sum_append]
  omega

set_option maxRecDepth 100000 in
theorem Used_any (N : Fp) (g : Nat) (S : StoP) (w : World) (h : SoAt N w g S) (hS : OkS S) (hu : usedJ S.jobs ≤ 1000000000) :
    Calls Try.prog 16 #[.pointer (some ⟨g, 0, none⟩)] w fun e w' => e = .returned (.int .i64 (usedJ S.jobs : Int)) ∧ Ext w w' := by
  obtain ⟨lp, h1, hb, hr⟩ := h.out
  have hl : lp.length = 24 := by have := hS.len; rw [← h1, List.length_map] at this; exact this
  obtain ⟨A, hA⟩ : ∃ A, A = (lp.flatMap LpP.cells).toArray := ⟨_, rfl⟩
  have HLD : Hid ((loadVar 76 ⟨g, 2, none⟩).run Try.prog w = .ok (.agg A) w) := Lib.hid (by
    rw [hA]
    refine run_loadVar_at w _ _ _ _ Try.underlying76 rfl (by rw [flat4_len, hl]; kernel_rfl) (fun j v hj => ?_)
    have hjl : j < 96 := by have := (List.getElem?_eq_some_iff.1 hj).1; rw [flat4_len, hl] at this; exact this
    rw [Addr.add_lit, hb.cell, List.getElem?_toArray, show 2 + j = j + 1 + 1 by omega]
    show (lp.flatMap LpP.cells ++ _)[j]? = _
    rw [List.getElem?_append_left (by rw [flat4_len, hl]; exact hjl)]
    exact hj)
  have HIX : Hid (∀ (k : Nat) (W : World), k < 24 → (Instr.index 76 (.agg A) (.int .i64 (k : Int))).run Try.prog W = .ok (.agg #[.int .i64 (lp.getD k zLp).p.c.ep, (lp.getD k zLp).vc, .int .i64 (lp.getD k zLp).p.s.ep, (lp.getD k zLp).vs]) W) := Lib.hid (fun k W hk => by
    refine run_index_agg W _ _ 24 4 _ Try.underlying76 Try.underlying75 (by kernel_rfl) A k hk _ ?_
    rw [hA, List.extract_toArray]
    congr 1
    rw [List.extract_eq_take_drop, show k * 4 + 4 - k * 4 = 4 by omega]
    exact flat_cut4 lp k (by omega))
  have HRD : Hid (∀ (k : Nat) (W : World), Ext w W → k < 24 → (lp.getD k zLp).rd N W ∧ (lp.getD k zLp).p = S.jobs.getD k zPr) := Lib.hid (fun k W hx hk => by
    have hm : lp.getD k zLp ∈ lp := by rw [List.getD_eq_getElem?_getD, List.getElem?_eq_getElem (by omega)]; exact List.getElem_mem _
    exact ⟨(hr _ hm).chg (G := fun _ => False) (Chg.of_ext hx) (fun _ h => h.elim), by rw [← h1, getD_map]⟩)
  obtain ⟨J, hJ⟩ : ∃ J, J = S.jobs := ⟨_, rfl⟩
  have HJL : Hid (J.length = 24) := Lib.hid (by rw [hJ]; exact hS.len)
  have HU : Hid (usedJ J ≤ 1000000000) := Lib.hid (by rw [hJ]; exact hu)
  have HT : Hid (∀ k, k < 24 → usedJ (J.take (k + 1)) = usedJ (J.take k) + wtP (J.getD k zPr) ∧ usedJ (J.take (k + 1)) ≤ usedJ J) := Lib.hid (fun k hk => ⟨usedJ_take J k (by rw [hJ, hS.len]; exact hk), usedJ_take_le J _⟩)
  rw [← hJ] at HRD ⊢
  clear hb h hr h1 hS hA hl hJ hu
  go_enter Try.func16, Try.ntmps16
  go_upto_region 4 with (fail)
  iterate 10 go_step
  refine wpList_loadV (by rfl) _ _ (by rfl) ⟨g, 2, none⟩ (by rfl) (.agg A) HLD.out ?_
  clear HLD
  go_wp2
  go_loopw [3, 12] (fun n' i' wr => ∃ k : Nat, i' = .int .i64 k ∧ k ≤ 24 ∧ n' = .int .i64 (usedJ (J.take k) : Int) ∧ Ext w wr) (fun _ i' _ => 24 - (intOf i').toNat)
  case atStart => exact ⟨0, rfl, Nat.zero_le _, rfl, Ext.refl _⟩
  case round =>
    obtain ⟨k, rfl, hk, rfl, hx⟩ := hrel
    by_cases hlt : k < 24
    · have e1 : decide ((k : Int) < 24) = true := decide_eq_true (by omega)
      obtain ⟨hxr, hxp⟩ := HRD.out k wr hx hlt
      have hix := HIX.out k wr hlt
      have hte := HT.out k hlt
      have hub := HU.out
      rw [← hxp] at hte
      generalize lp.getD k zLp = x at hxr hxp hix hte
      obtain ⟨Ac, cc, hvc, -⟩ := hxr.1
      obtain ⟨As, cs, hvs, -⟩ := hxr.2
      rw [List.length_map] at hvc hvs
      rw [hvc, hvs] at hix
      obtain ⟨m, hm⟩ : ∃ m, m = usedJ (J.take k) := ⟨_, rfl⟩
      obtain ⟨nc, hnc⟩ : ∃ n, n = x.p.c.da.length := ⟨_, rfl⟩
      obtain ⟨ns, hns⟩ : ∃ n, n = x.p.s.da.length := ⟨_, rfl⟩
      rw [← hnc, ← hns] at hix
      unfold wtP at hte
      rw [← hnc, ← hns, ← hm] at hte
      have hw1 : wrap64 ((nc : Int) + (ns : Int)) = (nc : Int) + (ns : Int) := IntWalk.wrap64_in _ (by omega)
      have hw2 : wrap64 ((m : Int) + ((nc : Int) + (ns : Int))) = (m : Int) + ((nc : Int) + (ns : Int)) := IntWalk.wrap64_in _ (by omega)
      have HTE : Hid (usedJ (J.take (k + 1)) = m + (nc + ns)) := Lib.hid hte.1
      rw [← hm]
      clear hte hub hxr hxp hvc hvs hnc hns hm
      go_upto_region 6 with (fail)
      go_step
      refine wpList_indexV (by rfl) _ _ _ (by rfl) _ hix ?_
      clear hix
      go_wp2
      go_roundw
      case rel => exact ⟨k + 1, by go_num, by omega, by rw [HTE.out, hw2]; go_num, hx.trans ((Below.refl _ _).alloc (Nat.le_refl _) _)⟩
      case measure => simp [intOf]; omega
    · obtain rfl : k = 24 := by omega
      rw [List.take_of_length_le (i := 24) (by rw [HJL.out]; omega)]
      have e1 : decide ((24 : Int) < 24) = false := by decide
      go_wp2
      go_ret
      exact ⟨rfl, hx⟩

end Go.Proofs.Ytkkmldoohokdfaa

/- Package store: a checkpoint's data. -/
namespace Go.Proofs.Ytkkmldoohokdfaa
open Go.RowKit

theorem is_c (c : CkP) (e : Int) (b : Bool) (hb : isC c e = b) (v : Value) (w : World) :
    Calls Try.prog 45 #[.agg #[.int .i64 c.ep, v], .int .i64 e] w fun x w' => x = .returned (.bool b) ∧ Ext w w' := by
  subst hb
  exact is_any c.ep e v w
theorem RdF.made {N : Fp} {w w' : World} {v : Value} {l : List UInt8} (hN : N.isIn w) (h : Grew w.heap.size 5 (.slice none 0 0) w (l.map B) v w') : RdF (fun k => ¬ N k) w' v (l.map B) :=
  (RowF.made h).rdF.mono (fun k hk hN' => by have := hN k hN'; omega)
/-- The four cells, whatever is added. -/
theorem PairAt.cells {N : Fp} {w : World} {b o : Nat} {p : PrP} (h : PairAt N w b o p) : ∃ vc vs, (∀ W, Ext w W → (W.cell? ⟨b, o, none⟩ = some (.int .i64 p.c.ep) ∧ W.cell? ⟨b, o + 1, none⟩ = some vc ∧ W.cell? ⟨b, o + 2, none⟩ = some (.int .i64 p.s.ep) ∧ W.cell? ⟨b, o + 3, none⟩ = some vs ∧ W.cell? ⟨b, o + 2 + 1, none⟩ = some vs) ∧ LpP.rd N W ⟨p, vc, vs⟩) := by
  obtain ⟨vc, vs, ⟨c0, c1, c2, c3⟩, hr⟩ := h.out
  exact ⟨vc, vs, fun W hx => ⟨⟨(hx.cell (p := ⟨b, o, none⟩) h.lt).trans c0, (hx.cell (p := ⟨b, o + 1, none⟩) h.lt).trans c1, (hx.cell (p := ⟨b, o + 2, none⟩) h.lt).trans c2, (hx.cell (p := ⟨b, o + 3, none⟩) h.lt).trans c3, (hx.cell (p := ⟨b, o + 3, none⟩) h.lt).trans c3⟩, hr.chg (G := fun _ => False) (Chg.of_ext hx) (fun _ h => h.elim)⟩⟩

set_option maxRecDepth 100000 in
theorem Get_any (N : Fp) (g : Nat) (S : StoP) (job epoch : Int) (w : World) (h : SoAt N w g S) (hS : OkS S) :
    Calls Try.prog 12 #[.pointer (some ⟨g, 0, none⟩), .int .i64 job, .int .i64 epoch] w fun e w' =>
      ∃ v, e = .returned (.tuple #[v, .bool (getS S job epoch).2]) ∧ RdF (fun k => ¬ N k) w' v ((getS S job epoch).1.map B) ∧ Ext w w' := by
  have HO := Lib.hid (of_any N g S job w h hS)
  have HIN := Lib.hid h.isIn
  have ho := hS.of job
  have HCL := Lib.hid ho.cl
  have HSL := Lib.hid ho.sl
  clear h hS ho
  go_enter Try.func12, Try.ntmps12
  go_wp2_with fail
  refine HO.out.mono ?_
  rintro e1 w1 ⟨b, o, rfl, hp, hx, -⟩
  obtain ⟨vc, vs, hcc⟩ := hp.cells
  have HC := Lib.hid hcc
  have HX := Lib.hid hx
  obtain ⟨⟨c0, c1, c2, c3, c3'⟩, -⟩ := hcc w1 (Ext.refl _)
  obtain ⟨p, hpp⟩ : ∃ p, p = ofJ S job := ⟨_, rfl⟩
  have HG : Hid (getS S job epoch = if isC p.c epoch = true then (p.c.da, true) else if isC p.s epoch = true then (p.s.da, true) else ([], false)) := Lib.hid (by rw [hpp]; rfl)
  rw [← hpp] at HC HCL HSL c0 c2
  clear hp hx hcc HO hpp
  cases h1 : isC p.c epoch with
  | true =>
    rw [h1, if_pos rfl] at HG
    have HI := Lib.hid (is_c p.c epoch true h1)
    clear h1
    go_wp2_with fail
    refine (HI.out _ _).mono ?_
    rintro e2 w2 ⟨rfl, hx2⟩
    obtain ⟨⟨c0, c1, c2, c3, c3'⟩, hr⟩ := HC.out w2 hx2
    have HCN := Lib.hid (Clone_any p.c.da vc w2 hr.1.rd (by have := HCL.out; omega))
    have HX2 := Lib.hid (HX.out.trans hx2)
    clear hr hx2 HI
    go_wp2_with fail
    refine HCN.out.mono ?_
    rintro e3 w3 ⟨v3, rfl, hg3⟩
    have HX3 := Lib.hid (HX2.out.trans hg3.ext)
    have HR3 := Lib.hid (RdF.made (HIN.out.ext HX2.out) hg3)
    clear hg3 HCN
    go_wp2
    go_ret2
    exact ⟨_, by rw [HG.out]; rfl, by rw [HG.out]; exact HR3.out, HX3.out⟩
  | false =>
    rw [h1, if_neg (by decide)] at HG
    have HI := Lib.hid (is_c p.c epoch false h1)
    clear h1
    go_wp2_with fail
    refine (HI.out _ _).mono ?_
    rintro e2 w2 ⟨rfl, hx2⟩
    obtain ⟨⟨c0, c1, c2, c3, c3'⟩, -⟩ := HC.out w2 hx2
    have HX2 := Lib.hid hx2
    clear hx2 HI
    cases h1 : isC p.s epoch with
    | true =>
      rw [h1, if_pos rfl] at HG
      have HI := Lib.hid (is_c p.s epoch true h1)
      clear h1
      go_wp2_with fail
      refine (HI.out _ _).mono ?_
      rintro e3 w3 ⟨rfl, hx3⟩
      obtain ⟨⟨c0, c1, c2, c3, c3'⟩, hr⟩ := HC.out w3 (HX2.out.trans hx3)
      have HCN := Lib.hid (Clone_any p.s.da vs w3 hr.2.rd (by have := HSL.out; omega))
      have HX3 := Lib.hid (HX.out.trans (HX2.out.trans hx3))
      clear hr hx3 HI
      go_wp2_with fail
      refine HCN.out.mono ?_
      rintro e4 w4 ⟨v4, rfl, hg4⟩
      have HX4 := Lib.hid (HX3.out.trans hg4.ext)
      have HR4 := Lib.hid (RdF.made (HIN.out.ext HX3.out) hg4)
      clear hg4 HCN
      go_wp2
      go_ret2
      exact ⟨_, by rw [HG.out]; rfl, by rw [HG.out]; exact HR4.out, HX4.out⟩
    | false =>
      rw [h1, if_neg (by decide)] at HG
      have HI := Lib.hid (is_c p.s epoch false h1)
      clear h1
      go_wp2_with fail
      refine (HI.out _ _).mono ?_
      rintro e3 w3 ⟨rfl, hx3⟩
      have HX3 := Lib.hid (HX.out.trans (HX2.out.trans hx3))
      clear hx3 HI
      go_wp2
      go_ret2
      exact ⟨_, by rw [HG.out]; rfl, by rw [HG.out]; exact RdF.nilF _ _, HX3.out⟩

end Go.Proofs.Ytkkmldoohokdfaa

/- Package store: a new store, Commit and End. -/
namespace Go.Proofs.Ytkkmldoohokdfaa
open Go.RowKit

theorem Chg.set1 {w w' : World} {b : Nat} (h : Chg (fun k => k = b) w w') (o : Nat) (v : Value) : Chg (fun k => k = b) w (w'.setCell ⟨b, o, none⟩ v) := h.setCell (fun _ => rfl)
/-- A pair's four cells are written. -/
theorem SoAt.put4 {N : Fp} {w w' : World} {g : Nat} {S : StoP} (h : SoAt N w g S) (hS : OkS S) {job : Int} (hj : isJ job = true) (x : LpP) (hx : x.rd N w)
    (hw : w' = (((w.setCell ⟨g, 2 + 4 * (job - 1).toNat, none⟩ (.int .i64 x.p.c.ep)).setCell ⟨g, 2 + 4 * (job - 1).toNat + 1, none⟩ x.vc).setCell ⟨g, 2 + 4 * (job - 1).toNat + 2, none⟩ (.int .i64 x.p.s.ep)).setCell ⟨g, 2 + 4 * (job - 1).toNat + 3, none⟩ x.vs) :
    SoAt N w' g (setJ S job x.p) ∧ Chg (fun k => k = g) w w' := by
  obtain ⟨lp, h1, hb, hr⟩ := h.out
  have hk : (job - 1).toNat < lp.length := by have := hS.idx hj; rw [← h1, List.length_map] at this; exact this
  have hc : Chg (fun k => k = g) w w' := by rw [hw]; exact ((((Chg.refl _ _).set1 _ _).set1 _ _).set1 _ _).set1 _ _
  have hN : ∀ k, k = g → N k := fun k hk => by rw [hk]; exact h.here
  refine ⟨⟨⟨lp.set (job - 1).toNat x, ?_, ?_, fun y hy => ?_⟩, h.isIn.chg hc, h.here⟩, hc⟩
  · unfold setJ; rw [if_pos hj, List.map_set, h1]
  · have h2 := (((hb.set_ (2 + 4 * (job - 1).toNat) (.int .i64 x.p.c.ep)).set_ (2 + 4 * (job - 1).toNat + 1) x.vc).set_ (2 + 4 * (job - 1).toNat + 2) (.int .i64 x.p.s.ep)).set_ (2 + 4 * (job - 1).toNat + 3) x.vs
    simp only [List.setIfInBounds_toArray] at h2
    rw [soC_set4 _ _ _ _ _ _ hk] at h2
    rw [hw, (setJ_room S job x.p).1, (setJ_room S job x.p).2.1, (setJ_room S job x.p).2.2]
    exact h2
  · rcases List.mem_or_eq_of_mem_set hy with hy | rfl
    · exact (hr y hy).chg hc hN
    · exact hx.chg hc hN
/-- The two cells of what is staged are written. -/
theorem SoAt.put2 {N : Fp} {w w' : World} {g : Nat} {S : StoP} (h : SoAt N w g S) (hS : OkS S) {job : Int} (hj : isJ job = true) (e : Int) (d : List UInt8) (v : Value) (hv : RdF (fun k => ¬ N k) w v (d.map B))
    (hw : w' = (w.setCell ⟨g, 2 + 4 * (job - 1).toNat + 2, none⟩ (.int .i64 e)).setCell ⟨g, 2 + 4 * (job - 1).toNat + 3, none⟩ v) :
    SoAt N w' g (setJ S job ⟨(ofJ S job).c, ⟨e, d⟩⟩) ∧ Chg (fun k => k = g) w w' := by
  obtain ⟨lp, h1, hb, hr⟩ := h.out
  have hk : (job - 1).toNat < lp.length := by have := hS.idx hj; rw [← h1, List.length_map] at this; exact this
  have hc : Chg (fun k => k = g) w w' := by rw [hw]; exact ((Chg.refl _ _).set1 _ _).set1 _ _
  have hN : ∀ k, k = g → N k := fun k hk => by rw [hk]; exact h.here
  have hp : (lp.getD (job - 1).toNat zLp).p = ofJ S job := by
    unfold ofJ
    rw [if_pos hj, ← h1, getD_map]
  have hm : lp.getD (job - 1).toNat zLp ∈ lp := by rw [List.getD_eq_getElem?_getD, List.getElem?_eq_getElem hk]; exact List.getElem_mem hk
  refine ⟨⟨⟨lp.set (job - 1).toNat ⟨⟨(lp.getD (job - 1).toNat zLp).p.c, ⟨e, d⟩⟩, (lp.getD (job - 1).toNat zLp).vc, v⟩, ?_, ?_, fun y hy => ?_⟩, h.isIn.chg hc, h.here⟩, hc⟩
  · unfold setJ; rw [if_pos hj, List.map_set, h1, hp]
  · have h2 := (hb.set_ (2 + 4 * (job - 1).toNat + 2) (.int .i64 e)).set_ (2 + 4 * (job - 1).toNat + 3) v
    simp only [List.setIfInBounds_toArray] at h2
    rw [soC_set2 _ _ _ _ _ _ d _ hk] at h2
    rw [hw, (setJ_room S job _).1, (setJ_room S job _).2.1, (setJ_room S job _).2.2]
    exact h2
  · rcases List.mem_or_eq_of_mem_set hy with hy | rfl
    · exact (hr y hy).chg hc hN
    · exact ⟨(hr _ hm).1.chg hc (fun k hk hG => hk (hN k hG)), hv.chg hc (fun k hk hG => hk (hN k hG))⟩

set_option maxRecDepth 100000 in
theorem End_any (N : Fp) (g : Nat) (S : StoP) (job : Int) (w : World) (h : SoAt N w g S) (hS : OkS S) :
    Calls Try.prog 11 #[.pointer (some ⟨g, 0, none⟩), .int .i64 job] w fun e w' => e = .returned (.tuple #[]) ∧ SoAt N w' g (endS S job) ∧ Chg (fun k => k = g) w w' := by
  have HO := Lib.hid (of_any N g S job w h hS)
  have HS := Lib.hid h
  have HK := Lib.hid hS
  clear h hS
  go_enter Try.func11, Try.ntmps11
  go_wp2_with fail
  refine HO.out.mono ?_
  rintro e1 w1 ⟨b, o, rfl, hp, hx, hcase⟩
  obtain ⟨vc, vs, hcc⟩ := hp.cells
  obtain ⟨⟨c0, c1, c2, c3, c3'⟩, -⟩ := hcc w1 (Ext.refl _)
  have f0 := hp.fr o
  have f1 := hp.fr (o + 1)
  have f2 := hp.fr (o + 2)
  have f3 := hp.fr (o + 3)
  have HX := Lib.hid hx
  have HCA := Lib.hid hcase
  clear hp hcc hx hcase HO
  go_wp2
  go_end0
  refine ⟨rfl, ?_⟩
  rcases HCA.out with ⟨hj, rfl, rfl⟩ | ⟨hj, hb, rfl, hk⟩
  · have h1 := (HS.out.ext HX.out).put4 HK.out hj zLp (zLp_rd _ _) rfl
    exact ⟨h1.1, (Chg.of_ext HX.out).trans h1.2 (fun _ _ h => h)⟩
  · have hc := ((((Chg.refl (fun k => k = b) w1).set1 0 (.int .i64 0)).set1 (0 + 1) (.slice none 0 0)).set1 (0 + 2) (.int .i64 0)).set1 (0 + 3) (.slice none 0 0)
    have hx2 := hc.ext HX.out (fun k hk => by rw [hk]; exact hb)
    have e : endS S job = S := by unfold endS; rw [setJ_no hj]
    rw [e]
    exact ⟨HS.out.ext hx2, Chg.of_ext hx2⟩

set_option maxRecDepth 100000 in
theorem Commit_any (N : Fp) (g : Nat) (S : StoP) (job epoch : Int) (w : World) (h : SoAt N w g S) (hS : OkS S) :
    Calls Try.prog 14 #[.pointer (some ⟨g, 0, none⟩), .int .i64 job, .int .i64 epoch] w fun e w' =>
      e = .returned (.int .i64 (commitS S job epoch).1) ∧ SoAt N w' g (commitS S job epoch).2 ∧ Chg (fun k => k = g) w w' := by
  have HO := Lib.hid (of_any N g S job w h hS)
  have HS := Lib.hid h
  have HK := Lib.hid hS
  clear h hS
  go_enter Try.func14, Try.ntmps14
  go_wp2_with fail
  refine HO.out.mono ?_
  rintro e1 w1 ⟨b, o, rfl, hp, hx, hcase⟩
  obtain ⟨vc, vs, hcc⟩ := hp.cells
  have HC := Lib.hid hcc
  have HX := Lib.hid hx
  have HCA := Lib.hid hcase
  have HFR := Lib.hid (fun W (hw : Ext w1 W) (i : Nat) => (hp.ext hw).fr i)
  obtain ⟨⟨c0, c1, c2, c3, c3'⟩, -⟩ := hcc w1 (Ext.refl _)
  obtain ⟨p, hpp⟩ : ∃ p, p = ofJ S job := ⟨_, rfl⟩
  have HG : Hid (commitS S job epoch = if isC p.c epoch = true then (0, S) else if isC p.s epoch = true then (0, setJ S job ⟨p.s, zCk⟩) else (4, S)) := Lib.hid (by rw [hpp]; rfl)
  have HPP := Lib.hid hpp
  rw [← hpp] at HC c0 c2
  clear hp hx hcc hcase HO hpp
  cases h1 : isC p.c epoch with
  | true =>
    rw [h1, if_pos rfl] at HG
    have HI := Lib.hid (is_c p.c epoch true h1)
    clear h1
    go_wp2_with fail
    refine (HI.out _ _).mono ?_
    rintro e2 w2 ⟨rfl, hx2⟩
    have HX2 := Lib.hid (HX.out.trans hx2)
    clear hx2 HI
    go_wp2
    go_ret
    exact ⟨by rw [HG.out]; rfl, by rw [HG.out]; exact HS.out.ext HX2.out, Chg.of_ext HX2.out⟩
  | false =>
    rw [h1, if_neg (by decide)] at HG
    have HI := Lib.hid (is_c p.c epoch false h1)
    clear h1
    go_wp2_with fail
    refine (HI.out _ _).mono ?_
    rintro e2 w2 ⟨rfl, hx2⟩
    obtain ⟨⟨c0, c1, c2, c3, c3'⟩, -⟩ := HC.out w2 hx2
    have HX2 := Lib.hid hx2
    clear hx2 HI
    cases h1 : isC p.s epoch with
    | true =>
      rw [h1, if_pos rfl] at HG
      have HI := Lib.hid (is_c p.s epoch true h1)
      have HJ : Hid (isJ job = true) := Lib.hid (by
        cases hj : isJ job with
        | true => rfl
        | false => rw [HPP.out, ofJ_no hj] at h1; have := (isC_iff.1 h1).1; exact absurd this (by decide))
      clear h1
      go_wp2_with fail
      refine (HI.out _ _).mono ?_
      rintro e3 w3 ⟨rfl, hx3⟩
      obtain ⟨⟨c0, c1, c2, c3, c3'⟩, hr⟩ := HC.out w3 (HX2.out.trans hx3)
      have hf := HFR.out w3 (HX2.out.trans hx3)
      have f0 := hf o
      have f1 := hf (o + 1)
      have f2 := hf (o + 2)
      have f3 := hf (o + 3)
      have HX3 := Lib.hid (HX.out.trans (HX2.out.trans hx3))
      have HR := Lib.hid hr.2
      obtain ⟨As, cs, hvs, -⟩ := hr.2
      clear hr hx3 HI hf
      rw [List.length_map] at hvs
      have hvs : vs = .slice As p.s.da.length cs := hvs
      subst hvs
      go_wp2
      go_ret
      rw [HG.out]
      refine ⟨rfl, ?_⟩
      rcases HCA.out with ⟨hj, rfl, rfl⟩ | ⟨hj, -⟩
      · have h1 := (HS.out.ext HX3.out).put4 HK.out hj ⟨⟨p.s, zCk⟩, _, .slice none 0 0⟩ ⟨HR.out, RdF.nilF _ _⟩ rfl
        exact ⟨h1.1, (Chg.of_ext HX3.out).trans h1.2 (fun _ _ h => h)⟩
      · rw [HJ.out] at hj; cases hj
    | false =>
      rw [h1, if_neg (by decide)] at HG
      have HI := Lib.hid (is_c p.s epoch false h1)
      clear h1
      go_wp2_with fail
      refine (HI.out _ _).mono ?_
      rintro e3 w3 ⟨rfl, hx3⟩
      have HX3 := Lib.hid (HX.out.trans (HX2.out.trans hx3))
      clear hx3 HI
      go_wp2
      go_ret
      exact ⟨by rw [HG.out]; rfl, by rw [HG.out]; exact HS.out.ext HX3.out, Chg.of_ext HX3.out⟩

end Go.Proofs.Ytkkmldoohokdfaa

/- Package store: a new store, and Stage. -/
namespace Go.Proofs.Ytkkmldoohokdfaa
open Go.RowKit

theorem SoAt.count {N : Fp} {w : World} {g : Nat} {S : StoP} (h : SoAt N w g S) (hS : OkS S) (n : Int) : SoAt N (w.setCell ⟨g, 98, none⟩ (.int .i64 n)) g { S with writes := n } := by
  obtain ⟨lp, h1, hb, hr⟩ := h.out
  have hl : lp.length = 24 := by have := hS.len; rw [← h1, List.length_map] at this; exact this
  have hc := (Chg.refl (fun k => k = g) w).set1 98 (.int .i64 n)
  refine ⟨⟨lp, h1, ?_, fun x hx => (hr x hx).chg hc (fun k hk => by rw [hk]; exact h.here)⟩, h.isIn.chg hc, h.here⟩
  have h2 := hb.set_ 98 (.int .i64 n)
  rw [List.setIfInBounds_toArray, soC_setN _ _ _ _ _ hl] at h2
  exact h2
theorem Add_any (N : Fp) (g : Nat) (S : StoP) (w : World) (h : SoAt N w g S) (hS : OkS S) (h0 : 0 ≤ S.writes) (h1 : S.writes ≤ 1000000) :
    Calls Try.prog 48 #[.pointer (some ⟨g, 98, none⟩), .int .i64 1] w fun e w' => e = .returned (.int .i64 (S.writes + 1)) ∧ w' = w.setCell ⟨g, 98, none⟩ (.int .i64 (S.writes + 1)) := by
  obtain ⟨lp, -, hb, -⟩ := h.out
  have hc := h.c98 hS
  have hz := hb.frozen 98
  have hs : (Op.intArith .add .i64 S.writes 1).run Try.prog w = .ok (.int .i64 (S.writes + 1)) w := by
    simp [Op.intArith, go_sem]
    rw [IntWalk.i64_in _ (by omega)]
  have hcall := run_call_add (P := Try.prog) (f := 82) Try.func82 (by kernel_rfl) (by kernel_rfl) (by kernel_rfl) .i64 (by kernel_rfl) hc hz hs
  clear hb h hS hc hz hs
  go_enter Try.func48, Try.ntmps48
  go_wp2
  go_ret
  exact ⟨rfl, rfl⟩

theorem ext_drew11 {B : Nat} {a w : World} (h : Below B a w) : Below B a w.drew := Below.drewN' h 1

set_option maxRecDepth 100000 in
theorem Stage_any (N : Fp) (g : Nat) (S : StoP) (t job epoch : Int) (d : List UInt8) (A : Option Addr) (c : Nat) (w : World) (h : SoAt N w g S) (hS : OkS S) (hr : Rd w (.slice A d.length c) (d.map B)) (hd : d.length ≤ 1000000)
    (h0 : 0 ≤ S.writes) (h1 : S.writes ≤ 1000000) (hu : usedJ S.jobs ≤ 1000000) :
    Calls Try.prog 13 #[.pointer (some ⟨g, 0, none⟩), .int .i64 t, .int .i64 job, .int .i64 epoch, .slice A d.length c] w fun e w' =>
      e = .returned (.int .i64 (stageS S t job epoch d).1) ∧ SoAt N w' g (stageS S t job epoch d).2 ∧ Chg (fun k => k = g) w w' := by
  have HO := Lib.hid (of_any N g S job w h hS)
  have HS := Lib.hid h
  have HK := Lib.hid hS
  have HR := Lib.hid hr
  have HW := Lib.hid (And.intro h0 h1)
  have HJ := Lib.hid (fun W => isJob_any job W)
  have ho := hS.of job
  have HSL := Lib.hid ho.sl
  have HIN := Lib.hid h.isIn
  obtain ⟨nd, hnd⟩ : ∃ n, n = d.length := ⟨_, rfl⟩
  obtain ⟨R, hR⟩ : ∃ R, R = stageS S t job epoch d := ⟨_, rfl⟩
  have HRR := Lib.hid hR
  rw [← hR, ← hnd]
  unfold stageS at hR
  rw [← hnd] at hR hd
  have HND := Lib.hid hnd
  have HD := Lib.hid hd
  have HU := Lib.hid hu
  clear h hS hr h0 h1 hu ho hnd hd
  go_enter Try.func13, Try.ntmps13
  go_wp2_with fail
  refine HO.out.mono ?_
  rintro e1 w1 ⟨b, o, rfl, hp, hx, hcase⟩
  have HS1 := Lib.hid (HS.out.ext hx)
  have HX := Lib.hid hx
  have HCA := Lib.hid hcase
  have hsx := HS1.out
  obtain ⟨lp, -, hb, -⟩ := hsx.out
  have s1 : w1.cell? ⟨g, 1, none⟩ = some (.int .i64 S.term) := hb.cell 1
  have HP := Lib.hid hp
  clear hp hx hcase HO hsx hb
  -- an elder term
  by_cases c1 : t < S.term
  · have d1 : decide (t < S.term) = true := decide_eq_true c1
    rw [if_pos c1] at hR
    have HRE := Lib.hid hR
    clear c1 hR
    go_wp2
    go_ret
    exact ⟨by rw [HRE.out]; rfl, by rw [HRE.out]; exact HS1.out, Chg.of_ext HX.out⟩
  have d1 : decide (t < S.term) = false := decide_eq_false c1
  rw [if_neg c1] at hR
  have HRE := Lib.hid hR
  clear c1 hR
  -- an argument that isn't right
  have HARG : Hid (¬ (isJ job = true ∧ 1 ≤ epoch ∧ epoch ≤ 1000000 ∧ 1 ≤ nd ∧ nd ≤ 100) → R = (1, S)) := Lib.hid (fun hc => by rw [HRE.out, if_pos hc])
  cases hj : isJ job with
  | false =>
    have HI := Lib.hid (HJ.out w1)
    rw [hj] at HI HARG
    have HE : Hid (R = (1, S)) := Lib.hid (HARG.out (fun hc => by cases hc.1))
    clear hj
    go_wp2_with fail
    refine HI.out.mono ?_
    rintro e2 w2 ⟨rfl, rfl⟩
    go_wp2
    go_ret
    exact ⟨by rw [HE.out]; rfl, by rw [HE.out]; exact HS1.out, Chg.of_ext HX.out⟩
  | true =>
  have HI := Lib.hid (HJ.out w1)
  have HJT := Lib.hid hj
  rw [hj] at HI
  clear hj
  go_wp2_with fail
  refine HI.out.mono ?_
  rintro e2 w2 ⟨rfl, rfl⟩
  clear HI
  by_cases c2 : epoch < 1
  · have d2 : decide (epoch < 1) = true := decide_eq_true c2
    have HE : Hid (R = (1, S)) := Lib.hid (HARG.out (fun hc => by omega))
    clear c2
    go_wp2
    go_ret
    exact ⟨by rw [HE.out]; rfl, by rw [HE.out]; exact HS1.out, Chg.of_ext HX.out⟩
  have d2 : decide (epoch < 1) = false := decide_eq_false c2
  by_cases c3 : 1000000 < epoch
  · have d3 : decide ((1000000 : Int) < epoch) = true := decide_eq_true c3
    have HE : Hid (R = (1, S)) := Lib.hid (HARG.out (fun hc => by omega))
    clear c2 c3
    go_wp2
    go_ret
    exact ⟨by rw [HE.out]; rfl, by rw [HE.out]; exact HS1.out, Chg.of_ext HX.out⟩
  have d3 : decide ((1000000 : Int) < epoch) = false := decide_eq_false c3
  by_cases c4 : nd < 1
  · have d4 : decide ((nd : Int) < 1) = true := decide_eq_true (by omega)
    have HE : Hid (R = (1, S)) := Lib.hid (HARG.out (fun hc => by omega))
    clear c2 c3 c4
    go_wp2
    go_ret
    exact ⟨by rw [HE.out]; rfl, by rw [HE.out]; exact HS1.out, Chg.of_ext HX.out⟩
  have d4 : decide ((nd : Int) < 1) = false := decide_eq_false (by omega)
  by_cases c5 : 100 < nd
  · have d5 : decide ((100 : Int) < (nd : Int)) = true := decide_eq_true (by omega)
    have HE : Hid (R = (1, S)) := Lib.hid (HARG.out (fun hc => by omega))
    clear c2 c3 c4 c5
    go_wp2
    go_ret
    exact ⟨by rw [HE.out]; rfl, by rw [HE.out]; exact HS1.out, Chg.of_ext HX.out⟩
  have d5 : decide ((100 : Int) < (nd : Int)) = false := decide_eq_false (by omega)
  have HRE2 := Lib.hid (HRE.out.trans (if_neg (Classical.not_not.2 ⟨HJT.out, by omega, by omega, by omega, by omega⟩)))
  have HE1 : Hid (1 ≤ epoch ∧ 1 ≤ nd ∧ nd ≤ 100) := Lib.hid ⟨by omega, by omega, by omega⟩
  clear c2 c3 c4 c5 HARG HRE
  -- an elder epoch
  obtain ⟨hbg, hog⟩ : b = g ∧ o = 2 + 4 * (job - 1).toNat := by
    rcases HCA.out with ⟨-, h1, h2⟩ | ⟨h1, -⟩
    · exact ⟨h1, h2⟩
    · rw [HJT.out] at h1; cases h1
  have HOG := Lib.hid hog
  subst hbg
  clear hog HCA
  obtain ⟨vc, vs, hcc⟩ := HP.out.cells
  obtain ⟨⟨k0, k1, k2, k3, k3'⟩, hlr⟩ := hcc w1 (Ext.refl _)
  obtain ⟨p, hpp⟩ : ∃ p, p = ofJ S job := ⟨_, rfl⟩
  have HC := Lib.hid hcc
  have HPP := Lib.hid hpp
  rw [← hpp] at HC HRE2 HSL k0 k2
  obtain ⟨As, cs, hvs, -⟩ := hlr.2
  rw [List.length_map] at hvs
  replace hvs : vs = .slice As (ofJ S job).s.da.length cs := hvs
  rw [← hpp] at hvs
  obtain ⟨ns, hns⟩ : ∃ n, n = p.s.da.length := ⟨_, rfl⟩
  rw [← hns] at hvs HRE2 HSL
  subst hvs
  have HNS := Lib.hid hns
  have HFR := Lib.hid HP.out.fr
  clear hcc hlr hpp HP hns
  by_cases c6 : epoch ≤ p.c.ep
  · have d6 : decide (epoch ≤ p.c.ep) = true := decide_eq_true c6
    have HE : Hid (R = (6, S)) := Lib.hid (HRE2.out.trans (if_pos (.inl c6)))
    clear c6
    go_wp2
    go_ret
    exact ⟨by rw [HE.out]; rfl, by rw [HE.out]; exact HS1.out, Chg.of_ext HX.out⟩
  have d6 : decide (epoch ≤ p.c.ep) = false := decide_eq_false c6
  by_cases c7 : epoch < p.s.ep
  · have d7 : decide (epoch < p.s.ep) = true := decide_eq_true c7
    have HE : Hid (R = (6, S)) := Lib.hid (HRE2.out.trans (if_pos (.inr c7)))
    clear c6 c7
    go_wp2
    go_ret
    exact ⟨by rw [HE.out]; rfl, by rw [HE.out]; exact HS1.out, Chg.of_ext HX.out⟩
  have d7 : decide (epoch < p.s.ep) = false := decide_eq_false c7
  have HRE3 := Lib.hid (HRE2.out.trans (if_neg (fun hc => by rcases hc with hc | hc; exact c6 hc; exact c7 hc)))
  clear c6 c7 HRE2
  -- it is staged already
  cases h1 : isC p.s epoch with
  | true =>
    have HE : Hid (R = (0, S)) := Lib.hid (HRE3.out.trans (if_pos h1))
    have HI := Lib.hid (is_c p.s epoch true h1)
    clear h1
    go_wp2_with fail
    refine (HI.out _ _).mono ?_
    rintro e3 w3 ⟨rfl, hx3⟩
    have HX3 := Lib.hid hx3
    clear hx3 HI
    go_wp2
    go_ret
    exact ⟨by rw [HE.out]; rfl, by rw [HE.out]; exact HS1.out.ext HX3.out, Chg.of_ext (HX.out.trans HX3.out)⟩
  | false =>
  have HRE4 := Lib.hid (HRE3.out.trans (if_neg (by rw [h1]; decide)))
  have HI := Lib.hid (is_c p.s epoch false h1)
  clear h1 HRE3
  go_wp2_with fail
  refine (HI.out _ _).mono ?_
  rintro e3 w3 ⟨rfl, hx3⟩
  obtain ⟨⟨k0, k1, k2, k3, k3'⟩, -⟩ := HC.out w3 hx3
  have HX3 := Lib.hid (HX.out.trans hx3)
  have HS3 := Lib.hid (HS1.out.ext hx3)
  have HXX := Lib.hid hx3
  clear hx3 HI HS1
  obtain ⟨U, hU⟩ : ∃ U, U = usedJ S.jobs := ⟨_, rfl⟩
  have HUL : Hid (U ≤ 1000000) := Lib.hid (by rw [hU]; exact HU.out)
  have K1 : Hid (∀ W, Ext w3 W → Calls Try.prog 16 #[.pointer (some ⟨b, 0, none⟩)] W fun e w' => e = .returned (.int .i64 (U : Int)) ∧ Ext w3 w') := Lib.hid fun W hW => by
    have h9 := HU.out
    refine (Used_any N b S W (HS3.out.ext hW) HK.out (by omega)).mono ?_
    rintro e w' ⟨rfl, hh⟩
    exact ⟨by rw [hU], hW.trans hh⟩
  have HCS : Hid (∀ W, Ext w3 W → W.cell? ⟨b, o + 3, none⟩ = some (.slice As ns cs) ∧ W.cell? ⟨b, 0, none⟩ = some (.int .i64 S.room)) := Lib.hid fun W hW => by
    have h5 := HC.out W (HXX.out.trans hW)
    have h6 := HS3.out.ext hW
    obtain ⟨lp, -, hb, -⟩ := h6.out
    exact ⟨h5.1.2.2.2.1, hb.cell 0⟩
  rw [← hU] at HRE4
  clear hU
  have hw1 : IntKind.i64.wrap ((U : Int) - (ns : Int)) = (U : Int) - (ns : Int) := IntWalk.i64_in _ (by have := HUL.out; have := HSL.out; omega)
  obtain ⟨M, hM⟩ : ∃ M, M = (U : Int) - (ns : Int) + (nd : Int) := ⟨_, rfl⟩
  have HM := Lib.hid hM
  have hw2 : IntKind.i64.wrap ((U : Int) - (ns : Int) + (nd : Int)) = M := by rw [hM]; exact IntWalk.i64_in _ (by have := HUL.out; have := HSL.out; have := HD.out; omega)
  rw [← hM] at HRE4
  clear hM k0 k1 k2 k3 k3' s1
  have hge : Ext w3 w3 := Ext.refl w3
  go_wp2_with fail
  go_region_held3 (fun W => W.cell? ⟨b, o + 3, none⟩ = some (.slice As ns cs) ∧ W.cell? ⟨b, 0, none⟩ = some (.int .i64 S.room)) (first | exact HCS.out _ y1 | exact HCS.out _ (Ext.refl _) | exact HCS.out _ (ext_drew11 (Ext.refl _)) | go_keep) (first | (go_at_call 16; (first | (with_reducible refine (K1.out _ (Ext.refl w3)).mono ?_) | (with_reducible refine (K1.out _ (ext_drew11 (Ext.refl w3))).mono ?_)); rintro e4 w4 ⟨rfl, y1⟩))
  have HX4 := Lib.hid (HX3.out.trans y1)
  have HX14 := Lib.hid (HXX.out.trans y1)
  have HS4 := Lib.hid (HS3.out.ext y1)
  clear y1 HCS K1 HS3 HX3 HXX hw1 hw2 hge
  by_cases c8 : S.room < M
  · have d8 : decide (S.room < M) = true := decide_eq_true c8
    have HE : Hid (R = (3, S)) := Lib.hid (HRE4.out.trans (if_pos c8))
    clear c8
    rw [d8]
    go_wp2
    go_ret
    exact ⟨by rw [HE.out]; rfl, by rw [HE.out]; exact HS4.out, Chg.of_ext HX4.out⟩
  have d8 : decide (S.room < M) = false := decide_eq_false c8
  have HE : Hid (R = (0, { setJ S job ⟨p.c, ⟨epoch, d⟩⟩ with writes := S.writes + 1 })) := Lib.hid (by rw [HRE4.out, if_neg c8])
  have HCN : Hid (Calls Try.prog 46 #[.slice A nd c] w4 fun e w' => ∃ v', e = .returned v' ∧ Grew w4.heap.size 5 (.slice none 0 0) w4 (d.map B) v' w') := Lib.hid (by
    have h1 := HR.out.ext HX4.out
    rw [← HND.out] at h1
    exact Clone_any d _ w4 h1 (by have := HD.out; rw [HND.out] at this; omega))
  clear c8 HRE4
  rw [d8]
  go_wp2_with fail
  refine HCN.out.mono ?_
  rintro e5 w5 ⟨v5, rfl, hg5⟩
  have hv5 := RdF.made (HIN.out.ext HX4.out) hg5
  obtain ⟨A5, c5, hv⟩ := own_slice hg5.1
  rw [List.length_map] at hv
  subst hv
  have hx5 := hg5.ext
  have hs5 := HS4.out.ext hx5
  obtain ⟨h6, hc6⟩ := hs5.put2 HK.out HJT.out epoch d _ hv5 rfl
  rw [← HOG.out, ← HPP.out] at h6
  rw [← HOG.out] at hc6
  obtain ⟨lp5, -, hb5, -⟩ := hs5.out
  have f2 := hb5.frozen (o + 2)
  have f3 := hb5.frozen (o + 3)
  have f3' := hb5.frozen (o + 2 + 1)
  obtain ⟨⟨k0, k1, k2, k3, k3'⟩, -⟩ := HC.out w5 (HX14.out.trans hx5)
  have H6 := Lib.hid h6
  have HC6 := Lib.hid hc6
  have HX5 := Lib.hid (HX4.out.trans hx5)
  clear h6 hc6 hx5 hs5 hb5 hv5 hg5 HCN
  have HOK : Hid (OkS (setJ S job ⟨p.c, ⟨epoch, d⟩⟩)) := Lib.hid (by
    have h9 := HK.out.stage t job epoch d
    rw [← HRR.out, HE.out] at h9
    exact ⟨h9.len, h9.each, h9.room, h9.term⟩)
  have HWR : Hid ((setJ S job ⟨p.c, ⟨epoch, d⟩⟩).writes = S.writes) := Lib.hid (setJ_room _ _ _).2.2
  go_wp2_with fail
  refine (Add_any N b (setJ S job ⟨p.c, ⟨epoch, d⟩⟩) _ H6.out HOK.out (by rw [HWR.out]; exact HW.out.1) (by rw [HWR.out]; exact HW.out.2)).mono ?_
  rintro e6 w6 ⟨rfl, rfl⟩
  have h7 := H6.out.count HOK.out (S.writes + 1)
  have HC7 := Lib.hid ((Chg.of_ext HX5.out).trans (HC6.out.set1 98 (.int .i64 (S.writes + 1))) (fun _ _ h => h))
  have H7 := Lib.hid h7
  clear h7
  rw [HWR.out]
  go_wp2
  go_ret
  refine ⟨by rw [HE.out]; rfl, by rw [HE.out]; exact H7.out, HC7.out⟩

end Go.Proofs.Ytkkmldoohokdfaa

/- Package store: a new store; what a nil one answers. -/
namespace Go.Proofs.Ytkkmldoohokdfaa
open Go.RowKit

theorem soC_new (r : Int) : Try.zeroCells83.setIfInBounds 0 (.int .i64 r) = (soC r 0 (List.replicate 24 zLp) 0).toArray := by kernel_rfl

set_option maxRecDepth 100000 in
theorem New_any (room : Int) (w : World) :
    Calls Try.prog 19 #[.int .i64 room] w fun e w' => e = .returned (.pointer (some ⟨w.heap.size, 0, none⟩)) ∧ Ext w w' ∧ w.heap.size < w'.heap.size ∧
      ∀ N : Fp, N.isIn w' → N w.heap.size → SoAt N w' w.heap.size (newS room) := by
  go_enter Try.func19, Try.ntmps19
  go_wp2
  go_ret
  refine ⟨rfl, (Below.refl _ _).alloc (Nat.le_refl _) _, by simp, fun N hN hg => ⟨⟨List.replicate 24 zLp, rfl, ?_, fun x hx => by rw [List.eq_of_mem_replicate hx]; exact zLp_rd _ _⟩, hN, hg⟩⟩
  rw [soC_new]
  exact Blk.new _ _ _

/-! A nil store. -/
theorem of_nil (job : Int) (w : World) :
    Calls Try.prog 44 #[.pointer none, .int .i64 job] w fun e w' => ∃ b, e = .returned (.pointer (some ⟨b, 0, none⟩)) ∧ Ext w w' ∧ w.heap.size ≤ b ∧ Blk w' b 75 #[.int .i64 0, .slice none 0 0, .int .i64 0, .slice none 0 0] := by
  go_enter Try.func44, Try.ntmps44
  go_wp2
  go_ret
  exact ⟨_, rfl, (Below.refl _ _).alloc (Nat.le_refl _) _, Nat.le_refl _, Blk.new _ _ _⟩
theorem Fence_nil (t : Int) (w : World) : Calls Try.prog 10 #[.pointer none, .int .i64 t] w fun e w' => e = .returned (.tuple #[]) ∧ Ext w w' := by
  go_enter Try.func10, Try.ntmps10
  go_wp2
  go_end0
  exact ⟨rfl, Ext.refl _⟩
theorem Term_nil (w : World) : Calls Try.prog 17 #[.pointer none] w fun e w' => e = .returned (.int .i64 0) ∧ Ext w w' := by
  go_enter Try.func17, Try.ntmps17
  go_wp2
  go_ret
  exact ⟨rfl, Ext.refl _⟩
theorem Writes_nil (w : World) : Calls Try.prog 18 #[.pointer none] w fun e w' => e = .returned (.int .i64 0) ∧ Ext w w' := by
  go_enter Try.func18, Try.ntmps18
  go_wp2
  go_ret
  exact ⟨rfl, Ext.refl _⟩
theorem Used_nil (w : World) : Calls Try.prog 16 #[.pointer none] w fun e w' => e = .returned (.int .i64 0) ∧ Ext w w' := by
  go_enter Try.func16, Try.ntmps16
  go_wp2
  go_ret
  exact ⟨rfl, Ext.refl _⟩
theorem Stage_nil (t job e : Int) (v : Value) (w : World) : Calls Try.prog 13 #[.pointer none, .int .i64 t, .int .i64 job, .int .i64 e, v] w fun e w' => e = .returned (.int .i64 1) ∧ Ext w w' := by
  go_enter Try.func13, Try.ntmps13
  go_wp2
  go_ret
  exact ⟨rfl, Ext.refl _⟩
theorem Commit_nil (job e : Int) (w : World) : Calls Try.prog 14 #[.pointer none, .int .i64 job, .int .i64 e] w fun e w' => e = .returned (.int .i64 1) ∧ Ext w w' := by
  go_enter Try.func14, Try.ntmps14
  go_wp2
  go_ret
  exact ⟨rfl, Ext.refl _⟩
theorem Counts_nil (job : Int) (w : World) : Calls Try.prog 15 #[.pointer none, .int .i64 job] w fun e w' => e = .returned (.int .i64 0) ∧ Ext w w' := by
  go_enter Try.func15, Try.ntmps15
  go_wp2_with fail
  refine (of_nil job w).mono ?_
  rintro e1 w1 ⟨b, rfl, hx, -, hb⟩
  have c0 : w1.cell? ⟨b, 0, none⟩ = some (.int .i64 0) := hb.cell 0
  have HX := Lib.hid hx
  clear hx hb
  go_wp2
  go_ret
  exact ⟨rfl, HX.out⟩
theorem End_nil (job : Int) (w : World) : Calls Try.prog 11 #[.pointer none, .int .i64 job] w fun e w' => e = .returned (.tuple #[]) ∧ Ext w w' := by
  go_enter Try.func11, Try.ntmps11
  go_wp2_with fail
  refine (of_nil job w).mono ?_
  rintro e1 w1 ⟨b, rfl, hx, hlb, hb⟩
  have c0 : w1.cell? ⟨b, 0, none⟩ = some (.int .i64 0) := hb.cell 0
  have c1 : w1.cell? ⟨b, 1, none⟩ = some (.slice none 0 0) := hb.cell 1
  have c2 : w1.cell? ⟨b, 2, none⟩ = some (.int .i64 0) := hb.cell 2
  have c3 : w1.cell? ⟨b, 3, none⟩ = some (.slice none 0 0) := hb.cell 3
  have f0 := hb.frozen 0
  have f1 := hb.frozen 1
  have f2 := hb.frozen 2
  have f3 := hb.frozen 3
  have HX := Lib.hid (fun (W : World) (hc : Chg (fun k => k = b) w1 W) => hc.ext hx (fun k hk => by rw [hk]; exact hlb))
  clear hx hb hlb
  go_wp2
  go_end0
  exact ⟨rfl, HX.out _ (((((Chg.refl _ _).set1 _ _).set1 _ _).set1 _ _).set1 _ _)⟩
theorem Get_nil (job e : Int) (w : World) : Calls Try.prog 12 #[.pointer none, .int .i64 job, .int .i64 e] w fun x w' => x = .returned (.tuple #[.slice none 0 0, .bool false]) ∧ Ext w w' := by
  go_enter Try.func12, Try.ntmps12
  go_wp2_with fail
  refine (of_nil job w).mono ?_
  rintro e1 w1 ⟨b, rfl, hx, -, hb⟩
  have c0 : w1.cell? ⟨b, 0, none⟩ = some (.int .i64 0) := hb.cell 0
  have c1 : w1.cell? ⟨b, 1, none⟩ = some (.slice none 0 0) := hb.cell 1
  have HX := Lib.hid hx
  have HB := Lib.hid hb
  clear hx hb
  go_wp2_with fail
  refine (is_c zCk e false (by simp [isC, zCk]) (.slice none 0 0) w1).mono ?_
  rintro e2 w2 ⟨rfl, hx2⟩
  have hb := HB.out.ext hx2
  have c2 : w2.cell? ⟨b, 2, none⟩ = some (.int .i64 0) := hb.cell 2
  have c3 : w2.cell? ⟨b, 3, none⟩ = some (.slice none 0 0) := hb.cell 3
  have HX2 := Lib.hid (HX.out.trans hx2)
  clear hx2 hb
  go_wp2_with fail
  refine (is_c zCk e false (by simp [isC, zCk]) (.slice none 0 0) w2).mono ?_
  rintro e3 w3 ⟨rfl, hx3⟩
  have HX3 := Lib.hid (HX2.out.trans hx3)
  clear hx3
  go_wp2
  go_ret2
  exact ⟨rfl, HX3.out⟩

end Go.Proofs.Ytkkmldoohokdfaa

/- Package store: a store as a statement uses it, alone. -/
namespace Go.Proofs.Ytkkmldoohokdfaa
open Go.RowKit

theorem usedJ_all : ∀ l : List PrP, (∀ p ∈ l, OkP p) → usedJ l ≤ 200 * l.length
  | [], _ => Nat.le_refl _
  | a :: l, h => by
    have h1 := usedJ_all l fun p hp => h p (by simp [hp])
    have h2 := h a (by simp)
    have h3 := h2.cl
    have h4 := h2.sl
    simp only [usedJ, List.map_cons, List.sum_cons, List.length_cons, wtP] at h1 ⊢
    omega
theorem OkS.used_le {S : StoP} (h : OkS S) : usedJ S.jobs ≤ 4800 := by have h1 := usedJ_all S.jobs h.each; have h2 := h.len; omega
abbrev G1 (g : Nat) : Fp := fun k => k = g
/-- The store at g was made since w; n: how often something was staged, at most. -/
structure SW (w W : World) (g : Nat) (S : StoP) (n : Nat) : Prop where
  so : SoAt (G1 g) W g S
  ok : OkS S
  ext : Ext w W
  low : w.heap.size ≤ g
  wr : 0 ≤ S.writes ∧ S.writes ≤ (n : Int)

section
variable {w W W' : World} {g n : Nat} {S : StoP}
theorem SW.more (h : SW w W g S n) (hx : Ext W W') : SW w W' g S n := ⟨h.so.ext hx, h.ok, h.ext.trans hx, h.low, h.wr⟩
theorem SW.new {w W : World} (hx : Ext w W) (room : Int) : Calls Try.prog 19 #[.int .i64 room] W fun e w' => ∃ g, e = .returned (.pointer (some ⟨g, 0, none⟩)) ∧ SW w w' g (newS room) 0 :=
  (New_any room W).mono (by
    rintro e w' ⟨rfl, hx2, hl, hm⟩
    exact ⟨_, rfl, hm _ (fun k hk => by rw [hk]; exact hl) rfl, okS_new room, hx.trans hx2, hx.size, Int.le_refl 0, Int.le_refl 0⟩)
theorem SW.stage (h : SW w W g S n) (hn : n ≤ 1000) (t j e : Int) (d : List UInt8) (A : Option Addr) (c : Nat) (hr : Rd W (.slice A d.length c) (d.map B)) (hd : d.length ≤ 1000) :
    Calls Try.prog 13 #[.pointer (some ⟨g, 0, none⟩), .int .i64 t, .int .i64 j, .int .i64 e, .slice A d.length c] W fun x w' =>
      x = .returned (.int .i64 (stageS S t j e d).1) ∧ SW w w' g (stageS S t j e d).2 (n + 1) ∧ Chg (G1 g) W w' :=
  (Stage_any (G1 g) g S t j e d A c W h.so h.ok hr (by omega) h.wr.1 (by have := h.wr.2; omega) (by have := h.ok.used_le; omega)).mono (by
    rintro x w' ⟨rfl, hs, hc⟩
    have hw := stage_room S t j e d
    exact ⟨rfl, ⟨hs, h.ok.stage _ _ _ _, hc.ext h.ext (fun k hk => by have hk : k = g := hk; rw [hk]; exact h.low), h.low, by have := h.wr; omega, by have := h.wr; omega⟩, hc⟩)
theorem SW.commit (h : SW w W g S n) (j e : Int) :
    Calls Try.prog 14 #[.pointer (some ⟨g, 0, none⟩), .int .i64 j, .int .i64 e] W fun x w' =>
      x = .returned (.int .i64 (commitS S j e).1) ∧ SW w w' g (commitS S j e).2 n ∧ Chg (G1 g) W w' :=
  (Commit_any (G1 g) g S j e W h.so h.ok).mono (by
    rintro x w' ⟨rfl, hs, hc⟩
    have hw := commit_room S j e
    exact ⟨rfl, ⟨hs, h.ok.commit _ _, hc.ext h.ext (fun k hk => by have hk : k = g := hk; rw [hk]; exact h.low), h.low, by have := h.wr; omega, by have := h.wr; omega⟩, hc⟩)
theorem SW.end_ (h : SW w W g S n) (j : Int) :
    Calls Try.prog 11 #[.pointer (some ⟨g, 0, none⟩), .int .i64 j] W fun x w' => x = .returned (.tuple #[]) ∧ SW w w' g (endS S j) n ∧ Chg (G1 g) W w' :=
  (End_any (G1 g) g S j W h.so h.ok).mono (by
    rintro x w' ⟨rfl, hs, hc⟩
    have hw := setJ_room S j zPr
    exact ⟨rfl, ⟨hs, h.ok.end_ _, hc.ext h.ext (fun k hk => by have hk : k = g := hk; rw [hk]; exact h.low), h.low, by unfold endS; have := h.wr; omega, by unfold endS; have := h.wr; omega⟩, hc⟩)
theorem SW.fence (h : SW w W g S n) (t : Int) :
    Calls Try.prog 10 #[.pointer (some ⟨g, 0, none⟩), .int .i64 t] W fun x w' => x = .returned (.tuple #[]) ∧ SW w w' g (fenceS S t) n ∧ Chg (G1 g) W w' :=
  (Fence_any (G1 g) g S t W h.so).mono (by
    rintro x w' ⟨rfl, hs, hc⟩
    exact ⟨rfl, ⟨hs, h.ok.fence _, hc.ext h.ext (fun k hk => by have hk : k = g := hk; rw [hk]; exact h.low), h.low, h.wr⟩, hc⟩)
theorem SW.get (h : SW w W g S n) (j e : Int) :
    Calls Try.prog 12 #[.pointer (some ⟨g, 0, none⟩), .int .i64 j, .int .i64 e] W fun x w' =>
      ∃ v, x = .returned (.tuple #[v, .bool (getS S j e).2]) ∧ RdF (fun k => ¬ G1 g k) w' v ((getS S j e).1.map B) ∧ SW w w' g S n ∧ Ext W w' :=
  (Get_any (G1 g) g S j e W h.so h.ok).mono (by
    rintro x w' ⟨v, rfl, hv, hx⟩
    exact ⟨v, rfl, hv, h.more hx, hx⟩)
theorem SW.counts (h : SW w W g S n) (j : Int) :
    Calls Try.prog 15 #[.pointer (some ⟨g, 0, none⟩), .int .i64 j] W fun x w' => x = .returned (.int .i64 (ofJ S j).c.ep) ∧ SW w w' g S n ∧ Ext W w' :=
  (Counts_any (G1 g) g S j W h.so h.ok).mono (by
    rintro x w' ⟨rfl, hx⟩
    exact ⟨rfl, h.more hx, hx⟩)
theorem SW.used (h : SW w W g S n) :
    Calls Try.prog 16 #[.pointer (some ⟨g, 0, none⟩)] W fun x w' => x = .returned (.int .i64 (usedJ S.jobs : Int)) ∧ SW w w' g S n ∧ Ext W w' :=
  (Used_any (G1 g) g S W h.so h.ok (by have := h.ok.used_le; omega)).mono (by
    rintro x w' ⟨rfl, hx⟩
    exact ⟨rfl, h.more hx, hx⟩)
theorem SW.writes (h : SW w W g S n) :
    Calls Try.prog 18 #[.pointer (some ⟨g, 0, none⟩)] W fun x w' => x = .returned (.int .i64 S.writes) ∧ W = w' := Writes_any (G1 g) g S W h.so h.ok
theorem SW.term (h : SW w W g S n) :
    Calls Try.prog 17 #[.pointer (some ⟨g, 0, none⟩)] W fun x w' => x = .returned (.int .i64 S.term) ∧ W = w' := Term_any (G1 g) g S W h.so
end

end Go.Proofs.Ytkkmldoohokdfaa

/- A store beside other blocks that are written. -/
namespace Go.Proofs.Ytkkmldoohokdfaa
open Go.RowKit

section
variable {N N' G : Fp} {w w' : World} {g : Nat} {S : StoP}
theorem SoAt.wide (h : SoAt N w g S) (hx : Ext w w') (hN : ∀ k, N' k → N k ∨ w.heap.size ≤ k) (hi : N'.isIn w') (hg : N' g) : SoAt N' w' g S := by
  obtain ⟨lp, h1, h2, h3⟩ := h.out
  have hr : ∀ v xs, RdF (fun k => ¬ N k) w v xs → RdF (fun k => ¬ N' k) w' v xs := by
    rintro v xs ⟨A, c, e, q1, q2, q3⟩
    refine ⟨A, c, e, q1, q2, fun hn => ?_⟩
    obtain ⟨b, o, hA, hb, hNb, hc⟩ := q3 hn
    refine ⟨b, o, hA, Nat.lt_of_lt_of_le hb hx.size, fun hb' => ?_, fun j u hu => (hx.cell (p := ⟨b, o + j, none⟩) hb).trans (hc j u hu)⟩
    rcases hN b hb' with h | h
    · exact hNb h
    · omega
  exact ⟨⟨lp, h1, h2.ext hx, fun x hxm => ⟨hr _ _ (h3 x hxm).1, hr _ _ (h3 x hxm).2⟩⟩, hi, hg⟩
theorem SoAt.narrow (h : SoAt N' w g S) (hN : ∀ k, N k → N' k) (hg : N g) : SoAt N w g S := by
  obtain ⟨lp, h1, h2, h3⟩ := h.out
  exact ⟨⟨lp, h1, h2, fun x hx => ⟨(h3 x hx).1.mono fun k hk hn => hk (hN k hn), (h3 x hx).2.mono fun k hk hn => hk (hN k hn)⟩⟩, fun k hk => h.isIn k (hN k hk), hg⟩
end

/-- A store, as a statement uses it, beside other blocks that are written: N. -/
structure SX (N : Fp) (w W : World) (g : Nat) (S : StoP) (n : Nat) : Prop where
  so : SoAt N W g S
  ok : OkS S
  ext : Ext w W
  low : ∀ k, N k → w.heap.size ≤ k
  wr : 0 ≤ S.writes ∧ S.writes ≤ (n : Int)
section
variable {N G : Fp} {w W W' : World} {g n : Nat} {S : StoP}
theorem SX.more (h : SX N w W g S n) (hx : Ext W W') : SX N w W' g S n := ⟨h.so.ext hx, h.ok, h.ext.trans hx, h.low, h.wr⟩
theorem SX.le (h : SX N w W g S n) {m : Nat} (hm : n ≤ m) : SX N w W g S m := ⟨h.so, h.ok, h.ext, h.low, h.wr.1, by have := h.wr.2; omega⟩
theorem SX.chg (h : SX N w W g S n) (hc : Chg G W W') (hG : ∀ k, G k → N k) (hg : ¬ G g) : SX N w W' g S n := ⟨h.so.chg hc hG hg, h.ok, hc.ext h.ext (fun k hk => h.low k (hG k hk)), h.low, h.wr⟩
theorem SX.sw (h : SX N w W g S n) : SW w W g S n := ⟨h.so.narrow (fun k hk => by have hk : k = g := hk; rw [hk]; exact h.so.here) rfl, h.ok, h.ext, h.low g h.so.here, h.wr⟩
theorem SW.sx (h : SW w W g S n) : SX (G1 g) w W g S n := ⟨h.so, h.ok, h.ext, fun k hk => by have hk : k = g := hk; rw [hk]; exact h.low, h.wr⟩
theorem SX.wide {N' : Fp} (h : SX N w W g S n) (hx : Ext W W') (hN : ∀ k, N' k → N k ∨ W.heap.size ≤ k) (hi : N'.isIn W') (hg : N' g) : SX N' w W' g S n :=
  ⟨h.so.wide hx hN hi hg, h.ok, h.ext.trans hx, fun k hk => by rcases hN k hk with h1 | h1; exact h.low k h1; have := h.ext.size; omega, h.wr⟩
end

end Go.Proofs.Ytkkmldoohokdfaa

/- Package agent: Take, with a store. -/
namespace Go.Proofs.Ytkkmldoohokdfaa
open Go.RowKit

section
variable {N G : Fp} {w W W' : World} {g n : Nat} {S : StoP}
/-- The store, told a checkpoint. -/
theorem stg_so (h : SX N w W g S n) (hn : n ≤ 1000) (t j e : Int) (D : List UInt8) (hd : D.length ≤ 1000) :
    StgOk W (G1 g) (.pointer (some ⟨g, 0, none⟩)) t j e D (fun r W' => r = (stageS S t j e D).1 ∧ SX N w W' g (stageS S t j e D).2 (n + 1)) := by
  refine ⟨fun k hk => by have hk : k = g := hk; rw [hk]; exact h.so.lt, fun W1 A c hx hr => ?_⟩
  have hs := h.so.wide (N' := fun k => N k ∨ (W.heap.size ≤ k ∧ k < W1.heap.size)) hx (fun k hk => by rcases hk with hk | hk; exact .inl hk; exact .inr hk.1)
    (fun k hk => by rcases hk with hk | hk; exact Nat.lt_of_lt_of_le (h.so.isIn k hk) hx.size; exact hk.2) (.inl h.so.here)
  refine (Stage_any _ g S t j e D A c W1 hs h.ok hr (by omega) h.wr.1 (by have := h.wr.2; omega) (by have := h.ok.used_le; omega)).mono ?_
  rintro x w' ⟨rfl, hs', hc⟩
  refine ⟨_, rfl, hc, fun K W' hK hk => ⟨rfl, ?_⟩⟩
  have hw := stage_room S t j e D
  have h1 := hs'.chg hk (fun k hkk => .inr (hK k hkk)) (fun hkk => by have := (hK _ hkk).1; have := h.so.lt; omega)
  have h2 : Ext w w' := hc.ext (h.ext.trans hx) (fun k hk => by have hk : k = g := hk; rw [hk]; exact h.low g h.so.here)
  have h3 : Ext w W' := hk.ext h2 (fun k hkk => by have h1 := (hK k hkk).1; have h2 := h.ext.size; omega)
  exact ⟨h1.narrow (fun k hk => .inl hk) h.so.here, h.ok.stage _ _ _ _, h3, h.low, by have := h.wr; omega, by have := h.wr; omega⟩
end

/-- What comes of an agent's checkpoint, and the store behind it. -/
def svS (S : StoP) (a : Ag) (m : Ms) (now : Int) : Bool := if asksA a m now = true then (stageS S m.term a.job a.inc (svB a.worked)).1 == 0 else true
def soS (S : StoP) (a : Ag) (m : Ms) (now : Int) : StoP := if asksA a m now = true then (stageS S m.term a.job a.inc (svB a.worked)).2 else S
theorem Take_so {N : Fp} {w W : World} {g n : Nat} {S : StoP} (h : SX N w W g S n) (hn : n ≤ 1000) (a : Ag) (m : Ms) (node now : Int) (hkb : -9223372036854775808 ≤ m.kind ∧ m.kind ≤ 9223372036854775807) (h0 : 0 ≤ a.worked) (h1 : a.worked ≤ 1000000000) :
    Calls Try.prog 35 #[agV a, .int .i64 node, msV m, .int .i64 now, .pointer (some ⟨g, 0, none⟩)] W fun e w' =>
      e = .returned (.tuple #[agV (takeA a m now (svS S a m now)), msV (if goesA a m = true then tellA (takeA a m now (svS S a m now)) node else zMs), .bool (goesA a m)]) ∧ SX N w w' g (soS S a m now) (n + 1) ∧ Chg (G1 g) W w' :=
  (Take_any a m node now (some ⟨g, 0, none⟩) (G1 g) _ W hkb h0 h1 (fun _ => stg_so h hn m.term a.job a.inc (svB a.worked) (by have := svB_len h0 h1; omega))).mono (by
    rintro e w' ⟨sv, rfl, hno, hy⟩
    cases ha : asksA a m now with
    | false =>
      obtain ⟨rfl, hx⟩ := hno ha
      have h3 : soS S a m now = S := by unfold soS; rw [ha]; rfl
      exact ⟨by unfold svS; rw [ha]; rfl, by rw [h3]; exact (h.more hx).le (Nat.le_succ n), Chg.of_ext hx⟩
    | true =>
      obtain ⟨r, rfl, ⟨rfl, hs⟩, hc⟩ := hy ha
      have h3 : soS S a m now = (stageS S m.term a.job a.inc (svB a.worked)).2 := by unfold soS; rw [ha]; rfl
      exact ⟨by unfold svS; rw [ha]; rfl, by rw [h3]; exact hs, hc⟩)

end Go.Proofs.Ytkkmldoohokdfaa
