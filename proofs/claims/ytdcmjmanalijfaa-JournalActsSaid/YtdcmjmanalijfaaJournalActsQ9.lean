/- Texts that the proof of JournalActs rests on, one behind the other. -/
import Derived.Test.YtdcmjmanalijfaaJournalActsQ8
import Derived.Test.YtdcmjmanalijfaaRows
import Derived.Outline
import Derived.Deep.RegionLaw

/- Package journal: how many ops there are, and whether one more has room. -/
namespace Go.Proofs.Ytdcmjmanalijfaa
open Go.RowKit

section
variable (j ml ms c u n N k : Nat) (A : Option Addr) (w : World)
set_option maxRecDepth 100000 in
/-- How many of those that were started are there. -/
theorem JnStarted (hb : Blk w j 79 #[.pointer (some ⟨ms, 0, none⟩), .pointer (some ⟨ml, 0, none⟩), .int .i64 (c : Int), .slice A N k])
    (KU : ∀ w1, Ext w w1 → Calls Try.prog 69 #[.pointer (some ⟨ml, 0, none⟩)] w1 fun e w' => e = .returned (.int .i64 (u : Int)) ∧ Ext w1 w')
    (KB : ∀ w1, Ext w w1 → Calls Try.prog 76 #[.slice A N k, .int .i64 ((u : Int) + 1)] w1 fun e w' => e = .returned (.tuple #[.int .i64 (n : Int), .bool false]) ∧ Ext w1 w') (hu : u ≤ 65536) :
    Calls Try.prog 45 #[.pointer (some ⟨j, 0, none⟩)] w fun e w' => e = .returned (.int .i64 (n : Int)) ∧ Ext w w' := by
  have hx0 : Ext w w.drew := Ext.dr (Ext.refl w)
  have c1 := (hb.ext hx0).cell 1
  have c3 := (hb.ext hx0).cell 3
  have c1 : w.drew.cell? ⟨j, 1, none⟩ = some (.pointer (some ⟨ml, 0, none⟩)) := c1
  have c3 : w.drew.cell? ⟨j, 3, none⟩ = some (.slice A N k) := c3
  have w1 : IntKind.i64.wrap ((u : Int) + 1) = (u : Int) + 1 := by rw [IntKind.wrap_i64]; omega
  have KU' := Lib.hid (KU _ hx0)
  have KB' := Lib.hid KB
  have HB := Lib.hid hb
  have HX := Lib.hid hx0
  clear KU KB hb hu hx0
  go_enter Try.func45, Try.ntmps45
  go_wp2
  go_region_held3 (fun w' => w'.cell? ⟨j, 1, none⟩ = some (.pointer (some ⟨ml, 0, none⟩)) ∧ w'.cell? ⟨j, 3, none⟩ = some (.slice A N k)) (first | go_keep | (exact ⟨d1, d3⟩) | (exact ⟨e1, e3⟩)) (first | (go_at_call 69; (with_reducible refine KU'.out.mono ?_); rintro e w4 ⟨rfl, hx4⟩; have hy4 := HX.out.trans hx4; have d1 : w4.cell? ⟨j, 1, none⟩ = some (.pointer (some ⟨ml, 0, none⟩)) := (HB.out.ext hy4).cell 1; have d3 : w4.cell? ⟨j, 3, none⟩ = some (.slice A N k) := (HB.out.ext hy4).cell 3) | (go_at_call 76; (with_reducible refine (KB'.out _ hy4).mono ?_); rintro e w5 ⟨rfl, hx5⟩; have hy5 := hy4.trans hx5; have e1 : w5.cell? ⟨j, 1, none⟩ = some (.pointer (some ⟨ml, 0, none⟩)) := (HB.out.ext hy5).cell 1; have e3 : w5.cell? ⟨j, 3, none⟩ = some (.slice A N k) := (HB.out.ext hy5).cell 3))
  all_goals
    go_wp2
    go_ret
    exact ⟨rfl, hy5⟩

set_option maxRecDepth 100000 in
/-- How many ops there are. -/
theorem JnCount_n (hb : Blk w j 79 #[.pointer (some ⟨ms, 0, none⟩), .pointer (some ⟨ml, 0, none⟩), .int .i64 (c : Int), .slice A N k])
    (KS : ∀ w1, Ext w w1 → Calls Try.prog 45 #[.pointer (some ⟨j, 0, none⟩)] w1 fun e w' => e = .returned (.int .i64 (n : Int)) ∧ Ext w1 w') (hc : c ≤ 1000000000) (hn : n ≤ 100) :
    Calls Try.prog 16 #[.pointer (some ⟨j, 0, none⟩)] w fun e w' => e = .returned (.int .i64 ((c + n : Nat) : Int)) ∧ Ext w w' := by
  have hx0 : Ext w w.drew := Ext.dr (Ext.refl w)
  have c2 : w.drew.cell? ⟨j, 2, none⟩ = some (.int .i64 (c : Int)) := (hb.ext hx0).cell 2
  have w1 : IntKind.i64.wrap ((c : Int) + (n : Int)) = ((c + n : Nat) : Int) := by rw [IntKind.wrap_i64]; omega
  have KS' := Lib.hid (KS _ hx0)
  have HB := Lib.hid hb
  have HX := Lib.hid hx0
  generalize hm : c + n = m at *
  clear KS hb hx0 hc hn hm
  go_enter Try.func16, Try.ntmps16
  go_wp2
  go_region_held3 (fun w' => w'.cell? ⟨j, 2, none⟩ = some (.int .i64 (c : Int))) (first | go_keep | (exact d2)) (first | (go_at_call 45; (with_reducible refine KS'.out.mono ?_); rintro e w4 ⟨rfl, hx4⟩; have hy4 := HX.out.trans hx4; have d2 : w4.cell? ⟨j, 2, none⟩ = some (.int .i64 (c : Int)) := (HB.out.ext hy4).cell 2))
  all_goals
    go_wp2
    go_ret
    exact ⟨rfl, hy4⟩
end

section
variable {F : Fp} {w : World} {j ms ml g q f z u c : Nat} {t : DkS}
theorem JN.started (hd : JN F w j ms ml g t q f z u c) (hu : u ≤ 65536) :
    Calls Try.prog 45 #[.pointer (some ⟨j, 0, none⟩)] w fun e w' => e = .returned (.int .i64 0) ∧ Ext w w' :=
  JnStarted j ml ms c u 0 0 0 none w hd.blk (fun w1 hx => hd.ld.useds hu w1 hx) (fun w1 _ => Bs_nil _ w1) hu
theorem JN.count (hd : JN F w j ms ml g t q f z u c) (hu : u ≤ 65536) (hc : c ≤ 1000000000) :
    Calls Try.prog 16 #[.pointer (some ⟨j, 0, none⟩)] w fun e w' => e = .returned (.int .i64 (c : Int)) ∧ Ext w w' :=
  JnCount_n j ml ms c 0 0 0 none w hd.blk (fun _ hx => (hd.ext hx).started hu) hc (by decide)

set_option maxRecDepth 100000 in
theorem JN.wrong (hd : JN F w j ms ml g t q f z u c) (n : Nat) (hz : z ≤ 65536) (hu : u ≤ z) (hc : c ≤ 1000000000) (hn : n ≤ 1000000000) :
    Calls Try.prog 46 #[.pointer (some ⟨j, 0, none⟩), .int .i64 (n : Int)] w fun e w' => e = .returned (.int .i64 (jwE z u c n)) ∧ Ext w w' := by
  by_cases h1 : 1 ≤ n ∧ n ≤ 3900
  · have hd1 : decide (1 ≤ (n : Int) ∧ (n : Int) ≤ 3900) = true := decide_eq_true (by omega)
    have hjr : jroom z u c n = roomB z u ((numB c).length + n : Nat) := by
      rw [jroom, decide_eq_true (by omega), Bool.true_and, Int.toNat_natCast]
    have KI := isOp_any (n : Int) w
    rw [hd1] at KI
    have hL := fun w1 hx => LDRoom F ml g t f z u ((numB c).length + n : Nat) w1 ((hd.ext (w' := w1) hx).ld) hz hu
    rw [← hjr] at hL
    have hC := hd.count (by omega) hc
    have h8 := numB_len8 (n := c) (by omega)
    have hp8 := numB_pos c
    have KN := fun w1 => Num_yes c w1 (by omega)
    have w2 : IntKind.i64.wrap (((numB c).length : Int) + (n : Int)) = (((numB c).length + n : Nat) : Int) := by rw [IntKind.wrap_i64]; omega
    have hjw : jwE z u c n = if jroom z u c n = true then 0 else 3 := by rw [jwE, if_pos h1]
    rw [hjw]
    have HI := Lib.hid KI
    have HL := Lib.hid hL
    have HC := Lib.hid hC
    have HN := Lib.hid KN
    have HD := Lib.hid hd
    generalize hm : (numB c).length = m at *
    generalize hmn : m + n = mn at *
    have HM := Lib.hid hm
    have q0 : ((m : Int) == 0) = false := by rw [beq_eq_false_iff_ne]; omega
    generalize jroom z u c n = R at *
    clear KI hL hC KN hd hjr hd1 hm hjw h8 hp8 hz hu hc hn h1 hmn
    cases R
    all_goals
      go_enter Try.func46, Try.ntmps46
      go_wp2_with fail
      refine HI.out.mono ?_
      rintro e w1 ⟨rfl, rfl⟩
      go_wp2_with fail
      refine HC.out.mono ?_
      rintro e w2 ⟨rfl, hx2⟩
      go_wp2_with fail
      refine (HN.out _).mono ?_
      rintro e w3 ⟨v3, rfl, hg3⟩
      obtain ⟨A3, k3, rfl⟩ := hg3.slice_ (n := m) (by rw [List.length_map, HM.out])
      have hx3 := hx2.trans hg3.ext
      have c1 := (HD.out.ext hx3).c1
      have HX3 := Lib.hid hx3
      clear hg3 hx3 hx2
      go_wp2_with fail
      refine (HL.out _ HX3.out).mono ?_
      rintro e w4 ⟨rfl, hx4⟩
      clear c1
      go_wp2
      go_ret
      exact ⟨rfl, HX3.out.trans hx4⟩
  · have hd1 : decide (1 ≤ (n : Int) ∧ (n : Int) ≤ 3900) = false := decide_eq_false (by omega)
    have KI := isOp_any (n : Int) w
    rw [hd1] at KI
    have hjw : jwE z u c n = 1 := by rw [jwE, if_neg h1]
    rw [hjw]
    have HI := Lib.hid KI
    clear KI hd hd1 hz hu hc hn h1 hjw
    go_enter Try.func46, Try.ntmps46
    go_wp2_with fail
    refine HI.out.mono ?_
    rintro e w1 ⟨rfl, rfl⟩
    go_wp2
    go_ret
    exact ⟨rfl, Ext.refl _⟩

theorem JN.room (hd : JN F w j ms ml g t q f z u c) (n : Nat) (hz : z ≤ 65536) (hu : u ≤ z) (hc : c ≤ 1000000000) (hn : n ≤ 1000000000) :
    Calls Try.prog 17 #[.pointer (some ⟨j, 0, none⟩), .int .i64 (n : Int)] w fun e w' => e = .returned (.bool (jroom z u c n)) ∧ Ext w w' := by
  have HK := Lib.hid (hd.wrong n hz hu hc hn)
  have HR := Lib.hid (jwE_room z u c n)
  clear hd hz hu hc hn
  go_enter Try.func17, Try.ntmps17
  go_wp2_with fail
  refine HK.out.mono ?_
  rintro e w1 ⟨rfl, hx⟩
  go_wp2
  go_ret
  refine ⟨?_, hx⟩
  rw [← HR.out]
  rfl
end

/-! ### A nil journal -/
theorem JnCount_nil (w : World) : Calls Try.prog 16 #[.pointer none] w fun e w' => e = .returned (.int .i64 0) ∧ Ext w w' := by
  go_enter Try.func16, Try.ntmps16
  go_wp2
  go_ret
  exact ⟨rfl, Ext.refl _⟩
theorem JnWrong_nil (n : Int) (w : World) : Calls Try.prog 46 #[.pointer none, .int .i64 n] w fun e w' => e = .returned (.int .i64 1) ∧ Ext w w' := by
  go_enter Try.func46, Try.ntmps46
  go_wp2
  go_ret
  exact ⟨rfl, Ext.refl _⟩
theorem JnRoom_nil (n : Int) (w : World) : Calls Try.prog 17 #[.pointer none, .int .i64 n] w fun e w' => e = .returned (.bool false) ∧ Ext w w' := by
  go_enter Try.func17, Try.ntmps17
  go_wp2_with fail
  refine (JnWrong_nil n w).mono ?_
  rintro e w1 ⟨rfl, hx⟩
  go_wp2
  go_ret
  exact ⟨rfl, hx⟩
theorem JnAdd_nil (p : List UInt8) (v fv : Value) (w : World) (hr : Rd w v (p.map B)) : Calls Try.prog 41 #[.pointer none, v, fv] w fun e w' => e = .returned (.int .i64 1) ∧ Ext w w' := by
  obtain ⟨A, c, rfl, hlc, hcm⟩ := hr.sliceN (List.length_map _)
  clear hr
  go_enter Try.func41, Try.ntmps41
  go_wp2_with fail
  refine (JnWrong_nil _ w).mono ?_
  rintro e w1 ⟨rfl, hx⟩
  go_wp2
  go_ret
  exact ⟨rfl, hx⟩
theorem JnAppend_nil (p : List UInt8) (v : Value) (w : World) (hr : Rd w v (p.map B)) : Calls Try.prog 13 #[.pointer none, v] w fun e w' => e = .returned (.int .i64 1) ∧ Ext w w' := by
  go_enter Try.func13, Try.ntmps13
  go_wp2_with fail
  refine (JnAdd_nil p v _ w hr).mono ?_
  rintro e w1 ⟨rfl, hx⟩
  go_wp2
  go_ret
  exact ⟨rfl, hx⟩
theorem JnStart_nil (p : List UInt8) (v : Value) (w : World) (hr : Rd w v (p.map B)) : Calls Try.prog 14 #[.pointer none, v] w fun e w' => e = .returned (.int .i64 1) ∧ Ext w w' := by
  go_enter Try.func14, Try.ntmps14
  go_wp2_with fail
  refine (JnAdd_nil p v _ w hr).mono ?_
  rintro e w1 ⟨rfl, hx⟩
  go_wp2
  go_ret
  exact ⟨rfl, hx⟩
theorem JnCompact_nil (v : Value) (w : World) : Calls Try.prog 15 #[.pointer none, v] w fun e w' => e = .returned (.int .i64 1) ∧ Ext w w' := by
  go_enter Try.func15, Try.ntmps15
  go_wp2
  go_ret
  exact ⟨rfl, Ext.refl _⟩

end Go.Proofs.Ytdcmjmanalijfaa

/- Package journal: one more op's record. -/
namespace Go.Proofs.Ytdcmjmanalijfaa
open Go.RowKit

theorem stepPush_int {w : World} {ops : Array Oper} {o : Oper} {a : Act} {K : Act → World → Prop} {Q : Exit → Act → World → Prop} {E : Prop} {gx : Nat} (s x : Operand)
    (hop : o.op = .call { callee := .builtin .append, args := #[s, x], argTypes := #[63, 63] }) (hw : Region.wanted o (yielded ops a.tmps) = true)
    (base : Nat) (v : Value) (xs : List Value) (hown : w.ownsRow base 3 1 v xs.length xs) (hs : a.eval s = v) (u : Value) (h1 : u.oneCell' = true) (hx : a.eval x = .slice (some ⟨gx, 0, none⟩) 1 1) (hgx : gx = w.heap.size)
    (hlen : xs.length < 17592186044416) (hbase : base ≤ w.heap.size)
    (h : ∀ v' w', Grew base 3 v w (xs ++ [u]) v' w' → K (a.put o.dst v') w') :
    if Region.wanted o (yielded ops a.tmps) = true then Oper.wp Try.prog o a (w.alloc (.cells #[u] 3)) K Q else E := by
  subst hgx
  rw [if_pos hw]
  obtain ⟨i0, hi, hz0, hz1, hz2⟩ := info_parts Try.infoInt
  obtain ⟨v', w', hrun, h2⟩ := run_push (P := Try.prog) w base 63 o.type 3 i0 (.int .i64 0) 8 Try.underlying63 hi hz0 hz1 hz2 rfl v xs hown u h1 (by unfold maxLen; omega) (by omega) hbase
  unfold Oper.wp execOp
  simp only [hop, resolve, invoke, builtin, Sem.run_bind, Sem.run_pure, Result.andThen_ok, List.map_toArray, List.map_cons, List.map_nil, hs, hx, hrun]
  exact h v' w' h2

/-- The slice of one end. -/
def EndAt (w : World) (A : Option Addr) (U : Nat) : Prop := ∃ b o, A = some ⟨b, o, none⟩ ∧ b < w.heap.size ∧ w.cell? ⟨b, o, none⟩ = some (.int .i64 (U : Int))
/-- What add leaves: the disk and the log turned, one end noted. -/
def AddP (F : Fp) (j ms ml g : Nat) (T : DkS) (q f z U c : Nat) (w : World) (e : Ending) (w' : World) : Prop :=
  ∃ A k, e = .returned (.int .i64 0) ∧ JM (F.since w w') w' j ms ml g T q f z U c (.slice A 1 k) ∧ EndAt w' A U ∧ Chg F w w'

theorem EndAt.ext {w w' : World} {A : Option Addr} {U : Nat} (h : EndAt w A U) (hx : Ext w w') : EndAt w' A U := by
  obtain ⟨b, o, rfl, hb, hc⟩ := h
  exact ⟨b, o, rfl, Nat.lt_of_lt_of_le hb hx.size, (hx.cell (p := ⟨b, o, none⟩) hb).trans hc⟩

section
variable {F : Fp} {w : World} {j ms ml g q f z u c : Nat} {t : DkS} {p : List UInt8} {v : Value} {H : Fp}
/-- The one end is written. -/
theorem end_noted {w7 w8 : World} {T : DkS} {U : Nat} {v' : Value} (hd : JN F w7 j ms ml g T q f z U c) (hg : Grew w7.heap.size 3 (.slice none 0 0) w7 [Value.int .i64 (U : Int)] v' w8) :
    ∃ A k, v' = .slice A 1 k ∧ JM (F.since w7 w8) (w8.setCell ⟨j, 3, none⟩ v') j ms ml g T q f z U c (.slice A 1 k) ∧ EndAt (w8.setCell ⟨j, 3, none⟩ v') A U ∧ Chg F w7 (w8.setCell ⟨j, 3, none⟩ v') := by
  obtain ⟨A, k, rfl⟩ := hg.slice_ (n := 1) rfl
  have hr := (RowF.made hg).rdF
  have hj : j < w7.heap.size := hd.blk.lt
  obtain ⟨h1, h2, h3⟩ := (hd.later hg.ext).setEnds (.slice A 1 k)
  have hr2 := hr.chg h2 (fun b hb e => by
    have := hb.1
    omega)
  refine ⟨A, k, rfl, h1, ?_, ?_⟩
  · obtain ⟨b, o, e, hb, -, hc⟩ := hr2.get (by simp)
    exact ⟨b, o, e, hb, hc 0 _ rfl⟩
  · refine (Chg.of_ext hg.ext).trans h2 (fun x _ hx => ?_)
    subst hx
    rcases h3 with h3 | h3
    · exact h3
    · omega

set_option maxRecDepth 100000 in
theorem JN.add_no (hd : JN F w j ms ml g t q f z u c) (hr : Rd w v (p.map B)) (fv : Value) (hz : z ≤ 65536) (hu : u ≤ z) (hc : c ≤ 1000000000) (hp : p.length ≤ 1000000000) (he : jE z u c p ≠ 0) :
    Calls Try.prog 41 #[.pointer (some ⟨j, 0, none⟩), v, fv] w fun e w' => e = .returned (.int .i64 (jE z u c p)) ∧ Ext w w' := by
  have hK := hd.wrong p.length hz hu hc hp
  rw [jwE_eq (by omega)] at hK
  obtain ⟨A, k, rfl, hlc, hcm⟩ := hr.sliceN (List.length_map _)
  unfold maxLen at hcm
  have HK := Lib.hid hK
  have hne : (jE z u c p != 0) = true := by rw [bne_iff_ne]; exact he
  clear hd hr hz hu hc hp he hK
  generalize jE z u c p = E at *
  go_enter Try.func41, Try.ntmps41
  go_wp2_with fail
  refine HK.out.mono ?_
  rintro e w1 ⟨rfl, hx⟩
  go_wp2
  go_ret
  exact ⟨rfl, hx⟩

/-- The record's bytes, put together. -/
theorem rec_concat (c : Nat) (p : List UInt8) (w4 : World) (v4 vp : Value) (h4 : Rd w4 v4 ((numB c).map B)) (hp : Rd w4 vp (p.map B)) (hl : (payB c p).length ≤ 1000000) :
    Calls Try.prog 67 #[.slice (some ⟨w4.heap.size, 0, none⟩) 2 2] (w4.alloc (.cells #[v4, vp] 30)) fun e w' =>
      ∃ A k, e = .returned (.slice A (payB c p).length k) ∧ RdF (fun b => w4.heap.size ≤ b ∧ b < w'.heap.size) w' (.slice A (payB c p).length k) ((payB c p).map B) ∧ Ext w4 w' := by
  have hx : Ext w4 (w4.alloc (.cells #[v4, vp] 30)) := (Below.refl _ _).alloc (Nat.le_refl _) _
  have hf : [numB c, p].flatten = payB c p := by simp [payB]
  have h2 := Concat_any [numB c, p] _ _ (RdL.lit (w := w4) 30 [v4, vp] [numB c, p] #[v4, vp] 2 w4.heap.size rfl (by simp) rfl rfl rfl (fun i x l hx hl => by
    match i, hx, hl with
    | 0, hx, hl => cases hx; cases hl; exact h4
    | 1, hx, hl => cases hx; cases hl; exact hp)) (by rw [hf]; omega)
  rw [hf] at h2
  refine h2.mono ?_
  rintro e w' ⟨v', rfl, hg⟩
  have hr := (RowF.made hg).rdF
  obtain ⟨A, k, rfl⟩ := hg.slice_ (n := (payB c p).length) (List.length_map _)
  exact ⟨A, k, rfl, hr.mono (fun b hb => ⟨Nat.le_trans hx.size hb.1, hb.2⟩), hx.trans hg.ext⟩

end

end Go.Proofs.Ytdcmjmanalijfaa

/- Package journal: one more op's record, by Put. -/
namespace Go.Proofs.Ytdcmjmanalijfaa
open Go.RowKit

section
variable {F : Fp} {w : World} {j ms ml g q f z u c : Nat} {t : DkS} {p : List UInt8} {v : Value}
set_option maxRecDepth 100000 in
set_option maxHeartbeats 1000000 in
theorem JN.add_Put (hd : JN F w j ms ml g t q f z u c) (hr : Rd w v (p.map B)) (hz : z ≤ 65536) (hu : u ≤ z) (hc : c ≤ 1000000000) (hp : p.length ≤ 1000000) (he : jE z u c p = 0) (T : DkS) (U : Nat) (hU : U ≤ 65536)
    (KP : ∀ (w5 : World) (G H : Fp) (v5 : Value), LD G w5 ml g t f z u → RdF H w5 v5 ((payB c p).map B) → H.apart G → H.isIn w5 → Calls Try.prog 43 #[.pointer (some ⟨ml, 0, none⟩), v5] w5 fun e w' => e = .returned (.int .i64 0) ∧ LD (G.since w5 w') w' ml g T f z U ∧ Chg G w5 w') :
    Calls Try.prog 41 #[.pointer (some ⟨j, 0, none⟩), v, .func (.func 43) #[] #[]] w (AddP F j ms ml g T q f z U c w) := by
  have hK := hd.wrong p.length hz hu hc (by omega)
  have hy := jE_yes (by omega) he
  rw [jwE_eq (by omega), he] at hK
  obtain ⟨A, k, rfl, hlc, hcm⟩ := hr.sliceN (List.length_map _)
  unfold maxLen at hcm
  have KPP : ∀ (w5 : World) (v5 : Value), Ext w w5 → RdF (fun b => w.heap.size ≤ b ∧ b < w5.heap.size) w5 v5 ((payB c p).map B) → Calls Try.prog 43 #[.pointer (some ⟨ml, 0, none⟩), v5] w5 fun e w' => e = .returned (.int .i64 0) ∧ JN (F.since w w') w' j ms ml g T q f z U c ∧ Chg F w w' := by
    intro w5 v5 hx hv5
    obtain ⟨G, hGF, hl, hback⟩ := (hd.ext hx).log
    refine (KP w5 G _ v5 hl hv5 (fun b hb hG => by have := hd.isIn b (hGF b hG); omega) (fun b hb => hb.2)).mono ?_
    rintro e w' ⟨rfl, hl', hc'⟩
    obtain ⟨h1, h2⟩ := hback w' T U hl' hc'
    exact ⟨rfl, h1.mono (fun b hb => hb.elim .inl (fun h => .inr ⟨Nat.le_trans hx.size h.1, h.2⟩)) (hd.isIn.since (Nat.le_trans hx.size h2.size)), (Chg.of_ext hx).trans h2 (fun _ _ h => h)⟩
  have KN := fun w1 => Num_yes c w1 (by omega)
  have KC := fun w4 v4 vp h4 hp4 => rec_concat c p w4 v4 vp h4 hp4 (by rw [payB_len]; have := numB_len8 (show c < 9007199254740992 by omega); omega)
  have w0 : IntKind.i64.wrap (c : Int) = (c : Int) := by rw [IntKind.wrap_i64]; omega
  have KS := fun w1 hx => (hd.ext (w' := w1) hx).started (by omega)
  have HK := Lib.hid hK
  have HS := Lib.hid KS
  have HP := Lib.hid KPP
  have HN := Lib.hid KN
  have HC := Lib.hid KC
  have HD := Lib.hid hd
  have HR := Lib.hid hr
  have HU := Lib.hid hU
  generalize hm : (numB c).length = m at *
  have HM := Lib.hid hm
  generalize hmp : (payB c p).length = mp at *
  clear hK KS KPP KN KC KP hd hr hz hu hc hp he hy hm hU
  go_enter Try.func41, Try.ntmps41
  go_wp2_with fail
  refine HK.out.mono ?_
  rintro e w1 ⟨rfl, hx1⟩
  go_wp2_with fail
  refine (HS.out w1 hx1).mono ?_
  rintro e w2 ⟨rfl, hx2⟩
  have hx2' := (hx1.trans hx2).trans (Ext.dr (Ext.refl w2))
  have c1 := (HD.out.ext hx2').c1
  have c2 := (HD.out.ext hx2').c2
  have HX2 := Lib.hid hx2'
  clear hx1 hx2 hx2'
  go_wp2
  go_region_held3 (fun w' => w'.cell? ⟨j, 1, none⟩ = some (.pointer (some ⟨ml, 0, none⟩)) ∧ w'.cell? ⟨j, 2, none⟩ = some (.int .i64 (c : Int))) (first | go_keep | (exact ⟨d1, d2⟩) | (exact ⟨e1, e2⟩) | (exact ⟨g1, g2⟩)) (first | (go_at_call 68; (with_reducible refine (HN.out _).mono ?_); rintro e w4 ⟨v4, rfl, hg4⟩; obtain ⟨A4, k4, rfl⟩ := hg4.slice_ (n := m) (by rw [List.length_map, HM.out]); have hx4 := HX2.out.trans hg4.ext; have d1 := (HD.out.ext hx4).c1; have d2 := (HD.out.ext hx4).c2; have R4 := Lib.hid (Rd.own hg4.own); have P4 := Lib.hid (HR.out.ext hx4)) | (go_at_call 67; (with_reducible refine (HC.out w4 _ _ R4.out P4.out).mono ?_); rintro e w5 ⟨A5, k5, rfl, hr5, hx5⟩; have hx5' := hx4.trans hx5; have e1 := (HD.out.ext hx5').c1; have e2 := (HD.out.ext hx5').c2; have R5 := Lib.hid (hr5.mono (G := fun b => w.heap.size ≤ b ∧ b < w5.heap.size) (fun b hb => ⟨Nat.le_trans hx4.size hb.1, hb.2⟩)); clear hr5) | (go_at_call 43; (with_reducible refine (HP.out w5 _ hx5' R5.out).mono ?_); rintro e w6 ⟨rfl, hd6, hc6⟩; have g1 := hd6.c1; have g2 := hd6.c2; have HD6 := Lib.hid hd6; have HC6 := Lib.hid hc6; clear hd6 hc6))
  all_goals
    have hx7 : Ext w6 w6.drew := Ext.dr (Ext.refl w6)
    have KU6 := Lib.hid (HD6.out.ld.useds HU.out w6.drew hx7)
    have HD7 := Lib.hid (HD6.out.ext hx7)
    have b1 := HD7.out.c1
    have b3 := HD7.out.c3
    have HX7 := Lib.hid hx7
    have l0 : ([] : List Value).length < 17592186044416 := by decide
    have one1 : (Value.int .i64 (U : Int)).oneCell' = true := rfl
    clear hx7 hx4 hx5 hx5' hg4 d1 d2 e1 e2 g1 g2 c1 c2
    go_wp2
    go_region_law (first | (go_simp; (go_at_call 69; refine KU6.out.mono ?_; rintro e w8 ⟨rfl, hx8⟩; have h31 := (HD7.out.ext hx8).c1; have h33 := (HD7.out.ext hx8).c3; have HD8 := Lib.hid (HD7.out.ext hx8); have hjlt := HD8.out.blk.lt; have HX8 := Lib.hid hx8; clear hx8)) | (refine stepPush_int (gx := w8.heap.size) (.tmp 41) (.tmp 47) ?_ ?_ w8.heap.size (.slice none 0 0) [] (World.ownsRow_nil _ _ _ _) ?_ (Value.int .i64 (U : Int)) one1 ?_ ?_ l0 (Nat.le_refl _) ?_; rfl; rfl; rfl; rfl; rfl; intro v9 w9 hg9; have h43 := (HD8.out.ext hg9.ext).c3; have h44 := (HD8.out.ext hg9.ext).fr 3; have HG9 := Lib.hid hg9; obtain ⟨A9, k9, rfl⟩ := hg9.slice_ (n := 1) rfl; clear hg9))
    all_goals
      clear h31 h33 h43 h44 hjlt
      go_wp2
      go_ret
      have hx78 := HX7.out.trans HX8.out
      have t1 := HC6.out.size
      have t2 := hx78.size
      have hd8 := HD8.out.mono (G := F.since w w8) (Fp.since_grow t2) (HD.out.isIn.since (by omega))
      have hc8 : Chg F w w8 := HC6.out.step (Chg.of_ext hx78)
      obtain ⟨A', k', e', h1, h2, h3⟩ := end_noted hd8 HG9.out
      cases e'
      have t3 := HG9.out.size
      have t4 : (w9.setCell ⟨j, 3, none⟩ (.slice A9 1 k9)).heap.size = w9.heap.size := by simp
      exact ⟨A9, k9, rfl, h1.mono (fun b hb => hb.elim (fun h => h.elim .inl (fun h' => .inr ⟨h'.1, by omega⟩)) (fun h => .inr ⟨by omega, by omega⟩)) (HD.out.isIn.since (by omega)), h2, hc8.step h3⟩
end

end Go.Proofs.Ytdcmjmanalijfaa

/- Package journal: one more op's record, by Append. -/
namespace Go.Proofs.Ytdcmjmanalijfaa
open Go.RowKit

section
variable {F : Fp} {w : World} {j ms ml g q f z u c : Nat} {t : DkS} {p : List UInt8} {v : Value}
set_option maxRecDepth 100000 in
set_option maxHeartbeats 1000000 in
theorem JN.add_Append (hd : JN F w j ms ml g t q f z u c) (hr : Rd w v (p.map B)) (hz : z ≤ 65536) (hu : u ≤ z) (hc : c ≤ 1000000000) (hp : p.length ≤ 1000000) (he : jE z u c p = 0) (T : DkS) (U : Nat) (hU : U ≤ 65536)
    (KP : ∀ (w5 : World) (G H : Fp) (v5 : Value), LD G w5 ml g t f z u → RdF H w5 v5 ((payB c p).map B) → H.apart G → H.isIn w5 → Calls Try.prog 42 #[.pointer (some ⟨ml, 0, none⟩), v5] w5 fun e w' => e = .returned (.int .i64 0) ∧ LD (G.since w5 w') w' ml g T f z U ∧ Chg G w5 w') :
    Calls Try.prog 41 #[.pointer (some ⟨j, 0, none⟩), v, .func (.func 42) #[] #[]] w (AddP F j ms ml g T q f z U c w) := by
  have hK := hd.wrong p.length hz hu hc (by omega)
  have hy := jE_yes (by omega) he
  rw [jwE_eq (by omega), he] at hK
  obtain ⟨A, k, rfl, hlc, hcm⟩ := hr.sliceN (List.length_map _)
  unfold maxLen at hcm
  have KPP : ∀ (w5 : World) (v5 : Value), Ext w w5 → RdF (fun b => w.heap.size ≤ b ∧ b < w5.heap.size) w5 v5 ((payB c p).map B) → Calls Try.prog 42 #[.pointer (some ⟨ml, 0, none⟩), v5] w5 fun e w' => e = .returned (.int .i64 0) ∧ JN (F.since w w') w' j ms ml g T q f z U c ∧ Chg F w w' := by
    intro w5 v5 hx hv5
    obtain ⟨G, hGF, hl, hback⟩ := (hd.ext hx).log
    refine (KP w5 G _ v5 hl hv5 (fun b hb hG => by have := hd.isIn b (hGF b hG); omega) (fun b hb => hb.2)).mono ?_
    rintro e w' ⟨rfl, hl', hc'⟩
    obtain ⟨h1, h2⟩ := hback w' T U hl' hc'
    exact ⟨rfl, h1.mono (fun b hb => hb.elim .inl (fun h => .inr ⟨Nat.le_trans hx.size h.1, h.2⟩)) (hd.isIn.since (Nat.le_trans hx.size h2.size)), (Chg.of_ext hx).trans h2 (fun _ _ h => h)⟩
  have KN := fun w1 => Num_yes c w1 (by omega)
  have KC := fun w4 v4 vp h4 hp4 => rec_concat c p w4 v4 vp h4 hp4 (by rw [payB_len]; have := numB_len8 (show c < 9007199254740992 by omega); omega)
  have w0 : IntKind.i64.wrap (c : Int) = (c : Int) := by rw [IntKind.wrap_i64]; omega
  have KS := fun w1 hx => (hd.ext (w' := w1) hx).started (by omega)
  have HK := Lib.hid hK
  have HS := Lib.hid KS
  have HP := Lib.hid KPP
  have HN := Lib.hid KN
  have HC := Lib.hid KC
  have HD := Lib.hid hd
  have HR := Lib.hid hr
  have HU := Lib.hid hU
  generalize hm : (numB c).length = m at *
  have HM := Lib.hid hm
  generalize hmp : (payB c p).length = mp at *
  clear hK KS KPP KN KC KP hd hr hz hu hc hp he hy hm hU
  go_enter Try.func41, Try.ntmps41
  go_wp2_with fail
  refine HK.out.mono ?_
  rintro e w1 ⟨rfl, hx1⟩
  go_wp2_with fail
  refine (HS.out w1 hx1).mono ?_
  rintro e w2 ⟨rfl, hx2⟩
  have hx2' := (hx1.trans hx2).trans (Ext.dr (Ext.refl w2))
  have c1 := (HD.out.ext hx2').c1
  have c2 := (HD.out.ext hx2').c2
  have HX2 := Lib.hid hx2'
  clear hx1 hx2 hx2'
  go_wp2
  go_region_held3 (fun w' => w'.cell? ⟨j, 1, none⟩ = some (.pointer (some ⟨ml, 0, none⟩)) ∧ w'.cell? ⟨j, 2, none⟩ = some (.int .i64 (c : Int))) (first | go_keep | (exact ⟨d1, d2⟩) | (exact ⟨e1, e2⟩) | (exact ⟨g1, g2⟩)) (first | (go_at_call 68; (with_reducible refine (HN.out _).mono ?_); rintro e w4 ⟨v4, rfl, hg4⟩; obtain ⟨A4, k4, rfl⟩ := hg4.slice_ (n := m) (by rw [List.length_map, HM.out]); have hx4 := HX2.out.trans hg4.ext; have d1 := (HD.out.ext hx4).c1; have d2 := (HD.out.ext hx4).c2; have R4 := Lib.hid (Rd.own hg4.own); have P4 := Lib.hid (HR.out.ext hx4)) | (go_at_call 67; (with_reducible refine (HC.out w4 _ _ R4.out P4.out).mono ?_); rintro e w5 ⟨A5, k5, rfl, hr5, hx5⟩; have hx5' := hx4.trans hx5; have e1 := (HD.out.ext hx5').c1; have e2 := (HD.out.ext hx5').c2; have R5 := Lib.hid (hr5.mono (G := fun b => w.heap.size ≤ b ∧ b < w5.heap.size) (fun b hb => ⟨Nat.le_trans hx4.size hb.1, hb.2⟩)); clear hr5) | (go_at_call 42; (with_reducible refine (HP.out w5 _ hx5' R5.out).mono ?_); rintro e w6 ⟨rfl, hd6, hc6⟩; have g1 := hd6.c1; have g2 := hd6.c2; have HD6 := Lib.hid hd6; have HC6 := Lib.hid hc6; clear hd6 hc6))
  all_goals
    have hx7 : Ext w6 w6.drew := Ext.dr (Ext.refl w6)
    have KU6 := Lib.hid (HD6.out.ld.useds HU.out w6.drew hx7)
    have HD7 := Lib.hid (HD6.out.ext hx7)
    have b1 := HD7.out.c1
    have b3 := HD7.out.c3
    have HX7 := Lib.hid hx7
    have l0 : ([] : List Value).length < 17592186044416 := by decide
    have one1 : (Value.int .i64 (U : Int)).oneCell' = true := rfl
    clear hx7 hx4 hx5 hx5' hg4 d1 d2 e1 e2 g1 g2 c1 c2
    go_wp2
    go_region_law (first | (go_simp; (go_at_call 69; refine KU6.out.mono ?_; rintro e w8 ⟨rfl, hx8⟩; have h31 := (HD7.out.ext hx8).c1; have h33 := (HD7.out.ext hx8).c3; have HD8 := Lib.hid (HD7.out.ext hx8); have hjlt := HD8.out.blk.lt; have HX8 := Lib.hid hx8; clear hx8)) | (refine stepPush_int (gx := w8.heap.size) (.tmp 41) (.tmp 47) ?_ ?_ w8.heap.size (.slice none 0 0) [] (World.ownsRow_nil _ _ _ _) ?_ (Value.int .i64 (U : Int)) one1 ?_ ?_ l0 (Nat.le_refl _) ?_; rfl; rfl; rfl; rfl; rfl; intro v9 w9 hg9; have h43 := (HD8.out.ext hg9.ext).c3; have h44 := (HD8.out.ext hg9.ext).fr 3; have HG9 := Lib.hid hg9; obtain ⟨A9, k9, rfl⟩ := hg9.slice_ (n := 1) rfl; clear hg9))
    all_goals
      clear h31 h33 h43 h44 hjlt
      go_wp2
      go_ret
      have hx78 := HX7.out.trans HX8.out
      have t1 := HC6.out.size
      have t2 := hx78.size
      have hd8 := HD8.out.mono (G := F.since w w8) (Fp.since_grow t2) (HD.out.isIn.since (by omega))
      have hc8 : Chg F w w8 := HC6.out.step (Chg.of_ext hx78)
      obtain ⟨A', k', e', h1, h2, h3⟩ := end_noted hd8 HG9.out
      cases e'
      have t3 := HG9.out.size
      have t4 : (w9.setCell ⟨j, 3, none⟩ (.slice A9 1 k9)).heap.size = w9.heap.size := by simp
      exact ⟨A9, k9, rfl, h1.mono (fun b hb => hb.elim (fun h => h.elim .inl (fun h' => .inr ⟨h'.1, by omega⟩)) (fun h => .inr ⟨by omega, by omega⟩)) (HD.out.isIn.since (by omega)), h2, hc8.step h3⟩
end

end Go.Proofs.Ytdcmjmanalijfaa

/- Package journal: Append, Start, Compact. -/
namespace Go.Proofs.Ytdcmjmanalijfaa
open Go.RowKit

section
variable {F : Fp} {w : World} {j ms ml g q f z u c : Nat} {t : DkS} {p : List UInt8} {v : Value} {H : Fp}

set_option maxRecDepth 100000 in
theorem JN.append_no (hd : JN F w j ms ml g t q f z u c) (hr : Rd w v (p.map B)) (hz : z ≤ 65536) (hu : u ≤ z) (hc : c ≤ 1000000000) (hp : p.length ≤ 1000000) (he : jE z u c p ≠ 0) :
    Calls Try.prog 13 #[.pointer (some ⟨j, 0, none⟩), v] w fun e w' => e = .returned (.int .i64 (jE z u c p)) ∧ Ext w w' := by
  have HK := Lib.hid (hd.add_no hr (.func (.func 42) #[] #[]) hz hu hc (by omega) he)
  have hne : (jE z u c p == 0) = false := by rw [beq_eq_false_iff_ne]; exact he
  clear hd hr hz hu hc hp he
  generalize jE z u c p = E at *
  go_enter Try.func13, Try.ntmps13
  go_wp2_with fail
  refine HK.out.mono ?_
  rintro e w1 ⟨rfl, hx⟩
  go_wp2
  go_ret
  exact ⟨rfl, hx⟩
set_option maxRecDepth 100000 in
theorem JN.start_no (hd : JN F w j ms ml g t q f z u c) (hr : Rd w v (p.map B)) (hz : z ≤ 65536) (hu : u ≤ z) (hc : c ≤ 1000000000) (hp : p.length ≤ 1000000) (he : jE z u c p ≠ 0) :
    Calls Try.prog 14 #[.pointer (some ⟨j, 0, none⟩), v] w fun e w' => e = .returned (.int .i64 (jE z u c p)) ∧ Ext w w' := by
  have HK := Lib.hid (hd.add_no hr (.func (.func 43) #[] #[]) hz hu hc (by omega) he)
  clear hd hr hz hu hc hp he
  generalize jE z u c p = E at *
  go_enter Try.func14, Try.ntmps14
  go_wp2_with fail
  refine HK.out.mono ?_
  rintro e w1 ⟨rfl, hx⟩
  go_wp2
  go_ret
  exact ⟨rfl, hx⟩

theorem jE_u {z u c : Nat} {p : List UInt8} (hc : c < 9007199254740992) (hu : u ≤ z) (he : jE z u c p = 0) : putE z u (payB c p) = 0 ∧ putU z u (payB c p) = u + (frameB (payB c p)).length ∧ u + (frameB (payB c p)).length ≤ z := by
  have hy := jE_yes hc he
  have h0 : putE z u (payB c p) = 0 := by rw [← jE_put hc hy.1]; exact he
  exact ⟨h0, by rw [putU, if_pos h0], by omega⟩

set_option maxRecDepth 100000 in
/-- An op is started: the disk. -/
theorem JN.start_yes (hd : JN F w j ms ml g t q f z u c) (hr : Rd w v (p.map B)) (hz : f + z ≤ t.1.length) (hu : u ≤ z) (hw : t.2.1.length ≤ 10000000) (hc : c ≤ 1000000000) (hp : p.length ≤ 1000000) (he : jE z u c p = 0) :
    Calls Try.prog 14 #[.pointer (some ⟨j, 0, none⟩), v] w fun e w' => e = .returned (.int .i64 0) ∧ Dk (F.since w w') w' g (jsD t f u c p) ∧ Chg F w w' := by
  have hl := hd.lens
  obtain ⟨h1, h2, h3⟩ := jE_u (by omega) hu he
  have K := hd.add_Put hr (by omega) hu hc hp he (jsD t f u c p) (u + (frameB (payB c p)).length) (by omega) (by
    intro w5 G H v5 hl5 hv5 ha hi
    refine (LgPut G ml g t f z u H (payB c p) v5 w5 hl5 hv5 ha hi hz hu hw).mono ?_
    rintro e w' ⟨he, hld, hcg⟩
    rw [h1] at he
    rw [putS, if_pos h1, h2] at hld
    exact ⟨he, hld, hcg⟩)
  have HK := Lib.hid K
  clear hd hr hz hu hw hc hp he hl h1 h2 h3 K
  generalize u + (frameB (payB c p)).length = U at *
  generalize jsD t f u c p = T at *
  go_enter Try.func14, Try.ntmps14
  go_wp2_with fail
  refine HK.out.mono ?_
  rintro e w1 ⟨A, k, rfl, h1, h2, h3⟩
  have H1 := Lib.hid h1
  have H3 := Lib.hid h3
  clear h1 h2 h3
  go_wp2
  go_ret
  exact ⟨rfl, H1.out.dk, H3.out⟩

set_option maxRecDepth 100000 in
set_option maxHeartbeats 1000000 in
/-- An op that lasts. -/
theorem JN.append_yes (hd : JN F w j ms ml g t q f z u c) (hr : Rd w v (p.map B)) (hz : f + z ≤ t.1.length) (hu : u ≤ z) (hw : t.2.1.length ≤ 10000000) (hn0 : 0 ≤ t.2.2) (hn1 : t.2.2 ≤ 100000000) (hc : c ≤ 1000000000) (hp : p.length ≤ 1000000) (he : jE z u c p = 0) :
    Calls Try.prog 13 #[.pointer (some ⟨j, 0, none⟩), v] w fun e w' => e = .returned (.int .i64 0) ∧ JN (F.since w w') w' j ms ml g (syD (jsD t f u c p)) q f z (u + (frameB (payB c p)).length) (c + 1) ∧ Chg F w w' := by
  have hl := hd.lens
  obtain ⟨h1, h2, h3⟩ := jE_u (by omega) hu he
  have hU : u + (frameB (payB c p)).length ≤ 65536 := by omega
  have K := hd.add_Append hr (by omega) hu hc hp he (syD (jsD t f u c p)) (u + (frameB (payB c p)).length) hU (by
    intro w5 G H v5 hl5 hv5 ha hi
    refine (LgAppend G ml g t f z u H (payB c p) v5 w5 hl5 hv5 ha hi hz hu hw hn0 hn1).mono ?_
    rintro e w' ⟨he, hld, hcg⟩
    rw [h1] at he
    rw [appS, if_pos h1, h2] at hld
    exact ⟨he, hld, hcg⟩)
  have HK := Lib.hid K
  have HI := Lib.hid hd.isIn
  have HU := Lib.hid hU
  have HCC := Lib.hid hc
  clear hd hr hz hu hw hn0 hn1 hc hp he hl h1 h2 h3 K hU
  generalize u + (frameB (payB c p)).length = U at *
  generalize syD (jsD t f u c p) = T at *
  go_enter Try.func13, Try.ntmps13
  go_wp2_with fail
  refine HK.out.mono ?_
  rintro e w1 ⟨A, k, rfl, h1, h2, h3⟩
  obtain ⟨b, o, rfl, hb, hcell⟩ := h2
  have KS : ∀ w2, Ext w1 w2 → Calls Try.prog 45 #[.pointer (some ⟨j, 0, none⟩)] w2 fun e w' => e = .returned (.int .i64 ((1 : Nat) : Int)) ∧ Ext w2 w' := by
    intro w2 hx
    refine JnStarted j ml ms c U 1 1 k (some ⟨b, o, none⟩) w2 (h1.ext hx).blk (fun w3 hx3 => h1.ld.useds HU.out w3 (hx.trans hx3)) (fun w3 hx3 => ?_) HU.out
    have hx' := hx.trans hx3
    exact Bs_one U _ b o k w3 ((hx'.cell (p := ⟨b, o, none⟩) hb).trans hcell) (by omega) (Nat.lt_of_lt_of_le hb hx'.size)
  have KC := JnCount_n j ml ms c 1 1 k (some ⟨b, o, none⟩) w1 h1.blk KS HCC.out (by decide)
  have HKC := Lib.hid KC
  have H1 := Lib.hid h1
  have H3 := Lib.hid h3
  clear h1 h3 hb hcell KS KC
  go_wp2_with fail
  refine HKC.out.mono ?_
  rintro e w2 ⟨rfl, hx2⟩
  have hd2 := H1.out.ext hx2
  have c2 := hd2.c2
  have c3 := hd2.c3
  have f2 := hd2.fr 2
  have f3 := hd2.fr 3
  obtain ⟨hs, hcs⟩ := hd2.setCount (c + 1)
  have HS := Lib.hid hs
  have HCS := Lib.hid hcs
  have HX2 := Lib.hid hx2
  clear hd2 hs hcs hx2
  go_wp2
  go_ret
  have t1 := H3.out.size
  have t2 := HX2.out.size
  have hcs' := HCS.out
  have hs' := HS.out
  have t3 : ((w2.setCell ⟨j, 2, none⟩ (.int .i64 ((c + 1 : Nat) : Int))).setCell ⟨j, 3, none⟩ (.slice none 0 0)).heap.size = w2.heap.size := by simp
  have hcast : ((c + 1 : Nat) : Int) = (c : Int) + 1 := by omega
  rw [hcast] at hcs' hs' t3
  exact ⟨rfl, hs'.mono (fun b hb => hb.elim .inl (fun h => .inr ⟨h.1, by omega⟩)) (HI.out.since (by omega)), (H3.out.step ((Chg.of_ext HX2.out).trans hcs' (fun x hx h => h)))⟩
/-- Why a picture isn't saved. -/
theorem cpE_st {s : DkS} {L : List (List UInt8)} {a : Int} (h : JI s q f z L c a) (hc : c < 9007199254740992) : cpE s q p c a = if stE s 0 q p (c : Int) = 0 then 0 else 3 := by
  unfold cpE
  by_cases hac : a = (c : Int)
  · rw [if_pos hac, if_neg]
    have hage := h.age
    rw [stE, if_neg (by omega), if_pos (by rw [age_load]; omega)]
    decide
  · rw [if_neg hac]

theorem cpj_bd {N f z : Nat} {s1 : DkS} {n : Int} (h1 : s1.1.length = N) (h2 : s1.2.2 = n + 2) (h3 : s1.2.1 = []) (hz : f + z ≤ N) (h0 : 0 ≤ n) (hn : n ≤ 10000000) :
    f + z ≤ s1.1.length ∧ s1.2.1.length ≤ 10000000 ∧ 0 ≤ s1.2.2 ∧ s1.2.2 ≤ 100000000 := by
  rw [h1, h2, h3]
  exact ⟨hz, Nat.zero_le _, by omega, by omega⟩

/-- The picture is saved. -/
theorem JN.save (hd : JN F w j ms ml g t q f z u c) (hr : RdF H w v (p.map B)) (ha : H.apart F) (hH : H.isIn w) (hs : t.2.1 = []) (hq1 : 1 ≤ q) (hq : 2 * q ≤ t.1.length) (hz1 : 1 ≤ z) (hn0 : 0 ≤ t.2.2) (hn1 : t.2.2 ≤ 10000000) (hc : c ≤ 1000000000) (hp : p.length ≤ 1000000) (w1 : World) (hx : Ext w w1) :
    Calls Try.prog 44 #[.pointer (some ⟨ms, 0, none⟩), v, .int .i64 (c : Int)] w1 fun e w' => e = .returned (.int .i64 (stE t 0 q p (c : Int))) ∧ JN (F.since w w') w' j ms ml g (svS t 0 q p (c : Int)) q f z u c ∧ Chg F w w' := by
  obtain ⟨G, hGF, hsd, hback⟩ := (hd.ext hx).slots hs hz1
  have hr1 : RdF H w1 v (p.map B) := hr.chg (G := fun _ => False) (Chg.of_ext hx) (fun _ _ h => h)
  have b1 : t.2.2 ≤ 100000000 := by omega
  have b2 : -9223372036854775808 ≤ (c : Int) := by omega
  have b3 : (c : Int) ≤ 9223372036854775807 := by omega
  refine (SlSave G ms g t 0 q H p v (c : Int) w1 hsd hr1 (fun b hb hG => ha b hb (hGF b hG)) (hH.ext hx) (by omega) hq1 (by rw [hs]; exact Nat.zero_le _) hn0 b1 hp b2 b3).mono ?_
  rintro e w' ⟨he', hsd', hc'⟩
  obtain ⟨h1, h2⟩ := hback w' _ hsd' hc'
  exact ⟨he', h1.mono (fun b hb => hb.elim .inl (fun h => .inr ⟨Nat.le_trans hx.size h.1, h.2⟩)) (hd.isIn.since (Nat.le_trans hx.size h2.size)), (Chg.of_ext hx).trans h2 (fun _ _ h => h)⟩

set_option maxRecDepth 100000 in
set_option maxHeartbeats 1000000 in
theorem JN.compact_yes (hd : JN F w j ms ml g t q f z u c) (hr : RdF H w v (p.map B)) (ha : H.apart F) (hH : H.isIn w) (hs : t.2.1 = []) (hq1 : 1 ≤ q) (hq : 2 * q ≤ t.1.length) (hz1 : 1 ≤ z) (hz : f + z ≤ t.1.length) (hu : u ≤ z) (hn0 : 0 ≤ t.2.2) (hn1 : t.2.2 ≤ 10000000) (hc : c ≤ 1000000000) (hp : p.length ≤ 1000000) (he : stE t 0 q p (c : Int) = 0) :
    Calls Try.prog 15 #[.pointer (some ⟨j, 0, none⟩), v] w fun e w' => e = .returned (.int .i64 0) ∧ JN (F.since w w') w' j ms ml g (cpD t q f z p c) q f z 0 c ∧ Chg F w w' := by
  have hl := hd.lens
  have hlen2 : (svS t 0 q p (c : Int)).1.length = t.1.length := svS_len _ _ _ _ _
  have hy := stE_yes he
  have hst : (stS t 0 q p (c : Int)).2.2 = t.2.2 + 1 := by rw [stS, if_pos he, stD_n]
  have hsv : svS t 0 q p (c : Int) = syD (stS t 0 q p (c : Int)) := by rw [svS, if_pos he, stS, if_pos he]
  have hn2 : (svS t 0 q p (c : Int)).2.2 = t.2.2 + 2 := by
    rw [hsv]
    show (stS t 0 q p (c : Int)).2.2 + 1 = _
    rw [hst]
    omega
  have hw2 : (svS t 0 q p (c : Int)).2.1 = [] := by rw [hsv]; rfl
  have hbd := cpj_bd hlen2 hn2 hw2 hz hn0 hn1
  have KS := fun w1 hx => hd.save hr ha hH hs hq1 hq hz1 hn0 hn1 hc hp w1 hx
  rw [he] at KS
  have hu' : u ≤ 65536 := by clear hst hn2 hw2 hbd hy; omega
  have KC := hd.count hu' hc
  have HC := Lib.hid KC
  have HKS := Lib.hid KS
  have HD := Lib.hid hd
  have HI := Lib.hid hd.isIn
  have HBD := Lib.hid hbd
  have HCP : Hid (cpD t q f z p c = zrD (svS t 0 q p (c : Int)) f z 0) := Lib.hid rfl
  obtain ⟨A, k, rfl, _, _⟩ := hr.rd.sliceN (List.length_map _)
  clear hd hr ha hH hs hq1 hq hz1 hz hu hu' hn0 hn1 hc hp he hl hlen2 hy hst hsv hn2 hw2 hbd KS KC
  generalize cpD t q f z p c = T3 at *
  generalize svS t 0 q p (c : Int) = T2 at *
  go_enter Try.func15, Try.ntmps15
  go_wp2_with fail
  refine HC.out.mono ?_
  rintro e w1 ⟨rfl, hx1⟩
  have c0 := (HD.out.ext hx1).c0
  go_wp2_with fail
  refine (HKS.out w1 hx1).mono ?_
  rintro e w2 ⟨rfl, hd2, hc2⟩
  have c1 := hd2.c1
  obtain ⟨G, hGF, hl2, hback⟩ := hd2.log
  have HL2 := Lib.hid hl2
  have HBK := Lib.hid hback
  have HC2 := Lib.hid hc2
  clear hd2 hGF hl2 hback hc2 hx1 c0
  go_wp2_with fail
  refine (LgClear G ml g T2 f z u w2 HL2.out HBD.out.1 HBD.out.2.1 HBD.out.2.2.1 HBD.out.2.2.2).mono ?_
  rintro e w3 ⟨rfl, hl3, hc3⟩
  rw [← HCP.out] at hl3
  obtain ⟨hd3, hc3'⟩ := HBK.out w3 _ _ hl3 hc3
  have c2 := hd3.c2
  have c3 := hd3.c3
  have f2 := hd3.fr 2
  have f3 := hd3.fr 3
  obtain ⟨hs4, hcs⟩ := hd3.setCount c
  have HS := Lib.hid hs4
  have HCS := Lib.hid hcs
  have HC3 := Lib.hid hc3'
  clear hd3 hc3' hs4 hcs hl3 hc3 HL2 HBK c1
  go_wp2
  go_ret
  have t2 := HC2.out.size
  have t3 := HC3.out.size
  have hcs' := HCS.out
  have hs' := HS.out
  have t4 : ((w3.setCell ⟨j, 2, none⟩ (.int .i64 (c : Int))).setCell ⟨j, 3, none⟩ (.slice none 0 0)).heap.size = w3.heap.size := by simp
  refine ⟨rfl, hs'.mono (fun b hb => ?_) (HI.out.since (by omega)), (HC2.out.step HC3.out).trans hcs' (fun x hx h => ?_)⟩
  · rcases hb with (hb | hb) | hb
    · exact .inl hb
    · exact .inr ⟨by omega, by omega⟩
    · exact .inr ⟨by omega, by omega⟩
  · rcases h with (h | h) | h
    · exact h
    · omega
    · omega

set_option maxRecDepth 100000 in
set_option maxHeartbeats 1000000 in
theorem JN.compact_no (hd : JN F w j ms ml g t q f z u c) (hr : RdF H w v (p.map B)) (ha : H.apart F) (hH : H.isIn w) (hs : t.2.1 = []) (hq1 : 1 ≤ q) (hq : 2 * q ≤ t.1.length) (hz1 : 1 ≤ z) (hz : f + z ≤ t.1.length) (hu : u ≤ z) (hn0 : 0 ≤ t.2.2) (hn1 : t.2.2 ≤ 10000000) (hc : c ≤ 1000000000) (hp : p.length ≤ 1000000) (he : stE t 0 q p (c : Int) ≠ 0) :
    Calls Try.prog 15 #[.pointer (some ⟨j, 0, none⟩), v] w fun e w' => e = .returned (.int .i64 3) ∧ JN (F.since w w') w' j ms ml g t q f z u c ∧ Chg F w w' := by
  have hl := hd.lens
  have hsv : svS t 0 q p (c : Int) = t := by rw [svS, if_neg he]
  have KS := fun w1 hx => hd.save hr ha hH hs hq1 hq hz1 hn0 hn1 hc hp w1 hx
  rw [hsv] at KS
  have hu' : u ≤ 65536 := by omega
  have KC := hd.count hu' hc
  have hE : (stE t 0 q p (c : Int) != 0) = true := by rw [bne_iff_ne]; exact he
  have HC := Lib.hid KC
  have HKS := Lib.hid KS
  have HD := Lib.hid hd
  obtain ⟨A, k, rfl, _, _⟩ := hr.rd.sliceN (List.length_map _)
  clear hd hr ha hH hs hq1 hq hz1 hz hu hu' hn0 hn1 hc hp he hl hsv KS KC
  generalize stE t 0 q p (c : Int) = E at *
  go_enter Try.func15, Try.ntmps15
  go_wp2_with fail
  refine HC.out.mono ?_
  rintro e w1 ⟨rfl, hx1⟩
  have c0 := (HD.out.ext hx1).c0
  go_wp2_with fail
  refine (HKS.out w1 hx1).mono ?_
  rintro e w2 ⟨rfl, hd2, hc2⟩
  have HD2 := Lib.hid hd2
  have HC2 := Lib.hid hc2
  clear hd2 hc2 hx1 c0
  go_wp2
  go_ret
  exact ⟨rfl, HD2.out, HC2.out⟩
end

end Go.Proofs.Ytdcmjmanalijfaa

/- Package journal: are all records of lower numbers? -/
namespace Go.Proofs.Ytdcmjmanalijfaa
open Go.RowKit

theorem oldR_no {l : List (List UInt8)} {k c : Nat} (h : k < l.length) (hl : lowR c l[k] = false) : oldR l c = false := by
  rw [oldR, Bool.and_eq_false_iff]
  refine .inr ?_
  rw [List.all_eq_false]
  exact ⟨l[k], List.getElem_mem h, by rw [hl]; decide⟩
theorem oldR_all {l : List (List UInt8)} {c : Nat} (h : (l.take l.length).all (lowR c) = true) : oldR l c = decide (0 < l.length) := by
  rw [List.take_length] at h
  rw [oldR, h, Bool.and_true]
  cases l with
  | nil => rfl
  | cons x xs => simp
theorem all_snoc {l : List (List UInt8)} {k c : Nat} (h : k < l.length) (ha : (l.take k).all (lowR c) = true) (hl : lowR c l[k] = true) : (l.take (k + 1)).all (lowR c) = true := by
  rw [List.take_succ_eq_append_getElem h, List.all_append, ha]
  simpa using hl

set_option maxRecDepth 100000 in
theorem JnOld (recs : List (List UInt8)) (v : Value) (c : Nat) (w : World) (hr : RdL w v recs) (hc : c ≤ 1000000000000) :
    Calls Try.prog 34 #[v, .int .i64 (c : Int)] w fun e w' => e = .returned (.bool (oldR recs c)) ∧ w = w' := by
  obtain ⟨A, cp, rfl, hlc, hcm⟩ := hr.sliceN rfl
  unfold maxLen at hcm
  go_enter Try.func34, Try.ntmps34
  go_wp2
  go_loop [12] (fun i => ∃ k : Nat, i = .int .i64 k ∧ k ≤ recs.length ∧ Hid ((recs.take k).all (lowR c) = true)) (fun i => recs.length - (intOf i).toNat)
  case atStart => exact ⟨0, rfl, Nat.zero_le _, Lib.hid rfl⟩
  case round =>
    obtain ⟨k, rfl, hk, HA⟩ := hrel
    by_cases hlt : k < recs.length
    · obtain ⟨b, o, rfl, hb, hcell⟩ := hr.at (by omega)
      obtain ⟨u, hu, hru⟩ := hcell k recs[k] (List.getElem?_eq_getElem hlt)
      obtain ⟨A1, c1, rfl, _, _⟩ := hru.sliceN (List.length_map _)
      have hno := oldR_no (c := c) hlt
      have hyes := all_snoc (c := c) hlt HA.out
      generalize recs[k] = r at *
      have HR := Lib.hid hr
      clear hr hcell
      cases hg : getN r with
      | none =>
        have KG := Lib.hid (GetNum_none r _ 0 w hru (by decide) (by rw [List.drop_zero]; exact hg))
        have hz : oldR recs c = false := hno (by rw [lowR, hg])
        have HZ := Lib.hid hz
        clear hz hno hyes hg hru
        go_wp2_with (go_at_call 62; refine KG.out.mono ?_; rintro e w' ⟨rfl, rfl⟩)
        go_ret
        exact ⟨by rw [HZ.out]; rfl, rfl⟩
      | some y =>
        obtain ⟨m, a⟩ := y
        have hle := getN_le hg
        have KG := GetNum_some r _ 0 m a w hru (by decide) (by rw [List.drop_zero]; exact hg)
        rw [Nat.zero_add] at KG
        have HG := Lib.hid KG
        by_cases hm : m < c
        · have hy : (recs.take (k + 1)).all (lowR c) = true := hyes (by rw [lowR, hg]; simpa using hm)
          have HY := Lib.hid hy
          clear hy hno hyes hg hru KG
          go_wp2_with (go_at_call 62; refine HG.out.mono ?_; rintro e w' ⟨rfl, rfl⟩)
          go_round
          case rel => exact ⟨k + 1, by go_num, by omega, HY⟩
          case measure => simp [intOf]; omega
        · have hz : oldR recs c = false := hno (by rw [lowR, hg]; simpa using hm)
          have HZ := Lib.hid hz
          clear hz hno hyes hg hru KG
          go_wp2_with (go_at_call 62; refine HG.out.mono ?_; rintro e w' ⟨rfl, rfl⟩)
          go_ret
          exact ⟨by rw [HZ.out]; rfl, rfl⟩
    · obtain rfl : k = recs.length := by omega
      have hz := oldR_all HA.out
      have HZ := Lib.hid hz
      clear hz HA hr
      go_wp2
      go_ret
      exact ⟨by rw [HZ.out]; rfl, rfl⟩

end Go.Proofs.Ytdcmjmanalijfaa

/- Package log: Open. -/
namespace Go.Proofs.Ytdcmjmanalijfaa
open Go.RowKit

set_option maxRecDepth 100000 in
theorem LgOpen_no (F : Fp) (g : Nat) (s : DkS) (i n : Int) (w : World) (hd : Dk F w g s) (h : ¬ (0 ≤ i ∧ 1 ≤ n ∧ i + n ≤ s.1.length)) (i0 : -9223372036854775808 ≤ i) (i1 : i ≤ 9223372036854775807) (n0 : -9223372036854775808 ≤ n) (n1 : n ≤ 9223372036854775807) :
    Calls Try.prog 31 #[.pointer (some ⟨g, 0, none⟩), .int .i64 i, .int .i64 n] w fun e w' => ∃ v, e = .returned (.tuple #[.pointer none, v, .int .i64 1]) ∧ RdL w' v [] ∧ Ext w w' := by
  have hb := hd.lens
  have KS := DkSize F g s w hd
  have hnil : ∀ w', RdL w' (.slice none 0 0) [] := fun w' => (RdLF.nil (fun _ => False) w').rdl
  by_cases c1 : n < 1
  · have d1 : decide (n < 1) = true := by simp; omega
    clear h hd hb KS
    go_enter Try.func31, Try.ntmps31
    go_wp2
    go_ret3
    exact ⟨_, rfl, hnil _, Ext.refl _⟩
  · by_cases c2 : i < 0
    · have d1 : decide (n < 1) = false := by simp; omega
      have d2 : decide (i < 0) = true := by simp; omega
      clear h hd hb KS c1
      go_enter Try.func31, Try.ntmps31
      go_wp2
      go_ret3
      exact ⟨_, rfl, hnil _, Ext.refl _⟩
    · obtain ⟨Y, hY⟩ : ∃ Y : Int, Y = (s.1.length : Int) - n := ⟨_, rfl⟩
      have w1 : IntKind.i64.wrap ((s.1.length : Int) - n) = Y := by rw [IntKind.wrap_i64]; omega
      have d1 : decide (n < 1) = false := by simp; omega
      have d2 : decide (i < 0) = false := by simp; omega
      have d3 : decide (Y < i) = true := by simp; omega
      have HK := Lib.hid KS
      clear h hd hb KS hY c1 c2
      go_enter Try.func31, Try.ntmps31
      go_wp2_with fail
      refine HK.out.mono ?_
      rintro e w2 ⟨rfl, hx⟩
      go_wp2
      go_ret3
      exact ⟨_, rfl, hnil _, hx⟩

set_option maxRecDepth 100000 in
set_option maxHeartbeats 400000 in
theorem LgOpen_yes (F : Fp) (g : Nat) (s : DkS) (f z : Nat) (w : World) (hd : Dk F w g s) (hz : f + z ≤ s.1.length) (h1 : 1 ≤ z) (hw : s.2.1.length ≤ 10000000) (hn0 : 0 ≤ s.2.2) (hn1 : s.2.2 ≤ 100000000) :
    Calls Try.prog 31 #[.pointer (some ⟨g, 0, none⟩), .int .i64 (f : Int), .int .i64 (z : Int)] w fun e w' => ∃ (h : Nat) (v : Value) (F1 F2 V : Fp), e = .returned (.tuple #[.pointer (some ⟨h, 0, none⟩), v, .int .i64 0]) ∧
      Dk F1 w' g (opD s f z) ∧ Lg F2 w' h g f z (endD s f z) ∧ RdLF V w' v (recD s f z) ∧ F2.apart F1 ∧ V.apart F1 ∧ V.apart F2 ∧ (∀ k, F1 k → F.since w w' k) ∧ (∀ k, F2 k → w.heap.size ≤ k ∧ k < w'.heap.size) ∧ (∀ k, V k → w.heap.size ≤ k ∧ k < w'.heap.size) ∧ Chg F w w' := by
  have hb := hd.lens
  have KS := DkSize F g s w hd
  obtain ⟨Y, hY⟩ : ∃ Y : Int, Y = (s.1.length : Int) - (z : Int) := ⟨_, rfl⟩
  have w1 : IntKind.i64.wrap ((s.1.length : Int) - (z : Int)) = Y := by rw [IntKind.wrap_i64]; omega
  have d1 : decide ((z : Int) < 1) = false := by simp; omega
  have d2 : decide ((f : Int) < 0) = false := by simp
  have d3 : decide (Y < (f : Int)) = false := by simp; omega
  have hpl : (pieceB (rdD s) f z).length = z := pieceB_len (by rw [rdD_len]; exact hz)
  have HP := Lib.hid hpl
  have HK := Lib.hid KS
  have HD := Lib.hid hd
  have HB : Hid (s.1.length ≤ 65536 ∧ endD s f z ≤ z) := Lib.hid ⟨hb.2.1, endD_le hz⟩
  have HE := Lib.hid (recD_end s f z)
  clear hd hb KS hY hpl
  go_enter Try.func31, Try.ntmps31
  go_wp2_with fail
  refine HK.out.mono ?_
  rintro e w2 ⟨rfl, hx2⟩
  have HX2 := Lib.hid hx2
  clear hx2
  go_wp2_with fail
  have hl3 : LgO (fun k => w2.heap.size ≤ k ∧ k < w2.heap.size + 1) (w2.alloc (.cells #[.pointer (some ⟨g, 0, none⟩), .int .i64 (f : Int), .int .i64 (z : Int), .int .i64 0, .int .i64 0] 103)) w2.heap.size g f z 0 0 :=
    ObjF.new (w0 := w2) (rows := []) (Nat.le_refl _) _ _ (fun r hr => absurd hr List.not_mem_nil) List.Pairwise.nil
  have hx3 : Ext w (w2.alloc (.cells #[.pointer (some ⟨g, 0, none⟩), .int .i64 (f : Int), .int .i64 (z : Int), .int .i64 0, .int .i64 0] 103)) := HX2.out.trans ((Below.refl _ _).alloc (Nat.le_refl _) _)
  have HL3 := Lib.hid hl3
  have HX3 := Lib.hid hx3
  have HS : Hid (w.heap.size ≤ w2.heap.size) := Lib.hid HX2.out.size
  clear hl3 hx3
  generalize World.alloc w2 _ = w3 at *
  generalize w2.heap.size = h at *
  refine (LgPiece F _ h g s f z 0 0 w3 (HD.out.ext HX3.out) HL3.out hz h1 (by omega)).mono ?_
  rintro e w4 ⟨b, c, rfl, hg4, hc4⟩
  have hr4 := PieceP.rd hg4 h1 hz hc4
  have HX4 := Lib.hid (HX3.out.trans hg4.ext)
  have HL4 := Lib.hid (HL3.out.ext hg4.ext)
  have HR4 := Lib.hid hr4
  clear hg4 hc4 hr4 HX3
  go_wp2_with fail
  refine (FrameAll_rdF (pieceB (rdD s) f z) _ 0 w4 HR4.out (by rw [HP.out]; have := HB.out; omega)).mono ?_
  rintro e w5 ⟨v5, rfl, hv5, hx5⟩
  rw [HE.out]
  have HV5 := Lib.hid (show RdLF (fun k => w4.heap.size ≤ k ∧ k < w5.heap.size) w5 v5 (recD s f z) from hv5)
  have HL5 := Lib.hid (HL4.out.ext hx5)
  have HX5 := Lib.hid (HX4.out.trans hx5)
  have HS5 := Lib.hid hx5.size
  obtain ⟨A5, c5, rfl, _, _⟩ := hv5.rdl.sliceN rfl
  clear hv5 hx5
  go_wp2_with fail
  refine (LgCut F _ h g s f z 0 0 (endD s f z) w5 (HD.out.ext HX5.out) HL5.out ?_ hz h1 HB.out.2 (by omega) hn0 (by omega)).mono ?_
  · intro k hk hF
    have := HD.out.isIn k hF
    have := HS.out
    omega
  rintro e w6 ⟨rfl, hd6, hl6, hc6⟩
  have HD6 := Lib.hid hd6
  have HL6 := Lib.hid hl6
  have HC6 := Lib.hid hc6
  clear hd6 hl6 hc6 HK HE
  go_wp2
  go_ret3
  have hw0 := HS.out
  have hi := HD.out.isIn
  have hs4 := HX4.out.size
  have hs45 := HS5.out
  have hs5 := HX5.out.size
  have hs6 := HC6.out.size
  have hi2 := HL6.out.isIn
  have hh4 := HL4.out.isIn
  have hV : RdLF (fun k => w4.heap.size ≤ k ∧ k < w5.heap.size) w6 _ (recD s f z) := HV5.out.chg HC6.out (fun k hk hF => by
    rcases hF with hF | hF
    · have := hi k hF
      omega
    · have := hh4 k hF
      omega)
  refine ⟨h, _, _, _, _, rfl, HD6.out, HL6.out, hV, fun k hk hF => ?_, fun k hk hF => ?_, fun k hk hF => ?_, fun k hk => ?_, fun k hk => ⟨by omega, hi2 k hk⟩, fun k hk => ⟨by omega, by omega⟩, ?_⟩
  · rcases hF with hF | hF
    · have := hi k hF
      omega
    · have := hh4 k hk
      omega
  · rcases hF with hF | hF
    · have := hi k hF
      omega
    · omega
  · have := hh4 k hF
    omega
  · rcases hk with hk | hk
    · exact .inl hk
    · exact .inr ⟨by omega, hk.2⟩
  · exact (Chg.of_ext HX5.out).trans HC6.out (fun x hx hF => by
      rcases hF with hF | hF
      · exact hF
      · omega)

end Go.Proofs.Ytdcmjmanalijfaa

/- Layer 6: a disk and slots that a call made itself, through the calls. -/
namespace Go.Proofs.Ytdcmjmanalijfaa
open Go.RowKit

/-- Since w0 all that was there stands; the disk and the slots were made since, and lie in F. -/
def SlW (w0 w : World) (h g : Nat) (s : DkS) (f z : Nat) (F : Fp) : Prop := SD F w h g s f z ∧ (∀ k, F k → w0.heap.size ≤ k) ∧ Ext w0 w
/-- A disk alone. -/
def DsW (w0 w : World) (g : Nat) (s : DkS) (F : Fp) : Prop := Dk F w g s ∧ (∀ k, F k → w0.heap.size ≤ k) ∧ Ext w0 w

section
variable {w0 w w' : World} {h g f z : Nat} {s : DkS} {F G : Fp} {p : List UInt8} {v : Value} {age : Int}
theorem since_lowS (hf : ∀ k, F k → w0.heap.size ≤ k) (hs : w0.heap.size ≤ w.heap.size) : ∀ k, F.since w w' k → w0.heap.size ≤ k := fun k hk => by
  rcases hk with hk | hk
  · exact hf k hk
  · exact Nat.le_trans hs hk.1
theorem old_apartS (hf : ∀ k, F k → w0.heap.size ≤ k) : Fp.apart (fun k => k < w0.heap.size) F := fun k hk hF => by
  have := hf k hF
  omega
theorem old_rdS {xs : List Value} (hr : Rd w0 v xs) (hx : Ext w0 w) : RdF (fun k => k < w0.heap.size) w v xs := hr.old.chg (G := fun _ => False) (Chg.of_ext hx) (fun _ _ h => h)
theorem old_inS (hx : Ext w0 w) : Fp.isIn (fun k => k < w0.heap.size) w := fun _ hk => Nat.lt_of_lt_of_le hk hx.size
theorem nsinceS {i : Nat} (h1 : ¬ F i) (h2 : i < w.heap.size) : ¬ F.since w w' i := fun h => by
  rcases h with h | h
  · exact h1 h
  · omega
theorem SlW.ext (hl : SlW w0 w h g s f z F) (hx : Ext w w') : SlW w0 w' h g s f z F := ⟨hl.1.ext hx, hl.2.1, hl.2.2.trans hx⟩
theorem SlW.chg (hl : SlW w0 w h g s f z F) (hc : Chg G w w') (ha : F.apart G) (hg : ∀ k, G k → w0.heap.size ≤ k) : SlW w0 w' h g s f z F := ⟨hl.1.chg hc ha, hl.2.1, hc.ext hl.2.2 hg⟩
theorem SlW.dsW (hl : SlW w0 w h g s f z F) : DsW w0 w g s F := ⟨hl.1.dk, hl.2⟩
theorem DsW.ext (hl : DsW w0 w g s F) (hx : Ext w w') : DsW w0 w' g s F := ⟨Dk.ext hl.1 hx, hl.2.1, hl.2.2.trans hx⟩
theorem DsW.new (hx : Ext w0 w) (n : Nat) (h1 : 1 ≤ n) (h2 : n ≤ 65536) : Calls Try.prog 9 #[.int .i64 (n : Int)] w fun e w' =>
    ∃ g, e = .returned (.pointer (some ⟨g, 0, none⟩)) ∧ DsW w0 w' g (List.replicate n 0, [], 0) (fun k => w.heap.size ≤ k ∧ k < w'.heap.size) ∧ Ext w w' :=
  (DkNew_yes n w h1 h2).mono fun _ _ ⟨g, he, hd, hx'⟩ => ⟨g, he, ⟨hd, fun _ hk => Nat.le_trans hx.size hk.1, hx.trans hx'⟩, hx'⟩
theorem DsW.open_ (hl : DsW w0 w g s F) (hz : f + 2 * z ≤ s.1.length) (h1 : 1 ≤ z) :
    Calls Try.prog 30 #[.pointer (some ⟨g, 0, none⟩), .int .i64 (f : Int), .int .i64 (z : Int)] w fun e w' => ∃ h : Nat, e = .returned (.tuple #[.pointer (some ⟨h, 0, none⟩), .int .i64 0]) ∧
      SlW w0 w' h g s f z (F.since w w') ∧ Ext w w' := by
  refine (SlOpen_yes F g s f z w hl.1 hz h1).mono ?_
  rintro e w' ⟨h, he, hs, hx⟩
  refine ⟨h, he, ⟨⟨F, _, Dk.ext hl.1 hx, hs, fun k hk hF => ?_, fun _ hk => .inl hk, fun _ hk => .inr hk, hl.1.isIn.since hx.size⟩, since_lowS hl.2.1 hl.2.2.size, hl.2.2.trans hx⟩, hx⟩
  have := hl.1.isIn k hF
  omega
theorem SlW.start (hl : SlW w0 w h g s f z F) (hr : Rd w0 v (p.map B)) (hz : f + 2 * z ≤ s.1.length) (h1 : 1 ≤ z) (hw : s.2.1.length ≤ 100000000) (hn0 : 0 ≤ s.2.2) (hn1 : s.2.2 ≤ 100000000) (hp : p.length ≤ 1000000) (a0 : -9223372036854775808 ≤ age) (a1 : age ≤ 9223372036854775807) :
    Calls Try.prog 75 #[.pointer (some ⟨h, 0, none⟩), v, .int .i64 age] w fun e w' => e = .returned (.int .i64 (stE s f z p age)) ∧ SlW w0 w' h g (stS s f z p age) f z (F.since w w') ∧ Chg F w w' :=
  (SlStart F h g s f z _ p v age w hl.1 (old_rdS hr hl.2.2) (old_apartS hl.2.1) (old_inS hl.2.2) hz h1 hw hn0 hn1 hp a0 a1).mono fun _ _ ⟨he, hd, hc⟩ => ⟨he, ⟨hd, since_lowS hl.2.1 hl.2.2.size, hc.ext hl.2.2 hl.2.1⟩, hc⟩
theorem SlW.save (hl : SlW w0 w h g s f z F) (hr : Rd w0 v (p.map B)) (hz : f + 2 * z ≤ s.1.length) (h1 : 1 ≤ z) (hw : s.2.1.length ≤ 100000000) (hn0 : 0 ≤ s.2.2) (hn1 : s.2.2 ≤ 100000000) (hp : p.length ≤ 1000000) (a0 : -9223372036854775808 ≤ age) (a1 : age ≤ 9223372036854775807) :
    Calls Try.prog 44 #[.pointer (some ⟨h, 0, none⟩), v, .int .i64 age] w fun e w' => e = .returned (.int .i64 (stE s f z p age)) ∧ SlW w0 w' h g (svS s f z p age) f z (F.since w w') ∧ Chg F w w' :=
  (SlSave F h g s f z _ p v age w hl.1 (old_rdS hr hl.2.2) (old_apartS hl.2.1) (old_inS hl.2.2) hz h1 hw hn0 hn1 hp a0 a1).mono fun _ _ ⟨he, hd, hc⟩ => ⟨he, ⟨hd, since_lowS hl.2.1 hl.2.2.size, hc.ext hl.2.2 hl.2.1⟩, hc⟩
theorem SlW.load (hl : SlW w0 w h g s f z F) (hz : f + 2 * z ≤ s.1.length) (h1 : 1 ≤ z) (hw : s.2.1.length ≤ 1000000000) :
    Calls Try.prog 32 #[.pointer (some ⟨h, 0, none⟩)] w fun e w' => LoadP (loadD s f z) w e w' ∧ SlW w0 w' h g s f z F :=
  (SlLoad F h g s f z w hl.1 hz h1 hw).mono fun _ _ hp => ⟨hp, by obtain ⟨v, _, _, hx⟩ := hp; exact hl.ext hx⟩
theorem SlW.crash (hl : SlW w0 w h g s f z F) (k : Int) (h0 : -9223372036854775808 ≤ k) (h1 : k ≤ 9223372036854775807) (hw : s.2.1.length ≤ 1000000000) :
    Calls Try.prog 21 #[.pointer (some ⟨g, 0, none⟩), .int .i64 k] w fun e w' => e = .returned (.tuple #[]) ∧ SlW w0 w' h g (crD s k) f z (F.since w w') ∧ Chg F w w' :=
  (hl.1.turn fun F1 hd => DkCrash F1 g s k w hd h0 h1 hw).mono fun _ _ ⟨he, hd, hc⟩ => ⟨he, ⟨hd, since_lowS hl.2.1 hl.2.2.size, hc.ext hl.2.2 hl.2.1⟩, hc⟩
end

end Go.Proofs.Ytdcmjmanalijfaa

/- Two closed facts on the program that every row asks. -/
namespace Go.Proofs.Ytdcmjmanalijfaa
open Go.RowKit

theorem Try.ownKnob : ownKnob Try.prog.godebug = none := by kernel_rfl

theorem Try.laidOut : laidOutB Try.prog = true := by kernel_rfl

end Go.Proofs.Ytdcmjmanalijfaa

/- Layer 7, the statements: may acts be looked at? -/
namespace Go.Proofs.Ytdcmjmanalijfaa
open Go.RowKit

def fewJ (l : List (Int × Int × List UInt8)) : Bool := decide (l.length ≤ 40) && l.all (fun x => decide (x.2.2.length ≤ 200))

theorem fewJ_yes {l : List (Int × Int × List UInt8)} (h : fewJ l = true) : l.length ≤ 40 ∧ ∀ x ∈ l, x.2.2.length ≤ 200 := by
  simp only [fewJ, Bool.and_eq_true, decide_eq_true_eq, List.all_eq_true] at h
  exact h

theorem fewJ_any (l : List (Int × Int × List UInt8)) (v : Value) (w : World) (hr : RdActs w v l) : Calls Try.prog 8 #[v] w fun e w' => e = .returned (.bool (fewJ l)) ∧ w = w' := by
  obtain ⟨A, c, rfl, hlc, hcm⟩ := hr.slice_
  by_cases h40 : l.length ≤ 40
  · go_enter Try.func8, Try.ntmps8
    go_wp2
    go_loop [3] (fun i => ∃ k : Nat, i = .int .i64 k ∧ k ≤ l.length ∧ Hid ((l.take k).all (fun x => decide (x.2.2.length ≤ 200)) = true)) (fun i => l.length - (intOf i).toNat)
    case atStart => exact ⟨0, rfl, Nat.zero_le _, Lib.hid rfl⟩
    case round =>
      obtain ⟨k, rfl, hk, HA⟩ := hrel
      by_cases hlt : k < l.length
      · obtain ⟨b, o, rfl, hb, hc⟩ := hr.get (by omega)
        obtain ⟨_, _, _, _, u, hu, hru⟩ := hc k l[k] (List.getElem?_eq_getElem hlt)
        rw [← Nat.add_assoc] at hu
        obtain ⟨A1, c1, rfl, _, _⟩ := hru.sliceN (List.length_map _)
        have hs : l.take (k + 1) = l.take k ++ [l[k]] := List.take_succ_eq_append_getElem hlt
        have hall2 : l[k].2.2.length ≤ 200 → (l.take (k + 1)).all (fun x => decide (x.2.2.length ≤ 200)) = true := fun h => by
          rw [hs, List.all_append, HA.out]
          simpa using h
        have hno : 200 < l[k].2.2.length → fewJ l = false := fun h => by
          rw [fewJ, Bool.and_eq_false_iff]
          refine .inr ?_
          rw [List.all_eq_false]
          exact ⟨l[k], List.getElem_mem hlt, by simpa using h⟩
        have H2 := Lib.hid hall2
        have HN := Lib.hid hno
        clear hall2 hno hs hc
        generalize l[k].2.2.length = m at *
        by_cases hm : m ≤ 200
        · have hmd : decide (200 < m) = false := by simp; omega
          have H3 := Lib.hid (H2.out hm)
          clear H2 HN
          go_wp2
          go_round
          case rel => exact ⟨k + 1, by go_num, by omega, H3⟩
          case measure => simp [intOf]; omega
        · have H3 := Lib.hid (HN.out (by omega))
          have hmd : decide (200 < m) = true := by simp; omega
          clear H2 HN
          go_wp2
          go_ret
          exact ⟨by rw [H3.out]; rfl, rfl⟩
      · obtain rfl : k = l.length := by omega
        have hf : fewJ l = true := by
          have := HA.out
          rw [List.take_length] at this
          rw [fewJ, this, decide_eq_true h40]
          rfl
        have HF := Lib.hid hf
        clear hf HA
        go_wp2
        go_ret
        exact ⟨by rw [HF.out]; rfl, rfl⟩
  · have hf : fewJ l = false := by rw [fewJ, decide_eq_false h40]; rfl
    have HF := Lib.hid hf
    have hd : decide (40 < l.length) = true := by simp; omega
    clear hf
    go_enter Try.func8, Try.ntmps8
    go_wp2
    go_ret
    exact ⟨by rw [HF.out]; rfl, rfl⟩

end Go.Proofs.Ytdcmjmanalijfaa

/- Layer 4, the reference's disk: more words. -/
namespace Go.Proofs.Ytdcmjmanalijfaa
open Go.RowKit

theorem Rk.ext0 {F : Fp} {w w' : World} {r : Nat} {s : DkS} (h : Rk F w r s) (hx : Ext w w') : Rk F w' r s := Rk.chg (G := fun _ => False) h (Chg.of_ext hx) (fun _ _ h => h)
theorem RdF.made0 {e : TypeId} {w w' : World} {v : Value} {xs : List Value} (h : Grew w.heap.size e (.slice none 0 0) w xs v w') : RdF (fun k => w.heap.size ≤ k ∧ k < w'.heap.size) w' v xs := (RowF.made h).rdF
section
variable {F : Fp} {w : World} {r : Nat} {s : DkS}
theorem Rk.cell0 (h : Rk F w r s) : ∃ A c, w.cell? ⟨r, 0, none⟩ = some (.slice A s.1.length c) := by
  obtain ⟨as_, vs, vB, vA, vV, h1, h2, h3, h4⟩ := h
  obtain ⟨A, c, rfl⟩ := h1.slB
  exact ⟨A, c, h1.c0⟩
theorem Rk.lt (h : Rk F w r s) : r < w.heap.size := h.cells.1
end

end Go.Proofs.Ytdcmjmanalijfaa

/- Layer 5, the reference: a log. -/
namespace Go.Proofs.Ytdcmjmanalijfaa
open Go.RowKit

/-- The reference's log at m: its disk, its piece, its records. -/
def RLg0 (G : Fp) (w : World) (m r f z : Nat) (L : List (List UInt8)) (vL : Value) (vs : List Value) : Prop :=
  ObjF G w m 87 #[.pointer (some ⟨r, 0, none⟩), .int .i64 (f : Int), .int .i64 (z : Int), vL] [⟨30, 1, vL, vs.length, vs⟩] ∧ vs.length = L.length ∧
    ∀ (i : Nat) u l, vs[i]? = some u → L[i]? = some l → RdF (fun k => G k ∧ k ≠ m ∧ some k ≠ vL.ownBlock) w u (l.map B)
def RLg (G : Fp) (w : World) (m r f z : Nat) (L : List (List UInt8)) : Prop := ∃ vL vs, RLg0 G w m r f z L vL vs

section
variable {F G : Fp} {w w' : World} {m r f z : Nat} {L : List (List UInt8)} {vL : Value} {vs : List Value}
theorem RLg0.blk (h : RLg0 G w m r f z L vL vs) : Blk w m 87 #[.pointer (some ⟨r, 0, none⟩), .int .i64 (f : Int), .int .i64 (z : Int), vL] := ObjF.blk h.1
theorem RLg0.row (h : RLg0 G w m r f z L vL vs) : w.ownsRow 0 30 1 vL vs.length vs := (ObjF.ok h.1 ⟨30, 1, vL, vs.length, vs⟩ (by simp)).1
theorem RLg0.rdlF (h : RLg0 G w m r f z L vL vs) : RdLF G w vL L := by
  have hok := ObjF.ok h.1 ⟨30, 1, vL, vs.length, vs⟩ (by simp)
  have hrow : RowF G w 30 vL vs := ⟨hok.1, hok.2⟩
  exact ⟨vs, hrow.rdF, h.2.1, fun i u l hu hl => (h.2.2 i u l hu hl).mono fun k hk => hk.1⟩
theorem RLg0.chg (h : RLg0 G w m r f z L vL vs) (hc : Chg F w w') (ha : G.apart F) : RLg0 G w' m r f z L vL vs :=
  ⟨ObjF.chg h.1 hc ha, h.2.1, fun i u l hu hl => (h.2.2 i u l hu hl).chg hc fun k hk => ha k hk.1⟩
theorem RLg0.ext (h : RLg0 G w m r f z L vL vs) (hx : Ext w w') : RLg0 G w' m r f z L vL vs := h.chg (F := fun _ => False) (Chg.of_ext hx) (fun _ _ h => h)
theorem RLg0.mono (h : RLg0 G w m r f z L vL vs) (hf : ∀ k, G k → F k) (hi : F.isIn w) : RLg0 F w m r f z L vL vs :=
  ⟨ObjF.mono h.1 hf hi, h.2.1, fun i u l hu hl => (h.2.2 i u l hu hl).mono fun k hk => ⟨hf k hk.1, hk.2⟩⟩
theorem RLg.chg (h : RLg G w m r f z L) (hc : Chg F w w') (ha : G.apart F) : RLg G w' m r f z L := by
  obtain ⟨vL, vs, h⟩ := h
  exact ⟨vL, vs, h.chg hc ha⟩
theorem RLg.ext (h : RLg G w m r f z L) (hx : Ext w w') : RLg G w' m r f z L := h.chg (F := fun _ => False) (Chg.of_ext hx) (fun _ _ h => h)
theorem RLg.isIn (h : RLg G w m r f z L) : G.isIn w := by
  obtain ⟨vL, vs, h⟩ := h
  exact ObjF.isIn h.1
theorem RLg.mono (h : RLg G w m r f z L) (hf : ∀ k, G k → F k) (hi : F.isIn w) : RLg F w m r f z L := by
  obtain ⟨vL, vs, h⟩ := h
  exact ⟨vL, vs, h.mono hf hi⟩
end


theorem catF_take {l : List (List UInt8)} {k : Nat} (h : k < l.length) : (catF (l.take (k + 1))).length = (catF (l.take k)).length + (frameB l[k]).length := by
  rw [List.take_succ_eq_append_getElem h, catF_snoc_len]
theorem catF_take_le (l : List (List UInt8)) (k : Nat) : (catF (l.take k)).length ≤ (catF l).length := by
  conv => rhs; rw [← List.take_append_drop k l, catF_append, List.length_append]
  omega

set_option maxRecDepth 100000 in
theorem RefUsed_any (G : Fp) (m r f z : Nat) (L : List (List UInt8)) (w : World) (hl : RLg G w m r f z L) (hc : (catF L).length ≤ 1000000000) (hn : L.length ≤ 1000000000) :
    Calls Try.prog 55 #[.pointer (some ⟨m, 0, none⟩)] w fun e w' => e = .returned (.int .i64 ((catF L).length : Int)) ∧ Ext w w' := by
  obtain ⟨vL, vs, hl⟩ := hl
  obtain ⟨A, c, rfl, _, _⟩ := hl.rdlF.rdl.sliceN rfl
  have HL := Lib.hid hl
  clear hl
  go_enter Try.func55, Try.ntmps55
  go_wp2
  go_loopw [3, 4] (fun n' i' wr => ∃ k : Nat, i' = .int .i64 k ∧ k ≤ L.length ∧ n' = .int .i64 ((catF (L.take k)).length : Int) ∧ Ext w wr) (fun _ i' _ => L.length - (intOf i').toNat)
  case atStart => exact ⟨0, rfl, Nat.zero_le _, rfl, Ext.refl _⟩
  case round =>
    obtain ⟨k, rfl, hk, rfl, hx⟩ := hrel
    have hlr := HL.out.ext hx
    have c3 : wr.cell? ⟨m, 3, none⟩ = some (.slice A L.length c) := hlr.blk.cell 3
    by_cases hlt : k < L.length
    · obtain ⟨b, o, rfl, hb, hcl⟩ := hlr.rdlF.rdl.at (by omega)
      obtain ⟨q, eq, hq⟩ := hcl k L[k] (List.getElem?_eq_getElem hlt)
      have hle := catF_take_le L (k + 1)
      have hst := catF_take hlt
      obtain ⟨Q, cq, rfl, hcq, hcmq⟩ := hq.sliceN (List.length_map _)
      generalize L[k] = p at *
      have HS := Lib.hid hst
      have h9 : (catF (L.take k)).length + (frameB p).length ≤ 1000000000 := by omega
      clear hcl hlr hst hle
      generalize (catF (L.take k)).length = n at *
      go_wp2_with fail
      refine (RefFrame_any p _ wr hq).mono ?_
      rintro e w1 ⟨v1, rfl, hg1⟩
      obtain ⟨A1, k1, rfl⟩ := hg1.slice_ (List.length_map _)
      have hx1 := hx.trans hg1.ext
      clear hg1
      go_wp2
      go_roundw
      case rel => exact ⟨k + 1, by go_num, by omega, by rw [HS.out]; go_num, hx1⟩
      case measure => simp [intOf]; omega
    · obtain rfl : k = L.length := by omega
      rw [List.take_of_length_le (Nat.le_refl _)]
      clear hlr
      go_wp2
      go_ret
      exact ⟨rfl, hx⟩

set_option maxRecDepth 100000 in
theorem RefZero_any (F G : Fp) (m r f z : Nat) (L : List (List UInt8)) (s : DkS) (u : Nat) (w : World) (hk : Rk F w r s) (hl : RLg G w m r f z L) (ha : G.apart F) (hz : f + z ≤ s.1.length) (hu : u ≤ z) (hb : s.1.length ≤ 65536)
    (hw : s.2.1.length ≤ 100000000) (hn0 : 0 ≤ s.2.2) (hn1 : s.2.2 ≤ 1000000000) :
    Calls Try.prog 65 #[.pointer (some ⟨m, 0, none⟩), .int .i64 (u : Int)] w fun e w' => e = .returned (.tuple #[]) ∧ Rk (F.since w w') w' r (zrD s f z u) ∧ Chg F w w' := by
  obtain ⟨vL, vs, hl⟩ := hl
  obtain ⟨w2, hmk, hg2⟩ := run_make_u8 w.drew (z - u) (by omega)
  obtain ⟨X, hX⟩ : ∃ X : Int, X = ((z - u : Nat) : Int) := ⟨_, rfl⟩
  have w1 : IntKind.i64.wrap ((z : Int) - (u : Int)) = X := by rw [IntKind.wrap_i64]; omega
  rw [← hX] at hmk
  obtain ⟨Y, hY⟩ : ∃ Y : Int, Y = ((f + u : Nat) : Int) := ⟨_, rfl⟩
  have w3 : IntKind.i64.wrap ((f : Int) + (u : Int)) = Y := by rw [IntKind.wrap_i64]; omega
  have hx2 : Ext w w2 := (Ext.dr (Ext.refl w)).trans hg2.ext
  have hl1 := hl.ext (Ext.dr (Ext.refl w))
  have hl2 := hl.ext hx2
  have c0 : w.drew.cell? ⟨m, 0, none⟩ = some (.pointer (some ⟨r, 0, none⟩)) := hl1.blk.cell 0
  have c1 : w.drew.cell? ⟨m, 1, none⟩ = some (.int .i64 (f : Int)) := hl1.blk.cell 1
  have c2 : w.drew.cell? ⟨m, 2, none⟩ = some (.int .i64 (z : Int)) := hl1.blk.cell 2
  have d0 : w2.cell? ⟨m, 0, none⟩ = some (.pointer (some ⟨r, 0, none⟩)) := hl2.blk.cell 0
  have d1 : w2.cell? ⟨m, 1, none⟩ = some (.int .i64 (f : Int)) := hl2.blk.cell 1
  have d2 : w2.cell? ⟨m, 2, none⟩ = some (.int .i64 (z : Int)) := hl2.blk.cell 2
  have hk2 := hk.ext0 hx2
  have hrd := RdF.made0 hg2
  have KW := RkWrite F (fun k => w.drew.heap.size ≤ k ∧ k < w2.heap.size) r s ((f + u : Nat) : Int) _ (List.replicate (z - u) 0) w2 hk2 hrd (fun k hk1 hk3 => by have := hk.isIn k hk3; have : w.drew.heap.size = w.heap.size := rfl; omega) (fun k hk => hk.2) hb (by omega)
  rw [← hY] at KW
  have KW' := Lib.hid KW
  have HX := Lib.hid hx2
  have HL := Lib.hid hl
  have HY := Lib.hid hY
  have HI := Lib.hid hk.isIn
  have HB : Hid (s.2.1.length ≤ 100000000 ∧ z ≤ 65536) := Lib.hid (show s.2.1.length ≤ 100000000 ∧ z ≤ 65536 from ⟨hw, by omega⟩)
  clear hX hY hz hu hb hw hk hl hl1 hl2 hg2 hrd KW hk2 hx2
  go_enter Try.func65, Try.ntmps65
  go_wp2
  go_region_law (go_simp; (go_at_call 79; refine KW'.out.mono ?_; rintro e w3 ⟨rfl, hk3, hc3⟩))
  all_goals
    have hl3 := (HL.out.ext HX.out).chg hc3 ha
    have e0 : w3.cell? ⟨m, 0, none⟩ = some (.pointer (some ⟨r, 0, none⟩)) := hl3.blk.cell 0
    have HK3 := Lib.hid hk3
    have HC3 := Lib.hid hc3
    clear hk3 hc3 hl3 hmk c0 c1 c2 d0 d1 d2
    go_wp2_with fail
    refine (RkSync _ r _ w3 HK3.out (by have := wrD_waits s Y (List.replicate (z - u) 0); rw [List.length_replicate] at this; have := HB.out; omega) (by rw [wrD_n]; exact hn0) (by rw [wrD_n]; exact hn1)).mono ?_
    rintro e w4 ⟨rfl, hk4, hc4⟩
    have HK4 := Lib.hid hk4
    have HC4 := Lib.hid hc4
    clear hk4 hc4
    go_wp2
    go_end0
    refine ⟨rfl, ?_, ?_⟩
    · have h4 := HK4.out
      rw [HY.out] at h4
      have hs : w.heap.size ≤ w2.heap.size := HX.out.size
      refine Rk.mono h4 (fun k hk => ?_) ((HI.out).since ?_)
      · rcases hk with hk | hk
        · exact .inl hk
        · exact .inr ⟨by omega, Nat.lt_of_lt_of_le hk.2 HC4.out.size⟩
      · exact Nat.le_trans hs (Nat.le_trans HC3.out.size HC4.out.size)
    · exact ((Chg.of_ext (F := F) HX.out).trans HC3.out (fun _ _ h => h)).trans HC4.out (fun x hx h => by
        rcases h with h | h
        · exact h
        · have := HX.out.size
          omega)

end Go.Proofs.Ytdcmjmanalijfaa

/- Layer 5, the reference: a log is opened, put to, cleared. -/
namespace Go.Proofs.Ytdcmjmanalijfaa
open Go.RowKit

theorem Grew.base0 {b : Nat} {e : TypeId} {v v' : Value} {w w' : World} {xs : List Value} (h : Grew b e v w xs v' w') : Grew 0 e v w xs v' w' := by
  obtain ⟨h1, h2, h3⟩ := h
  refine ⟨⟨h1.1, ?_⟩, h2, h3⟩
  rcases h1.2 with hv | ⟨g, cap, cur, hv, _, r⟩
  · exact .inl hv
  · exact .inr ⟨g, cap, cur, hv, Nat.zero_le _, r⟩

/-- The reference's disk and a log on it. -/
def RLD (F : Fp) (w : World) (m r : Nat) (s : DkS) (f z : Nat) (L : List (List UInt8)) : Prop :=
  ∃ F1 F2 : Fp, Rk F1 w r s ∧ RLg F2 w m r f z L ∧ F2.apart F1 ∧ (∀ k, F1 k → F k) ∧ (∀ k, F2 k → F k) ∧ F.isIn w

section
variable {F G : Fp} {w w' : World} {m r f z : Nat} {L : List (List UInt8)} {s : DkS}
theorem RLD.isIn (h : RLD F w m r s f z L) : F.isIn w := by
  obtain ⟨F1, F2, h1, h2, h3, h4, h5, h6⟩ := h
  exact h6
theorem RLD.rk (h : RLD F w m r s f z L) : Rk F w r s := by
  obtain ⟨F1, F2, h1, h2, h3, h4, h5, h6⟩ := h
  exact h1.mono h4 h6
theorem RLD.chg (h : RLD F w m r s f z L) (hc : Chg G w w') (ha : F.apart G) : RLD F w' m r s f z L := by
  obtain ⟨F1, F2, h1, h2, h3, h4, h5, h6⟩ := h
  exact ⟨F1, F2, h1.chg hc (fun k hk => ha k (h4 k hk)), h2.chg hc (fun k hk => ha k (h5 k hk)), h3, h4, h5, h6.chg hc⟩
theorem RLD.ext (h : RLD F w m r s f z L) (hx : Ext w w') : RLD F w' m r s f z L := h.chg (G := fun _ => False) (Chg.of_ext hx) (fun _ _ h => h)
theorem RLD.mono (h : RLD F w m r s f z L) (hf : ∀ k, F k → G k) (hi : G.isIn w) : RLD G w m r s f z L := by
  obtain ⟨F1, F2, h1, h2, h3, h4, h5, h6⟩ := h
  exact ⟨F1, F2, h1, h2, h3, fun k hk => hf k (h4 k hk), fun k hk => hf k (h5 k hk), hi⟩
end

/-- A log's struct, and the records that were read: a log. -/
theorem RLg.opened {w1 w2 : World} {m r f z : Nat} {v2 : Value} {L : List (List UInt8)}
    (h : ObjF (fun k => m ≤ k ∧ k < m + 1) w1 m 87 #[.pointer (some ⟨r, 0, none⟩), .int .i64 (f : Int), .int .i64 (z : Int), .slice none 0 0] [⟨30, 1, .slice none 0 0, 0, []⟩])
    (hw : OwnL w1.heap.size w1 30 v2 w2 L) : RLg (fun k => m ≤ k ∧ k < w2.heap.size) (w2.setCell ⟨m, 3, none⟩ v2) m r f z L ∧ Chg (fun k => k = m) w2 (w2.setCell ⟨m, 3, none⟩ v2) := by
  obtain ⟨vs, hg, hlen, hel⟩ := hw
  have hm := (ObjF.blk h).lt
  have hs : w1.heap.size ≤ w2.heap.size := hg.size
  have hc : Chg (fun k => k = m) w2 (w2.setCell ⟨m, 3, none⟩ v2) := (Chg.refl _ w2).setCell (fun _ => rfl)
  obtain ⟨h1, _⟩ := h.push 0 3 (by simp) rfl hg.base0
  refine ⟨⟨v2, vs, h1.mono (fun k hk => ?_) (fun k hk => by simpa using hk.2), hlen, fun i u l hu hl => ?_⟩, hc⟩
  · rcases hk with hk | hk
    · exact ⟨hk.1, by omega⟩
    · exact ⟨by omega, hk.2⟩
  · have he := (hel i u l hu hl).rdF (F := fun k => (m ≤ k ∧ k < w2.heap.size) ∧ k ≠ m ∧ some k ≠ v2.ownBlock) (fun k hk hr => ⟨⟨by have := hr.1; omega, hk⟩, by have := hr.1; omega, hr.2⟩)
    exact he.chg hc (fun k hk e => hk.2.1 e)

set_option maxRecDepth 100000 in
theorem RefOpen_no (F : Fp) (r : Nat) (s : DkS) (i n : Int) (w : World) (hk : Rk F w r s) (hb : s.1.length ≤ 65536) (h : ¬ (0 ≤ i ∧ 1 ≤ n ∧ i + n ≤ s.1.length)) :
    Calls Try.prog 37 #[.pointer (some ⟨r, 0, none⟩), .int .i64 i, .int .i64 n] w fun e w' => e = .returned (.tuple #[.pointer none, .bool false]) ∧ w = w' := by
  obtain ⟨A, c, c0⟩ := hk.cell0
  clear hk
  rcases (show i < 0 ∨ (0 ≤ i ∧ n < 1) ∨ (0 ≤ i ∧ 1 ≤ n ∧ (s.1.length : Int) < i) ∨ (0 ≤ i ∧ 1 ≤ n ∧ i ≤ (s.1.length : Int) ∧ (s.1.length : Int) - i < n) by omega) with h1 | ⟨h1, h2⟩ | ⟨h1, h2, h3⟩ | ⟨h1, h2, h3, h4⟩
  all_goals
    clear h
    go_enter Try.func37, Try.ntmps37
    go_wp2
    go_ret2
    exact ⟨rfl, rfl⟩

set_option maxRecDepth 100000 in
theorem RefOpen_yes (F : Fp) (r : Nat) (s : DkS) (f z : Nat) (w : World) (hk : Rk F w r s) (hb : s.1.length ≤ 65536) (hz : f + z ≤ s.1.length) (h1 : 1 ≤ z) (hw : s.2.1.length ≤ 100000000) (hn0 : 0 ≤ s.2.2) (hn1 : s.2.2 ≤ 1000000000) :
    Calls Try.prog 37 #[.pointer (some ⟨r, 0, none⟩), .int .i64 (f : Int), .int .i64 (z : Int)] w fun e w' =>
      ∃ m, e = .returned (.tuple #[.pointer (some ⟨m, 0, none⟩), .bool true]) ∧ RLD (F.since w w') w' m r (opD s f z) f z (recD s f z) ∧ Chg F w w' := by
  obtain ⟨A, c, c0⟩ := hk.cell0
  have HK := Lib.hid hk
  clear hk
  go_enter Try.func37, Try.ntmps37
  go_wp2_with fail
  have hE : Ext w (w.alloc (.cells #[.pointer (some ⟨r, 0, none⟩), .int .i64 (f : Int), .int .i64 (z : Int), .slice none 0 0] 87)) := (Below.refl _ _).alloc (Nat.le_refl _) _
  have hO := ObjF.new (w0 := w) (w := w) (rows := [⟨30, 1, .slice none 0 0, 0, []⟩]) (Nat.le_refl _) #[.pointer (some ⟨r, 0, none⟩), .int .i64 (f : Int), .int .i64 (z : Int), .slice none 0 0] 87
    (fun q hq => by
      obtain rfl := List.mem_singleton.1 hq
      exact ⟨World.ownsRow_nil _ _ _ _, fun k hk => by cases hk⟩) (by simp)
  generalize hm : w.heap.size = m at *
  generalize w.alloc _ = w0 at *
  refine (RkBytes F r s w0 (HK.out.ext0 hE) hb (by omega)).mono ?_
  rintro e w1 ⟨v1, rfl, hg1⟩
  have hlen := rdD_len s
  obtain ⟨g1, k1, hv1, hk1, _⟩ := hg1.form (by rw [List.length_map, hlen]; omega)
  rw [List.length_map, hlen] at hv1 hk1
  subst hv1
  have hr1 := (Rd.own hg1.own).cut f z (by rw [List.length_map, hlen]; exact hz)
  rw [if_neg (by omega), Option.map_some, Addr.add_lit, Nat.zero_add] at hr1
  have hp : (((rdD s).map B).drop f).take z = (pieceB (rdD s) f z).map B := by rw [pieceB, List.map_take, List.map_drop]
  rw [hp] at hr1
  have hpl := pieceB_len (b := rdD s) (f := f) (z := z) (by rw [hlen]; exact hz)
  have hend := recD_end s f z
  have HP := Lib.hid hpl
  have HE := Lib.hid hend
  have HG1 := Lib.hid hg1
  have HO := Lib.hid hO
  have HX := Lib.hid hE
  clear hp hpl hend hg1 hO hE
  go_wp2_with fail
  refine (RefFrameAll_any (pieceB (rdD s) f z) _ 0 w1 hr1 (by rw [HP.out]; omega)).mono ?_
  rintro e w2 ⟨v2, rfl, hown⟩
  obtain ⟨A2, c2, rfl, _, _⟩ := hown.rdl.sliceN rfl
  rw [HE.out]
  have hO2 := (HO.out.ext HG1.out.ext).ext hown.ext
  have e3 : w2.cell? ⟨m, 3, none⟩ = some (.slice none 0 0) := (ObjF.blk hO2).cell 3
  have f3 := (ObjF.blk hO2).frozen 3
  have HO2 := Lib.hid hO2
  have HW := Lib.hid hown
  clear hO2 hown hr1
  go_wp2_with fail
  obtain ⟨hL3, hc3⟩ := RLg.opened (r := r) (f := f) (z := z) (HO.out.ext HG1.out.ext) HW.out
  have hx2 : Ext w w2 := (HX.out.trans HG1.out.ext).trans HW.out.ext
  have hk3 : Rk F (w2.setCell ⟨m, 3, none⟩ (.slice A2 (recD s f z).length c2)) r s := (HK.out.ext0 hx2).chg hc3 (fun k hk e => by have := HK.out.isIn k hk; omega)
  have he := endD_le hz
  have hap : Fp.apart (fun k => m ≤ k ∧ k < w2.heap.size) F := fun k hk hF => by have := HK.out.isIn k hF; omega
  refine (RefZero_any F _ m r f z _ s (endD s f z) _ hk3 hL3 hap hz he hb hw hn0 hn1).mono ?_
  rintro e w4 ⟨rfl, hk4, hc4⟩
  have hL4 := hL3.chg hc4 hap
  have hs3 : (w2.setCell ⟨m, 3, none⟩ (.slice A2 (recD s f z).length c2)).heap.size = w2.heap.size := by simp
  have hs4 := hc4.size
  have hc04 : Chg F w w4 := ((Chg.of_ext (F := F) hx2).step (hc3.mono fun k _ e => .inr ⟨by omega, by have := (ObjF.blk HO2.out).lt; omega⟩)).trans hc4 (fun _ _ h => h)
  have hmlt := (ObjF.blk HO2.out).lt
  have hR : RLD (F.since w w4) w4 m r (opD s f z) f z (recD s f z) := by
    refine ⟨_, _, hk4, hL4, fun k hk hk2 => ?_, fun k hk => ?_, fun k hk => .inr ⟨by omega, by omega⟩, HK.out.isIn.since hc04.size⟩
    · rcases hk2 with hk2 | hk2
      · exact hap k hk hk2
      · omega
    · rcases hk with hk | hk
      · exact .inl hk
      · exact .inr ⟨by have := hx2.size; omega, hk.2⟩
  have HR := Lib.hid hR
  have HC := Lib.hid hc04
  clear hR hc04 hL4 hk4 hL3 hk3 hc3 hc4 hx2 hap hs3 hs4
  go_wp2
  go_ret2
  exact ⟨m, rfl, HR.out, HC.out⟩

end Go.Proofs.Ytdcmjmanalijfaa
