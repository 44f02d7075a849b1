/- Texts that the proof of JournalActs rests on, one behind the other. -/
import Derived.Test.YtdcmjmanalijfaaJournalActsQ9
import Derived.Deep.RegionHeld3
import Derived.Deep.DeepCutAuto
import Derived.Deep.RegionLaw

/- Layer 5, the reference: a log is put to, appended to, cleared. -/
namespace Go.Proofs.Ytdcmjmanalijfaa
open Go.RowKit

theorem Chg.undrew {F : Fp} {a b : World} (h : Chg F a.drew b) : Chg F a b := ⟨h.os, h.tape, h.output, h.size, h.block⟩

theorem stepPush_row {w : World} {ops : Array Oper} {o : Oper} {a : Act} {K : Act → World → Prop} {Q : Exit → Act → World → Prop} {E : Prop} {gx : Nat} (s x : Operand)
    (hop : o.op = .call { callee := .builtin .append, args := #[s, x], argTypes := #[31, 31] }) (hw : Region.wanted o (yielded ops a.tmps) = true)
    (v : Value) (xs : List Value) (hown : w.ownsRow 0 30 1 v xs.length xs) (hs : a.eval s = v) (u : Value) (hu : u.oneCell' = true)
    (hx : a.eval x = .slice (some ⟨gx, 0, none⟩) 1 1) (hgx : gx = w.heap.size) (hn : xs.length ≤ 1000000000) (h : ∀ v' w', Grew 0 30 v w (xs ++ [u]) v' w' → K (a.put o.dst v') w') :
    if Region.wanted o (yielded ops a.tmps) = true then Oper.wp Try.prog o a (w.alloc (.cells #[u] 30)) K Q else E :=
  step_pushN s x 31 hop hw 0 30 (.slice none 0 0) 1 24 Try.underlying31 Try.infoRow rfl (by omega) v xs.length xs hown hs #[u] rfl
    (fun z hz => by
      obtain rfl := List.mem_singleton.1 hz
      exact hu) hx hgx (by unfold maxLen; omega) (by omega) (Nat.zero_le _) (fun v' w' hg => h v' w' ⟨by rw [List.length_append]; exact hg.1, hg.2⟩)

section
variable {F G : Fp} {w w' : World} {m r f z : Nat} {L : List (List UInt8)} {vL : Value} {vs : List Value}
/-- One record more. -/
theorem RLg0.pushed {w1 w2 : World} {v1 v2 : Value} {p : List UInt8} (h : RLg0 G w m r f z L vL vs) (hg : Grew w.heap.size 5 (.slice none 0 0) w (p.map B) v1 w1) (hn : Grew 0 30 vL w1 (vs ++ [v1]) v2 w2) :
    RLg (G.since w (w2.setCell ⟨m, 3, none⟩ v2)) (w2.setCell ⟨m, 3, none⟩ v2) m r f z (L ++ [p]) ∧ Chg G w (w2.setCell ⟨m, 3, none⟩ v2) := by
  have h1 := h.ext hg.ext
  obtain ⟨h2, h3⟩ := ObjF.push h1.1 0 3 (by simp) rfl hn
  have hs1 : w.heap.size ≤ w1.heap.size := hg.size
  have hs2 : w1.heap.size ≤ w2.heap.size := hn.size
  have hs3 : (w2.setCell ⟨m, 3, none⟩ v2).heap.size = w2.heap.size := by simp
  have hmG := h.1.here
  have hmlt := h.blk.lt
  have hcn : Chg (fun k => vL.ownBlock = some k) w1 w2 := Chg.of_grown hn.2.1 (fun k hk => hk)
  have hcm : Chg (fun k => k = m) w2 (w2.setCell ⟨m, 3, none⟩ v2) := (Chg.refl _ w2).setCell (fun _ => rfl)
  have hin := ObjF.isIn h.1
  refine ⟨⟨v2, vs ++ [v1], h2.mono (fun k hk => ?_) (hin.since (by omega)), by rw [List.length_append, List.length_append, h.2.1]; rfl, fun i u l hu hl => ?_⟩, ?_⟩
  · rcases hk with hk | hk
    · exact .inl hk
    · exact .inr ⟨by omega, by omega⟩
  · have hblk : v2.ownBlock = vL.ownBlock ∨ ∀ k, v2.ownBlock = some k → w1.heap.size ≤ k := hn.2.2
    by_cases hi : i < vs.length
    · rw [List.getElem?_append_left hi] at hu
      rw [List.getElem?_append_left (by rw [← h.2.1]; exact hi)] at hl
      have he := ((h1.2.2 i u l hu hl).chg hcn (fun k hk e => hk.2.2 e.symm)).chg hcm (fun k hk e => hk.2.1 e)
      refine he.mono fun k hk => ⟨.inl hk.1, hk.2.1, fun e => ?_⟩
      rcases hblk with hb | hb
      · exact hk.2.2 (by rw [e, hb])
      · have := hb k e.symm
        have := hin k hk.1
        omega
    · have hi2 : i = vs.length := by
        have := (List.getElem?_eq_some_iff.1 hu).1
        rw [List.length_append, List.length_singleton] at this
        omega
      subst hi2
      rw [List.getElem?_append_right (Nat.le_refl _), Nat.sub_self] at hu
      rw [h.2.1, List.getElem?_append_right (Nat.le_refl _), Nat.sub_self] at hl
      simp only [List.getElem?_cons_zero, Option.some.injEq] at hu hl
      subst hu hl
      have h0 := (RowF.made hg).rdF
      have he := (h0.chg hcn (fun k hk e => by have := (h.row.lt k e).2; omega)).chg hcm (fun k hk e => by omega)
      refine he.mono fun k hk => ⟨.inr ⟨hk.1, by omega⟩, by omega, fun e => ?_⟩
      rcases hblk with hb | hb
      · have := (h.row.lt k (by rw [← hb]; exact e.symm)).2
        omega
      · have := hb k e.symm
        omega
  · exact (Chg.of_ext (F := G) hg.ext).trans h3 (fun _ _ h => h)
theorem RLg0.blkL {w2 : World} {v2 : Value} {xs : List Value} (h : RLg0 G w m r f z L vL vs) (hn : Grew 0 30 vL w xs v2 w2) : w2.cell? ⟨m, 3, none⟩ = some vL ∧ w2.frozen? ⟨m, 3, none⟩ = false := by
  have hb := (ObjF.blk h.1).grown hn.2.1 (fun e => ObjF.off h.1 ⟨30, 1, vL, vs.length, vs⟩ (by simp) e.symm)
  exact ⟨hb.cell 3, hb.frozen 3⟩
end

set_option maxRecDepth 100000 in
theorem RefLogPut_no (F : Fp) (m r f z : Nat) (L : List (List UInt8)) (s : DkS) (p : List UInt8) (v : Value) (w : World) (_hd : RLD F w m r s f z L) (hr : Rd w v (p.map B)) (hp : ¬ okP p) :
    Calls Try.prog 49 #[.pointer (some ⟨m, 0, none⟩), v] w fun e w' => e = .returned (.int .i64 1) ∧ Ext w w' := by
  obtain ⟨A, c, rfl, hlc, hcm⟩ := hr.sliceN (List.length_map _)
  have hf : frameB p = [] := frameB_no hp
  have KF := RefFrame_any p _ w hr
  rw [hf] at KF
  have HF := Lib.hid KF
  clear _hd hr KF hf hp
  go_enter Try.func49, Try.ntmps49
  go_wp2_with fail
  refine HF.out.mono ?_
  rintro e w1 ⟨v1, rfl, hg1⟩
  obtain ⟨A1, k1, rfl⟩ := hg1.slice_ (n := 0) (by simp)
  have hx := hg1.ext
  clear hg1
  go_wp2
  go_ret
  exact ⟨rfl, hx⟩

/-- What is read of the log's struct, however much memory is made. -/
theorem RLg0.facts {G : Fp} {w w' : World} {m r f z : Nat} {L : List (List UInt8)} {A : Option Addr} {n c : Nat} {vs : List Value} (h : RLg0 G w m r f z L (.slice A n c) vs) (hx : Ext w w') :
    w'.cell? ⟨m, 0, none⟩ = some (.pointer (some ⟨r, 0, none⟩)) ∧ w'.cell? ⟨m, 1, none⟩ = some (.int .i64 (f : Int)) ∧ w'.cell? ⟨m, 2, none⟩ = some (.int .i64 (z : Int)) ∧ w'.cell? ⟨m, 3, none⟩ = some (.slice A n c) := by
  have h' := (h.ext hx).blk
  exact ⟨h'.cell 0, h'.cell 1, h'.cell 2, h'.cell 3⟩

set_option maxRecDepth 100000 in
theorem RefLogPut_full (F : Fp) (m r f z : Nat) (L : List (List UInt8)) (s : DkS) (p : List UInt8) (v : Value) (w : World) (hd : RLD F w m r s f z L) (hr : Rd w v (p.map B)) (hp : okP p) (hf : z - (catF L).length < (frameB p).length)
    (hu : (catF L).length ≤ z) (hz : z ≤ 65536) (hn : L.length ≤ 1000000) :
    Calls Try.prog 49 #[.pointer (some ⟨m, 0, none⟩), v] w fun e w' => e = .returned (.int .i64 3) ∧ Ext w w' := by
  obtain ⟨F1, F2, hk, ⟨vL, vs, hl⟩, h3, h4, h5, h6⟩ := hd
  obtain ⟨AL, cL, rfl, _, _⟩ := hl.rdlF.rdl.sliceN rfl
  obtain ⟨A, c, rfl, hlc, hcm⟩ := hr.sliceN (List.length_map _)
  have KF := RefFrame_any p _ w hr
  have hfl := frameB_len hp
  have h8 := numB_len8 (n := p.length) (by omega)
  obtain ⟨q, hq⟩ : ∃ q, q = (frameB p).length := ⟨_, rfl⟩
  obtain ⟨n, hcn⟩ : ∃ n, n = (catF L).length := ⟨_, rfl⟩
  obtain ⟨X, hX⟩ : ∃ X : Int, X = ((z - n : Nat) : Int) := ⟨_, rfl⟩
  have w1 : IntKind.i64.wrap ((z : Int) - (n : Int)) = X := by rw [IntKind.wrap_i64]; omega
  have q1 : X < (q : Int) := by omega
  have q0 : 0 < q := by omega
  have KU := fun w' (hx : Ext w w') => RefUsed_any F2 m r f z L w' ⟨_, _, hl.ext hx⟩ (by omega) (by omega)
  simp only [← hcn] at KU
  have HK := Lib.hid KU
  have HF := Lib.hid KF
  have HL := Lib.hid hl
  have HQ := Lib.hid hq
  clear hq hl hk h3 h4 h5 h6 KF KU hr hf hu hfl h8 hcn hX hp
  go_enter Try.func49, Try.ntmps49
  go_wp2_with fail
  refine HF.out.mono ?_
  rintro e w2 ⟨v1, rfl, hg1⟩
  obtain ⟨A1, k1, rfl⟩ := hg1.slice_ (n := q) (by rw [List.length_map, HQ.out])
  have hx1 := hg1.ext.trans (Ext.dr (Ext.refl w2))
  clear hg1
  go_wp2_with fail
  obtain ⟨c0, c1, c2, c3⟩ := HL.out.facts hx1
  have KU1 := HK.out _ hx1
  go_region_law (go_simp; (go_at_call 55; refine KU1.mono ?_; rintro e w3 ⟨rfl, hx3⟩; have hx4 := hx1.trans hx3; have hc4 := HL.out.facts hx4; have d2 := hc4.2.2.1))
  all_goals
    go_wp2
    go_ret
    exact ⟨rfl, hx4⟩

set_option maxRecDepth 100000 in
set_option maxHeartbeats 1000000 in
theorem RefLogPut_yes (F : Fp) (m r f z : Nat) (L : List (List UInt8)) (s : DkS) (H : Fp) (p : List UInt8) (v : Value) (w : World) (hd : RLD F w m r s f z L) (hr : RdF H w v (p.map B)) (ha : H.apart F) (_hH : H.isIn w) (hp : okP p) (hf : (frameB p).length ≤ z - (catF L).length)
    (hb : s.1.length ≤ 65536) (hz : f + z ≤ s.1.length) (hu : (catF L).length ≤ z) (hw : s.2.1.length ≤ 100000000) (hn : L.length ≤ 1000000) :
    Calls Try.prog 49 #[.pointer (some ⟨m, 0, none⟩), v] w fun e w' => e = .returned (.int .i64 0) ∧ RLD (F.since w w') w' m r (ptD s f (catF L).length p) f z (L ++ [p]) ∧ Chg F w w' := by
  obtain ⟨F1, F2, hk, ⟨vL, vs, hl⟩, h3, h4, h5, h6⟩ := hd
  obtain ⟨AL, cL, rfl, _, _⟩ := hl.rdlF.rdl.sliceN rfl
  obtain ⟨A, c, rfl, hlc, hcm⟩ := hr.rd.sliceN (List.length_map _)
  have KF := RefFrame_any p _ w hr.rd
  have hfl := frameB_len hp
  have h8 := numB_len8 (n := p.length) (by omega)
  have hvl := hl.2.1
  obtain ⟨q, hq⟩ : ∃ q, q = (frameB p).length := ⟨_, rfl⟩
  obtain ⟨n, hcn⟩ : ∃ n, n = (catF L).length := ⟨_, rfl⟩
  obtain ⟨X, hX⟩ : ∃ X : Int, X = ((z - n : Nat) : Int) := ⟨_, rfl⟩
  have ww1 : IntKind.i64.wrap ((z : Int) - (n : Int)) = X := by rw [IntKind.wrap_i64]; omega
  obtain ⟨Y, hY⟩ : ∃ Y : Int, Y = ((f + n : Nat) : Int) := ⟨_, rfl⟩
  have ww2 : IntKind.i64.wrap ((f : Int) + (n : Int)) = Y := by rw [IntKind.wrap_i64]; omega
  have q1 : (q : Int) ≤ X := by omega
  have q0 : 0 < q := by omega
  have p0 : 0 < p.length := hp.1
  have p4 : p.length ≤ 4000 := hp.2
  have KU := fun w' (hx : Ext w w') => RefUsed_any F2 m r f z L w' ⟨_, _, hl.ext hx⟩ (by omega) (by omega)
  simp only [← hcn] at KU
  have KW := fun (w' : World) (hx : Ext w w') (v1 : Value) (H1 : Fp) (hr1 : RdF H1 w' v1 ((frameB p).map B)) (ha1 : H1.apart F1) (hi1 : H1.isIn w') => RkWrite F1 H1 r s Y v1 (frameB p) w' (hk.ext0 hx) hr1 ha1 hi1 hb (by omega)
  have hsd : wrD s Y (frameB p) = ptD s f (catF L).length p := by rw [ptD, hY, hcn]
  have hkin := hk.isIn
  have HK := Lib.hid KU
  have HW := Lib.hid KW
  have HF := Lib.hid KF
  have HL := Lib.hid hl
  have HQ := Lib.hid hq
  have HS := Lib.hid hsd
  have HR := Lib.hid hr
  have H34 := Lib.hid (And.intro h3 (And.intro h4 (And.intro h5 h6)))
  have HKI := Lib.hid hkin
  have HVL := Lib.hid hvl
  have HI2 := Lib.hid (ObjF.isIn hl.1)
  have HIF := Lib.hid h6
  have HA := Lib.hid ha
  have vlen : vs.length ≤ 1000000000 := by omega
  clear hq hl hk h3 h4 h5 h6 KF KU KW hr hf hu hfl h8 hcn hX hY hp hsd hkin hvl ha _hH hb hz hw hn
  go_enter Try.func49, Try.ntmps49
  go_wp2_with fail
  refine HF.out.mono ?_
  rintro e w2 ⟨v1, rfl, hg1⟩
  obtain ⟨A1, k1, rfl⟩ := hg1.slice_ (n := q) (by rw [List.length_map, HQ.out])
  have hx1 := hg1.ext.trans (Ext.dr (Ext.refl w2))
  have hrf := RdF.made0 hg1
  have HRF := Lib.hid hrf
  have hs2 : w.heap.size ≤ w2.heap.size := hg1.size
  clear hg1 hrf
  go_wp2_with fail
  refine held_begin (by kernel_rfl) ?_
  have hHeld0 : True := True.intro
  refine held_more (S' := fun w' : World => w'.cell? ⟨m, 0, none⟩ = some (.pointer (some ⟨r, 0, none⟩)) ∧ w'.cell? ⟨m, 1, none⟩ = some (.int .i64 (f : Int)) ∧ w'.cell? ⟨m, 2, none⟩ = some (.int .i64 (z : Int)) ∧ w'.cell? ⟨m, 3, none⟩ = some (.slice AL L.length cL)) (fun _ _ => trivial) ?_
  have hHeld1 : (fun w' : World => w'.cell? ⟨m, 0, none⟩ = some (.pointer (some ⟨r, 0, none⟩)) ∧ w'.cell? ⟨m, 1, none⟩ = some (.int .i64 (f : Int)) ∧ w'.cell? ⟨m, 2, none⟩ = some (.int .i64 (z : Int)) ∧ w'.cell? ⟨m, 3, none⟩ = some (.slice AL L.length cL)) _ := (HL.out.facts hx1)
  clear hHeld0
  refine held_take (i := 0) (v := ?_) rfl (by kernel_rfl) (by kernel_rfl) (by kernel_rfl) (by rfl) (by first | assumption | exact True.intro) ?_ ?_
  rotate_left
  · (intro w hSw; (try dsimp only at hSw); go_simp; (try with_reducible rfl))
  try simp only [Act.put, List.setIfInBounds_toArray, List.set_cons_zero, List.set_cons_succ]
  refine held_take (i := 1) (v := ?_) rfl (by kernel_rfl) (by kernel_rfl) (by kernel_rfl) (by rfl) (by first | assumption | exact True.intro) ?_ ?_
  rotate_left
  · (intro w hSw; (try dsimp only at hSw); go_simp; (try with_reducible rfl))
  try simp only [Act.put, List.setIfInBounds_toArray, List.set_cons_zero, List.set_cons_succ]
  refine held_take (i := 2) (v := ?_) rfl (by kernel_rfl) (by kernel_rfl) (by kernel_rfl) (by rfl) (by first | assumption | exact True.intro) ?_ ?_
  rotate_left
  · (intro w hSw; (try dsimp only at hSw); go_simp; (try with_reducible rfl))
  try simp only [Act.put, List.setIfInBounds_toArray, List.set_cons_zero, List.set_cons_succ]
  refine held_take (i := 3) (v := ?_) rfl (by kernel_rfl) (by kernel_rfl) (by kernel_rfl) (by rfl) (by first | assumption | exact True.intro) ?_ ?_
  rotate_left
  · (intro w hSw; (try dsimp only at hSw); go_simp; (try with_reducible rfl))
  try simp only [Act.put, List.setIfInBounds_toArray, List.set_cons_zero, List.set_cons_succ]
  refine held_take (i := 4) (v := ?_) rfl (by kernel_rfl) (by kernel_rfl) (by kernel_rfl) (by rfl) (by first | assumption | exact True.intro) ?_ ?_
  rotate_left
  · (intro w hSw; (try dsimp only at hSw); go_simp; (try with_reducible rfl))
  try simp only [Act.put, List.setIfInBounds_toArray, List.set_cons_zero, List.set_cons_succ]
  refine held_take (i := 5) (v := ?_) rfl (by kernel_rfl) (by kernel_rfl) (by kernel_rfl) (by rfl) (by first | assumption | exact True.intro) ?_ ?_
  rotate_left
  · (intro w hSw; (try dsimp only at hSw); go_simp; (try with_reducible rfl))
  try simp only [Act.put, List.setIfInBounds_toArray, List.set_cons_zero, List.set_cons_succ]
  refine held_take (i := 6) (v := ?_) rfl (by kernel_rfl) (by kernel_rfl) (by kernel_rfl) (by rfl) (by first | assumption | exact True.intro) ?_ ?_
  rotate_left
  · (intro w hSw; (try dsimp only at hSw); go_simp; (try with_reducible rfl))
  try simp only [Act.put, List.setIfInBounds_toArray, List.set_cons_zero, List.set_cons_succ]
  refine held_op (i := 7) (by kernel_rfl) rfl (fun K hK => ?_)
  go_simp
  go_at_call 55
  (with_reducible refine (HK.out _ hx1).mono ?_)
  rintro e w3 ⟨rfl, hx3⟩
  have hx4 := hx1.trans hx3
  refine hK _ _ ?_ (fun hHeld2 => ?_)
  · exact (HL.out.facts hx4)
  clear hK K hHeld1
  try simp only [Act.put, List.setIfInBounds_toArray, List.set_cons_zero, List.set_cons_succ]
  refine held_take (i := 8) (v := ?_) rfl (by kernel_rfl) (by kernel_rfl) (by kernel_rfl) (by rfl) (by first | assumption | exact True.intro) ?_ ?_
  rotate_left
  · (intro w hSw; (try dsimp only at hSw); go_simp; (try with_reducible rfl))
  try simp only [Act.put, List.setIfInBounds_toArray, List.set_cons_zero, List.set_cons_succ]
  refine held_take (i := 9) (v := ?_) rfl (by kernel_rfl) (by kernel_rfl) (by kernel_rfl) (by rfl) (by first | assumption | exact True.intro) ?_ ?_
  rotate_left
  · (intro w hSw; (try dsimp only at hSw); go_simp; (try with_reducible rfl))
  try simp only [Act.put, List.setIfInBounds_toArray, List.set_cons_zero, List.set_cons_succ]
  refine wpAnyH_done (by kernel_rfl) ?_ _
  refine NoPanic.normal ?_
  clear hHeld2
  have hx5 := hx4.trans (Ext.dr (Ext.refl w3))
  have HX23 : Hid (Ext w2 w3) := Lib.hid ((Ext.dr (Ext.refl w2)).trans hx3)
  clear hx3 hx4 hx1
  have KW1 : ∀ w4, Ext w3.drew w4 → Calls Try.prog 79 #[.pointer (some ⟨r, 0, none⟩), .int .i64 Y, .slice A1 q k1] w4 fun e w' => e = .returned (.int .i64 (wrE s.1.length Y (frameB p).length)) ∧ Rk (F1.since w4 w') w' r (wrD s Y (frameB p)) ∧ Chg F1 w4 w' :=
    fun w4 hx => HW.out w4 (hx5.trans hx) _ (fun k => w.heap.size ≤ k ∧ k < w2.heap.size) (HRF.out.chg (G := fun _ => False) (Chg.of_ext ((HX23.out.trans (Ext.dr (Ext.refl w3))).trans hx)) (fun _ _ h => h)) (fun k hk1 hk2 => by have := HKI.out k hk2; omega) (fun k hk1 => by have := HX23.out.size; have := hx.size; have : w3.drew.heap.size = w3.heap.size := rfl; omega)
  go_wp2_with fail
  refine held_begin (by kernel_rfl) ?_
  have hHeld0 : True := True.intro
  refine held_more (S' := fun w' : World => w'.cell? ⟨m, 0, none⟩ = some (.pointer (some ⟨r, 0, none⟩)) ∧ w'.cell? ⟨m, 1, none⟩ = some (.int .i64 (f : Int)) ∧ w'.cell? ⟨m, 2, none⟩ = some (.int .i64 (z : Int)) ∧ w'.cell? ⟨m, 3, none⟩ = some (.slice AL L.length cL)) (fun _ _ => trivial) ?_
  have hHeld1 : (fun w' : World => w'.cell? ⟨m, 0, none⟩ = some (.pointer (some ⟨r, 0, none⟩)) ∧ w'.cell? ⟨m, 1, none⟩ = some (.int .i64 (f : Int)) ∧ w'.cell? ⟨m, 2, none⟩ = some (.int .i64 (z : Int)) ∧ w'.cell? ⟨m, 3, none⟩ = some (.slice AL L.length cL)) _ := (HL.out.facts hx5)
  clear hHeld0
  refine held_take (i := 0) (v := ?_) rfl (by kernel_rfl) (by kernel_rfl) (by kernel_rfl) (by rfl) (by first | assumption | exact True.intro) ?_ ?_
  rotate_left
  · (intro w hSw; (try dsimp only at hSw); go_simp; (try with_reducible rfl))
  try simp only [Act.put, List.setIfInBounds_toArray, List.set_cons_zero, List.set_cons_succ]
  refine held_take (i := 1) (v := ?_) rfl (by kernel_rfl) (by kernel_rfl) (by kernel_rfl) (by rfl) (by first | assumption | exact True.intro) ?_ ?_
  rotate_left
  · (intro w hSw; (try dsimp only at hSw); go_simp; (try with_reducible rfl))
  try simp only [Act.put, List.setIfInBounds_toArray, List.set_cons_zero, List.set_cons_succ]
  refine held_take (i := 2) (v := ?_) rfl (by kernel_rfl) (by kernel_rfl) (by kernel_rfl) (by rfl) (by first | assumption | exact True.intro) ?_ ?_
  rotate_left
  · (intro w hSw; (try dsimp only at hSw); go_simp; (try with_reducible rfl))
  try simp only [Act.put, List.setIfInBounds_toArray, List.set_cons_zero, List.set_cons_succ]
  refine held_take (i := 3) (v := ?_) rfl (by kernel_rfl) (by kernel_rfl) (by kernel_rfl) (by rfl) (by first | assumption | exact True.intro) ?_ ?_
  rotate_left
  · (intro w hSw; (try dsimp only at hSw); go_simp; (try with_reducible rfl))
  try simp only [Act.put, List.setIfInBounds_toArray, List.set_cons_zero, List.set_cons_succ]
  refine held_take (i := 4) (v := ?_) rfl (by kernel_rfl) (by kernel_rfl) (by kernel_rfl) (by rfl) (by first | assumption | exact True.intro) ?_ ?_
  rotate_left
  · (intro w hSw; (try dsimp only at hSw); go_simp; (try with_reducible rfl))
  try simp only [Act.put, List.setIfInBounds_toArray, List.set_cons_zero, List.set_cons_succ]
  refine held_take (i := 5) (v := ?_) rfl (by kernel_rfl) (by kernel_rfl) (by kernel_rfl) (by rfl) (by first | assumption | exact True.intro) ?_ ?_
  rotate_left
  · (intro w hSw; (try dsimp only at hSw); go_simp; (try with_reducible rfl))
  try simp only [Act.put, List.setIfInBounds_toArray, List.set_cons_zero, List.set_cons_succ]
  refine held_take (i := 6) (v := ?_) rfl (by kernel_rfl) (by kernel_rfl) (by kernel_rfl) (by rfl) (by first | assumption | exact True.intro) ?_ ?_
  rotate_left
  · (intro w hSw; (try dsimp only at hSw); go_simp; (try with_reducible rfl))
  try simp only [Act.put, List.setIfInBounds_toArray, List.set_cons_zero, List.set_cons_succ]
  refine held_take (i := 7) (v := ?_) rfl (by kernel_rfl) (by kernel_rfl) (by kernel_rfl) (by rfl) (by first | assumption | exact True.intro) ?_ ?_
  rotate_left
  · (intro w hSw; (try dsimp only at hSw); go_simp; (try with_reducible rfl))
  try simp only [Act.put, List.setIfInBounds_toArray, List.set_cons_zero, List.set_cons_succ]
  refine held_take (i := 8) (v := ?_) rfl (by kernel_rfl) (by kernel_rfl) (by kernel_rfl) (by rfl) (by first | assumption | exact True.intro) ?_ ?_
  rotate_left
  · (intro w hSw; (try dsimp only at hSw); go_simp; (try with_reducible rfl))
  try simp only [Act.put, List.setIfInBounds_toArray, List.set_cons_zero, List.set_cons_succ]
  refine held_take (i := 11) (v := ?_) rfl (by kernel_rfl) (by kernel_rfl) (by kernel_rfl) (by rfl) (by first | assumption | exact True.intro) ?_ ?_
  rotate_left
  · (intro w hSw; (try dsimp only at hSw); go_simp; (try with_reducible rfl))
  try simp only [Act.put, List.setIfInBounds_toArray, List.set_cons_zero, List.set_cons_succ]
  refine held_op (i := 9) (by kernel_rfl) rfl (fun K hK => ?_)
  go_simp
  go_at_call 55
  (with_reducible refine (HK.out _ hx5).mono ?_)
  rintro e w4 ⟨rfl, hx6⟩
  have hx7 := hx5.trans hx6
  refine hK _ _ ?_ (fun hHeld2 => ?_)
  · exact (HL.out.facts hx7)
  clear hK K hHeld1
  try simp only [Act.put, List.setIfInBounds_toArray, List.set_cons_zero, List.set_cons_succ]
  refine held_take (i := 10) (v := ?_) rfl (by kernel_rfl) (by kernel_rfl) (by kernel_rfl) (by rfl) (by first | assumption | exact True.intro) ?_ ?_
  rotate_left
  · (intro w hSw; (try dsimp only at hSw); go_simp; (try with_reducible rfl))
  try simp only [Act.put, List.setIfInBounds_toArray, List.set_cons_zero, List.set_cons_succ]
  refine held_op (i := 12) (by kernel_rfl) rfl (fun K hK => ?_)
  go_simp
  go_at_call 79
  (with_reducible refine (KW1 _ hx6).mono ?_)
  rintro e w5 ⟨rfl, hk5, hc5⟩
  have hl5 := (HL.out.ext hx7).chg hc5 H34.out.1
  refine hK _ _ ?_ (fun hHeld3 => ?_)
  · exact (hl5.facts (Ext.refl w5))
  clear hK K hHeld2
  try simp only [Act.put, List.setIfInBounds_toArray, List.set_cons_zero, List.set_cons_succ]
  refine wpAnyH_done (by kernel_rfl) ?_ _
  refine NoPanic.normal ?_
  clear hHeld3
  have hs7 : w.heap.size ≤ w4.heap.size := hx7.size
  have hl5 : RLg0 F2 w5 m r f z L (.slice AL L.length cL) vs := (HL.out.ext hx7).chg hc5 H34.out.1
  have hl6 := hl5.ext (Ext.dr (Ext.refl w5))
  have hr6 : Rd w5.drew (.slice A p.length c) (p.map B) := (((HR.out.chg (G := fun _ => False) (Chg.of_ext hx7) (fun _ _ h => h)).chg hc5 (fun k hk hk2 => HA.out k hk (H34.out.2.1 k hk2))).rd).ext (Ext.dr (Ext.refl w5))
  have c3 : w5.drew.cell? ⟨m, 3, none⟩ = some (.slice AL L.length cL) := (hl6.facts (Ext.refl _)).2.2.2
  have hlt : m < w5.heap.size := hl6.blk.lt
  have c3' : w5.cell? ⟨m, 3, none⟩ = some (.slice AL L.length cL) := c3
  have hxa : ∀ (o : Obj), Ext w5.drew (w5.drew.alloc o) := fun o => (Below.refl _ _).alloc (Nat.le_refl _) o
  have hr7 := hr6.ext (hxa (.cells #[] 5))
  have hv0 : Rd (w5.drew.alloc (.cells #[] 5)) (.slice (some ⟨w5.drew.heap.size, 0, none⟩) 0 0) (([] : List UInt8).map B) := ⟨_, 0, rfl, Nat.le_refl _, Nat.zero_le _, fun h => absurd h (by simp)⟩
  have u1 : 0 < 0 + p.length := by omega
  have u2 : ([] : List UInt8).length + p.length ≤ 140737488355328 := by rw [List.length_nil]; omega
  have uOne : ∀ (A : Option Addr) (n c : Nat), (Value.slice A n c).oneCell' = true := fun _ _ _ => rfl
  have HL6 := Lib.hid hl6
  have HK5 := Lib.hid hk5
  have HC5 := Lib.hid hc5
  clear hl5 hl6 hr6 hk5 hc5
  go_wp2_with fail
  go_region_law (first | ((refine stepG_u8 (.tmp 39) (.tmp 40) ?_ ?_ w5.drew.heap.size 0 0 0 [] ?_ hv0 (.slice A p.length c) p ?_ hr7 u1 u2 ?_; rfl; rfl; rfl; rfl; intro v7 w7 hg7; rw [List.nil_append] at hg7; obtain ⟨A7, k7, rfl⟩ := hg7.slice_ (List.length_map _); have hg8 := Grew.from_ext (hxa (.cells #[] 5)) hg7; have hl7 := HL6.out.ext hg8.ext; have d3 := (hl7.facts (Ext.refl _)).2.2.2; have hlt7 := hl7.blk.lt; have hown7 := hl7.row; have hu7 := uOne A7 p.length k7)) | ((refine stepPush_row (gx := w7.heap.size) (.tmp 38) (.tmp 42) ?_ ?_ (.slice AL L.length cL) vs hown7 ?_ (.slice A7 p.length k7) hu7 ?_ ?_ vlen ?_; rfl; rfl; rfl; rfl; rfl; intro v8 w8 hg9; have hb8 := hl7.blkL hg9; have b3 := hb8.1; have g3 := hb8.2; obtain ⟨A8, k8, rfl⟩ := hg9.slice_ (by rw [List.length_append, HVL.out]))))
  all_goals
    obtain ⟨hR, hc9⟩ := HL6.out.pushed hg8 hg9
    have hc9' := Chg.undrew hc9
    have hF2 : F2.isIn w4 := fun k hk => Nat.lt_of_lt_of_le (HI2.out k hk) hs7
    have hap : Fp.apart (F1.since w4 w5) F2 := Fp.apart.since (H34.out.1.symm) hF2
    have hkk := HK5.out.chg hc9' hap
    rw [HS.out] at hkk
    have hs5 := HC5.out.size
    have hs9 := hc9'.size
    have hcw := (((Chg.of_ext (F := F) hx7).trans (HC5.out.mono (G := F) fun k _ hk => H34.out.2.1 k hk) (fun _ _ h => h)).trans (hc9'.mono (G := F) fun k _ hk => H34.out.2.2.1 k hk) (fun _ _ h => h))
    have HCW := Lib.hid hcw
    have HKK := Lib.hid hkk
    have HRR := Lib.hid hR
    have HF2 := Lib.hid hF2
    clear hR hc9 hc9' hap hkk hcw hg8 hg9 hg7 hl7 hown7 hb8 b3 g3 d3 hF2
    go_wp2
    go_ret
    refine ⟨rfl, ⟨_, _, HKK.out, HRR.out, fun k hk2 hk1 => ?_, fun k hk => ?_, fun k hk => ?_, HIF.out.since HCW.out.size⟩, HCW.out⟩
    · rcases hk2 with hk2 | hk2
      · rcases hk1 with hk1 | hk1
        · exact H34.out.1 k hk2 hk1
        · have := HF2.out k hk2
          omega
      · have hd : w5.drew.heap.size = w5.heap.size := rfl
        rcases hk1 with hk1 | hk1
        · have := HKI.out k hk1
          omega
        · omega
    · rcases hk with hk | hk
      · exact .inl (H34.out.2.1 k hk)
      · exact .inr ⟨Nat.le_trans hs7 hk.1, Nat.lt_of_lt_of_le hk.2 hs9⟩
    · have hd : w5.drew.heap.size = w5.heap.size := rfl
      rcases hk with hk | hk
      · exact .inl (H34.out.2.2.1 k hk)
      · exact .inr ⟨by omega, hk.2⟩

theorem RefLogPut (F : Fp) (m r f z : Nat) (L : List (List UInt8)) (s : DkS) (H : Fp) (p : List UInt8) (v : Value) (w : World) (hd : RLD F w m r s f z L) (hr : RdF H w v (p.map B)) (ha : H.apart F) (hH : H.isIn w)
    (hb : s.1.length ≤ 65536) (hz : f + z ≤ s.1.length) (hu : (catF L).length ≤ z) (hw : s.2.1.length ≤ 100000000) (hn : L.length ≤ 1000000) :
    Calls Try.prog 49 #[.pointer (some ⟨m, 0, none⟩), v] w fun e w' => e = .returned (.int .i64 (putE z (catF L).length p)) ∧
      RLD (F.since w w') w' m r (if putE z (catF L).length p = 0 then ptD s f (catF L).length p else s) f z (if putE z (catF L).length p = 0 then L ++ [p] else L) ∧ Chg F w w' := by
  have hin := hd.isIn
  by_cases hp : okP p
  · by_cases hf : z - (catF L).length < (frameB p).length
    · have he : putE z (catF L).length p = 3 := by rw [putE, if_neg (by rw [frameB_nil]; omega), if_pos hf]
      rw [he, if_neg (by decide), if_neg (by decide)]
      refine (RefLogPut_full F m r f z L s p v w hd hr.rd hp hf hu (by omega) hn).mono ?_
      rintro e w' ⟨rfl, hx⟩
      exact ⟨rfl, (hd.ext hx).mono (fun k hk => .inl hk) (hin.since hx.size), Chg.of_ext hx⟩
    · have he : putE z (catF L).length p = 0 := by rw [putE, if_neg (by rw [frameB_nil]; omega), if_neg hf]
      rw [he, if_pos rfl, if_pos rfl]
      exact RefLogPut_yes F m r f z L s H p v w hd hr ha hH hp (by omega) hb hz hu hw hn
  · have he : putE z (catF L).length p = 1 := by rw [putE, if_pos (frameB_no hp)]
    rw [he, if_neg (by decide), if_neg (by decide)]
    refine (RefLogPut_no F m r f z L s p v w hd hr.rd hp).mono ?_
    rintro e w' ⟨rfl, hx⟩
    exact ⟨rfl, (hd.ext hx).mono (fun k hk => .inl hk) (hin.since hx.size), Chg.of_ext hx⟩

end Go.Proofs.Ytdcmjmanalijfaa

/- Layer 5, the reference: a log is cleared. -/
namespace Go.Proofs.Ytdcmjmanalijfaa
open Go.RowKit

theorem RLg0.cleared {G : Fp} {w : World} {m r f z : Nat} {L : List (List UInt8)} {vL : Value} {vs : List Value} (h : RLg0 G w m r f z L vL vs) :
    RLg G (w.setCell ⟨m, 3, none⟩ (.slice none 0 0)) m r f z [] ∧ Chg G w (w.setCell ⟨m, 3, none⟩ (.slice none 0 0)) := by
  obtain ⟨h1, h2⟩ := ObjF.drop h.1 0 3 (by simp) 30 1
  exact ⟨⟨.slice none 0 0, [], h1, rfl, fun i u l hu _ => by simp at hu⟩, h2⟩

set_option maxRecDepth 100000 in
theorem RefLogClear (F : Fp) (m r f z : Nat) (L : List (List UInt8)) (s : DkS) (w : World) (hd : RLD F w m r s f z L) (hb : s.1.length ≤ 65536) (hz : f + z ≤ s.1.length) (hw : s.2.1.length ≤ 10000000) (hn0 : 0 ≤ s.2.2) (hn1 : s.2.2 ≤ 1000000000) :
    Calls Try.prog 40 #[.pointer (some ⟨m, 0, none⟩)] w fun e w' => e = .returned (.tuple #[]) ∧ RLD (F.since w w') w' m r (zrD s f z 0) f z [] ∧ Chg F w w' := by
  obtain ⟨F1, F2, hk, ⟨vL, vs, hl⟩, h3, h4, h5, h6⟩ := hd
  have c3 := hl.blk.cell 3
  have f3 := hl.blk.frozen 3
  obtain ⟨A, c, rfl, _, _⟩ := hl.rdlF.rdl.sliceN rfl
  have hcl := hl.cleared
  have HCL := Lib.hid hcl
  have HK := Lib.hid hk
  have H34 := Lib.hid (And.intro h3 (And.intro h4 (And.intro h5 h6)))
  have c3' : w.cell? ⟨m, 3, none⟩ = some (.slice A L.length c) := c3
  clear hl hcl hk h3 h4 h5 h6 c3
  go_enter Try.func40, Try.ntmps40
  go_wp2_with fail
  refine (RefZero_any F1 F2 m r f z [] s 0 _ (HK.out.chg HCL.out.2 (Fp.apart.symm H34.out.1)) HCL.out.1 H34.out.1 hz (Nat.zero_le _) hb (by omega) hn0 hn1).mono ?_
  rintro e w2 ⟨rfl, hk2, hc2⟩
  have hl2 := HCL.out.1.chg hc2 H34.out.1
  have hs1 := HCL.out.2.size
  have hs2 := hc2.size
  have hcw : Chg F w w2 := (HCL.out.2.mono (G := F) fun k _ hk => H34.out.2.2.1 k hk).trans (hc2.mono (G := F) fun k _ hk => H34.out.2.1 k hk) (fun _ _ h => h)
  have hR : RLD (F.since w w2) w2 m r (zrD s f z 0) f z [] := by
    refine ⟨_, F2, hk2, hl2, fun k hk2 hk1 => ?_, fun k hk => ?_, fun k hk => .inl (H34.out.2.2.1 k hk), H34.out.2.2.2.since hcw.size⟩
    · rcases hk1 with hk1 | hk1
      · exact H34.out.1 k hk2 hk1
      · have := HCL.out.1.isIn k hk2
        omega
    · rcases hk with hk | hk
      · exact .inl (H34.out.2.1 k hk)
      · exact .inr ⟨by omega, hk.2⟩
  have HR := Lib.hid hR
  have HC := Lib.hid hcw
  clear hR hcw hl2 hk2 hc2
  go_wp2
  go_end0
  exact ⟨rfl, HR.out, HC.out⟩

end Go.Proofs.Ytdcmjmanalijfaa

/- Layer 6, the reference: slots are opened; the picture of a slot; the picture. -/
namespace Go.Proofs.Ytdcmjmanalijfaa
open Go.RowKit

/-- The reference's slots at m. -/
def RSl (G : Fp) (w : World) (m r f z : Nat) : Prop := ObjF G w m 111 #[.pointer (some ⟨r, 0, none⟩), .int .i64 (f : Int), .int .i64 (z : Int)] []

section
variable {F G : Fp} {w w' : World} {m r f z : Nat}
theorem RSl.isIn (h : RSl G w m r f z) : G.isIn w := ObjF.isIn h
theorem RSl.chg (h : RSl G w m r f z) (hc : Chg F w w') (ha : G.apart F) : RSl G w' m r f z := ObjF.chg h hc ha
theorem RSl.ext (h : RSl G w m r f z) (hx : Ext w w') : RSl G w' m r f z := ObjF.ext h hx
theorem RSl.mono (h : RSl G w m r f z) (hf : ∀ k, G k → F k) (hi : F.isIn w) : RSl F w m r f z := ObjF.mono h hf hi
theorem RSl.c0 (h : RSl G w m r f z) : w.cell? ⟨m, 0, none⟩ = some (.pointer (some ⟨r, 0, none⟩)) := (ObjF.blk h).cell 0
theorem RSl.c1 (h : RSl G w m r f z) : w.cell? ⟨m, 1, none⟩ = some (.int .i64 (f : Int)) := (ObjF.blk h).cell 1
theorem RSl.c2 (h : RSl G w m r f z) : w.cell? ⟨m, 2, none⟩ = some (.int .i64 (z : Int)) := (ObjF.blk h).cell 2
end

theorem RefSlOpen_no (F : Fp) (r : Nat) (s : DkS) (i n : Int) (w : World) (hk : Rk F w r s) (hb : s.1.length ≤ 65536) (h : ¬ (0 ≤ i ∧ 1 ≤ n ∧ i + 2 * n ≤ s.1.length)) :
    Calls Try.prog 36 #[.pointer (some ⟨r, 0, none⟩), .int .i64 i, .int .i64 n] w fun e w' => e = .returned (.tuple #[.pointer none, .bool false]) ∧ w = w' := by
  obtain ⟨A, c, c0⟩ := hk.cell0
  clear hk
  by_cases g1 : i < 0
  · have d1 : decide (i < 0) = true := by simp; omega
    clear h
    go_enter Try.func36, Try.ntmps36
    go_wp2
    go_ret2
    exact ⟨rfl, rfl⟩
  · have d1 : decide (i < 0) = false := by simp; omega
    by_cases g2 : n < 1
    · have d2 : decide (n < 1) = true := by simp; omega
      clear h
      go_enter Try.func36, Try.ntmps36
      go_wp2
      go_ret2
      exact ⟨rfl, rfl⟩
    · have d2 : decide (n < 1) = false := by simp; omega
      by_cases g3 : (s.1.length : Int) < i
      · have d3 : decide ((s.1.length : Int) < i) = true := by simp; omega
        clear h
        go_enter Try.func36, Try.ntmps36
        go_wp2
        go_ret2
        exact ⟨rfl, rfl⟩
      · have d3 : decide ((s.1.length : Int) < i) = false := by simp; omega
        go_enter Try.func36, Try.ntmps36
        go_wp2
        go_ret2
        exact ⟨rfl, rfl⟩

theorem RefSlOpen_yes (F : Fp) (r : Nat) (s : DkS) (f z : Nat) (w : World) (hk : Rk F w r s) (hb : s.1.length ≤ 65536) (hz : f + 2 * z ≤ s.1.length) (h1 : 1 ≤ z) :
    Calls Try.prog 36 #[.pointer (some ⟨r, 0, none⟩), .int .i64 (f : Int), .int .i64 (z : Int)] w fun e w' =>
      ∃ m, e = .returned (.tuple #[.pointer (some ⟨m, 0, none⟩), .bool true]) ∧ RSl (fun k => w.heap.size ≤ k ∧ k < w'.heap.size) w' m r f z ∧ Ext w w' := by
  obtain ⟨A, c, c0⟩ := hk.cell0
  have d1 : decide ((f : Int) < 0) = false := by simp
  have d2 : decide ((z : Int) < 1) = false := by simp; omega
  have d3 : decide ((s.1.length : Int) < (f : Int)) = false := by simp; omega
  have d4 : decide (((s.1.length : Int) - (f : Int)) / 2 < (z : Int)) = false := by simp; omega
  have d5 : (z : Int) ≤ ((s.1.length : Int) - (f : Int)) / 2 := by omega
  have hO : ObjF (fun k => w.heap.size ≤ k ∧ k < w.heap.size + 1) (w.alloc (.cells #[.pointer (some ⟨r, 0, none⟩), .int .i64 (f : Int), .int .i64 (z : Int)] 111)) w.heap.size 111 #[.pointer (some ⟨r, 0, none⟩), .int .i64 (f : Int), .int .i64 (z : Int)] [] :=
    ObjF.new (w0 := w) (rows := []) (Nat.le_refl _) _ _ (fun r hr => absurd hr List.not_mem_nil) List.Pairwise.nil
  have HO := Lib.hid hO
  clear hk hO
  go_enter Try.func36, Try.ntmps36
  go_wp2
  go_ret2
  refine ⟨w.heap.size, rfl, ?_, (Below.refl _ _).alloc (Nat.le_refl _) _⟩
  have h := HO.out
  have hs : (w.alloc (.cells #[.pointer (some ⟨r, 0, none⟩), .int .i64 (f : Int), .int .i64 (z : Int)] 111)).heap.size = w.heap.size + 1 := by simp
  rw [RSl, hs]
  exact h

/-- What is answered of a picture. -/
def PicP (x : Pic) (w : World) (e : Ending) (w' : World) : Prop := ∃ v, e = .returned (.tuple #[v, .int .i64 (ageI x)]) ∧ Rd w' v ((bytP x).map B) ∧ Ext w w'

set_option maxHeartbeats 400000 in
theorem RefPicture_k (F G : Fp) (m r f z k : Nat) (s : DkS) (w : World) (hk : Rk F w r s) (hl : RSl G w m r f z) (hb : s.1.length ≤ 65536) (hz : f + 2 * z ≤ s.1.length) (h1 : 1 ≤ z) (hk1 : k ≤ 1) (hw : s.2.1.length ≤ 1000000000) :
    Calls Try.prog 66 #[.pointer (some ⟨m, 0, none⟩), .int .i64 (k : Int)] w (PicP (picD s f z k) w) := by
  have hin := slot_in hz hk1
  have c0 := hl.c0
  obtain ⟨kz, hkz⟩ : ∃ x : Nat, x = k * z := ⟨_, rfl⟩
  obtain ⟨k1, hk1'⟩ : ∃ x : Nat, x = k + 1 := ⟨_, rfl⟩
  obtain ⟨kz1, hkz1⟩ : ∃ x : Nat, x = k1 * z := ⟨_, rfl⟩
  obtain ⟨a, ha⟩ : ∃ x : Nat, x = f + kz := ⟨_, rfl⟩
  obtain ⟨b, hbb⟩ : ∃ x : Nat, x = f + kz1 := ⟨_, rfl⟩
  have e1 : kz1 = kz + z := by rw [hkz1, hk1', hkz, Nat.succ_mul]
  have w1 : IntKind.i64.wrap ((k : Int) * (z : Int)) = (kz : Int) := by rw [← Int.natCast_mul, ← hkz, IntKind.wrap_i64]; omega
  have w2 : IntKind.i64.wrap ((f : Int) + (kz : Int)) = (a : Int) := by rw [IntKind.wrap_i64]; omega
  have w3 : IntKind.i64.wrap ((k : Int) + 1) = (k1 : Int) := by rw [IntKind.wrap_i64]; omega
  have w4 : IntKind.i64.wrap ((k1 : Int) * (z : Int)) = (kz1 : Int) := by rw [← Int.natCast_mul, ← hkz1, IntKind.wrap_i64]; omega
  have w5 : IntKind.i64.wrap ((f : Int) + (kz1 : Int)) = (b : Int) := by rw [IntKind.wrap_i64]; omega
  have p1 : a ≤ b := by omega
  have p2 : b - a = z := by omega
  have hpd : picD s f z k = picB (pieceB (rdD s) a z) := by rw [picD, ha, hkz]
  have hab : a + z ≤ s.1.length := by omega
  rw [hpd]
  have HL := Lib.hid hl
  have HK := Lib.hid hk
  have HB : Hid (s.1.length ≤ 65536 ∧ a + z ≤ s.1.length ∧ b = a + z ∧ 1 ≤ z) := Lib.hid ⟨hb, hab, by omega, h1⟩
  clear hl hk hpd hab hkz hk1' hkz1 ha hbb e1 hin hz h1
  go_enter Try.func66, Try.ntmps66
  go_wp2_with fail
  refine (RkBytes F r s w HK.out HB.out.1 hw).mono ?_
  rintro e w3' ⟨v3, rfl, hg3⟩
  obtain ⟨b3, c3, rfl, q1, q2, q3⟩ := hg3.form (by rw [List.length_map, rdD_len]; have := HB.out; omega)
  have hrl : ((rdD s).map B).length = s.1.length := by rw [List.length_map, rdD_len]
  rw [hrl] at q1
  have hr3 := (Rd.own hg3.own).cut a z (by rw [hrl]; exact HB.out.2.1)
  have p3 : (b : Int) ≤ (c3 : Int) := by have := HB.out; omega
  have p4 : ¬ c3 = a := by have := HB.out; omega
  rw [if_neg p4, Option.map_some, Addr.add_lit, Nat.zero_add] at hr3
  have hp : (((rdD s).map B).drop a).take z = (pieceB (rdD s) a z).map B := by rw [pieceB, List.map_take, List.map_drop]
  rw [hp] at hr3
  have hxd := hg3.ext.trans (Ext.dr (Ext.refl w3'))
  have d1 := (HL.out.ext hxd).c1
  have d2 := (HL.out.ext hxd).c2
  have HX3 := Lib.hid hxd
  have KG := Lib.hid (RefFrameGet_any (pieceB (rdD s) a z) _ 0 w3'.drew (hr3.ext (Ext.dr (Ext.refl w3'))))
  have HRL := Lib.hid hrl
  clear hg3 hr3 hp c0 hrl q1 hxd
  go_wp2_with fail
  go_region_held3 (fun w' => w'.cell? ⟨m, 1, none⟩ = some (.int .i64 (f : Int)) ∧ w'.cell? ⟨m, 2, none⟩ = some (.int .i64 (z : Int))) (first | go_keep | (exact ⟨e1, e2⟩)) (first | (go_at_call 84; (with_reducible refine KG.out.mono ?_); rintro e w4' ⟨v4, rfl, hg4⟩; have hx4 := HX3.out.trans hg4.ext; have e1 := (HL.out.ext hx4).c1; have e2 := (HL.out.ext hx4).c2))
  all_goals
    have hr4 := Rd.own hg4.own
    have HX4 := Lib.hid hx4
    have hpb : picB (pieceB (rdD s) a z) = if (getF (pieceB (rdD s) a z) 0).2.2 = 1 then payP (getF (pieceB (rdD s) a z) 0).1 else none := rfl
    have HPB := Lib.hid hpb
    clear hg4 hx4 e1 e2 d1 d2 KG HX3 w1 w2 w3 w4 w5 p1 p2 p3 p4 hpb
    generalize picB (pieceB (rdD s) a z) = P at *
    generalize (getF (pieceB (rdD s) a z) 0).2.1 = nx at *
    generalize (getF (pieceB (rdD s) a z) 0).2.2 = wh at *
    generalize (getF (pieceB (rdD s) a z) 0).1 = p at *
    obtain ⟨A4, c4, rfl, hc4, hm4⟩ := hr4.sliceN (List.length_map _)
    unfold maxLen at hm4
    by_cases hw1 : wh = 1
    · have d1 : (wh != 1) = false := by simp [hw1]
      have hP : P = payP p := by rw [HPB.out, if_pos hw1]
      clear HPB
      cases hg : getN p with
      | none =>
        have hP2 : P = none := by rw [hP, payP, hg]
        have KN := Lib.hid (RefGetNum_none p _ 0 _ hr4 (by decide) (by rw [List.drop_zero]; exact hg))
        have HP2 := Lib.hid hP2
        clear hP hP2 hg hw1 hr4
        go_wp2_with fail
        refine KN.out.mono ?_
        rintro e w5' ⟨rfl, hx5⟩
        go_wp2
        go_ret2
        rw [PicP, HP2.out]
        exact ⟨_, rfl, Rd.nil _, HX4.out.trans hx5⟩
      | some x =>
        obtain ⟨n, j⟩ := x
        have hP2 : P = some (p.drop j, n) := by rw [hP, payP, hg]
        have hj := getN_le hg
        have hjl : j ≤ p.length := hj.2.1
        have KN := Lib.hid (RefGetNum_some p _ 0 n j _ hr4 (by decide) (by rw [List.drop_zero]; exact hg))
        have hz0 : ((0 + j : Nat) : Int) = (j : Int) := by omega
        rw [hz0] at KN
        have HP2 := Lib.hid hP2
        have HR4 := Lib.hid hr4
        have p1 : (j : Int) ≤ (p.length : Int) := by omega
        clear hP hP2 hg hw1 hr4 hz0 hj
        go_wp2_with fail
        refine KN.out.mono ?_
        rintro e w5' ⟨rfl, hx5⟩
        have hc := (HR4.out.ext hx5).cut j (p.length - j) (by rw [List.length_map]; omega)
        have hd : ((p.map B).drop j).take (p.length - j) = (bytP (some (p.drop j, n))).map B := by rw [bytP, List.map_drop, List.take_of_length_le (by rw [List.length_drop, List.length_map]; omega)]
        rw [hd] at hc
        by_cases hcj : c4 = j
        · rw [if_pos hcj, hcj, Nat.sub_self] at hc
          have HC := Lib.hid hc
          clear hc hd
          go_wp2
          go_ret2
          rw [PicP, HP2.out]
          exact ⟨_, rfl, HC.out, HX4.out.trans hx5⟩
        · rw [if_neg hcj] at hc
          have HC := Lib.hid hc
          clear hc hd
          go_wp2
          go_ret2
          rw [PicP, HP2.out]
          exact ⟨_, rfl, HC.out, HX4.out.trans hx5⟩
    · have d1 : (wh != 1) = true := by simp [hw1]
      have hP : P = none := by rw [HPB.out, if_neg hw1]
      have HP2 := Lib.hid hP
      clear HPB hP hr4 hw1
      go_wp2
      go_ret2
      rw [PicP, HP2.out]
      exact ⟨_, rfl, Rd.nil _, HX4.out⟩

end Go.Proofs.Ytdcmjmanalijfaa

/- Layer 6, the reference: the picture, and Start. -/
namespace Go.Proofs.Ytdcmjmanalijfaa
open Go.RowKit

theorem RefPicture_0 (F G : Fp) (m r f z : Nat) (s : DkS) (w : World) (hk : Rk F w r s) (hl : RSl G w m r f z) (hb : s.1.length ≤ 65536) (hz : f + 2 * z ≤ s.1.length) (h1 : 1 ≤ z) (hw : s.2.1.length ≤ 1000000000) :
    Calls Try.prog 66 #[.pointer (some ⟨m, 0, none⟩), .int .i64 0] w (PicP (picD s f z 0) w) := RefPicture_k F G m r f z 0 s w hk hl hb hz h1 (by decide) hw
theorem RefPicture_1 (F G : Fp) (m r f z : Nat) (s : DkS) (w : World) (hk : Rk F w r s) (hl : RSl G w m r f z) (hb : s.1.length ≤ 65536) (hz : f + 2 * z ≤ s.1.length) (h1 : 1 ≤ z) (hw : s.2.1.length ≤ 1000000000) :
    Calls Try.prog 66 #[.pointer (some ⟨m, 0, none⟩), .int .i64 1] w (PicP (picD s f z 1) w) := RefPicture_k F G m r f z 1 s w hk hl hb hz h1 (by decide) hw

/-- The reference's disk and slots on it. -/
def RSD (F : Fp) (w : World) (m r : Nat) (s : DkS) (f z : Nat) : Prop :=
  ∃ F1 F2 : Fp, Rk F1 w r s ∧ RSl F2 w m r f z ∧ F2.apart F1 ∧ (∀ k, F1 k → F k) ∧ (∀ k, F2 k → F k) ∧ F.isIn w
section
variable {F G : Fp} {w w' : World} {m r f z : Nat} {s : DkS}
theorem RSD.isIn (h : RSD F w m r s f z) : F.isIn w := by
  obtain ⟨F1, F2, h1, h2, h3, h4, h5, h6⟩ := h
  exact h6
theorem RSD.rk (h : RSD F w m r s f z) : Rk F w r s := by
  obtain ⟨F1, F2, h1, h2, h3, h4, h5, h6⟩ := h
  exact h1.mono h4 h6
theorem RSD.sl (h : RSD F w m r s f z) : RSl F w m r f z := by
  obtain ⟨F1, F2, h1, h2, h3, h4, h5, h6⟩ := h
  exact h2.mono h5 h6
theorem RSD.chg (h : RSD F w m r s f z) (hc : Chg G w w') (ha : F.apart G) : RSD F w' m r s f z := by
  obtain ⟨F1, F2, h1, h2, h3, h4, h5, h6⟩ := h
  exact ⟨F1, F2, h1.chg hc (fun k hk => ha k (h4 k hk)), h2.chg hc (fun k hk => ha k (h5 k hk)), h3, h4, h5, h6.chg hc⟩
theorem RSD.ext (h : RSD F w m r s f z) (hx : Ext w w') : RSD F w' m r s f z := h.chg (G := fun _ => False) (Chg.of_ext hx) (fun _ _ h => h)
theorem RSD.mono (h : RSD F w m r s f z) (hf : ∀ k, F k → G k) (hi : G.isIn w) : RSD G w m r s f z := by
  obtain ⟨F1, F2, h1, h2, h3, h4, h5, h6⟩ := h
  exact ⟨F1, F2, h1, h2, h3, fun k hk => hf k (h4 k hk), fun k hk => hf k (h5 k hk), hi⟩
/-- The disk alone is turned. -/
theorem RSD.turn {s' : DkS} (h : RSD F w m r s f z) (hd : ∀ F1, Rk F1 w r s → Rk (F1.since w w') w' r s' ∧ Chg F1 w w') : RSD (F.since w w') w' m r s' f z ∧ Chg F w w' := by
  obtain ⟨F1, F2, h1, h2, h3, h4, h5, h6⟩ := h
  obtain ⟨g1, g2⟩ := hd F1 h1
  refine ⟨⟨_, F2, g1, h2.chg g2 h3, (h3.symm.since h2.isIn).symm, fun k hk => ?_, fun k hk => .inl (h5 k hk), h6.since g2.size⟩, g2.mono fun k _ hk => h4 k hk⟩
  rcases hk with hk | hk
  · exact .inl (h4 k hk)
  · exact .inr hk
end

theorem RefLoad_any (F : Fp) (m r f z : Nat) (s : DkS) (w : World) (hd : RSD F w m r s f z) (hb : s.1.length ≤ 65536) (hz : f + 2 * z ≤ s.1.length) (h1 : 1 ≤ z) (hw : s.2.1.length ≤ 1000000000) :
    Calls Try.prog 38 #[.pointer (some ⟨m, 0, none⟩)] w (PicP (loadD s f z) w) := by
  have HD := Lib.hid hd
  have hld : loadD s f z = if ageI (picD s f z 0) < ageI (picD s f z 1) then picD s f z 1 else picD s f z 0 := rfl
  have HLD := Lib.hid hld
  clear hd hld
  go_enter Try.func38, Try.ntmps38
  go_wp2_with fail
  refine (RefPicture_0 F F m r f z s w HD.out.rk HD.out.sl hb hz h1 hw).mono ?_
  rintro e w1 ⟨v1, rfl, hr1, hx1⟩
  obtain ⟨A1, c1, rfl, _, _⟩ := hr1.sliceN (List.length_map _)
  have HR1 := Lib.hid hr1
  have HX1 := Lib.hid hx1
  clear hr1 hx1
  go_wp2_with fail
  refine (RefPicture_1 F F m r f z s w1 (HD.out.ext HX1.out).rk (HD.out.ext HX1.out).sl hb hz h1 hw).mono ?_
  rintro e w2 ⟨v2, rfl, hr2, hx2⟩
  obtain ⟨A2, c2, rfl, _, _⟩ := hr2.sliceN (List.length_map _)
  have HR1' := Lib.hid (HR1.out.ext hx2)
  have HR2 := Lib.hid hr2
  have HX2 := Lib.hid (HX1.out.trans hx2)
  clear hr2 hx2 HR1 HX1
  generalize loadD s f z = L at *
  generalize picD s f z 0 = P0 at *
  generalize picD s f z 1 = P1 at *
  by_cases hc : ageI P0 < ageI P1
  · have hL : L = P1 := by rw [HLD.out, if_pos hc]
    have HL := Lib.hid hL
    clear HLD hL
    go_wp2
    go_ret2
    rw [PicP, HL.out]
    exact ⟨_, rfl, HR2.out, HX2.out⟩
  · have hL : L = P0 := by rw [HLD.out, if_neg hc]
    have HL := Lib.hid hL
    clear HLD hL
    go_wp2
    go_ret2
    rw [PicP, HL.out]
    exact ⟨_, rfl, HR1'.out, HX2.out⟩

theorem RefStart_age (F : Fp) (m r f z : Nat) (s : DkS) (p : List UInt8) (v : Value) (age : Int) (w : World) (_hd : RSD F w m r s f z) (_hr : Rd w v (p.map B)) (h : ¬ (0 ≤ age ∧ age < 9007199254740992)) :
    Calls Try.prog 48 #[.pointer (some ⟨m, 0, none⟩), v, .int .i64 age] w fun e w' => e = .returned (.int .i64 1) ∧ Ext w w' := by
  have K := Lib.hid (RefIs_no age w h)
  clear _hd _hr h
  go_enter Try.func48, Try.ntmps48
  go_wp2_with fail
  refine K.out.mono ?_
  rintro e w1 ⟨rfl, rfl⟩
  go_wp2
  go_ret
  exact ⟨rfl, Ext.refl _⟩

theorem RefStart_old (F : Fp) (m r f z : Nat) (s : DkS) (p : List UInt8) (v : Value) (age : Int) (w : World) (hd : RSD F w m r s f z) (_hr : Rd w v (p.map B)) (hb : s.1.length ≤ 65536) (hz : f + 2 * z ≤ s.1.length) (h1 : 1 ≤ z) (hw : s.2.1.length ≤ 1000000000)
    (h : 0 ≤ age ∧ age < 9007199254740992) (ho : age ≤ ageI (picD s f z 0) ∨ age ≤ ageI (picD s f z 1)) :
    Calls Try.prog 48 #[.pointer (some ⟨m, 0, none⟩), v, .int .i64 age] w fun e w' => e = .returned (.int .i64 6) ∧ Ext w w' := by
  have K := Lib.hid (RefIs_yes age w h.1 h.2)
  have HD := Lib.hid hd
  clear hd _hr h
  go_enter Try.func48, Try.ntmps48
  go_wp2_with fail
  refine K.out.mono ?_
  rintro e w1 ⟨rfl, rfl⟩
  go_wp2_with fail
  refine (RefPicture_0 F F m r f z s w HD.out.rk HD.out.sl hb hz h1 hw).mono ?_
  rintro e w1 ⟨v1, rfl, hr1, hx1⟩
  obtain ⟨A1, c1, rfl, _, _⟩ := hr1.sliceN (List.length_map _)
  have HX1 := Lib.hid hx1
  clear hr1 hx1
  go_wp2_with fail
  refine (RefPicture_1 F F m r f z s w1 (HD.out.ext HX1.out).rk (HD.out.ext HX1.out).sl hb hz h1 hw).mono ?_
  rintro e w2 ⟨v2, rfl, hr2, hx2⟩
  obtain ⟨A2, c2, rfl, _, _⟩ := hr2.sliceN (List.length_map _)
  have HX2 := Lib.hid (HX1.out.trans hx2)
  clear hr2 hx2 HX1
  generalize picD s f z 0 = P0 at *
  generalize picD s f z 1 = P1 at *
  generalize ageI P0 = x at *
  generalize ageI P1 = y at *
  by_cases hx : age ≤ x
  · have d1 : decide (age ≤ x) = true := decide_eq_true hx
    clear ho
    go_wp2
    go_ret
    exact ⟨rfl, HX2.out⟩
  · have hy : age ≤ y := by omega
    have d1 : decide (age ≤ x) = false := decide_eq_false hx
    have d2 : decide (age ≤ y) = true := decide_eq_true hy
    clear ho
    go_wp2
    go_ret
    exact ⟨rfl, HX2.out⟩

end Go.Proofs.Ytdcmjmanalijfaa

/- Layer 6, the reference: Start of what has no room, and of what has. -/
namespace Go.Proofs.Ytdcmjmanalijfaa
open Go.RowKit

set_option maxRecDepth 100000 in
set_option maxHeartbeats 400000 in
theorem RefStart_full (F : Fp) (m r f z : Nat) (s : DkS) (p : List UInt8) (v : Value) (age : Int) (w : World) (hd : RSD F w m r s f z) (hr : Rd w v (p.map B)) (hb : s.1.length ≤ 65536) (hz : f + 2 * z ≤ s.1.length) (h1 : 1 ≤ z) (hw : s.2.1.length ≤ 1000000000) (hp : p.length ≤ 1000000)
    (h : 0 ≤ age ∧ age < 9007199254740992) (ho : ageI (picD s f z 0) < age ∧ ageI (picD s f z 1) < age) (hf : frP age p = [] ∨ z < (frP age p).length) :
    Calls Try.prog 48 #[.pointer (some ⟨m, 0, none⟩), v, .int .i64 age] w fun e w' => e = .returned (.int .i64 3) ∧ Ext w w' := by
  have K := Lib.hid (RefIs_yes age w h.1 h.2)
  obtain ⟨A, c, rfl, hlc, hcm⟩ := hr.sliceN (List.length_map _)
  unfold maxLen at hcm
  have HD := Lib.hid hd
  have HR := Lib.hid hr
  obtain ⟨n, rfl⟩ : ∃ n : Nat, age = n := ⟨age.toNat, by omega⟩
  have hn : n < 9007199254740992 := by omega
  have h8 := numB_len8 hn
  rw [frP, Int.toNat_natCast] at hf
  have HF := Lib.hid hf
  clear hd hr h hf
  go_enter Try.func48, Try.ntmps48
  go_wp2_with fail
  refine K.out.mono ?_
  rintro e w1 ⟨rfl, rfl⟩
  go_wp2_with fail
  refine (RefPicture_0 F F m r f z s w HD.out.rk HD.out.sl hb hz h1 hw).mono ?_
  rintro e w1 ⟨v1, rfl, hr1, hx1⟩
  obtain ⟨A1, c1, rfl, _, _⟩ := hr1.sliceN (List.length_map _)
  have HX1 := Lib.hid hx1
  clear hr1 hx1
  go_wp2_with fail
  refine (RefPicture_1 F F m r f z s w1 (HD.out.ext HX1.out).rk (HD.out.ext HX1.out).sl hb hz h1 hw).mono ?_
  rintro e w2 ⟨v2, rfl, hr2, hx2⟩
  obtain ⟨A2, c2, rfl, _, _⟩ := hr2.sliceN (List.length_map _)
  have HX2 := Lib.hid (HX1.out.trans hx2)
  clear hr2 hx2 HX1
  generalize picD s f z 0 = P0 at *
  generalize picD s f z 1 = P1 at *
  generalize ageI P0 = x at *
  generalize ageI P1 = y at *
  have d1 : decide ((n : Int) ≤ x) = false := decide_eq_false (by omega)
  have d2 : decide ((n : Int) ≤ y) = false := decide_eq_false (by omega)
  clear ho
  go_wp2_with fail
  refine (RefNum_yes n w2 hn).mono ?_
  rintro e w3 ⟨v3, rfl, hg3⟩
  have HX3 := Lib.hid (HX2.out.trans hg3.ext)
  have hown := hg3.own
  have hlt3 := hg3.size
  have HG3 := Lib.hid hg3
  have HX2' := HX2
  clear hg3 HX2
  go_wp2_with (at_builtin; refine app_u8 rfl _ _ rfl w2.heap.size _ _ rfl hown _ p rfl (HR.out.ext HX3.out) (by rw [List.length_map]; omega) hlt3 ?_; intro v4 w4 hg4)
  have hg5 := HG3.out.trans hg4
  have hr5 : Rd w4 v4 ((payB n p).map B) := by rw [payB, List.map_append]; exact Rd.own hg5.own
  have HX4 := Lib.hid (HX2'.out.trans hg5.ext)
  obtain ⟨A4, c4, rfl, _, _⟩ := hr5.sliceN (List.length_map _)
  clear hg4 hg5 hown hlt3 HG3 HX3 HX2'
  go_wp2_with fail
  refine (RefFrame_any (payB n p) _ w4 hr5).mono ?_
  rintro e w5 ⟨v5, rfl, hg6⟩
  have HX5 := Lib.hid (HX4.out.trans hg6.ext)
  have c2' := (HD.out.sl.ext HX5.out).c2
  obtain ⟨q, hq⟩ : ∃ q, q = (frameB (payB n p)).length := ⟨_, rfl⟩
  obtain ⟨A5, c5, rfl⟩ := hg6.slice_ (n := q) (by rw [List.length_map, hq])
  have hqq : q = 0 ∨ (¬ q = 0 ∧ z < q) := by
    rcases HF.out with h0 | h0
    · left
      rw [hq, h0]
      rfl
    · by_cases h00 : q = 0
      · exact .inl h00
      · exact .inr ⟨h00, by rw [hq]; exact h0⟩
  clear hg6 hr5 HF hq HX4
  rcases hqq with h0 | ⟨h0, hzq⟩
  · subst h0
    go_wp2
    go_ret
    exact ⟨rfl, HX5.out⟩
  · have d3 : ((q : Int) == 0) = false := by rw [beq_eq_false_iff_ne]; omega
    have d4 : decide ((z : Int) < (q : Int)) = true := by simp; omega
    have d5 : ¬ (q : Int) = 0 := by omega
    go_wp2
    go_ret
    exact ⟨rfl, HX5.out⟩

set_option maxRecDepth 100000 in
set_option maxHeartbeats 1000000 in
theorem RefStart_yes (F F1 F2 : Fp) (m r f z : Nat) (s : DkS) (p : List UInt8) (v : Value) (age : Int) (w : World) (hdk : Rk F1 w r s) (hsl : RSl F2 w m r f z) (hap : F2.apart F1) (hd : RSD F w m r s f z) (hr : Rd w v (p.map B)) (hb : s.1.length ≤ 65536) (hz : f + 2 * z ≤ s.1.length) (h1 : 1 ≤ z) (hw : s.2.1.length ≤ 100000000) (hn0 : 0 ≤ s.2.2) (hn1 : s.2.2 ≤ 100000000) (hp : p.length ≤ 1000000)
    (he : stE s f z p age = 0) :
    Calls Try.prog 48 #[.pointer (some ⟨m, 0, none⟩), v, .int .i64 age] w fun e w' => e = .returned (.int .i64 0) ∧ Rk (F1.since w w') w' r (stD s f z p age) ∧ Chg F1 w w' := by
  obtain ⟨g0, g1, g2, g3, g4, g5⟩ := stE_yes he
  have h : 0 ≤ age ∧ age < 9007199254740992 := ⟨g0, g1⟩
  have ho : ageI (picD s f z 0) < age ∧ ageI (picD s f z 1) < age := ⟨g2, g3⟩
  have hf : (frP age p).length ≤ z ∧ okP (payB age.toNat p) := ⟨g5, g4⟩
  have hstk : stK s f z = if ageI (picD s f z 1) ≤ ageI (picD s f z 0) ∧ 0 ≤ ageI (picD s f z 0) then 1 else 0 := rfl
  have hstd : stD s f z p age = wrD (wpD s f z (stK s f z)) ((f + stK s f z * z : Nat) : Int) (frP age p) := rfl
  have K := Lib.hid (RefIs_yes age w h.1 h.2)
  obtain ⟨A, c, rfl, hlc, hcm⟩ := hr.sliceN (List.length_map _)
  unfold maxLen at hcm
  have HD := Lib.hid hd
  have HR := Lib.hid hr
  obtain ⟨n, rfl⟩ : ∃ n : Nat, age = n := ⟨age.toNat, by omega⟩
  have hn : n < 9007199254740992 := by omega
  have h8 := numB_len8 hn
  simp only [frP, Int.toNat_natCast] at hf hstd
  have HF := Lib.hid hf
  have HSD := Lib.hid hstd
  have HSK := Lib.hid hstk
  have HDK := Lib.hid hdk
  have HSL := Lib.hid hsl
  have HAP := Lib.hid hap
  clear hd hr h hf hstk hstd hdk hsl hap he g0 g1 g2 g3 g4 g5
  go_enter Try.func48, Try.ntmps48
  go_wp2_with fail
  refine K.out.mono ?_
  rintro e w1 ⟨rfl, rfl⟩
  go_wp2_with fail
  refine (RefPicture_0 F F m r f z s w HD.out.rk HD.out.sl hb hz h1 (by omega)).mono ?_
  rintro e w1 ⟨v1, rfl, hr1, hx1⟩
  obtain ⟨A1, c1, rfl, _, _⟩ := hr1.sliceN (List.length_map _)
  have HX1 := Lib.hid hx1
  clear hr1 hx1
  go_wp2_with fail
  refine (RefPicture_1 F F m r f z s w1 (HD.out.ext HX1.out).rk (HD.out.ext HX1.out).sl hb hz h1 (by omega)).mono ?_
  rintro e w2 ⟨v2, rfl, hr2, hx2⟩
  obtain ⟨A2, c2, rfl, _, _⟩ := hr2.sliceN (List.length_map _)
  have HX2 := Lib.hid (HX1.out.trans hx2)
  clear hr2 hx2 HX1
  generalize stK s f z = K0 at *
  generalize picD s f z 0 = P0 at *
  generalize picD s f z 1 = P1 at *
  generalize ageI P0 = x at *
  generalize ageI P1 = y at *
  have d1 : decide ((n : Int) ≤ x) = false := decide_eq_false (by omega)
  have d2 : decide ((n : Int) ≤ y) = false := decide_eq_false (by omega)
  clear ho
  go_wp2_with fail
  refine (RefNum_yes n w2 hn).mono ?_
  rintro e w3 ⟨v3, rfl, hg3⟩
  have HX3 := Lib.hid (HX2.out.trans hg3.ext)
  have hown := hg3.own
  have hlt3 := hg3.size
  have HG3 := Lib.hid hg3
  have HX2' := HX2
  clear hg3 HX2
  go_wp2_with (at_builtin; refine app_u8 rfl _ _ rfl w2.heap.size _ _ rfl hown _ p rfl (HR.out.ext HX3.out) (by rw [List.length_map]; omega) hlt3 ?_; intro v4 w4 hg4)
  have hg5 := HG3.out.trans hg4
  have hr5 : Rd w4 v4 ((payB n p).map B) := by rw [payB, List.map_append]; exact Rd.own hg5.own
  have HX4 := Lib.hid (HX2'.out.trans hg5.ext)
  obtain ⟨A4, c4, rfl, _, _⟩ := hr5.sliceN (List.length_map _)
  clear hg4 hg5 hown hlt3 HG3 HX3 HX2'
  go_wp2_with fail
  refine (RefFrame_any (payB n p) _ w4 hr5).mono ?_
  rintro e w5 ⟨v5, rfl, hg6⟩
  have HX5 := Lib.hid (HX4.out.trans hg6.ext)
  have hr6 := RdF.made0 hg6
  have hs5 := hg6.size
  have hs4 := HX4.out.size
  have c1' := (HSL.out.ext HX5.out).c1
  have c2' := (HSL.out.ext HX5.out).c2
  obtain ⟨q, hq⟩ : ∃ q, q = (frameB (payB n p)).length := ⟨_, rfl⟩
  obtain ⟨A5, c5, rfl⟩ := hg6.slice_ (n := q) (by rw [List.length_map, hq])
  have hq1 : 1 ≤ q := by
    have := frameB_len HF.out.2
    omega
  have hqz : q ≤ z := by rw [hq]; exact HF.out.1
  have d3 : ((q : Int) == 0) = false := by rw [beq_eq_false_iff_ne]; omega
  have d4 : decide ((z : Int) < (q : Int)) = false := by simp; omega
  have d5 : ¬ (q : Int) = 0 := by omega
  have d6 : ¬ (z : Int) < (q : Int) := by omega
  have HR6 := Lib.hid hr6
  have HQ := Lib.hid hq
  have HS5 : Hid (w.heap.size ≤ w4.heap.size ∧ w4.heap.size ≤ w5.heap.size) := Lib.hid ⟨hs4, hs5⟩
  clear hg6 hr5 hr6 hq HX4 hs5 hs4 d1 d2
  have hthree : (decide (y ≤ x) = true ∧ decide (0 ≤ x) = true ∧ K0 = 1) ∨ (decide (y ≤ x) = true ∧ decide (0 ≤ x) = false ∧ K0 = 0) ∨ (decide (y ≤ x) = false ∧ K0 = 0) := by
    have hk := HSK.out
    by_cases e1 : y ≤ x
    · by_cases e2 : 0 ≤ x
      · rw [if_pos ⟨e1, e2⟩] at hk
        exact .inl ⟨decide_eq_true e1, decide_eq_true e2, hk⟩
      · rw [if_neg (fun h => e2 h.2)] at hk
        exact .inr (.inl ⟨decide_eq_true e1, decide_eq_false e2, hk⟩)
    · rw [if_neg (fun h => e1 h.1)] at hk
      exact .inr (.inr ⟨decide_eq_false e1, hk⟩)
  clear HSK
  go_upto_region 11 with (fail)
  rcases hthree with ⟨q1, q2, rfl⟩ | ⟨q1, q2, rfl⟩ | ⟨q1, rfl⟩
  · obtain ⟨Y, hY⟩ : ∃ Y : Int, Y = ((f + 1 * z : Nat) : Int) := ⟨_, rfl⟩
    have w9 : IntKind.i64.wrap ((f : Int) + (z : Int)) = Y := by rw [IntKind.wrap_i64]; omega
    have HY := Lib.hid hY
    clear hY
    obtain ⟨w6, hmk, hg6⟩ := run_make_u8 w5.drew z (by omega)
    have hx5 : Ext w w5.drew := HX5.out.trans (Ext.dr (Ext.refl w5))
    have hx6 : Ext w w6 := hx5.trans hg6.ext
    have hs6 : w5.heap.size ≤ w6.heap.size := hg6.size
    have e0 := (HSL.out.ext hx5).c0
    have e2 := (HSL.out.ext hx5).c2
    have d0 := (HSL.out.ext hx6).c0
    have d2 := (HSL.out.ext hx6).c2
    have hrd := RdF.made0 hg6
    have KW := RkWrite F1 (fun k => w5.drew.heap.size ≤ k ∧ k < w6.heap.size) r s Y _ (List.replicate z (0 : UInt8)) w6 (HDK.out.ext0 hx6) hrd (fun k hk1 hk3 => by have := HDK.out.isIn k hk3; have := HS5.out; have : w5.drew.heap.size = w5.heap.size := rfl; omega) (fun k hk => hk.2) hb (by omega)
    have hrf := (HR6.out.chg (G := fun _ => False) (Chg.of_ext ((Ext.dr (Ext.refl w5)).trans hg6.ext)) (fun _ _ h => h))
    have KW' := Lib.hid KW
    have HX6 := Lib.hid hx6
    have HRF := Lib.hid hrf
    have HS6 := Lib.hid hs6
    clear KW hx5 hx6 hrd hg6 hrf hs6 HR6 HX5
    go_wp2
    clear c1' c2'
    go_region_law (go_simp; (go_at_call 79; refine KW'.out.mono ?_; rintro e w7 ⟨rfl, hk7, hc7⟩))
    all_goals
      have hl7 := (HSL.out.ext HX6.out).chg hc7 HAP.out
      have g0 : w7.cell? ⟨m, 0, none⟩ = some (.pointer (some ⟨r, 0, none⟩)) := hl7.c0
      have hrf7 := HRF.out.chg hc7 (fun k hk hF => by have := HDK.out.isIn k hF; have := HS5.out; omega)
      have hap7 : F2.apart (F1.since w6 w7) := (HAP.out.symm.since (HSL.out.ext HX6.out).isIn).symm
      have hwt := wrD_waits s Y (List.replicate z (0 : UInt8))
      rw [List.length_replicate] at hwt
      have HW7 := Lib.hid hwt
      have HK7 := Lib.hid hk7
      have HC7 := Lib.hid hc7
      have HL7 := Lib.hid hl7
      have HRF7 := Lib.hid hrf7
      have HAP7 := Lib.hid hap7
      clear hk7 hc7 hl7 hmk e0 e2 d0 d2 hrf7 hap7 hwt KW' HRF
      go_wp2_with fail
      refine (RkSync _ r _ w7 HK7.out (by have := HW7.out; omega) (by rw [wrD_n]; exact hn0) (by rw [wrD_n]; omega)).mono ?_
      rintro e w8 ⟨rfl, hk8, HC8'⟩
      have hl8 := HL7.out.chg HC8' HAP7.out
      have hi5 : ∀ k, F1.since w6 w7 k → ¬ (w4.heap.size ≤ k ∧ k < w5.heap.size) := fun k hk hk2 => by
        rcases hk with hk | hk
        · have := HDK.out.isIn k hk
          have := HS5.out
          omega
        · have := HS6.out
          omega
      have hrf8 := HRF7.out.chg HC8' (fun k hk hF => hi5 k hF hk)
      have g0 : w8.cell? ⟨m, 0, none⟩ = some (.pointer (some ⟨r, 0, none⟩)) := hl8.c0
      have h68 : w6.heap.size ≤ w8.heap.size := Nat.le_trans HC7.out.size HC8'.size
      have hs2 : (syD (wrD s Y (List.replicate z (0 : UInt8)))).1.length = s.1.length := by rw [syD_len, wrD_len]
      have KW2 := RkWrite _ (fun k => w4.heap.size ≤ k ∧ k < w5.heap.size) r _ Y _ (frameB (payB n p)) w8 hk8 hrf8 (fun k hk hF => hi5 k hF hk) (fun k hk => by have := HS6.out; omega) (by rw [hs2]; exact hb) (by simp [syD])
      have KW2' := Lib.hid KW2
      have HC8 := Lib.hid HC8'
      have HSZ := Lib.hid h68
      clear hk8 HC8' hl8 hrf8 hi5 h68 hs2 KW2 HK7
      go_wp2_with fail
      refine KW2'.out.mono ?_
      rintro e w9' ⟨rfl, hk9, hc9⟩
      have HK9 := Lib.hid hk9
      have HC9 := Lib.hid hc9
      clear hk9 hc9 KW2'
      go_wp2
      go_ret
      have t1 := HX6.out.size
      have t2 := HC7.out.size
      have t3 := HC8.out.size
      have t4 := HC9.out.size
      have hfin : stD s f z p n = wrD (syD (wrD s Y (List.replicate z (0 : UInt8)))) Y (frameB (payB n p)) := by
        rw [HSD.out, wpD, ← HY.out]
      refine ⟨rfl, ?_, ?_⟩
      · rw [hfin]
        refine Rk.mono HK9.out (fun k hk => ?_) (HDK.out.isIn.since (by omega))
        rcases hk with (hk | hk) | hk
        · exact .inl hk
        · exact .inr ⟨by omega, by omega⟩
        · exact .inr ⟨by omega, by omega⟩
      · have u1 : Chg F1 w w7 := (Chg.of_ext HX6.out).trans HC7.out (fun _ _ h => h)
        have u2 : Chg F1 w w8 := u1.trans HC8.out (fun x hx hF => by
          rcases hF with hF | hF
          · exact hF
          · omega)
        exact u2.trans HC9.out (fun x hx hF => by
          rcases hF with hF | hF
          · exact hF
          · omega)
  · have hf0 : ((f + 0 * z : Nat) : Int) = (f : Int) := by omega
    have HY := Lib.hid hf0
    clear hf0
    obtain ⟨w6, hmk, hg6⟩ := run_make_u8 w5.drew z (by omega)
    have hx5 : Ext w w5.drew := HX5.out.trans (Ext.dr (Ext.refl w5))
    have hx6 : Ext w w6 := hx5.trans hg6.ext
    have hs6 : w5.heap.size ≤ w6.heap.size := hg6.size
    have e0 := (HSL.out.ext hx5).c0
    have e2 := (HSL.out.ext hx5).c2
    have d0 := (HSL.out.ext hx6).c0
    have d2 := (HSL.out.ext hx6).c2
    have hrd := RdF.made0 hg6
    have KW := RkWrite F1 (fun k => w5.drew.heap.size ≤ k ∧ k < w6.heap.size) r s (f : Int) _ (List.replicate z (0 : UInt8)) w6 (HDK.out.ext0 hx6) hrd (fun k hk1 hk3 => by have := HDK.out.isIn k hk3; have := HS5.out; have : w5.drew.heap.size = w5.heap.size := rfl; omega) (fun k hk => hk.2) hb (by omega)
    have hrf := (HR6.out.chg (G := fun _ => False) (Chg.of_ext ((Ext.dr (Ext.refl w5)).trans hg6.ext)) (fun _ _ h => h))
    have KW' := Lib.hid KW
    have HX6 := Lib.hid hx6
    have HRF := Lib.hid hrf
    have HS6 := Lib.hid hs6
    clear KW hx5 hx6 hrd hg6 hrf hs6 HR6 HX5
    go_wp2
    clear c1' c2'
    go_region_law (go_simp; (go_at_call 79; refine KW'.out.mono ?_; rintro e w7 ⟨rfl, hk7, hc7⟩))
    all_goals
      have hl7 := (HSL.out.ext HX6.out).chg hc7 HAP.out
      have g0 : w7.cell? ⟨m, 0, none⟩ = some (.pointer (some ⟨r, 0, none⟩)) := hl7.c0
      have hrf7 := HRF.out.chg hc7 (fun k hk hF => by have := HDK.out.isIn k hF; have := HS5.out; omega)
      have hap7 : F2.apart (F1.since w6 w7) := (HAP.out.symm.since (HSL.out.ext HX6.out).isIn).symm
      have hwt := wrD_waits s (f : Int) (List.replicate z (0 : UInt8))
      rw [List.length_replicate] at hwt
      have HW7 := Lib.hid hwt
      have HK7 := Lib.hid hk7
      have HC7 := Lib.hid hc7
      have HL7 := Lib.hid hl7
      have HRF7 := Lib.hid hrf7
      have HAP7 := Lib.hid hap7
      clear hk7 hc7 hl7 hmk e0 e2 d0 d2 hrf7 hap7 hwt KW' HRF
      go_wp2_with fail
      refine (RkSync _ r _ w7 HK7.out (by have := HW7.out; omega) (by rw [wrD_n]; exact hn0) (by rw [wrD_n]; omega)).mono ?_
      rintro e w8 ⟨rfl, hk8, HC8'⟩
      have hl8 := HL7.out.chg HC8' HAP7.out
      have hi5 : ∀ k, F1.since w6 w7 k → ¬ (w4.heap.size ≤ k ∧ k < w5.heap.size) := fun k hk hk2 => by
        rcases hk with hk | hk
        · have := HDK.out.isIn k hk
          have := HS5.out
          omega
        · have := HS6.out
          omega
      have hrf8 := HRF7.out.chg HC8' (fun k hk hF => hi5 k hF hk)
      have g0 : w8.cell? ⟨m, 0, none⟩ = some (.pointer (some ⟨r, 0, none⟩)) := hl8.c0
      have h68 : w6.heap.size ≤ w8.heap.size := Nat.le_trans HC7.out.size HC8'.size
      have hs2 : (syD (wrD s (f : Int) (List.replicate z (0 : UInt8)))).1.length = s.1.length := by rw [syD_len, wrD_len]
      have KW2 := RkWrite _ (fun k => w4.heap.size ≤ k ∧ k < w5.heap.size) r _ (f : Int) _ (frameB (payB n p)) w8 hk8 hrf8 (fun k hk hF => hi5 k hF hk) (fun k hk => by have := HS6.out; omega) (by rw [hs2]; exact hb) (by simp [syD])
      have KW2' := Lib.hid KW2
      have HC8 := Lib.hid HC8'
      have HSZ := Lib.hid h68
      clear hk8 HC8' hl8 hrf8 hi5 h68 hs2 KW2 HK7
      go_wp2_with fail
      refine KW2'.out.mono ?_
      rintro e w9' ⟨rfl, hk9, hc9⟩
      have HK9 := Lib.hid hk9
      have HC9 := Lib.hid hc9
      clear hk9 hc9 KW2'
      go_wp2
      go_ret
      have t1 := HX6.out.size
      have t2 := HC7.out.size
      have t3 := HC8.out.size
      have t4 := HC9.out.size
      have hfin : stD s f z p n = wrD (syD (wrD s (f : Int) (List.replicate z (0 : UInt8)))) (f : Int) (frameB (payB n p)) := by
        rw [HSD.out, wpD, HY.out]
      refine ⟨rfl, ?_, ?_⟩
      · rw [hfin]
        refine Rk.mono HK9.out (fun k hk => ?_) (HDK.out.isIn.since (by omega))
        rcases hk with (hk | hk) | hk
        · exact .inl hk
        · exact .inr ⟨by omega, by omega⟩
        · exact .inr ⟨by omega, by omega⟩
      · have u1 : Chg F1 w w7 := (Chg.of_ext HX6.out).trans HC7.out (fun _ _ h => h)
        have u2 : Chg F1 w w8 := u1.trans HC8.out (fun x hx hF => by
          rcases hF with hF | hF
          · exact hF
          · omega)
        exact u2.trans HC9.out (fun x hx hF => by
          rcases hF with hF | hF
          · exact hF
          · omega)
  · have hf0 : ((f + 0 * z : Nat) : Int) = (f : Int) := by omega
    have HY := Lib.hid hf0
    clear hf0
    obtain ⟨w6, hmk, hg6⟩ := run_make_u8 w5.drew z (by omega)
    have hx5 : Ext w w5.drew := HX5.out.trans (Ext.dr (Ext.refl w5))
    have hx6 : Ext w w6 := hx5.trans hg6.ext
    have hs6 : w5.heap.size ≤ w6.heap.size := hg6.size
    have e0 := (HSL.out.ext hx5).c0
    have e2 := (HSL.out.ext hx5).c2
    have d0 := (HSL.out.ext hx6).c0
    have d2 := (HSL.out.ext hx6).c2
    have hrd := RdF.made0 hg6
    have KW := RkWrite F1 (fun k => w5.drew.heap.size ≤ k ∧ k < w6.heap.size) r s (f : Int) _ (List.replicate z (0 : UInt8)) w6 (HDK.out.ext0 hx6) hrd (fun k hk1 hk3 => by have := HDK.out.isIn k hk3; have := HS5.out; have : w5.drew.heap.size = w5.heap.size := rfl; omega) (fun k hk => hk.2) hb (by omega)
    have hrf := (HR6.out.chg (G := fun _ => False) (Chg.of_ext ((Ext.dr (Ext.refl w5)).trans hg6.ext)) (fun _ _ h => h))
    have KW' := Lib.hid KW
    have HX6 := Lib.hid hx6
    have HRF := Lib.hid hrf
    have HS6 := Lib.hid hs6
    clear KW hx5 hx6 hrd hg6 hrf hs6 HR6 HX5
    go_wp2
    clear c1' c2'
    go_region_law (go_simp; (go_at_call 79; refine KW'.out.mono ?_; rintro e w7 ⟨rfl, hk7, hc7⟩))
    all_goals
      have hl7 := (HSL.out.ext HX6.out).chg hc7 HAP.out
      have g0 : w7.cell? ⟨m, 0, none⟩ = some (.pointer (some ⟨r, 0, none⟩)) := hl7.c0
      have hrf7 := HRF.out.chg hc7 (fun k hk hF => by have := HDK.out.isIn k hF; have := HS5.out; omega)
      have hap7 : F2.apart (F1.since w6 w7) := (HAP.out.symm.since (HSL.out.ext HX6.out).isIn).symm
      have hwt := wrD_waits s (f : Int) (List.replicate z (0 : UInt8))
      rw [List.length_replicate] at hwt
      have HW7 := Lib.hid hwt
      have HK7 := Lib.hid hk7
      have HC7 := Lib.hid hc7
      have HL7 := Lib.hid hl7
      have HRF7 := Lib.hid hrf7
      have HAP7 := Lib.hid hap7
      clear hk7 hc7 hl7 hmk e0 e2 d0 d2 hrf7 hap7 hwt KW' HRF
      go_wp2_with fail
      refine (RkSync _ r _ w7 HK7.out (by have := HW7.out; omega) (by rw [wrD_n]; exact hn0) (by rw [wrD_n]; omega)).mono ?_
      rintro e w8 ⟨rfl, hk8, HC8'⟩
      have hl8 := HL7.out.chg HC8' HAP7.out
      have hi5 : ∀ k, F1.since w6 w7 k → ¬ (w4.heap.size ≤ k ∧ k < w5.heap.size) := fun k hk hk2 => by
        rcases hk with hk | hk
        · have := HDK.out.isIn k hk
          have := HS5.out
          omega
        · have := HS6.out
          omega
      have hrf8 := HRF7.out.chg HC8' (fun k hk hF => hi5 k hF hk)
      have g0 : w8.cell? ⟨m, 0, none⟩ = some (.pointer (some ⟨r, 0, none⟩)) := hl8.c0
      have h68 : w6.heap.size ≤ w8.heap.size := Nat.le_trans HC7.out.size HC8'.size
      have hs2 : (syD (wrD s (f : Int) (List.replicate z (0 : UInt8)))).1.length = s.1.length := by rw [syD_len, wrD_len]
      have KW2 := RkWrite _ (fun k => w4.heap.size ≤ k ∧ k < w5.heap.size) r _ (f : Int) _ (frameB (payB n p)) w8 hk8 hrf8 (fun k hk hF => hi5 k hF hk) (fun k hk => by have := HS6.out; omega) (by rw [hs2]; exact hb) (by simp [syD])
      have KW2' := Lib.hid KW2
      have HC8 := Lib.hid HC8'
      have HSZ := Lib.hid h68
      clear hk8 HC8' hl8 hrf8 hi5 h68 hs2 KW2 HK7
      go_wp2_with fail
      refine KW2'.out.mono ?_
      rintro e w9' ⟨rfl, hk9, hc9⟩
      have HK9 := Lib.hid hk9
      have HC9 := Lib.hid hc9
      clear hk9 hc9 KW2'
      go_wp2
      go_ret
      have t1 := HX6.out.size
      have t2 := HC7.out.size
      have t3 := HC8.out.size
      have t4 := HC9.out.size
      have hfin : stD s f z p n = wrD (syD (wrD s (f : Int) (List.replicate z (0 : UInt8)))) (f : Int) (frameB (payB n p)) := by
        rw [HSD.out, wpD, HY.out]
      refine ⟨rfl, ?_, ?_⟩
      · rw [hfin]
        refine Rk.mono HK9.out (fun k hk => ?_) (HDK.out.isIn.since (by omega))
        rcases hk with (hk | hk) | hk
        · exact .inl hk
        · exact .inr ⟨by omega, by omega⟩
        · exact .inr ⟨by omega, by omega⟩
      · have u1 : Chg F1 w w7 := (Chg.of_ext HX6.out).trans HC7.out (fun _ _ h => h)
        have u2 : Chg F1 w w8 := u1.trans HC8.out (fun x hx hF => by
          rcases hF with hF | hF
          · exact hF
          · omega)
        exact u2.trans HC9.out (fun x hx hF => by
          rcases hF with hF | hF
          · exact hF
          · omega)

theorem stE_frame {s : DkS} {f z : Nat} {p : List UInt8} {age : Int} (h : 0 ≤ age ∧ age < 9007199254740992) (ho : ¬ (age ≤ ageI (picD s f z 0) ∨ age ≤ ageI (picD s f z 1))) :
    stE s f z p age = if frP age p = [] ∨ z < (frP age p).length then 3 else 0 := by rw [stE, if_neg (by omega), if_neg ho]

theorem RefStart_any (F : Fp) (m r f z : Nat) (s : DkS) (p : List UInt8) (v : Value) (age : Int) (w : World) (hd : RSD F w m r s f z) (hr : Rd w v (p.map B)) (hb : s.1.length ≤ 65536) (hz : f + 2 * z ≤ s.1.length) (h1 : 1 ≤ z) (hw : s.2.1.length ≤ 100000000) (hn0 : 0 ≤ s.2.2) (hn1 : s.2.2 ≤ 100000000) (hp : p.length ≤ 1000000) :
    Calls Try.prog 48 #[.pointer (some ⟨m, 0, none⟩), v, .int .i64 age] w fun e w' => e = .returned (.int .i64 (stE s f z p age)) ∧ RSD (F.since w w') w' m r (stS s f z p age) f z ∧ Chg F w w' := by
  have later : ∀ {w' : World}, Ext w w' → RSD (F.since w w') w' m r s f z := fun hx => (hd.ext hx).mono (fun _ hk => .inl hk) (hd.isIn.since hx.size)
  by_cases he : stE s f z p age = 0
  · have hd0 := hd
    obtain ⟨F1, F2, a1, a2, a3, a4, a5, a6⟩ := hd
    refine (RefStart_yes F F1 F2 m r f z s p v age w a1 a2 a3 hd0 hr hb hz h1 hw hn0 hn1 hp he).mono ?_
    rintro e w' ⟨rfl, hk, hc⟩
    rw [he, stS, if_pos he]
    refine ⟨rfl, ⟨_, F2, hk, a2.chg hc a3, (a3.symm.since a2.isIn).symm, fun k hk => ?_, fun k hk => .inl (a5 k hk), a6.since hc.size⟩, hc.mono fun k _ hk => a4 k hk⟩
    rcases hk with hk | hk
    · exact .inl (a4 k hk)
    · exact .inr hk
  · rw [stS, if_neg he]
    by_cases h : 0 ≤ age ∧ age < 9007199254740992
    · by_cases ho : age ≤ ageI (picD s f z 0) ∨ age ≤ ageI (picD s f z 1)
      · have e6 : stE s f z p age = 6 := by rw [stE, if_neg (by omega), if_pos ho]
        rw [e6]
        exact (RefStart_old F m r f z s p v age w hd hr hb hz h1 (by omega) h ho).mono fun _ _ ⟨he, hx⟩ => ⟨he, later hx, Chg.of_ext hx⟩
      · have e3 := stE_frame (p := p) h ho
        by_cases hf : frP age p = [] ∨ z < (frP age p).length
        · rw [e3, if_pos hf]
          exact (RefStart_full F m r f z s p v age w hd hr hb hz h1 (by omega) hp h ⟨by omega, by omega⟩ hf).mono fun _ _ ⟨he, hx⟩ => ⟨he, later hx, Chg.of_ext hx⟩
        · rw [e3, if_neg hf] at he
          exact absurd rfl he
    · have e1 : stE s f z p age = 1 := by rw [stE, if_pos h]
      rw [e1]
      exact (RefStart_age F m r f z s p v age w hd hr h).mono fun _ _ ⟨he, hx⟩ => ⟨he, later hx, Chg.of_ext hx⟩

end Go.Proofs.Ytdcmjmanalijfaa

/- What reads as bytes appended to an own row inside a statement whose order is open. -/
namespace Go.Proofs.Ytdcmjmanalijfaa
open Go.RowKit

theorem stepApp_u8 {w : World} {ops : Array Oper} {o : Oper} {a : Act} {K : Act → World → Prop} {Q : Exit → Act → World → Prop} {E : Prop} (s x : Operand)
    (hop : o.op = .call { callee := .builtin .append, args := #[s, x], argTypes := #[30, 30] }) (hw : Region.wanted o (yielded ops a.tmps) = true)
    (base : Nat) (v : Value) (xs : List Value) (hown : w.ownsRow base 5 1 v xs.length xs) (hs : a.eval s = v) (u : Value) (ys : List UInt8) (hx : a.eval x = u) (hr : Rd w u (ys.map B))
    (hbytes : xs.length + ys.length ≤ 140737488355328) (hbase : base ≤ w.heap.size)
    (h : ∀ v' w', Grew base 5 v w (xs ++ ys.map B) v' w' → K (a.put o.dst v') w') :
    if Region.wanted o (yielded ops a.tmps) = true then Oper.wp Try.prog o a w K Q else E := by
  rw [if_pos hw]
  obtain ⟨i0, hi, hz0, hz1, hz2⟩ := info_parts Try.infoU8
  obtain ⟨v', w', hrun, h2⟩ := run_append_rd (P := Try.prog) w base 30 o.type 5 i0 (.int .u8 0) 1 Try.underlying30 hi hz0 hz1 hz2 rfl v xs hown u _ hr (bytes_oneCell ys) (by unfold maxLen; simp; omega) (by simp; omega) hbase
  unfold Oper.wp execOp
  simp only [hop, resolve, invoke, builtin, Sem.run_bind, Sem.run_pure, Result.andThen_ok, List.map_toArray, List.map_cons, List.map_nil, hs, hx, hrun]
  exact h v' w' h2

end Go.Proofs.Ytdcmjmanalijfaa
