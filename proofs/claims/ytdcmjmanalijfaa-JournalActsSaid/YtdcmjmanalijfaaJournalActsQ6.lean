/- Texts that the proof of JournalActs rests on, one behind the other. -/
import Derived.Test.YtdcmjmanalijfaaJournalActsQ5
import Derived.Laws.LoneSync
import Derived.Deep.QuietTactic
import Derived.BigQuiet
import Derived.Deep.LoopGhost
import Derived.Test.YtdcmjmanalijfaaRows
import Derived.Deep.RegionWith
import Derived.Outline
import Derived.WalkSpells

/- Package disk: what its methods do to a disk. -/
namespace Go.Proofs.Ytdcmjmanalijfaa
open Go.RowKit

set_option maxRecDepth 100000 in
theorem DkWaits0 (F : Fp) (g : Nat) (bs : List UInt8) (us : List WtS) (n : Int) (vB vW : Value) (w : World) (hd : Dk0 F w g bs us n vB vW) (hl : us.length ≤ 1000000000) (hw : (flatW (us.map WtS.plain)).length ≤ 1000000000) :
    Calls Try.prog 28 #[.pointer (some ⟨g, 0, none⟩)] w fun e w' => e = .returned (.int .i64 ((flatW (us.map WtS.plain)).length : Int)) ∧ Ext w w' := by
  obtain ⟨hW, -⟩ := hd.waits
  obtain ⟨AW, cW, rfl, hlW, hcW⟩ := hW.slice_
  unfold maxLen at hcW
  have c1 := hd.c1
  have HW := Lib.hid hW
  clear hW hd
  go_enter Try.func28, Try.ntmps28
  go_wp2
  go_loopw [3, 13] (fun n' i' wr => ∃ k : Nat, i' = .int .i64 k ∧ k ≤ us.length ∧ n' = .int .i64 ((flatW ((us.map WtS.plain).take k)).length : Int) ∧ Ext w wr) (fun _ i' _ => us.length - (intOf i').toNat)
  case atStart => exact ⟨0, rfl, Nat.zero_le _, rfl, Ext.refl _⟩
  case round =>
    obtain ⟨k, rfl, hk, rfl, hx⟩ := hrel
    by_cases hlt : k < us.length
    · have hWk := HW.out.ext hx
      obtain ⟨b, o, rfl, hb1, hH1, hcl⟩ := hWk.get (by omega)
      obtain ⟨e1, e2, hr⟩ := hcl k _ (List.getElem?_eq_getElem hlt)
      have hxs : (us.map WtS.plain)[k]'(by rw [List.length_map]; exact hlt) = us[k].plain := List.getElem_map _
      have hsl := flatW_snoc_len (l := us.map WtS.plain) (k := k) (by rw [List.length_map]; exact hlt)
      have hle := flatW_le (us.map WtS.plain) (k + 1)
      rw [hxs] at hsl
      generalize us[k] = x at *
      obtain ⟨i, u, l⟩ := x
      have HL := Lib.hid hsl
      have hl2 : (flatW ((us.map WtS.plain).take k)).length + l.length ≤ 1000000000 := by
        simp only [WtS.plain] at hsl
        omega
      have HLE := Lib.hid hle
      clear hcl hWk hxs hsl hle
      simp only [I] at e1 e2 hr
      have e3 : wr.cell? ⟨b, o + k * 2 + 1, none⟩ = some u := by rw [Nat.add_assoc]; exact e2
      clear e2
      obtain ⟨Au, cu, rfl, hlc, hcm⟩ := hr.rd.sliceN (List.length_map _)
      clear hr
      generalize hm : (flatW ((us.map WtS.plain).take k)).length = m at *
      go_wp2
      have hx2 : Ext w (wr.alloc (.cells #[.int .i64 (i : Int), .slice Au l.length cu] 99)) := hx.trans ((Below.refl _ _).alloc (Nat.le_refl _) _)
      go_roundw
      case rel =>
        have hll := HL.out
        simp only [WtS.plain] at hll
        exact ⟨k + 1, by go_num, by omega, by rw [hll]; go_num, hx2⟩
      case measure => simp [intOf]; omega
    · obtain rfl : k = us.length := by omega
      rw [List.take_of_length_le (i := us.length) (by rw [List.length_map]; omega)]
      go_wp2
      go_ret
      exact ⟨rfl, hx⟩

theorem DkWaits (F : Fp) (g : Nat) (s : DkS) (w : World) (hd : Dk F w g s) (hw : s.2.1.length ≤ 1000000000) :
    Calls Try.prog 28 #[.pointer (some ⟨g, 0, none⟩)] w fun e w' => e = .returned (.int .i64 (s.2.1.length : Int)) ∧ Ext w w' := by
  obtain ⟨us, vB, vW, h1, h2⟩ := hd
  have hm := h2.many
  rw [h2.1] at hw hm ⊢
  exact DkWaits0 F g s.1 us s.2.2 vB vW w h1 (by omega) hw

theorem Dk0.settled {F : Fp} {g : Nat} {bs bs' : List UInt8} {us : List WtS} {n : Int} {vB vW : Value} {w w1 : World} (hd : Dk0 F w g bs us n vB vW) (hg : Grew 0 5 vB w (bs'.map B) vB w1) :
    Dk0 (F.since w w1) w1 g bs' us n vB vW ∧ Dk0 (F.since w w1) (w1.setCell ⟨g, 1, none⟩ (.slice none 0 0)) g bs' [] n vB (.slice none 0 0) ∧ Chg F w (w1.setCell ⟨g, 1, none⟩ (.slice none 0 0)) := by
  obtain ⟨h1, h2⟩ := ObjF.grew hd 0 (by simp [rowsD]) rfl hg
  obtain ⟨h3, h4⟩ := ObjF.drop h1 1 1 (by simp [rowsD]) 99 2
  refine ⟨?_, ?_, h2.step h4⟩
  · rw [List.length_map] at h1
    exact h1
  · rw [List.length_map] at h3
    refine ObjF.sub h3 ?_
    simp only [rowsD, List.set_cons_zero, List.set_cons_succ, List.map_nil, List.flatMap_nil, List.length_nil]
    exact List.Sublist.cons_cons _ (List.Sublist.cons_cons _ (List.nil_sublist _))

set_option maxRecDepth 100000 in
theorem Settle0 (F : Fp) (g : Nat) (bs : List UInt8) (us : List WtS) (n : Int) (vB vW : Value) (k : Int) (w : World) (hd : Dk0 F w g bs us n vB vW) (hus : ∀ x ∈ us, x.1 + x.2.2.length ≤ bs.length ∧ 0 < x.2.2.length) (hb : bs.length ≤ 65536) (hl : us.length ≤ 1000000000)
    (h0 : -9223372036854775808 ≤ k) (h1 : k ≤ 9223372036854775807) :
    Calls Try.prog 51 #[.pointer (some ⟨g, 0, none⟩), .int .i64 k] w fun e w' =>
      e = .returned (.tuple #[]) ∧ Dk0 (F.since w w') w' g (putAll bs ((flatW (us.map WtS.plain)).take k.toNat)) [] n vB (.slice none 0 0) ∧ Chg F w w' := by
  have c0 := hd.c0
  have c1 := hd.c1
  have HD := Lib.hid hd
  have HU := Lib.hid hus
  clear hd hus
  go_enter Try.func51, Try.ntmps51
  go_wp2_with fail
  go_still_tail 9, (by kernel_rfl)
  change wpList _ _ _ _ _ w.drew
  go_wp2_with fail
  have hd1 := HD.out.ext (Ext.dr (Ext.refl w))
  obtain ⟨hW, hap⟩ := hd1.waits
  refine (Lay_any (wtFp vW us) 0 vB vW bs us k w.drew hd1.rowB hW hap HU.out hb hl h0 h1).mono ?_
  rintro e w1 ⟨rfl, hg⟩
  obtain ⟨h2, h3, h4⟩ := hd1.settled hg
  have c1 := h2.c1
  have f1 := h2.fr 1
  have hi := ObjF.isIn HD.out
  have hs : w.heap.size ≤ w1.heap.size := hg.size
  have H3 := Lib.hid h3
  have H4 := Lib.hid h4
  have HI := Lib.hid hi
  clear h2 h3 h4 hg hW hap hd1 hi
  go_wp2
  go_end0
  refine ⟨rfl, ObjF.mono H3.out (fun k hk => ?_) ?_, ⟨H4.out.os, H4.out.tape, H4.out.output, H4.out.size, H4.out.block⟩⟩
  · rcases hk with hk | hk
    · exact .inl hk
    · exact .inr (by simpa using hk)
  · exact HI.out.since (by simpa using hs)

set_option maxRecDepth 100000 in
theorem DkCrash (F : Fp) (g : Nat) (s : DkS) (k : Int) (w : World) (hd : Dk F w g s) (h0 : -9223372036854775808 ≤ k) (h1 : k ≤ 9223372036854775807) (hw : s.2.1.length ≤ 1000000000) :
    Calls Try.prog 21 #[.pointer (some ⟨g, 0, none⟩), .int .i64 k] w fun e w' => e = .returned (.tuple #[]) ∧ Dk (F.since w w') w' g (crD s k) ∧ Chg F w w' := by
  obtain ⟨us, vB, vW, hd, h2⟩ := hd
  have hm := h2.many
  have HC := Lib.hid (Settle0 F g s.1 us s.2.2 vB vW k w hd h2.2.2.2 h2.2.2.1 (by omega) h0 h1)
  have H2 := Lib.hid h2
  clear hd h2 hm
  go_enter Try.func21, Try.ntmps21
  go_wp2_with fail
  refine HC.out.mono ?_
  rintro e w1 ⟨rfl, h3, h4⟩
  have H3 := Lib.hid h3
  clear h3
  go_wp2
  go_end0
  have h2 := H2.out
  refine ⟨rfl, ⟨[], vB, .slice none 0 0, ?_, rfl, ?_, ?_, by simp⟩, h4⟩
  · have := H3.out
    rw [← h2.1] at this
    exact this
  · simp only [crD, putAll_len]; exact h2.2.1
  · simp only [crD, putAll_len]; exact h2.2.2.1

set_option maxRecDepth 100000 in
theorem Add_any (g : Nat) (n : Int) (w : World) (hc : w.cell? ⟨g, 2, none⟩ = some (.int .i64 n)) (hz : w.frozen? ⟨g, 2, none⟩ = false) (h0 : 0 ≤ n) (h1 : n ≤ 1000000000) :
    Calls Try.prog 89 #[.pointer (some ⟨g, 2, none⟩), .int .i64 1] w fun e w' => e = .returned (.int .i64 (n + 1)) ∧ w' = w.setCell ⟨g, 2, none⟩ (.int .i64 (n + 1)) := by
  have hs : (Op.intArith .add .i64 n 1).run Try.prog w = .ok (.int .i64 (n + 1)) w := by
    simp only [go_sem]
    rw [IntKind.wrap_i64, show (n + 1 + 9223372036854775808) % 18446744073709551616 - 9223372036854775808 = n + 1 by omega]
    rfl
  have hcall := run_call_add (P := Try.prog) (f := 96) Try.func96 (by kernel_rfl) (by kernel_rfl) (by kernel_rfl) .i64 (by kernel_rfl) hc hz hs
  go_enter Try.func89, Try.ntmps89
  go_wp2
  go_ret
  exact ⟨rfl, rfl⟩

set_option maxRecDepth 100000 in
theorem DkSync (F : Fp) (g : Nat) (s : DkS) (w : World) (hd : Dk F w g s) (hw : s.2.1.length ≤ 1000000000) (hn0 : 0 ≤ s.2.2) (hn1 : s.2.2 ≤ 1000000000) :
    Calls Try.prog 70 #[.pointer (some ⟨g, 0, none⟩)] w fun e w' => e = .returned (.tuple #[]) ∧ Dk (F.since w w') w' g (syD s) ∧ Chg F w w' := by
  obtain ⟨us, vB, vW, hd, h2⟩ := hd
  have hm := h2.many
  have hw' := hw
  rw [h2.1] at hw'
  have HD := Lib.hid hd
  have H2 := Lib.hid h2
  clear hd h2
  go_enter Try.func70, Try.ntmps70
  go_wp2_with fail
  refine (DkWaits0 F g s.1 us s.2.2 vB vW w HD.out (by omega) hw').mono ?_
  rintro e w1 ⟨rfl, hx⟩
  go_wp2_with fail
  refine (Settle0 F g s.1 us s.2.2 vB vW _ w1 (HD.out.ext hx) H2.out.2.2.2 H2.out.2.2.1 (by omega) (by omega) (by omega)).mono ?_
  rintro e w2 ⟨rfl, h3, h4⟩
  rw [Int.toNat_natCast, List.take_length] at h3
  have c2 := h3.c2
  have f2 := h3.fr 2
  obtain ⟨h5, h6⟩ := ObjF.setCell h3 2 (.int .i64 (s.2.2 + 1))
  have H5 := Lib.hid h5
  have H6 := Lib.hid h6
  have H4 := Lib.hid h4
  have HX := Lib.hid hx
  have HI := Lib.hid (ObjF.isIn HD.out)
  clear h3 h4 h5 h6 hx
  go_wp2_with fail
  refine (Add_any g _ w2 c2 f2 hn0 hn1).mono ?_
  rintro e w3 ⟨rfl, rfl⟩
  go_wp2
  go_end0
  have h2 := H2.out
  have hs1 : w.heap.size ≤ w1.heap.size := HX.out.size
  have hs2 : w1.heap.size ≤ w2.heap.size := H4.out.size
  refine ⟨rfl, ⟨[], vB, .slice none 0 0, ObjF.mono (F := F.since w1 w2) (G := F.since w (w2.setCell ⟨g, 2, none⟩ (.int .i64 (s.2.2 + 1)))) ?_ (fun k hk => ?_) ?_, rfl, ?_, ?_, by simp⟩, ?_⟩
  · have := H5.out
    rw [← h2.1] at this
    exact this
  · rcases hk with hk | hk
    · exact .inl hk
    · exact .inr ⟨Nat.le_trans hs1 hk.1, by simpa using hk.2⟩
  · exact HI.out.since (by simp; omega)
  · simp only [syD, putAll_len]; exact h2.2.1
  · simp only [syD, putAll_len]; exact h2.2.2.1
  · have e1 : Chg F w w1 := Chg.of_ext HX.out
    exact (e1.trans H4.out (fun _ _ h => h)).trans H6.out (fun x hx h => by
      rcases h with h | h
      · exact h
      · omega)

set_option maxRecDepth 100000 in
theorem DkBytes (F : Fp) (g : Nat) (s : DkS) (w : World) (hd : Dk F w g s) (hw : s.2.1.length ≤ 1000000000) :
    Calls Try.prog 25 #[.pointer (some ⟨g, 0, none⟩)] w fun e w' => ∃ v', e = .returned v' ∧ Grew w.heap.size 5 (.slice none 0 0) w ((rdD s).map B) v' w' := by
  obtain ⟨us, vB, vW, hd, h2⟩ := hd
  have hm := h2.many
  have hw' := hw
  rw [h2.1] at hw'
  have hb := h2.2.2.1
  have c0 := hd.c0
  have hrB := Rd.own hd.rowB
  have HD := Lib.hid hd
  have H2 := Lib.hid h2
  clear hd h2
  go_enter Try.func25, Try.ntmps25
  go_wp2_with fail
  refine (Clone_any s.1 vB w hrB (by omega)).mono ?_
  rintro e w1 ⟨v1, rfl, hg⟩
  have hdx := HD.out.ext (hg.ext.trans (Ext.dr (Ext.refl w1)))
  have c1 : w1.drew.cell? ⟨g, 1, none⟩ = some vW := hdx.c1
  have K1 := DkWaits0 F g s.1 us s.2.2 vB vW w1.drew hdx (by omega) hw'
  have K2 : ∀ w2, Ext w1.drew w2 → w2.cell? ⟨g, 1, none⟩ = some vW := fun w2 hx => (hdx.ext hx).c1
  have hlt := HD.out.wtLt
  have K3 : ∀ w2, Ext w1.drew w2 → Calls Try.prog 53 #[v1, vW, .int .i64 ((flatW (us.map WtS.plain)).length : Int)] w2 fun e w' => e = .returned (.tuple #[]) ∧ Grew w.heap.size 5 (.slice none 0 0) w ((rdD s).map B) v1 w' := by
    intro w2 hx
    have hg2 := hg.step ((Ext.dr (Ext.refl w1)).trans hx)
    have hO := hg2.1
    rw [List.length_map] at hO
    refine (Lay_any (wtFp vW us) w.heap.size v1 vW s.1 us _ w2 hO (hdx.ext hx).waits.1 (fun k hk h => ?_) H2.out.2.2.2 hb (by omega) (by omega) (by omega)).mono ?_
    · have := (hO.lt k hk).1
      have := hlt k h
      omega
    · rintro e w3 ⟨rfl, hg3⟩
      refine ⟨rfl, ?_⟩
      have := hg2.trans hg3
      rw [Int.toNat_natCast, List.take_length, ← H2.out.1] at this
      exact this
  have K1' := Lib.hid K1
  have K2' := Lib.hid K2
  have K3' := Lib.hid K3
  clear c0 hrB hg hdx K1 K2 K3 hlt
  go_wp2_with fail
  go_region_law (go_simp; (first | (go_at_call 28; refine K1'.out.mono ?_; rintro e w2 ⟨rfl, hx2⟩; have c2 := K2'.out w2 hx2) | (go_at_call 53; refine (K3'.out _ hx2).mono ?_; rintro e w3 ⟨rfl, hg3⟩)))
  all_goals
    go_wp2
    go_ret
    exact ⟨_, rfl, hg3⟩

theorem Try.infoWrite : (Try.prog.info? 99).map (fun i => (i.zero, i.size, i.bytes)) = some (some (.agg #[.int .i64 0, .slice none 0 0]), 2, 32) := by kernel_rfl

theorem stepPush_write {w : World} {ops : Array Oper} {o : Oper} {a : Act} {K : Act → World → Prop} {Q : Exit → Act → World → Prop} {E : Prop} {gx : Nat} (s x : Operand)
    (hop : o.op = .call { callee := .builtin .append, args := #[s, x], argTypes := #[55, 55] }) (hw : Region.wanted o (yielded ops a.tmps) = true)
    (v : Value) (n : Nat) (xs : List Value) (hown : w.ownsRow 0 99 2 v n xs) (hs : a.eval s = v) (y u : Value) (hy : y.oneCell' = true) (hu : u.oneCell' = true)
    (hx : a.eval x = .slice (some ⟨gx, 0, none⟩) 1 1) (hgx : gx = w.heap.size) (hn : n ≤ 1000000000) (h : ∀ v' w', GrewN 0 99 2 v w (n + 1) (xs ++ [y, u]) v' w' → K (a.put o.dst v') w') :
    if Region.wanted o (yielded ops a.tmps) = true then Oper.wp Try.prog o a (w.alloc (.cells #[y, u] 99)) K Q else E :=
  step_pushN s x 55 hop hw 0 99 (.agg #[.int .i64 0, .slice none 0 0]) 2 32 Try.underlying55 Try.infoWrite (by simp [Value.cells]) (by omega) v n xs hown hs #[y, u] rfl
    (fun z hz => by
      simp only [List.mem_cons, List.not_mem_nil, or_false] at hz
      rcases hz with rfl | rfl
      · exact hy
      · exact hu) hx hgx (by unfold maxLen; omega) (by omega) (Nat.zero_le _) h

/-- One write more waits. -/
theorem Dk0.pushed {F : Fp} {g : Nat} {bs : List UInt8} {us : List WtS} {n : Int} {vB vW v1 v2 : Value} {w w1 w2 : World} {i : Nat} {l : List UInt8} (hd : Dk0 F w g bs us n vB vW) (hg : Grew w.heap.size 5 (.slice none 0 0) w (l.map B) v1 w1)
    (hn : GrewN 0 99 2 vW w1 (us.length + 1) (us.flatMap WtS.cells ++ [I i, v1]) v2 w2) :
    Dk0 (F.since w (w2.setCell ⟨g, 1, none⟩ v2)) (w2.setCell ⟨g, 1, none⟩ v2) g bs (us ++ [(i, v1, l)]) n vB v2 ∧ Chg F w (w2.setCell ⟨g, 1, none⟩ v2) := by
  have hm := RowF.made hg
  have hrow : RowS.ok (WtS.row (i, v1, l)) (fun k => w.heap.size ≤ k ∧ k < w1.heap.size) w1 := by
    refine ⟨?_, hm.2⟩
    have := hm.1
    rw [List.length_map] at this
    exact this
  have h1 := ObjF.add hd (WtS.row (i, v1, l)) hg.ext hrow
  obtain ⟨h2, h3⟩ := ObjF.pushN h1 1 1 (by simp [rowsD]) rfl hn
  have e : ((rowsD vB bs vW us ++ [WtS.row (i, v1, l)]).set 1 ⟨99, 2, v2, us.length + 1, us.flatMap WtS.cells ++ [I i, v1]⟩) = rowsD vB bs v2 (us ++ [(i, v1, l)]) := by
    simp [rowsD, WtS.cells]
  rw [e] at h2
  have hs1 : w.heap.size ≤ w1.heap.size := hg.size
  have hs2 : w1.heap.size ≤ w2.heap.size := hn.size
  refine ⟨ObjF.mono h2 (fun k hk => ?_) ((ObjF.isIn hd).since (by simp; omega)), ?_⟩
  · rcases hk with (hk | hk) | hk
    · exact .inl hk
    · exact .inr ⟨hk.1, by simp; omega⟩
    · exact .inr ⟨by omega, by simpa using hk.2⟩
  · exact (Chg.of_ext (F := F) hg.ext).step h3
/-- Its fields stand while the list grows. -/
theorem Dk0.blkW {F : Fp} {g : Nat} {bs : List UInt8} {us : List WtS} {n : Int} {vB vW v2 : Value} {w w2 : World} {k : Nat} {xs : List Value} (hd : Dk0 F w g bs us n vB vW) (hn : GrewN 0 99 2 vW w k xs v2 w2) :
    w2.cell? ⟨g, 1, none⟩ = some vW ∧ w2.frozen? ⟨g, 1, none⟩ = false := by
  have hb := (ObjF.blk hd).grown hn.2.1 (fun e => ObjF.off hd ⟨99, 2, vW, us.length, us.flatMap WtS.cells⟩ (by simp [rowsD]) e.symm)
  exact ⟨hb.cell 1, hb.frozen 1⟩

set_option maxRecDepth 100000 in
theorem Write_yes (F H : Fp) (g : Nat) (bs : List UInt8) (us : List WtS) (n : Int) (vB vW : Value) (i : Nat) (v : Value) (l : List UInt8) (w : World) (hd : Dk0 F w g bs us n vB vW) (hr : RdF H w v (l.map B)) (_ha : H.apart F) (_hH : H.isIn w)
    (hb : bs.length ≤ 65536) (hi : i + l.length ≤ bs.length) (hl : 0 < l.length) (hus : us.length ≤ 1000000000) :
    Calls Try.prog 74 #[.pointer (some ⟨g, 0, none⟩), .int .i64 (i : Int), v] w fun e w' =>
      e = .returned (.int .i64 0) ∧ ∃ v1 v2, Dk0 (F.since w w') w' g bs (us ++ [(i, v1, l)]) n vB v2 ∧ Chg F w w' := by
  obtain ⟨A, c, rfl, hlc, hcm⟩ := hr.rd.sliceN (List.length_map _)
  unfold maxLen at hcm
  obtain ⟨AB, cB, rfl⟩ := hd.slB
  obtain ⟨AW, cW, rfl⟩ := hd.slW
  have c0 := hd.c0
  have hdd := hd.ext (Ext.dr (Ext.refl w))
  have c1 : w.drew.cell? ⟨g, 1, none⟩ = some (.slice AW us.length cW) := hdd.c1
  have KC := Lib.hid (Clone_any l _ w.drew (hr.rd.ext (Ext.dr (Ext.refl w))) (by omega))
  have HD := Lib.hid hdd
  have q1 : (i : Int) ≤ (bs.length : Int) - (l.length : Int) := by omega
  clear hd hr _ha _hH hdd
  go_enter Try.func74, Try.ntmps74
  go_wp2
  have uOne : ∀ (A : Option Addr) (n c : Nat), (Value.slice A n c).oneCell' = true := fun _ _ _ => rfl
  go_region_law (first | (go_simp; (go_at_call 52; refine KC.out.mono ?_; rintro e w1 ⟨v1, rfl, hg1⟩; obtain ⟨A1, k1, rfl⟩ := hg1.slice_ (List.length_map _); have hd1 := HD.out.ext hg1.ext; have c11 := hd1.c1; have hlt1 := hd1.lt; have hown1 := hd1.rowW; have hu1 := uOne A1 l.length k1)) | (refine stepPush_write (gx := w1.heap.size) (.tmp 30) (.tmp 35) ?_ ?_ (.slice AW us.length cW) us.length (us.flatMap WtS.cells) hown1 ?_ (I i) (.slice A1 l.length k1) ?_ hu1 ?_ ?_ hus ?_; rfl; rfl; rfl; rfl; rfl; rfl; intro v2 w2 hn2; have hc2 := hd1.blkW hn2; have c12 := hc2.1; have f12 := hc2.2; obtain ⟨A2, k2, rfl⟩ := hn2.slice_))
  all_goals
    have hp := HD.out.pushed hg1 hn2
    have HP := Lib.hid hp
    clear hp hn2 hg1 hd1 hown1
    go_wp2
    go_ret
    refine ⟨rfl, .slice A1 l.length k1, _, HP.out.1, ?_⟩
    have hc := HP.out.2
    exact ⟨hc.os, hc.tape, hc.output, hc.size, hc.block⟩

set_option maxRecDepth 100000 in
theorem DkWrite (F H : Fp) (g : Nat) (s : DkS) (i : Int) (v : Value) (l : List UInt8) (w : World) (hd : Dk F w g s) (hr : RdF H w v (l.map B)) (ha : H.apart F) (hH : H.isIn w) (h0 : -9223372036854775808 ≤ i) (h1 : i ≤ 9223372036854775807) (hw : s.2.1.length ≤ 1000000000) :
    Calls Try.prog 74 #[.pointer (some ⟨g, 0, none⟩), .int .i64 i, v] w fun e w' => e = .returned (.int .i64 (wrE s.1.length i l.length)) ∧ Dk (F.since w w') w' g (wrD s i l) ∧ Chg F w w' := by
  have hin := hd.isIn
  obtain ⟨us, vB, vW, hd, h2⟩ := hd
  have hm := h2.many
  have hb := h2.2.2.1
  by_cases he : wrE s.1.length i l.length = 0
  · obtain ⟨hi0, hi1⟩ := wrE_ok he
    obtain ⟨j, rfl⟩ : ∃ j : Nat, i = j := ⟨i.toNat, by omega⟩
    rw [Int.toNat_natCast] at hi1
    rw [he, wrD, if_pos he]
    by_cases hl : 0 < l.length
    · refine (Write_yes F H g s.1 us s.2.2 vB vW j v l w hd hr ha hH hb hi1 hl (by omega)).mono ?_
      rintro e w' ⟨rfl, v1, v2, h3, h4⟩
      refine ⟨rfl, ⟨_, vB, v2, h3, ?_, h2.2.1, hb, fun x hx => ?_⟩, h4⟩
      · rw [Int.toNat_natCast, List.map_append, flatW_append, ← h2.1, List.map_singleton, flatW_one]
        rfl
      · rcases List.mem_append.1 hx with hx | hx
        · exact h2.2.2.2 x hx
        · obtain rfl := List.mem_singleton.1 hx
          exact ⟨hi1, hl⟩
    · have hl0 : l = [] := List.eq_nil_of_length_eq_zero (by omega)
      subst hl0
      have hs : (s.1, s.2.1 ++ spanB (j : Int).toNat [], s.2.2) = s := by simp [spanB]
      rw [hs]
      obtain ⟨A, c, rfl, hlc, hcm⟩ := hr.rd.sliceN (List.length_map _)
      obtain ⟨AB, cB, rfl⟩ := hd.slB
      have c0 := hd.c0
      have HD := Lib.hid (show Dk F w g s from ⟨us, _, vW, hd, h2⟩)
      have hj : j ≤ s.1.length := by simpa using hi1
      clear hd hr h2 he ha hH hs hi1
      go_enter Try.func74, Try.ntmps74
      go_wp2
      go_ret
      exact ⟨rfl, HD.out.mono (fun k hk => .inl hk) (hin.since (Nat.le_refl _)), Chg.refl _ _⟩
  · rw [wrD, if_neg he]
    obtain ⟨A, c, rfl, hlc, hcm⟩ := hr.rd.sliceN (List.length_map _)
    unfold maxLen at hcm
    obtain ⟨AB, cB, rfl⟩ := hd.slB
    have c0 := hd.c0
    have HD := Lib.hid (show Dk F w g s from ⟨us, _, vW, hd, h2⟩)
    clear hd hr h2 ha hH
    rcases (show i < 0 ∨ (0 ≤ i ∧ (s.1.length : Int) - (l.length : Int) < i) by
      unfold wrE at he
      split at he
      · exact .inl (by assumption)
      · split at he
        · exact .inr (by omega)
        · exact absurd rfl he) with h3 | ⟨h3, h4⟩
    · have he1 : wrE s.1.length i l.length = 1 := by rw [wrE, if_pos h3]
      rw [he1]
      clear he he1
      go_enter Try.func74, Try.ntmps74
      go_wp2
      go_ret
      exact ⟨rfl, HD.out.mono (fun k hk => .inl hk) (hin.since (Nat.le_refl _)), Chg.refl _ _⟩
    · have he1 : wrE s.1.length i l.length = 3 := by rw [wrE, if_neg (by omega), if_pos (by omega)]
      rw [he1]
      clear he he1
      go_enter Try.func74, Try.ntmps74
      go_wp2
      go_ret
      exact ⟨rfl, HD.out.mono (fun k hk => .inl hk) (hin.since (Nat.le_refl _)), Chg.refl _ _⟩

end Go.Proofs.Ytdcmjmanalijfaa

/- Package disk: its size. -/
namespace Go.Proofs.Ytdcmjmanalijfaa
open Go.RowKit

set_option maxRecDepth 100000 in
theorem DkSize (F : Fp) (g : Nat) (s : DkS) (w : World) (hd : Dk F w g s) :
    Calls Try.prog 29 #[.pointer (some ⟨g, 0, none⟩)] w fun e w' => e = .returned (.int .i64 (s.1.length : Int)) ∧ Ext w w' := by
  obtain ⟨us, vB, vW, h1, h2⟩ := hd
  obtain ⟨A, c, rfl⟩ := h1.slB
  have c0 := h1.c0
  have hl : s.1.length ≤ 65536 := h2.2.2.1
  clear h1 h2
  go_enter Try.func29, Try.ntmps29
  go_wp2
  go_ret
  exact ⟨rfl, Ext.refl _⟩

end Go.Proofs.Ytdcmjmanalijfaa

/- Package slots: the slots' struct. -/
namespace Go.Proofs.Ytdcmjmanalijfaa
open Go.RowKit

/-- The slots at h, on the disk at g: their place, their size. -/
def Sl (G : Fp) (w : World) (h g f z : Nat) : Prop :=
  ObjF G w h 101 #[.pointer (some ⟨g, 0, none⟩), .int .i64 (f : Int), .int .i64 (z : Int)] []

section
variable {F G : Fp} {w w' : World} {h g f z : Nat}
theorem Sl.isIn (hl : Sl G w h g f z) : G.isIn w := ObjF.isIn hl
theorem Sl.chg (hl : Sl G w h g f z) (hc : Chg F w w') (ha : G.apart F) : Sl G w' h g f z := ObjF.chg hl hc ha
theorem Sl.mono (hl : Sl G w h g f z) (hf : ∀ k, G k → F k) (hi : F.isIn w) : Sl F w h g f z := ObjF.mono hl hf hi
theorem Sl.ext (hl : Sl G w h g f z) (hx : Ext w w') : Sl G w' h g f z := ObjF.ext hl hx
theorem Sl.c0 (hl : Sl G w h g f z) : w.cell? ⟨h, 0, none⟩ = some (.pointer (some ⟨g, 0, none⟩)) := (ObjF.blk hl).cell 0
theorem Sl.c1 (hl : Sl G w h g f z) : w.cell? ⟨h, 1, none⟩ = some (.int .i64 (f : Int)) := (ObjF.blk hl).cell 1
theorem Sl.c2 (hl : Sl G w h g f z) : w.cell? ⟨h, 2, none⟩ = some (.int .i64 (z : Int)) := (ObjF.blk hl).cell 2
theorem Sl.lt (hl : Sl G w h g f z) : h < w.heap.size := (ObjF.blk hl).lt
end

end Go.Proofs.Ytdcmjmanalijfaa

/- Layer 2, the reference: the register behind some bytes, the sum, and a number's four bytes. -/
namespace Go.Proofs.Ytdcmjmanalijfaa
open Go.RowKit

set_option maxHeartbeats 1000000 in
theorem Behind_any (l : List UInt8) (v : Value) (r : BitVec 32) (w : World) (hr : Rd w v (l.map B)) :
    Calls Try.prog 94 #[.int .i64 (r.toNat : Int), v] w fun e w' => e = .returned (.int .i64 ((crcAll r l).toNat : Int)) ∧ w = w' := by
  obtain ⟨A, c, rfl, hlc, hcm, hca⟩ := hr
  simp only [List.length_map] at *
  unfold maxLen at hcm
  go_enter Try.func94, Try.ntmps94
  go_wp2
  go_loop [0, 5] (fun s i => ∃ k : Nat, k ≤ l.length ∧ i = .int .i64 k ∧ s = .int .i64 ((crcAll r (l.take k)).toNat : Int)) (fun _ i => l.length - (intOf i).toNat)
  case atStart => exact ⟨0, Nat.zero_le _, rfl, rfl⟩
  case round =>
    obtain ⟨k, hk, rfl, rfl⟩ := hrel
    by_cases hlt : k < l.length
    · obtain ⟨b, o, rfl, hb, hc1⟩ := hca (by omega)
      have e1 : w.cell? ⟨b, o + k, none⟩ = some (B l[k]) := hc1 k _ (by simp [hlt])
      clear hc1 hca
      have hs := crcAll_snoc hlt r
      have HS := Lib.hid hs
      clear hs
      generalize hx : l[k] = x at e1
      have HX := Lib.hid hx
      clear hx
      simp only [B] at e1
      generalize crcAll r (List.take k l) = q at *
      have hxo := xorI64 q x
      have hx8 : x.toNat ≤ 255 := by have := x.toNat_lt; omega
      generalize hy : q ^^^ BitVec.ofNat 32 x.toNat = y at hxo
      have HY := Lib.hid hy
      clear hy
      go_wp2
      clear hxo
      go_loop [0, 6] (fun s i => ∃ j : Nat, j ≤ 8 ∧ i = .int .i64 j ∧ s = .int .i64 ((crcBits j y).toNat : Int)) (fun _ i => 8 - (intOf i).toNat)
      case atStart => exact ⟨0, Nat.zero_le _, rfl, rfl⟩
      case round =>
        obtain ⟨j, hj, rfl, rfl⟩ := hrel
        by_cases hlj : j < 8
        · have hbs := crcBits_succ j y
          have HB := Lib.hid hbs
          clear hbs
          generalize crcBits j y = z at *
          have hz : z.toNat ≤ 4294967295 := by have := z.isLt; omega
          rcases Nat.mod_two_eq_zero_or_one z.toNat with h0 | h1
          · have hev := crcBit_even h0
            have HE := Lib.hid hev
            have hlow : ((z.toNat : Int) % 2 == 1) = false := by rw [beq_eq_false_iff_ne]; omega
            clear hev h0
            go_wp2
            go_round
            case rel => exact ⟨j + 1, by omega, by go_num, by rw [HB.out, ← HE.out]; go_num⟩
            case measure => simp [intOf]; omega
          · have hod := polyI64 h1
            have hlow : ((z.toNat : Int) % 2 == 1) = true := by rw [beq_iff_eq]; omega
            clear h1
            go_wp2
            go_round
            case rel => exact ⟨j + 1, by omega, by go_num, by rw [HB.out]⟩
            case measure => simp [intOf]; omega
        · obtain rfl : j = 8 := by omega
          go_wp2
          go_round
          case rel => exact ⟨k + 1, by omega, by go_num, by rw [HS.out, HX.out]; rw [crcByte, HY.out]⟩
          case measure => simp [intOf]; omega
    · obtain rfl : k = l.length := by omega
      rw [List.take_length]
      go_wp2
      go_ret
      exact ⟨rfl, rfl⟩

theorem RefPut_any (n : Int) (w : World) (_h0 : -9223372036854775808 ≤ n) (_h1 : n ≤ 9223372036854775807) :
    Calls Try.prog 80 #[.int .i64 n] w fun e w' => ∃ v', e = .returned v' ∧ Rd w' v' ((putB n).map B) ∧ Ext w w' := by
  go_enter Try.func80, Try.ntmps80
  go_wp2
  go_ret
  obtain ⟨e1, e2, e3, e4⟩ := ref_put n
  rw [e1, e2, e3, e4]
  have h := Rd.litB w (putB n) #[Value.int .u8 (n / 16777216 % 256), Value.int .u8 (n / 65536 % 256), Value.int .u8 (n / 256 % 256), Value.int .u8 (n % 256)] 5 4 w.heap.size (by simp [putB]) (by simp only [putB, B, u8_mod, List.map_cons, List.map_nil]) rfl rfl
  exact ⟨_, rfl, h, (Below.refl _ _).alloc (Nat.le_refl _) _⟩

theorem RefOf_any (l : List UInt8) (v : Value) (w : World) (hr : Rd w v (l.map B)) :
    Calls Try.prog 81 #[v] w fun e w' => e = .returned (.int .i64 ((crcOf l).toNat : Int)) ∧ w = w' := by
  have hq : (4294967295 : Int) - ((crcAll (~~~ 0#32) l).toNat : Int) = ((crcOf l).toNat : Int) := by rw [crcOf, not_nat]; have := (crcAll (~~~ 0#32) l).isLt; omega
  have hb : (crcAll (~~~ 0#32) l).toNat ≤ 4294967295 := by have := (crcAll (~~~ 0#32) l).isLt; omega
  have H := Lib.hid hq
  clear hq
  go_enter Try.func81, Try.ntmps81
  go_wp2_with fail
  refine (Behind_any l v (~~~ 0#32) _ hr).mono ?_
  rintro e w' ⟨rfl, rfl⟩
  go_wp2
  go_ret
  exact ⟨by rw [← H.out]; rfl, rfl⟩

end Go.Proofs.Ytdcmjmanalijfaa

/- The reference's layer 1: a number's bytes. -/
namespace Go.Proofs.Ytdcmjmanalijfaa
open Go.RowKit

theorem RefIs_yes (n : Int) (w : World) (h0 : 0 ≤ n) (h1 : n < 9007199254740992) :
    Calls Try.prog 78 #[.int .i64 n] w fun e w' => e = .returned (.bool true) ∧ w = w' := by
  go_enter Try.func78, Try.ntmps78
  go_wp2
  go_ret
  exact ⟨rfl, rfl⟩

theorem RefIs_no (n : Int) (w : World) (h : ¬ (0 ≤ n ∧ n < 9007199254740992)) :
    Calls Try.prog 78 #[.int .i64 n] w fun e w' => e = .returned (.bool false) ∧ w = w' := by
  by_cases h0 : 0 ≤ n
  · have h1 : 9007199254740992 ≤ n := by omega
    have h2 : decide (n < 9007199254740992) = false := by simp; omega
    clear h
    go_enter Try.func78, Try.ntmps78
    go_wp2
    go_ret
    exact ⟨rfl, rfl⟩
  · clear h
    go_enter Try.func78, Try.ntmps78
    go_wp2
    go_ret
    exact ⟨rfl, rfl⟩

theorem RefNum_no (n : Int) (w : World) (hn : ¬ (0 ≤ n ∧ n < 9007199254740992)) :
    Calls Try.prog 50 #[.int .i64 n] w fun e w' => e = .returned (.slice none 0 0) ∧ w = w' := by
  have H := Lib.hid hn
  clear hn
  go_enter Try.func50, Try.ntmps50
  go_wp2
  refine wp_loop_rounds 1 ?_
  rw [rounds_succ]
  go_wp2_with (first | (go_at_call 78; refine (RefIs_no _ _ H.out).mono ?_; rintro e w' ⟨rfl, rfl⟩))
  go_ret
  exact ⟨rfl, rfl⟩

def ifz : Nat → Nat
  | 0 => 1
  | _ + 1 => 0

/-- The reference's bytes while it goes: of n, l has been put, m is left; the last byte is without its bit. -/
def NumSt (n : Nat) (l : List UInt8) (m : Nat) : Prop :=
  (l = [] ∧ m = n) ∨ ∃ l0 c, l = l0 ++ [c] ∧ c.toNat < 128 ∧ ((m = 0 ∧ l = numB n) ∨ (0 < m ∧ l0 ++ (c + 128) :: numB m = numB n))

theorem u8_add128 {c : UInt8} (h : c.toNat < 128) : ((c + 128).toNat : Int) = (c.toNat : Int) + 128 := by
  rw [UInt8.toNat_add]
  have : (128 : UInt8).toNat = 128 := rfl
  omega

theorem u8_ofNat_add (m : Nat) : UInt8.ofNat (m % 128) + 128 = UInt8.ofNat (m % 128 + 128) := by
  apply UInt8.toNat_inj.1
  rw [UInt8.toNat_add, u8_toNat, u8_toNat]
  have : (128 : UInt8).toNat = 128 := rfl
  omega

theorem numB_end (m : Nat) (pre : List UInt8) : (m / 128 = 0 → pre ++ [UInt8.ofNat (m % 128)] = pre ++ numB m) ∧ (0 < m / 128 → pre ++ (UInt8.ofNat (m % 128) + 128) :: numB (m / 128) = pre ++ numB m) := by
  refine ⟨fun h => ?_, fun h => ?_⟩
  · rw [numB_lo (by omega), Nat.mod_eq_of_lt (by omega)]
  · rw [numB_hi (n := m) (by omega), u8_ofNat_add]

theorem NumSt.first (n : Nat) : NumSt n [UInt8.ofNat (n % 128)] (n / 128) := by
  have he := numB_end n []
  refine .inr ⟨[], _, rfl, by rw [u8_toNat]; omega, ?_⟩
  rcases Nat.eq_zero_or_pos (n / 128) with h | h
  · exact .inl ⟨h, by simpa using he.1 h⟩
  · exact .inr ⟨h, by simpa using he.2 h⟩

theorem NumSt.next {n m : Nat} {l0 : List UInt8} {c : UInt8} (h : l0 ++ (c + 128) :: numB m = numB n) : NumSt n ((l0 ++ [c + 128]) ++ [UInt8.ofNat (m % 128)]) (m / 128) := by
  have he := numB_end m (l0 ++ [c + 128])
  refine .inr ⟨l0 ++ [c + 128], _, rfl, by rw [u8_toNat]; omega, ?_⟩
  rcases Nat.eq_zero_or_pos (m / 128) with h0 | h0
  · refine .inl ⟨h0, ?_⟩
    rw [he.1 h0, ← h]
    simp
  · refine .inr ⟨h0, ?_⟩
    rw [he.2 h0, ← h]
    simp

set_option maxRecDepth 100000 in
set_option maxHeartbeats 2000000 in
theorem RefNum_yes (n : Nat) (w : World) (hn : n < 9007199254740992) :
    Calls Try.prog 50 #[.int .i64 n] w fun e w' => ∃ v', e = .returned v' ∧ Grew w.heap.size 5 (.slice none 0 0) w ((numB n).map B) v' w' := by
  go_enter Try.func50, Try.ntmps50
  go_wp2
  go_loopw [0, 3, 4] (fun n' v' i' wr => ∃ (m : Nat) (l : List UInt8), n' = .int .i64 m ∧ i' = .int .i64 l.length ∧ m < 9007199254740992 ∧ NumSt n l m ∧ Grew w.heap.size 5 (.slice none 0 0) w (l.map B) v' wr) (fun n' _ i' _ => (intOf n').toNat + ifz (intOf i').toNat)
  case atStart => exact ⟨n, [], rfl, rfl, hn, .inl ⟨rfl, rfl⟩, Grew.nil w⟩
  case round =>
    obtain ⟨m, l, rfl, rfl, hm, hst, hg⟩ := hrel
    rcases hst with ⟨rfl, rfl⟩ | ⟨l0, c, rfl, hc, hst⟩
    · have hbw := hg.size
      simp only [List.length_nil]
      go_wp2_with (first | (go_at_call 78; refine (RefIs_yes _ _ (by omega) (by omega)).mono ?_; rintro e w' ⟨rfl, rfl⟩) | (at_builtin; refine push_u8 rfl _ _ rfl w.heap.size _ _ rfl hg.1 _ rfl rfl (by simp) hbw ?_; intro v' w' hg'))
      go_roundw
      case rel =>
        have hgg := hg.trans hg'
        rw [B_eq (u := UInt8.ofNat (m % 128)) (by rw [u8_toNat]; omega)] at hgg
        exact ⟨m / 128, [UInt8.ofNat (m % 128)], by go_num, rfl, by omega, NumSt.first m, by simpa using hgg⟩
      case measure => simp [intOf, ifz]; omega
    · have hlb : l0.length < 8 := by
        have h8 := numB_len8 hn
        rcases hst with ⟨_, h⟩ | ⟨_, h⟩
        · have := congrArg List.length h
          simp only [List.length_append, List.length_singleton] at this
          omega
        · have := congrArg List.length h
          simp only [List.length_append, List.length_cons] at this
          omega
      have hib : ((l0.length : Int) + 1 == 0) = false := by rw [beq_eq_false_iff_ne]; omega
      simp only [List.length_append, List.length_singleton, Int.natCast_add, Int.natCast_one]
      rcases hst with ⟨rfl, hfin⟩ | ⟨hpos, hst⟩
      · have hF := Lib.hid hfin
        clear hfin
        simp only [Int.natCast_zero]
        go_wp2_with (first | (go_at_call 78; refine (RefIs_yes _ _ (by omega) (by omega)).mono ?_; rintro e w' ⟨rfl, rfl⟩))
        go_ret
        exact ⟨_, rfl, by rw [← hF.out]; exact hg⟩
      · have hS := Lib.hid hst
        clear hst
        obtain ⟨g, cap, rfl, hcap, hgb, hgl⟩ := hg.form (by simp)
        have hc1 : wr.cell? ⟨g, l0.length, none⟩ = some (.int .u8 (c.toNat : Int)) := by
          rw [hg.cellAt _ (by simp)]
          simp
        have hf1 := hg.frozenAt l0.length
        have hcc : (c.toNat : Int) < 128 := by omega
        have HC := Lib.hid (u8_add128 hc)
        have hg2 := hg.set l0.length (.int .u8 ((c.toNat : Int) + 128))
        have hbw := hg2.size
        rw [show ((l0 ++ [c]).map B).set l0.length (.int .u8 ((c.toNat : Int) + 128)) = (l0 ++ [c + 128]).map B by
          rw [B_eq (u := c + 128) HC.out.symm]
          simp [List.set_append_right]] at hg2
        have hlt : ((l0 ++ [c + 128]).map B).length < 140737488355328 := by simp; omega
        generalize hcn : c.toNat = cn at hc1 hcc hc hg2 hbw
        have HCN := Lib.hid hcn
        clear hcn
        rw [List.length_map, List.length_append, List.length_singleton] at hg2 ⊢
        go_wp2_with (first | (go_at_call 78; refine (RefIs_yes _ _ (by omega) (by omega)).mono ?_; rintro e w' ⟨rfl, rfl⟩) | (at_builtin; refine push_u8 rfl _ _ rfl w.heap.size _ _ rfl hg2.1 _ rfl rfl hlt hbw ?_; intro v' w' hg'))
        go_roundw
        case rel =>
          have hgg := hg2.trans hg'
          rw [B_eq (u := UInt8.ofNat (m % 128)) (by rw [u8_toNat]; omega)] at hgg
          exact ⟨m / 128, (l0 ++ [c + 128]) ++ [UInt8.ofNat (m % 128)], by go_num, by simp; omega, by omega, NumSt.next hS.out, by simpa using hgg⟩
        case measure =>
          simp only [intOf]
          rw [show ((l0.length : Int) + 1 + 1).toNat = l0.length + 1 + 1 by omega, show ((l0.length : Int) + 1).toNat = l0.length + 1 by omega, ifz, ifz]
          omega

end Go.Proofs.Ytdcmjmanalijfaa

/- The reference's words for 'the same bytes'. -/
namespace Go.Proofs.Ytdcmjmanalijfaa
open Go.RowKit

set_option maxHeartbeats 1000000 in
theorem Bytes_any (xs ys : List UInt8) (u v : Value) (w : World) (hu : Rd w u (xs.map B)) (hv : Rd w v (ys.map B)) :
    Calls Try.prog 23 #[u, v] w fun e w' => e = .returned (.bool (decide (xs = ys))) ∧ ∃ n, w' = w.drewN n := by
  obtain ⟨A, c, rfl, hlc, hcm, hca⟩ := hu
  obtain ⟨A', c', rfl, hlc', hcm', hcb⟩ := hv
  simp only [List.length_map] at *
  unfold maxLen at hcm hcm'
  by_cases hl : xs.length = ys.length
  · have HL := Lib.hid hl
    rw [hl] at hlc hca ⊢
    clear hl
    go_enter Try.func23, Try.ntmps23
    go_wp2
    go_loopw [5] (fun i' wr => ∃ i k : Nat, i' = .int .i64 i ∧ i ≤ ys.length ∧ xs.take i = ys.take i ∧ wr = w.drewN k) (fun i' _ => ys.length - (intOf i').toNat)
    case atStart => exact ⟨0, 0, rfl, by omega, rfl, rfl⟩
    case round =>
      obtain ⟨i, k, rfl, hi, htk, rfl⟩ := hrel
      have HT := Lib.hid htk
      clear htk
      by_cases hlt : i < ys.length
      · have hlx : i < xs.length := by have := HL.out; omega
        obtain ⟨b, o, rfl, hb, hc1⟩ := hca (by omega)
        obtain ⟨b', o', rfl, hb', hc2⟩ := hcb (by omega)
        have e1 : w.cell? ⟨b, o + i, none⟩ = some (B xs[i]) := hc1 i _ (by simp [hlx])
        have e2 : w.cell? ⟨b', o' + i, none⟩ = some (B ys[i]) := hc2 i _ (by simp [hlt])
        clear hc1 hc2 hca hcb
        generalize hx : xs[i] = x at e1
        generalize hy : ys[i] = y at e2
        have HX := Lib.hid hx
        have HY := Lib.hid hy
        clear hx hy
        simp only [B] at e1 e2
        by_cases hxy : x = y
        · subst hxy
          go_wp2
          go_quiet (fail)
          go_wp2
          go_roundw
          case rel => exact ⟨i + 1, _, by go_num, by omega, by rw [take_snoc _ _ hlx, take_snoc _ _ hlt, HT.out, HX.out, HY.out], rfl⟩
          case measure => simp [intOf]; omega
        · have hne : ((x.toNat : Int) == (y.toNat : Int)) = false := by rw [beq_eq_false_iff_ne]; intro e; exact hxy (by first | exact UInt8.toNat_inj.1 (by omega) | omega)
          have hne2 : ((x.toNat : Int) != (y.toNat : Int)) = true := by rw [bne_iff_ne]; intro e; exact hxy (by first | exact UInt8.toNat_inj.1 (by omega) | omega)
          have HN := Lib.hid hxy
          clear hxy
          go_wp2
          go_quiet (fail)
          go_wp2
          go_ret
          refine ⟨?_, _, World.drewN_drewN _ _ _⟩
          rw [decide_eq_false (fun e => HN.out (by rw [← HX.out, ← HY.out]; simp only [e]))]
          rfl
      · obtain rfl : i = ys.length := by omega
        go_wp2
        go_ret
        refine ⟨?_, _, rfl⟩
        have := HT.out
        rw [List.take_length, ← HL.out, List.take_length] at this
        rw [decide_eq_true this]
        rfl
  · have hlb : ((xs.length : Int) == (ys.length : Int)) = false := by rw [beq_eq_false_iff_ne]; omega
    have H := Lib.hid hl
    clear hl
    go_enter Try.func23, Try.ntmps23
    go_wp2
    go_ret
    exact ⟨by rw [decide_eq_false (fun e => H.out (by rw [e]))]; rfl, 0, rfl⟩

end Go.Proofs.Ytdcmjmanalijfaa

/- Layer 3, the reference: a payload's frame. -/
namespace Go.Proofs.Ytdcmjmanalijfaa
open Go.RowKit

theorem B_one : Value.int .u8 1 = B 1 := rfl

set_option maxHeartbeats 1000000 in
theorem RefFrame_yes (p : List UInt8) (v : Value) (w : World) (hr : Rd w v (p.map B)) (hp : 1 ≤ p.length ∧ p.length ≤ 4000) :
    Calls Try.prog 54 #[v] w fun e w' => ∃ v', e = .returned v' ∧ Grew w.heap.size 5 (.slice none 0 0) w ((frameB p).map B) v' w' := by
  obtain ⟨A, c, rfl, hlc, hcm⟩ := hr.sliceN (List.length_map _)
  unfold maxLen at hcm
  have hl8 := numB_len8 (n := p.length) (by omega)
  have hd1 : decide ((p.length : Int) < 1) = false := by simp; omega
  have hd2 : decide (4000 < (p.length : Int)) = false := by simp; omega
  have hs1 : ((crcOf p).toNat : Int) ≤ 9223372036854775807 := by have := (crcOf p).isLt; omega
  have hs0 : -9223372036854775808 ≤ ((crcOf p).toNat : Int) := by omega
  have hle := hp.2
  have HP := Lib.hid hp
  have hp2 : p.length < 9007199254740992 := by omega
  clear hp
  go_enter Try.func54, Try.ntmps54
  go_wp2_with fail
  refine (RefNum_yes p.length _ hp2).mono ?_
  rintro e w2 ⟨v2, rfl, hg2⟩
  obtain ⟨A2, c2, rfl⟩ := hg2.slice_ (n := (numB p.length).length) (List.length_map _)
  have hr2 := Rd.own hg2.own
  have hx2 := hg2.ext
  have hp2 := hr.ext hx2
  clear hg2
  go_wp2_with (first | (at_builtin; refine app_u8 rfl _ _ rfl w2.heap.size _ [] rfl (World.ownsRow_nil _ _ _ _) _ (numB p.length) rfl hr2 (by simp; omega) (Nat.le_refl _) ?_; intro v3 w3 hg3; rw [List.nil_append] at hg3; obtain ⟨A3, c3, rfl⟩ := hg3.slice_ (n := (numB p.length).length) (by rw [List.length_map])) | (at_builtin; refine app_u8 rfl _ _ rfl w2.heap.size _ _ rfl hg3.1 _ p rfl (hp2.ext hg3.ext) (by rw [List.length_map]; omega) hg3.size ?_; intro v4 w4 hh4; have hg4 := hg3.trans hh4; rw [← List.map_append] at hg4; obtain ⟨A4, c4, rfl⟩ := hg4.slice_ (n := (numB p.length).length + p.length) (by rw [List.length_map, List.length_append]); clear hh4))
  have hp4 := hp2.ext hg4.ext
  refine (RefOf_any p _ _ hp4).mono ?_
  rintro e w5 ⟨rfl, rfl⟩
  go_wp2_with fail
  refine (RefPut_any _ _ hs0 hs1).mono ?_
  rintro e w5 ⟨v5, rfl, hr5, hx5⟩
  obtain ⟨A5, c5, rfl, _, _⟩ := hr5.sliceN (n := 4) rfl
  have hg5 := hg4.step hx5
  clear hg3 hg4 hp4 hx5
  go_wp2_with (first | (at_builtin; refine app_u8 rfl _ _ rfl w2.heap.size _ _ rfl hg5.1 _ (putB ((crcOf p).toNat : Int)) rfl hr5 (by rw [List.length_map, List.length_append, putB_len]; omega) hg5.size ?_; intro v6 w6 hh6; have hg6 := hg5.trans hh6; rw [← List.map_append] at hg6; obtain ⟨A6, c6, rfl⟩ := hg6.slice_ (n := (numB p.length).length + p.length + 4) (by rw [List.length_map, List.length_append, List.length_append, putB_len]); clear hh6) | (at_builtin; refine push_u8 rfl _ _ rfl w2.heap.size _ _ rfl hg6.1 _ rfl rfl (by rw [List.length_map, List.length_append, List.length_append, putB_len]; omega) hg6.size ?_; intro v7 w7 hg7))
  have hg8 := hg6.trans hg7
  rw [B_one] at hg8
  go_ret
  refine ⟨_, rfl, ?_⟩
  have e : (frameB p).map B = List.map B (numB p.length ++ p ++ putB ((crcOf p).toNat : Int)) ++ [B 1] := by
    rw [frameB_yes HP.out]
    simp
  rw [e]
  exact Grew.from_ext hx2 hg8

theorem RefFrame_no (p : List UInt8) (v : Value) (w : World) (hr : Rd w v (p.map B)) (hp : ¬ (1 ≤ p.length ∧ p.length ≤ 4000)) :
    Calls Try.prog 54 #[v] w fun e w' => e = .returned (.slice none 0 0) ∧ w = w' := by
  obtain ⟨A, c, rfl, hlc, hcm⟩ := hr.sliceN (List.length_map _)
  unfold maxLen at hcm
  by_cases h1 : p.length < 1
  · have hd1 : decide ((p.length : Int) < 1) = true := by simp; omega
    clear hp
    go_enter Try.func54, Try.ntmps54
    go_wp2
    go_ret
    exact ⟨rfl, rfl⟩
  · have hd1 : decide ((p.length : Int) < 1) = false := by simp; omega
    have hd2 : decide (4000 < (p.length : Int)) = true := by simp; omega
    clear hp
    go_enter Try.func54, Try.ntmps54
    go_wp2
    go_ret
    exact ⟨rfl, rfl⟩

theorem RefFrame_any (p : List UInt8) (v : Value) (w : World) (hr : Rd w v (p.map B)) :
    Calls Try.prog 54 #[v] w fun e w' => ∃ v', e = .returned v' ∧ Grew w.heap.size 5 (.slice none 0 0) w ((frameB p).map B) v' w' := by
  by_cases hp : 1 ≤ p.length ∧ p.length ≤ 4000
  · exact RefFrame_yes p v w hr hp
  · refine (RefFrame_no p v w hr hp).mono ?_
    rintro e w' ⟨rfl, rfl⟩
    rw [frameB_no hp]
    exact ⟨_, rfl, Grew.nil w⟩

end Go.Proofs.Ytdcmjmanalijfaa

/- Layer 1: what its lists and what is read at a place come to, as values. -/
namespace Go.Proofs.Ytdcmjmanalijfaa
open Go.RowKit

/-- What GetNum answers at a place from 0 on. -/
def numAt (bs : List UInt8) (p : Nat) : Value := match getN (bs.drop p) with
  | some (n, j) => .tuple #[.int .i64 (n : Int), .int .i64 ((p + j : Nat) : Int), .bool true]
  | none => .tuple #[.int .i64 0, .int .i64 0, .bool false]

def ListPost (l : List Int) (w : World) (e : Ending) (w' : World) : Prop :=
  (∃ v, e = .returned v ∧ l.all isNumB = true ∧ Grew w.heap.size 5 (.slice none 0 0) w ((listB l).map B) v w') ∨ (e = .returned (.slice none 0 0) ∧ l.all isNumB = false ∧ Ext w w')

/-- What GetList answers. -/
def GLPost (r : Option (List Nat × Nat)) (w : World) (e : Ending) (w' : World) : Prop := match r with
  | some (l, q) => ∃ v', e = .returned (.tuple #[v', .int .i64 (q : Int), .bool true]) ∧ w'.ownsRow w.heap.size 3 1 v' l.length (l.map fun (n : Nat) => Value.int .i64 n) ∧ Ext w w'
  | none => e = .returned (.tuple #[.slice none 0 0, .int .i64 0, .bool false]) ∧ Ext w w'

end Go.Proofs.Ytdcmjmanalijfaa

/- The reference's layer 1: the number at a place. -/
namespace Go.Proofs.Ytdcmjmanalijfaa
open Go.RowKit

def GNRel (bs : List UInt8) (p : Nat) (n' s' i' : Value) : Prop :=
  ∃ (i acc st : Nat), i' = .int .i64 i ∧ n' = .int .i64 acc ∧ s' = .int .i64 st ∧ Hid (st = 128 ^ i) ∧ i ≤ 8 ∧ acc < 128 ^ i ∧ Hid (scanN (8 - i) (bs.drop (p + i)) i acc = getN (bs.drop p))

set_option maxRecDepth 100000 in
set_option maxHeartbeats 4000000 in
theorem RefGetNum_at (bs : List UInt8) (v : Value) (p : Nat) (w : World) (hr : Rd w v (bs.map B)) (hp63 : p < 9223372036854775808) :
    Calls Try.prog 39 #[v, .int .i64 p] w fun e w' => e = .returned (numAt bs p) ∧ Ext w w' := by
  obtain ⟨A, c, rfl, hlc, hcm, hcell⟩ := hr
  simp only [List.length_map] at *
  unfold maxLen at hcm
  by_cases hpl : p < bs.length
  · obtain ⟨b, o, rfl, hbl, hce⟩ := hcell (by omega)
    clear hcell
    go_enter Try.func39, Try.ntmps39
    go_wp2
    go_loop [7, 8, 9] (fun n' s' i' => GNRel bs p n' s' i') (fun _ _ i' => 8 - (intOf i').toNat)
    case atStart => exact ⟨0, 0, 1, rfl, rfl, rfl, rfl, by omega, by omega, rfl⟩
    case round =>
      obtain ⟨i, acc, st, rfl, rfl, rfl, hst, hi, hacc, hsc0⟩ := hrel
      have hsc := hsc0.out
      clear hsc0
      by_cases h8 : i < 8
      · by_cases hp : p + i < bs.length
        · have hc1 : w.cell? ⟨b, o + (p + i), none⟩ = some (B bs[p + i]) := hce (p + i) _ (by simp [hp])
          clear hce
          rw [show 8 - i = (7 - i) + 1 by omega, scanN_step i acc (drop_cons hp)] at hsc
          have hcl := bs[p + i].toNat_lt
          unfold B at hc1
          generalize bs[p + i].toNat = c at hc1 hsc hcl
          have hlt := group_lt i acc c h8 hacc
          have hl8 := pow128_le (show i + 1 ≤ 8 by omega)
          have hl7 := pow128_le (show i ≤ 7 by omega)
          have hst7 : st ≤ 562949953421312 := by have := hst.out; omega
          have hlen := fun hc => numB_group_len (c := c) hacc hc
          have hq : Hid (128 ^ i * (c % 128) = st * (c % 128)) := by unfold Hid; rw [hst.out]
          rw [hq.out] at hlt hsc hlen
          have hql : st * (c % 128) ≤ 71494644084506624 := Nat.le_trans (Nat.mul_le_mul hst7 (show c % 128 ≤ 127 by omega)) (by omega)
          have hqc : (st : Int) * ((c : Int) % 128) = ((st * (c % 128) : Nat) : Int) := by simp
          generalize st * (c % 128) = q at *
          have hw1 : IntKind.i64.wrap ((st : Int) * ((c : Int) % 128)) = (q : Int) := by rw [hqc]; exact IntWalk.i64_in _ (by omega)
          clear hqc
          generalize hN : acc + q = N at hsc hlt hlen
          have hNi : (acc : Int) + (q : Int) = (N : Int) := by omega
          have hw2 : IntKind.i64.wrap ((acc : Int) + (q : Int)) = (N : Int) := by rw [hNi]; exact IntWalk.i64_in _ (by omega)
          have HN := Lib.hid hN
          clear hN
          by_cases hc : 128 ≤ c
          · rw [if_pos hc] at hsc
            have hSC := Lib.hid hsc
            have HL := Lib.hid hlen
            clear hsc hlen
            clear hNi
            go_wp2
            refine ⟨⟨_, _, _, _, _, _, ⟨i + 1, N, st * 128, rfl, rfl, rfl, by unfold Hid; rw [hst.out, Nat.pow_succ], by omega, hlt, by unfold Hid; rw [← hSC.out, show 8 - (i + 1) = 7 - i by omega]; rfl⟩, rfl, rfl, rfl, rfl, by go_num, by go_num⟩, ?_⟩
            simp [intOf]; omega
          · rw [if_neg hc] at hsc
            have hln := hlen (by omega)
            clear hlen
            by_cases hn : 9007199254740992 ≤ N
            · rw [if_pos (.inl hn)] at hsc
              have hF : Hid (numAt bs p = .tuple #[.int .i64 0, .int .i64 0, .bool false]) := by unfold Hid; rw [numAt, ← hsc]
              have hno : Hid (¬ (0 ≤ (N : Int) ∧ (N : Int) < 9007199254740992)) := by unfold Hid; omega
              have hib : (((0 : Int) == (i : Int) + 1) = false) := by rw [beq_eq_false_iff_ne]; omega
              have hib2 : (((0 : Int) != (i : Int) + 1) = true) := by rw [bne_iff_ne]; omega
              clear hsc hn hln hNi
              go_wp2_with (go_at_call 50; refine (RefNum_no _ _ hno.out).mono ?_; rintro e w2 ⟨rfl, rfl⟩)
              go_ret3
              exact ⟨by rw [hF.out]; rfl, Ext.refl _⟩
            · have hnl : N < 9007199254740992 := by omega
              have hNL := Lib.hid hnl
              by_cases hc0 : c = 0 ∧ 0 < i
              · rw [if_pos (.inr hc0)] at hsc
                have hF : Hid (numAt bs p = .tuple #[.int .i64 0, .int .i64 0, .bool false]) := by unfold Hid; rw [numAt, ← hsc]
                have hne : ¬ (numB N).length = i + 1 := fun h => (hln.1 h) hc0
                have hib : (((numB N).length : Int) == (i : Int) + 1) = false := by rw [beq_eq_false_iff_ne]; omega
                have hib2 : (((numB N).length : Int) != (i : Int) + 1) = true := by rw [bne_iff_ne]; omega
                clear hsc hn hnl hln hNi hne hc0
                go_wp2_with (go_at_call 50; refine (RefNum_yes N _ hNL.out).mono ?_; rintro e w2 ⟨v2, rfl, hg2⟩; obtain ⟨A2, c2, rfl⟩ := hg2.slice_ (n := (numB N).length) (List.length_map _))
                go_ret3
                exact ⟨by rw [hF.out]; rfl, hg2.ext⟩
              · rw [if_neg (by omega)] at hsc
                have hF : Hid (numAt bs p = .tuple #[.int .i64 (N : Int), .int .i64 ((p + (i + 1) : Nat) : Int), .bool true]) := by unfold Hid; rw [numAt, ← hsc]
                have hne : (numB N).length = i + 1 := hln.2 hc0
                have hib : (((numB N).length : Int) == (i : Int) + 1) = true := by rw [beq_iff_eq]; omega
                have hib2 : (((numB N).length : Int) != (i : Int) + 1) = false := by rw [bne_eq_false_iff_eq]; omega
                clear hsc hn hnl hln hNi hne hc0
                go_wp2_with (go_at_call 50; refine (RefNum_yes N _ hNL.out).mono ?_; rintro e w2 ⟨v2, rfl, hg2⟩; obtain ⟨A2, c2, rfl⟩ := hg2.slice_ (n := (numB N).length) (List.length_map _))
                go_ret3
                exact ⟨by rw [hF.out]; simp; omega, hg2.ext⟩
        · rw [List.drop_eq_nil_of_le (by omega), show 8 - i = (7 - i) + 1 by omega, scanN] at hsc
          have hF : Hid (numAt bs p = .tuple #[.int .i64 0, .int .i64 0, .bool false]) := by unfold Hid; rw [numAt, ← hsc]
          clear hsc
          go_wp2
          go_ret3
          exact ⟨by rw [hF.out]; rfl, Ext.refl _⟩
      · rw [show 8 - i = 0 by omega, scanN] at hsc
        have hF : Hid (numAt bs p = .tuple #[.int .i64 0, .int .i64 0, .bool false]) := by unfold Hid; rw [numAt, ← hsc]
        clear hsc
        go_wp2
        go_ret3
        exact ⟨by rw [hF.out]; rfl, Ext.refl _⟩
  · have hF : Hid (numAt bs p = .tuple #[.int .i64 0, .int .i64 0, .bool false]) := by
      unfold Hid
      rw [numAt, List.drop_eq_nil_of_le (by omega)]
      rfl
    clear hcell
    go_enter Try.func39, Try.ntmps39
    go_wp2
    go_ret3
    exact ⟨by rw [hF.out]; rfl, Ext.refl _⟩

theorem RefGetNum_neg (bs : List UInt8) (v : Value) (p : Int) (w : World) (hr : Rd w v (bs.map B)) (hp : p < 0) :
    Calls Try.prog 39 #[v, .int .i64 p] w fun e w' => e = .returned (.tuple #[.int .i64 0, .int .i64 0, .bool false]) ∧ w = w' := by
  obtain ⟨A, c, rfl, _⟩ := hr.slice_
  go_enter Try.func39, Try.ntmps39
  go_wp2
  go_ret3
  exact ⟨rfl, rfl⟩

theorem RefGetNum_some (bs : List UInt8) (v : Value) (p n j : Nat) (w : World) (hr : Rd w v (bs.map B)) (hp63 : p < 9223372036854775808) (h : getN (bs.drop p) = some (n, j)) :
    Calls Try.prog 39 #[v, .int .i64 p] w fun e w' => e = .returned (.tuple #[.int .i64 n, .int .i64 ((p + j : Nat) : Int), .bool true]) ∧ Ext w w' := by
  have e : numAt bs p = .tuple #[.int .i64 n, .int .i64 ((p + j : Nat) : Int), .bool true] := by rw [numAt, h]
  rw [← e]
  exact RefGetNum_at bs v p w hr hp63

theorem RefGetNum_none (bs : List UInt8) (v : Value) (p : Nat) (w : World) (hr : Rd w v (bs.map B)) (hp63 : p < 9223372036854775808) (h : getN (bs.drop p) = none) :
    Calls Try.prog 39 #[v, .int .i64 p] w fun e w' => e = .returned (.tuple #[.int .i64 0, .int .i64 0, .bool false]) ∧ Ext w w' := by
  have e : numAt bs p = .tuple #[.int .i64 0, .int .i64 0, .bool false] := by rw [numAt, h]
  rw [← e]
  exact RefGetNum_at bs v p w hr hp63

end Go.Proofs.Ytdcmjmanalijfaa

/- Layer 3, the reference: what stands at a place. -/
namespace Go.Proofs.Ytdcmjmanalijfaa
open Go.RowKit

/-- What Get answers. -/
def GetPost (bs : List UInt8) (i : Int) (w : World) (e : Ending) (w' : World) : Prop :=
  ∃ v', e = .returned (.tuple #[v', .int .i64 (getF bs i).2.1, .int .i64 (getF bs i).2.2]) ∧ Grew w.heap.size 5 (.slice none 0 0) w ((getF bs i).1.map B) v' w'

theorem GetPost.none_ {bs : List UInt8} {i : Int} {w w' : World} {t : Int} (h : getF bs i = ([], i, t)) (hx : Ext w w') : GetPost bs i w (.returned (.tuple #[.slice none 0 0, .int .i64 i, .int .i64 t])) w' := by
  rw [GetPost, h]
  exact ⟨_, rfl, (Grew.nil w).step hx⟩

theorem RefGet_low (bs : List UInt8) (v : Value) (i : Int) (w : World) (hr : Rd w v (bs.map B)) (h : i < 0 ∨ (bs.length : Int) < i) : Calls Try.prog 84 #[v, .int .i64 i] w (GetPost bs i w) := by
  obtain ⟨A, c, rfl, hlc, hcm⟩ := hr.sliceN (List.length_map _)
  unfold maxLen at hcm
  have hp := GetPost.none_ (w := w) (getF_low h) (Ext.refl w)
  have HP := Lib.hid hp
  clear hp
  by_cases h0 : i < 0
  · clear h
    go_enter Try.func84, Try.ntmps84
    go_wp2
    go_ret3
    exact HP.out
  · have h1 : decide ((bs.length : Int) < i) = true := by simp; omega
    clear h
    go_enter Try.func84, Try.ntmps84
    go_wp2
    go_ret3
    exact HP.out

theorem RefGet_done (bs : List UInt8) (v : Value) (w : World) (hr : Rd w v (bs.map B)) : Calls Try.prog 84 #[v, .int .i64 (bs.length : Int)] w (GetPost bs (bs.length : Int) w) := by
  obtain ⟨A, c, rfl, hlc, hcm⟩ := hr.sliceN (List.length_map _)
  unfold maxLen at hcm
  have hp := GetPost.none_ (w := w) (getF_done bs) (Ext.refl w)
  have HP := Lib.hid hp
  clear hp
  go_enter Try.func84, Try.ntmps84
  go_wp2
  go_ret3
  exact HP.out

theorem RefGet_nought (bs : List UInt8) (v : Value) (k : Nat) (w : World) (hr : Rd w v (bs.map B)) (h : k < bs.length) (h0 : bs[k] = 0) : Calls Try.prog 84 #[v, .int .i64 (k : Int)] w (GetPost bs (k : Int) w) := by
  obtain ⟨A, c, rfl, hlc, hcm⟩ := hr.sliceN (List.length_map _)
  unfold maxLen at hcm
  have hp := GetPost.none_ (w := w) (getF_nought h h0) (Ext.refl w)
  have HP := Lib.hid hp
  clear hp
  obtain ⟨b, o, rfl, hb, hc⟩ := hr.get (by rw [List.length_map]; omega)
  have e1 : w.cell? ⟨b, o + k, none⟩ = some (.int .u8 0) := hc k _ (by rw [List.getElem?_map, List.getElem?_eq_getElem h, h0]; rfl)
  clear hc h0
  go_enter Try.func84, Try.ntmps84
  go_wp2
  go_ret3
  exact HP.out

theorem RefGet_num (bs : List UInt8) (v : Value) (k : Nat) (w : World) (hr : Rd w v (bs.map B)) (h : k < bs.length) (h0 : bs[k] ≠ 0) (hg : getN (bs.drop k) = none) : Calls Try.prog 84 #[v, .int .i64 (k : Int)] w (GetPost bs (k : Int) w) := by
  obtain ⟨A, c, rfl, hlc, hcm⟩ := hr.sliceN (List.length_map _)
  unfold maxLen at hcm
  have hf : getF bs (k : Int) = ([], (k : Int), 2) := by rw [getF_there h h0, frameAt_none hg]
  have HF := Lib.hid hf
  have HG := Lib.hid hg
  clear hf hg
  have hr0 := hr
  obtain ⟨b, o, rfl, hb, hc⟩ := hr0.get (by rw [List.length_map]; omega)
  have e1 : w.cell? ⟨b, o + k, none⟩ = some (B bs[k]) := hc k _ (by rw [List.getElem?_map, List.getElem?_eq_getElem h]; rfl)
  have hne : ((bs[k].toNat : Int) == 0) = false := by rw [beq_eq_false_iff_ne]; intro e; exact h0 (UInt8.toNat_inj.1 (by show bs[k].toNat = 0; omega))
  generalize bs[k] = x at *
  simp only [B] at e1
  clear hc h0
  go_enter Try.func84, Try.ntmps84
  go_wp2_with fail
  refine (RefGetNum_none bs _ k _ hr (by omega) HG.out).mono ?_
  rintro e w1 ⟨rfl, hx1⟩
  go_wp2
  go_ret3
  exact GetPost.none_ HF.out hx1

set_option maxHeartbeats 400000 in
theorem RefGet_size (bs : List UInt8) (v : Value) (k n j : Nat) (w : World) (hr : Rd w v (bs.map B)) (h : k < bs.length) (h0 : bs[k] ≠ 0) (hg : getN (bs.drop k) = some (n, j)) (hn : n < 1 ∨ (1 ≤ n ∧ 4000 < n) ∨ (1 ≤ n ∧ n ≤ 4000 ∧ bs.length < k + j + n)) : Calls Try.prog 84 #[v, .int .i64 (k : Int)] w (GetPost bs (k : Int) w) := by
  obtain ⟨A, c, rfl, hlc, hcm⟩ := hr.sliceN (List.length_map _)
  unfold maxLen at hcm
  have hle := getN_le hg
  rw [List.length_drop] at hle
  have hf : getF bs (k : Int) = ([], (k : Int), 2) := by rw [getF_there h h0, frameAt_no hg (by rw [List.length_drop]; omega)]
  have HF := Lib.hid hf
  have HG := Lib.hid hg
  clear hf hg
  have hr0 := hr
  obtain ⟨b, o, rfl, hb, hc⟩ := hr0.get (by rw [List.length_map]; omega)
  have e1 : w.cell? ⟨b, o + k, none⟩ = some (B bs[k]) := hc k _ (by rw [List.getElem?_map, List.getElem?_eq_getElem h]; rfl)
  have hne : ((bs[k].toNat : Int) == 0) = false := by rw [beq_eq_false_iff_ne]; intro e; exact h0 (UInt8.toNat_inj.1 (by show bs[k].toNat = 0; omega))
  generalize bs[k] = x at *
  simp only [B] at e1
  clear hc h0
  rcases hn with hn | ⟨hn1, hn2⟩ | ⟨hn1, hn2, hn3⟩
  all_goals
    go_enter Try.func84, Try.ntmps84
    go_wp2_with fail
    refine (RefGetNum_some bs _ k n j _ hr (by omega) HG.out).mono ?_
    rintro e w1 ⟨rfl, hx1⟩
    go_wp2
    go_ret3
    exact GetPost.none_ HF.out hx1

set_option maxHeartbeats 2000000 in
theorem RefGet_frame (bs : List UInt8) (v : Value) (k n j : Nat) (w : World) (hr : Rd w v (bs.map B)) (h : k < bs.length) (h0 : bs[k] ≠ 0) (hg : getN (bs.drop k) = some (n, j)) (hn : 1 ≤ n ∧ n ≤ 4000 ∧ k + j + n ≤ bs.length) : Calls Try.prog 84 #[v, .int .i64 (k : Int)] w (GetPost bs (k : Int) w) := by
  obtain ⟨A, c, rfl, hlc, hcm⟩ := hr.sliceN (List.length_map _)
  unfold maxLen at hcm
  have hle := getN_le hg
  rw [List.length_drop] at hle
  obtain ⟨p, hp⟩ : ∃ p, p = ((bs.drop k).drop j).take n := ⟨_, rfl⟩
  have hpl : p.length = n := by rw [hp, List.length_take, List.length_drop, List.length_drop]; omega
  have hfl : (frameB p).length = j + n + 5 := by
    rw [frameB_len (by omega), hpl, getN_get hg, List.length_take, List.length_drop]
    omega
  have hcut := hr.cut (k + j) n (by rw [List.length_map]; omega)
  rw [if_neg (by omega), ← List.map_drop, ← List.map_take, ← List.drop_drop, ← hp] at hcut
  have hno : (¬ (j + n + 5 ≤ bs.length - k)) → getF bs (k : Int) = ([], (k : Int), 2) := fun hc => by
    rw [getF_there h h0, frameAt_no hg (by rw [List.length_drop]; omega)]
  have hno2 : (frameB p = (bs.drop k).take (j + n + 5)) = False → getF bs (k : Int) = ([], (k : Int), 2) := fun hc => by
    rw [getF_there h h0, frameAt_no hg (by rw [← hp]; intro hh; rw [← hc]; exact hh.2.2.symm)]
  have hyes : j + n + 5 ≤ bs.length - k → frameB p = (bs.drop k).take (j + n + 5) → getF bs (k : Int) = (p, (k : Int) + ((j + n + 5 : Nat) : Int), 1) := fun hc he => by
    rw [getF_there h h0, frameAt_yes hg (by rw [List.length_drop, ← hp]; exact ⟨⟨hn.1, hn.2.1⟩, by omega, he.symm⟩), ← hp]
  have HNO := Lib.hid hno
  have HNO2 := Lib.hid hno2
  have HYES := Lib.hid hyes
  have HG := Lib.hid hg
  have HFL := Lib.hid hfl
  have HPL := Lib.hid hpl
  clear hno hno2 hyes hg hfl hp
  have hr0 := hr
  obtain ⟨b, o, rfl, hb, hc⟩ := hr0.get (by rw [List.length_map]; omega)
  have e1 : w.cell? ⟨b, o + k, none⟩ = some (B bs[k]) := hc k _ (by rw [List.getElem?_map, List.getElem?_eq_getElem h]; rfl)
  have hne : ((bs[k].toNat : Int) == 0) = false := by rw [beq_eq_false_iff_ne]; intro e; exact h0 (UInt8.toNat_inj.1 (by show bs[k].toNat = 0; omega))
  generalize bs[k] = x at *
  simp only [B] at e1
  clear hc h0 hpl
  simp only [Option.map_some, Addr.add_lit] at hcut
  obtain ⟨hn1, hn2, hn3⟩ := hn
  go_enter Try.func84, Try.ntmps84
  go_wp2_with fail
  refine (RefGetNum_some bs _ k n j _ hr (by omega) HG.out).mono ?_
  rintro e w1 ⟨rfl, hx1⟩
  have hcut1 : Rd (w1.alloc (.cells #[] 5)) (.slice (some ⟨b, o + (k + j), none⟩) (k + j + n - (k + j)) (c - (k + j))) (p.map B) := by
    rw [show k + j + n - (k + j) = n by omega]
    exact hcut.ext (hx1.alloc hx1.size (.cells #[] 5))
  go_wp2_with (at_builtin; refine app_u8 rfl _ _ rfl w1.heap.size _ [] rfl (own_none _ _ _ rfl) _ p rfl hcut1 (by simp; have := HPL.out; omega) (by simp) ?_; intro v2 w2 hg2; rw [List.nil_append] at hg2; have hg3 := Grew.from_empty rfl hg2; obtain ⟨A3, c3, rfl⟩ := hg3.slice_ (n := n) (by rw [List.length_map, HPL.out]); clear hg2)
  have hr3 := Rd.own hg3.own
  refine (RefFrame_any p _ _ hr3).mono ?_
  rintro e w4 ⟨v4, rfl, hg4⟩
  obtain ⟨A4, c4, rfl⟩ := hg4.slice_ (n := j + n + 5) (by rw [List.length_map, HFL.out])
  have hx4 := Ext.trans hx1 (Ext.trans hg3.ext hg4.ext)
  have hg5 := Grew.from_ext hx1 (hg3.step hg4.ext)
  have hr4 := Rd.own hg4.own
  clear hg3 hg4 hr3 hcut hcut1
  by_cases hl : j + n + 5 ≤ bs.length - k
  · have hcut := (hr.ext hx4).cut k (j + n + 5) (by rw [List.length_map]; omega)
    rw [if_neg (by omega), ← List.map_drop, ← List.map_take] at hcut
    simp only [Option.map_some, Addr.add_lit] at hcut
    have hyes := HYES.out hl
    have HYES := Lib.hid hyes
    clear hyes HNO
    go_wp2_with fail
    refine (Bytes_any _ _ _ _ _ hr4 hcut).mono ?_
    rintro e w6 ⟨rfl, n6, rfl⟩
    by_cases hd : frameB p = (bs.drop k).take (j + n + 5)
    · have hf := HYES.out hd
      have HF := Lib.hid hf
      rw [decide_eq_true hd]
      clear hf HYES HNO2 hd
      go_wp2
      go_ret3
      rw [GetPost, HF.out]
      exact ⟨_, by go_num, hg5.step (Below.drewN' (Ext.refl _) _)⟩
    · have hf := HNO2.out (eq_false hd)
      have HF := Lib.hid hf
      rw [decide_eq_false hd]
      clear hf HYES HNO2 hd
      go_wp2
      go_ret3
      exact GetPost.none_ HF.out (Below.drewN' hx4 _)
  · have hf := HNO.out hl
    have HF := Lib.hid hf
    clear hf HNO HNO2 HYES
    go_wp2
    go_ret3
    exact GetPost.none_ HF.out hx4

theorem RefFrameGet_any (bs : List UInt8) (v : Value) (i : Int) (w : World) (hr : Rd w v (bs.map B)) : Calls Try.prog 84 #[v, .int .i64 i] w (GetPost bs i w) := by
  by_cases hi : i < 0 ∨ (bs.length : Int) < i
  · exact RefGet_low bs v i w hr hi
  · obtain ⟨k, rfl⟩ : ∃ k : Nat, i = k := ⟨i.toNat, by omega⟩
    by_cases he : k = bs.length
    · rw [he]
      exact RefGet_done bs v w hr
    · have hk : k < bs.length := by omega
      by_cases h0 : bs[k] = 0
      · exact RefGet_nought bs v k w hr hk h0
      · rcases hg : getN (bs.drop k) with _ | ⟨n, j⟩
        · exact RefGet_num bs v k w hr hk h0 hg
        · by_cases hn : 1 ≤ n ∧ n ≤ 4000 ∧ k + j + n ≤ bs.length
          · exact RefGet_frame bs v k n j w hr hk h0 hg hn
          · exact RefGet_size bs v k n j w hr hk h0 hg (by omega)

end Go.Proofs.Ytdcmjmanalijfaa

/- Layer 3: what Put and Get of package frame answer. -/
namespace Go.Proofs.Ytdcmjmanalijfaa
open Go.RowKit

def BytesRd (w : World) (l : List UInt8) (e : Ending) (w' : World) : Prop := ∃ v', e = .returned v' ∧ Rd w' v' (l.map B) ∧ Ext w w'
def GetRd (bs : List UInt8) (i : Int) (w : World) (e : Ending) (w' : World) : Prop :=
  ∃ v', e = .returned (.tuple #[v', .int .i64 (getF bs i).2.1, .int .i64 (getF bs i).2.2]) ∧ Rd w' v' ((getF bs i).1.map B) ∧ Ext w w'

theorem GetRd.of_post {bs : List UInt8} {i : Int} {w w' : World} {e : Ending} (h : GetPost bs i w e w') : GetRd bs i w e w' := by
  obtain ⟨v', he, hg⟩ := h
  exact ⟨v', he, Rd.own hg.own, hg.ext⟩
theorem BytesRd.of_grew {l : List UInt8} {w w' : World} {e : Ending} (h : ∃ v', e = .returned v' ∧ Grew w.heap.size 5 (.slice none 0 0) w (l.map B) v' w') : BytesRd w l e w' := by
  obtain ⟨v', he, hg⟩ := h
  exact ⟨v', he, Rd.own hg.own, hg.ext⟩

end Go.Proofs.Ytdcmjmanalijfaa

/- Layer 1, package code: the number at a place. -/
namespace Go.Proofs.Ytdcmjmanalijfaa
open Go.RowKit

set_option maxRecDepth 100000 in
set_option maxHeartbeats 2000000 in
theorem GetNum_at (bs : List UInt8) (v : Value) (p : Nat) (w : World) (hr : Rd w v (bs.map B)) (hp63 : p < 9223372036854775808) :
    Calls Try.prog 62 #[v, .int .i64 p] w fun e w' => e = .returned (numAt bs p) ∧ w = w' := by
  obtain ⟨A, c, rfl, hlc, hcm, hcell⟩ := hr
  simp only [List.length_map] at *
  unfold maxLen at hcm
  go_enter Try.func62, Try.ntmps62
  go_wp2
  go_loop [7, 8] (fun n' i' => ∃ (i acc : Nat), i' = .int .i64 i ∧ n' = .int .i64 acc ∧ i ≤ 8 ∧ acc < 128 ^ i ∧ (p + i < 9223372036854775808) ∧ scanN (8 - i) (bs.drop (p + i)) i acc = getN (bs.drop p)) (fun _ i' => 8 - (intOf i').toNat)
  case atStart => exact ⟨0, 0, rfl, rfl, by omega, by omega, by omega, rfl⟩
  case round =>
    obtain ⟨i, acc, rfl, rfl, hi, hacc, hp6, hsc⟩ := hrel
    by_cases h8 : i < 8
    · by_cases hp : p + i < bs.length
      · obtain ⟨b, o, rfl, hbl, hce⟩ := hcell (by omega)
        have hc1 : w.cell? ⟨b, o + (p + i), none⟩ = some (B bs[p + i]) := hce (p + i) _ (by simp [hp])
        clear hce hcell
        rw [show 8 - i = (7 - i) + 1 by omega, scanN_step i acc (drop_cons hp)] at hsc
        have hcl := bs[p + i].toNat_lt
        unfold B at hc1
        generalize bs[p + i].toNat = c at hc1 hsc hcl
        have hor := or_group i acc c h8 hacc
        have hlt := group_lt i acc c h8 hacc
        have hl8 := pow128_le (show i + 1 ≤ 8 by omega)
        generalize hN : acc + 128 ^ i * (c % 128) = N at hor hsc hlt
        have HN := Lib.hid hN
        clear hN
        by_cases hc : 128 ≤ c
        · rw [if_pos hc] at hsc
          have hSC := Lib.hid hsc
          clear hsc
          go_wp2
          go_roundw
          case rel => exact ⟨i + 1, N, by go_num, rfl, by omega, hlt, by omega, by rw [← hSC.out, show 8 - (i + 1) = 7 - i by omega]; rfl⟩
          case measure => simp [intOf]; omega
        · rw [if_neg hc] at hsc
          by_cases hn : 9007199254740992 ≤ N
          · rw [if_pos (.inl hn)] at hsc
            have hF : Hid (numAt bs p = .tuple #[.int .i64 0, .int .i64 0, .bool false]) := by unfold Hid; rw [numAt, ← hsc]
            have hni : (9007199254740992 : Int) ≤ (N : Int) := by omega
            clear hsc hn
            go_wp2
            go_ret3
            exact ⟨by rw [hF.out]; rfl, rfl⟩
          · have hni : decide ((9007199254740992 : Int) ≤ (N : Int)) = false := by simp; omega
            by_cases hc0 : c = 0
            · subst hc0
              have hor0 : bits .or .i64 (acc : Int) (wrap64 0) = (N : Int) := by simpa using hor
              have hor1 : bits .or .i64 (acc : Int) 0 = (N : Int) := by simpa [wrap64] using hor
              by_cases hi0 : 0 < i
              · rw [if_pos (.inr ⟨rfl, hi0⟩)] at hsc
                have hF : Hid (numAt bs p = .tuple #[.int .i64 0, .int .i64 0, .bool false]) := by unfold Hid; rw [numAt, ← hsc]
                clear hsc hn
                go_wp2
                go_ret3
                exact ⟨by rw [hF.out]; rfl, rfl⟩
              · rw [if_neg (by omega)] at hsc
                have hF : Hid (numAt bs p = .tuple #[.int .i64 (N : Int), .int .i64 ((p + (i + 1) : Nat) : Int), .bool true]) := by unfold Hid; rw [numAt, ← hsc]
                clear hsc hn
                go_wp2
                go_ret3
                exact ⟨by rw [hF.out]; simp; omega, rfl⟩
            · rw [if_neg (by omega)] at hsc
              have hF : Hid (numAt bs p = .tuple #[.int .i64 (N : Int), .int .i64 ((p + (i + 1) : Nat) : Int), .bool true]) := by unfold Hid; rw [numAt, ← hsc]
              have hcb : ((c : Int) == 0) = false := by simpa using hc0
              clear hsc hn
              go_wp2
              go_ret3
              exact ⟨by rw [hF.out]; simp; omega, rfl⟩
      · rw [List.drop_eq_nil_of_le (by omega), show 8 - i = (7 - i) + 1 by omega, scanN] at hsc
        have hF : Hid (numAt bs p = .tuple #[.int .i64 0, .int .i64 0, .bool false]) := by unfold Hid; rw [numAt, ← hsc]
        clear hsc
        go_wp2
        go_ret3
        exact ⟨by rw [hF.out]; rfl, rfl⟩
    · rw [show 8 - i = 0 by omega, scanN] at hsc
      have hF : Hid (numAt bs p = .tuple #[.int .i64 0, .int .i64 0, .bool false]) := by unfold Hid; rw [numAt, ← hsc]
      clear hsc
      go_wp2
      go_ret3
      exact ⟨by rw [hF.out]; rfl, rfl⟩

theorem GetNum_neg (v : Value) (p : Int) (w : World) (hp : p < 0) :
    Calls Try.prog 62 #[v, .int .i64 p] w fun e w' => e = .returned (.tuple #[.int .i64 0, .int .i64 0, .bool false]) ∧ w = w' := by
  go_enter Try.func62, Try.ntmps62
  go_wp2
  go_ret3
  exact ⟨rfl, rfl⟩

theorem GetNum_some (bs : List UInt8) (v : Value) (p n j : Nat) (w : World) (hr : Rd w v (bs.map B)) (hp63 : p < 9223372036854775808) (h : getN (bs.drop p) = some (n, j)) :
    Calls Try.prog 62 #[v, .int .i64 p] w fun e w' => e = .returned (.tuple #[.int .i64 n, .int .i64 ((p + j : Nat) : Int), .bool true]) ∧ w = w' := by
  have e : numAt bs p = .tuple #[.int .i64 n, .int .i64 ((p + j : Nat) : Int), .bool true] := by rw [numAt, h]
  rw [← e]
  exact GetNum_at bs v p w hr hp63

theorem GetNum_none (bs : List UInt8) (v : Value) (p : Nat) (w : World) (hr : Rd w v (bs.map B)) (hp63 : p < 9223372036854775808) (h : getN (bs.drop p) = none) :
    Calls Try.prog 62 #[v, .int .i64 p] w fun e w' => e = .returned (.tuple #[.int .i64 0, .int .i64 0, .bool false]) ∧ w = w' := by
  have e : numAt bs p = .tuple #[.int .i64 0, .int .i64 0, .bool false] := by rw [numAt, h]
  rw [← e]
  exact GetNum_at bs v p w hr hp63

end Go.Proofs.Ytdcmjmanalijfaa

/- Layer 2, package sum: the register behind some bytes. -/
namespace Go.Proofs.Ytdcmjmanalijfaa
open Go.RowKit

set_option maxHeartbeats 1000000 in
theorem goOn_any (l : List UInt8) (v : Value) (r : BitVec 32) (w : World) (hr : Rd w v (l.map B)) :
    Calls Try.prog 100 #[.int .u32 (r.toNat : Int), v] w fun e w' => e = .returned (.int .u32 ((crcAll r l).toNat : Int)) ∧ w = w' := by
  obtain ⟨A, c, rfl, hlc, hcm, hca⟩ := hr
  simp only [List.length_map] at *
  unfold maxLen at hcm
  go_enter Try.func100, Try.ntmps100
  go_wp2
  go_loop [0, 10] (fun s i => ∃ k : Nat, k ≤ l.length ∧ i = .int .i64 k ∧ s = .int .u32 ((crcAll r (l.take k)).toNat : Int)) (fun _ i => l.length - (intOf i).toNat)
  case atStart => exact ⟨0, Nat.zero_le _, rfl, rfl⟩
  case round =>
    obtain ⟨k, hk, rfl, rfl⟩ := hrel
    by_cases hlt : k < l.length
    · obtain ⟨b, o, rfl, hb, hc1⟩ := hca (by omega)
      have e1 : w.cell? ⟨b, o + k, none⟩ = some (B l[k]) := hc1 k _ (by simp [hlt])
      clear hc1 hca
      have hs := crcAll_snoc hlt r
      have HS := Lib.hid hs
      clear hs
      generalize hx : l[k] = x at e1
      have HX := Lib.hid hx
      clear hx
      simp only [B] at e1
      generalize hq : crcAll r (List.take k l) = q at *
      have HQ := Lib.hid hq
      clear hq
      have hxo := xorU32m q x
      generalize hy : q ^^^ BitVec.ofNat 32 x.toNat = y at hxo
      have HY := Lib.hid hy
      clear hy
      go_wp2
      go_step3
      go_wp2
      go_step3
      go_wp2
      clear hxo
      go_loop [0, 18] (fun s i => ∃ j : Nat, j ≤ 8 ∧ i = .int .i64 j ∧ s = .int .u32 ((crcBits j y).toNat : Int)) (fun _ i => 8 - (intOf i).toNat)
      case atStart => exact ⟨0, Nat.zero_le _, rfl, rfl⟩
      case round =>
        obtain ⟨j, hj, rfl, rfl⟩ := hrel
        by_cases hlj : j < 8
        · have hbs := crcBits_succ j y
          have HB := Lib.hid hbs
          clear hbs
          generalize crcBits j y = z at *
          have hz := z.isLt
          have hlow := lowU32 z
          rcases Nat.mod_two_eq_zero_or_one z.toNat with h0 | h1
          · have hev := crcBit_even h0
            have HE := Lib.hid hev
            rw [h0] at hlow
            clear hev h0
            go_wp2
            go_round
            case rel => exact ⟨j + 1, by omega, by go_num, by rw [HB.out, ← HE.out]; go_num⟩
            case measure => simp [intOf]; omega
          · have hod := polyU32 h1
            rw [h1] at hlow
            clear h1
            go_wp2
            go_round
            case rel => exact ⟨j + 1, by omega, by go_num, by rw [HB.out]⟩
            case measure => simp [intOf]; omega
        · obtain rfl : j = 8 := by omega
          go_wp2
          go_round
          case rel => exact ⟨k + 1, by omega, by go_num, by rw [HS.out, HX.out]; rw [crcByte, HY.out]⟩
          case measure => simp [intOf]; omega
    · obtain rfl : k = l.length := by omega
      rw [List.take_length]
      go_wp2
      go_ret
      exact ⟨rfl, rfl⟩

end Go.Proofs.Ytdcmjmanalijfaa

/- Layer 2, package sum: sums, and a number's four bytes. -/
namespace Go.Proofs.Ytdcmjmanalijfaa
open Go.RowKit

set_option maxHeartbeats 400000 in
theorem More_yes (l : List UInt8) (v : Value) (s : BitVec 32) (w : World) (hr : Rd w v (l.map B)) :
    Calls Try.prog 97 #[.int .i64 (s.toNat : Int), v] w fun e w' => e = .returned (.int .i64 ((crcMore s l).toNat : Int)) ∧ w = w' := by
  have hs : decide (4294967295 < (s.toNat : Int)) = false := by simp; have := s.isLt; omega
  have hs0 : s.toNat % 4294967296 = s.toNat := by have := s.isLt; omega
  have hn1 := notMax s
  have hn2 : bits .xor .u32 IntKind.u32.max ((crcAll (~~~ s) l).toNat : Int) = ((crcMore s l).toNat : Int) := notMax _
  generalize ~~~ s = t at *
  have hle : ((crcMore s l).toNat : Int) ≤ 4294967295 := by have := (crcMore s l).isLt; omega
  go_enter Try.func97, Try.ntmps97
  go_wp2_with fail
  refine (goOn_any l v t _ hr).mono ?_
  rintro e w' ⟨rfl, rfl⟩
  go_wp2
  go_ret
  exact ⟨rfl, rfl⟩

theorem More_no (n : Int) (v : Value) (w : World) (h : ¬ (0 ≤ n ∧ n ≤ 4294967295)) :
    Calls Try.prog 97 #[.int .i64 n, v] w fun e w' => e = .returned (.int .i64 0) ∧ w = w' := by
  by_cases h0 : n < 0
  · clear h
    go_enter Try.func97, Try.ntmps97
    go_wp2
    go_ret
    exact ⟨rfl, rfl⟩
  · have hs : decide (4294967295 < n) = true := by simp; omega
    clear h
    go_enter Try.func97, Try.ntmps97
    go_wp2
    go_ret
    exact ⟨rfl, rfl⟩

theorem Of_any (l : List UInt8) (v : Value) (w : World) (hr : Rd w v (l.map B)) :
    Calls Try.prog 91 #[v] w fun e w' => e = .returned (.int .i64 ((crcOf l).toNat : Int)) ∧ w = w' := by
  go_enter Try.func91, Try.ntmps91
  go_wp2_with fail
  refine (More_yes l v 0#32 _ hr).mono ?_
  rintro e w' ⟨rfl, rfl⟩
  go_wp2
  go_ret
  exact ⟨rfl, rfl⟩

theorem Put_any (n : Int) (w : World) (_h0 : -9223372036854775808 ≤ n) (_h1 : n ≤ 9223372036854775807) :
    Calls Try.prog 90 #[.int .i64 n] w fun e w' => ∃ v', e = .returned v' ∧ Rd w' v' ((putB n).map B) ∧ Ext w w' := by
  go_enter Try.func90, Try.ntmps90
  go_wp2
  go_ret
  have h := Rd.litB w (putB n) #[Value.int .u8 (n / 16777216 % 256), Value.int .u8 (n / 65536 % 256), Value.int .u8 (n / 256 % 256), Value.int .u8 (n % 256)] 5 4 w.heap.size (by simp [putB]) (by simp only [putB, B, u8_mod, List.map_cons, List.map_nil]) rfl rfl
  exact ⟨_, rfl, h, (Below.refl _ _).alloc (Nat.le_refl _) _⟩

end Go.Proofs.Ytdcmjmanalijfaa

/- Strings in this translation's numbers: a string appended to bytes; bytes made into a string. -/
namespace Go.Proofs.Ytdcmjmanalijfaa
open Go.RowKit

/-- 'b = append(b, s...)', s a string. -/
theorem app_str {w : World} {ops : Array Oper} {rest : List Oper} {o : Oper} {a : Act} {Q : Exit → Act → World → Prop} (hgd : o.guard = none) (s x : Operand)
    (ho : o.op = .call { callee := .builtin .append, args := #[s, x], argTypes := #[30, 9] })
    (base : Nat) (v : Value) (xs : List Value) (hs : a.eval s = v) (hown : w.ownsRow base 5 1 v xs.length xs) (str : ByteArray) (hx : a.eval x = .string str)
    (hbytes : xs.length + str.size ≤ 140737488355328) (hbase : base ≤ w.heap.size)
    (h : ∀ v' w', Grew base 5 v w (xs ++ str.data.toList.map B) v' w' → wpList Try.prog ops Q rest (a.put o.dst v') w') : wpList Try.prog ops Q (o :: rest) a w :=
  wpList_appendStr hgd s x 30 9 ho base 5 Try.underlying30 Try.underlying9 Try.infoU8 v xs hs hown str hx hbytes hbase h

theorem conv_u8 {w : World} {ops : Array Oper} {rest : List Oper} {o : Oper} {a : Act} {Q : Exit → Act → World → Prop} (hgd : o.guard = none) (x : Operand)
    (ho : o.op = .convert 30 9 x) (u : Value) (ys : List UInt8) (hx : a.eval x = u) (hr : Rd w u (ys.map B))
    (h : wpList Try.prog ops Q rest (a.put o.dst (.string ⟨ys.toArray⟩)) w) : wpList Try.prog ops Q (o :: rest) a w :=
  wpList_conv hgd x 30 9 5 ho Try.underlying30 Try.underlying5 Try.underlying9 u ys hx hr h

end Go.Proofs.Ytdcmjmanalijfaa

/- Go's bytes.Equal: the same bytes? -/
namespace Go.Proofs.Ytdcmjmanalijfaa
open Go.RowKit

theorem Equal_any (xs ys : List UInt8) (u v : Value) (w : World) (hu : Rd w u (xs.map B)) (hv : Rd w v (ys.map B)) :
    Calls Try.prog 99 #[u, v] w fun e w' => e = .returned (.bool (decide (xs = ys))) ∧ w = w' := by
  go_enter Try.func99, Try.ntmps99
  go_wp2_with (first | (refine conv_u8 rfl _ rfl _ xs rfl hu ?_) | (refine conv_u8 rfl _ rfl _ ys rfl hv ?_))
  go_ret
  exact ⟨by rw [show (xs == ys) = decide (xs = ys) by rw [Bool.eq_iff_iff]; simp]; rfl, rfl⟩

end Go.Proofs.Ytdcmjmanalijfaa

/- Layer 2, package sum: whether bytes end with their sum. -/
namespace Go.Proofs.Ytdcmjmanalijfaa
open Go.RowKit

set_option maxHeartbeats 400000 in
theorem Is_any (l : List UInt8) (v : Value) (w : World) (hr : Rd w v (l.map B)) :
    Calls Try.prog 95 #[v] w fun e w' => e = .returned (.bool (isB l)) ∧ Ext w w' := by
  have hr0 := hr
  obtain ⟨A, c, rfl, hlc, hcm, _⟩ := hr0
  simp only [List.length_map] at *
  unfold maxLen at hcm
  by_cases h4 : l.length < 4
  · go_enter Try.func95, Try.ntmps95
    go_wp2
    go_ret
    exact ⟨by rw [show isB l = false by rw [isB, decide_eq_false (by omega)]; rfl]; rfl, Ext.refl _⟩
  · obtain ⟨n, hn⟩ : ∃ n, l.length = n + 4 := ⟨l.length - 4, by omega⟩
    have hp := hr.prefix_ n (by simp; omega)
    have hq := hr.cut n 4 (by simp; omega)
    rw [← List.map_take] at hp
    rw [← List.map_drop, ← List.map_take, List.take_of_length_le (by simp; omega)] at hq
    have he : isB l = decide (l.drop n = putB ((crcOf (l.take n)).toNat : Int)) := by
      rw [isB, decide_eq_true (show 4 ≤ l.length by omega), Bool.true_and, show l.length - 4 = n by omega]
    have HE := Lib.hid he
    clear he
    have hs1 : ((crcOf (l.take n)).toNat : Int) ≤ 9223372036854775807 := by have := (crcOf (l.take n)).isLt; omega
    have hs0 : -9223372036854775808 ≤ ((crcOf (l.take n)).toNat : Int) := by omega
    rw [hn] at hlc ⊢
    rw [if_neg (by omega)] at hq
    clear hr hn h4
    go_enter Try.func95, Try.ntmps95
    go_wp2_with fail
    go_region_with (first | (go_at_call 91; refine (Of_any (l.take n) _ _ (hp.ext (Below.drewN' (Ext.refl _) _))).mono ?_; rintro e w1 ⟨rfl, rfl⟩) | (go_at_call 90; refine (Put_any _ _ hs0 hs1).mono ?_; rintro e w2 ⟨v2, rfl, hr2, hx2⟩; have hx3 := (Below.drewN' (Ext.refl w) 1).trans hx2; have hq3 := hq.ext hx3) | (go_at_call 99; refine (Equal_any _ _ _ _ _ hq3 hr2).mono ?_; rintro e w3 ⟨rfl, rfl⟩))
    all_goals go_wp2
    all_goals go_ret
    all_goals exact ⟨by rw [HE.out]; rfl, hx3⟩

end Go.Proofs.Ytdcmjmanalijfaa
