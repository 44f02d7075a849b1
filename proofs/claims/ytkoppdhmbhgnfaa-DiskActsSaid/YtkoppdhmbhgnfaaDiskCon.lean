/- Package disk: what its methods do to a disk. -/
import Derived.Test.YtkoppdhmbhgnfaaDiskDk
import Derived.Test.YtkoppdhmbhgnfaaDiskDef
import Derived.Laws.LoneSync
namespace Go.Proofs.Ytkoppdhmbhgnfaa
open Go.RowKit

theorem DkWaits0 (F : Fp) (g : Nat) (bs : List UInt8) (us : List WtS) (n : Int) (vB vW : Value) (w : World) (hd : Dk0 F w g bs us n vB vW) (hl : us.length ≤ 1000000000) (hw : (flatW (us.map WtS.plain)).length ≤ 1000000000) :
    Calls Try.prog 15 #[.pointer (some ⟨g, 0, none⟩)] w fun e w' => e = .returned (.int .i64 ((flatW (us.map WtS.plain)).length : Int)) ∧ Ext w w' := by
  obtain ⟨hW, -⟩ := hd.waits
  obtain ⟨AW, cW, rfl, hlW, hcW⟩ := hW.slice_
  unfold maxLen at hcW
  have c1 := hd.c1
  have HW := Lib.hid hW
  clear hW hd
  go_enter Try.func15, Try.ntmps15
  go_wp2
  go_loopw [3, 13] (fun n' i' wr => ∃ k : Nat, i' = .int .i64 k ∧ k ≤ us.length ∧ n' = .int .i64 ((flatW ((us.map WtS.plain).take k)).length : Int) ∧ Ext w wr) (fun _ i' _ => us.length - (intOf i').toNat)
  case atStart => exact ⟨0, rfl, Nat.zero_le _, rfl, Ext.refl _⟩
  case round =>
    obtain ⟨k, rfl, hk, rfl, hx⟩ := hrel
    by_cases hlt : k < us.length
    · have hWk := HW.out.ext hx
      obtain ⟨b, o, rfl, hb1, hH1, hcl⟩ := hWk.get (by omega)
      obtain ⟨e1, e2, hr⟩ := hcl k _ (List.getElem?_eq_getElem hlt)
      have hxs : (us.map WtS.plain)[k]'(by rw [List.length_map]; exact hlt) = us[k].plain := List.getElem_map _
      have hsl := flatW_snoc_len (l := us.map WtS.plain) (k := k) (by rw [List.length_map]; exact hlt)
      have hle := flatW_le (us.map WtS.plain) (k + 1)
      rw [hxs] at hsl
      generalize us[k] = x at *
      obtain ⟨i, u, l⟩ := x
      have HL := Lib.hid hsl
      have hl2 : (flatW ((us.map WtS.plain).take k)).length + l.length ≤ 1000000000 := by
        simp only [WtS.plain] at hsl
        omega
      have HLE := Lib.hid hle
      clear hcl hWk hxs hsl hle
      simp only [I] at e1 e2 hr
      have e3 : wr.cell? ⟨b, o + k * 2 + 1, none⟩ = some u := by rw [Nat.add_assoc]; exact e2
      clear e2
      obtain ⟨Au, cu, rfl, hlc, hcm⟩ := hr.rd.sliceN (List.length_map _)
      clear hr
      generalize hm : (flatW ((us.map WtS.plain).take k)).length = m at *
      go_wp2
      have hx2 : Ext w (wr.alloc (.cells #[.int .i64 (i : Int), .slice Au l.length cu] 57)) := hx.trans ((Below.refl _ _).alloc (Nat.le_refl _) _)
      go_roundw
      case rel =>
        have hll := HL.out
        simp only [WtS.plain] at hll
        exact ⟨k + 1, by go_num, by omega, by rw [hll]; go_num, hx2⟩
      case measure => simp [intOf]; omega
    · obtain rfl : k = us.length := by omega
      rw [List.take_of_length_le (i := us.length) (by rw [List.length_map]; omega)]
      go_wp2
      go_ret
      exact ⟨rfl, hx⟩

theorem DkWaits (F : Fp) (g : Nat) (s : DkS) (w : World) (hd : Dk F w g s) (hw : s.2.1.length ≤ 1000000000) :
    Calls Try.prog 15 #[.pointer (some ⟨g, 0, none⟩)] w fun e w' => e = .returned (.int .i64 (s.2.1.length : Int)) ∧ Ext w w' := by
  obtain ⟨us, vB, vW, h1, h2⟩ := hd
  have hm := h2.many
  rw [h2.1] at hw hm ⊢
  exact DkWaits0 F g s.1 us s.2.2 vB vW w h1 (by omega) hw

theorem Dk0.settled {F : Fp} {g : Nat} {bs bs' : List UInt8} {us : List WtS} {n : Int} {vB vW : Value} {w w1 : World} (hd : Dk0 F w g bs us n vB vW) (hg : Grew 0 5 vB w (bs'.map B) vB w1) :
    Dk0 (F.since w w1) w1 g bs' us n vB vW ∧ Dk0 (F.since w w1) (w1.setCell ⟨g, 1, none⟩ (.slice none 0 0)) g bs' [] n vB (.slice none 0 0) ∧ Chg F w (w1.setCell ⟨g, 1, none⟩ (.slice none 0 0)) := by
  obtain ⟨h1, h2⟩ := ObjF.grew hd 0 (by simp [rowsD]) rfl hg
  obtain ⟨h3, h4⟩ := ObjF.drop h1 1 1 (by simp [rowsD]) 57 2
  refine ⟨?_, ?_, h2.step h4⟩
  · rw [List.length_map] at h1
    exact h1
  · rw [List.length_map] at h3
    refine ObjF.sub h3 ?_
    simp only [rowsD, List.set_cons_zero, List.set_cons_succ, List.map_nil, List.flatMap_nil, List.length_nil]
    exact List.Sublist.cons_cons _ (List.Sublist.cons_cons _ (List.nil_sublist _))

theorem Settle0 (F : Fp) (g : Nat) (bs : List UInt8) (us : List WtS) (n : Int) (vB vW : Value) (k : Int) (w : World) (hd : Dk0 F w g bs us n vB vW) (hus : ∀ x ∈ us, x.1 + x.2.2.length ≤ bs.length ∧ 0 < x.2.2.length) (hb : bs.length ≤ 65536) (hl : us.length ≤ 1000000000)
    (h0 : -9223372036854775808 ≤ k) (h1 : k ≤ 9223372036854775807) :
    Calls Try.prog 21 #[.pointer (some ⟨g, 0, none⟩), .int .i64 k] w fun e w' =>
      e = .returned (.tuple #[]) ∧ Dk0 (F.since w w') w' g (putAll bs ((flatW (us.map WtS.plain)).take k.toNat)) [] n vB (.slice none 0 0) ∧ Chg F w w' := by
  have c0 := hd.c0
  have c1 := hd.c1
  have HD := Lib.hid hd
  have HU := Lib.hid hus
  clear hd hus
  go_enter Try.func21, Try.ntmps21
  go_wp2_with fail
  go_still_tail 9, (by kernel_rfl)
  change wpList _ _ _ _ _ w.drew
  go_wp2_with fail
  have hd1 := HD.out.ext (Ext.dr (Ext.refl w))
  obtain ⟨hW, hap⟩ := hd1.waits
  refine (Lay_any (wtFp vW us) 0 vB vW bs us k w.drew hd1.rowB hW hap HU.out hb hl h0 h1).mono ?_
  rintro e w1 ⟨rfl, hg⟩
  obtain ⟨h2, h3, h4⟩ := hd1.settled hg
  have c1 := h2.c1
  have f1 := h2.fr 1
  have hi := ObjF.isIn HD.out
  have hs : w.heap.size ≤ w1.heap.size := hg.size
  have H3 := Lib.hid h3
  have H4 := Lib.hid h4
  have HI := Lib.hid hi
  clear h2 h3 h4 hg hW hap hd1 hi
  go_wp2
  go_end0
  refine ⟨rfl, ObjF.mono H3.out (fun k hk => ?_) ?_, ⟨H4.out.os, H4.out.tape, H4.out.output, H4.out.size, H4.out.block⟩⟩
  · rcases hk with hk | hk
    · exact .inl hk
    · exact .inr (by simpa using hk)
  · exact HI.out.since (by simpa using hs)

theorem DkCrash (F : Fp) (g : Nat) (s : DkS) (k : Int) (w : World) (hd : Dk F w g s) (h0 : -9223372036854775808 ≤ k) (h1 : k ≤ 9223372036854775807) (hw : s.2.1.length ≤ 1000000000) :
    Calls Try.prog 11 #[.pointer (some ⟨g, 0, none⟩), .int .i64 k] w fun e w' => e = .returned (.tuple #[]) ∧ Dk (F.since w w') w' g (crD s k) ∧ Chg F w w' := by
  obtain ⟨us, vB, vW, hd, h2⟩ := hd
  have hm := h2.many
  have HC := Lib.hid (Settle0 F g s.1 us s.2.2 vB vW k w hd h2.2.2.2 h2.2.2.1 (by omega) h0 h1)
  have H2 := Lib.hid h2
  clear hd h2 hm
  go_enter Try.func11, Try.ntmps11
  go_wp2_with fail
  refine HC.out.mono ?_
  rintro e w1 ⟨rfl, h3, h4⟩
  have H3 := Lib.hid h3
  clear h3
  go_wp2
  go_end0
  have h2 := H2.out
  refine ⟨rfl, ⟨[], vB, .slice none 0 0, ?_, rfl, ?_, ?_, by simp⟩, h4⟩
  · have := H3.out
    rw [← h2.1] at this
    exact this
  · simp only [crD, putAll_len]; exact h2.2.1
  · simp only [crD, putAll_len]; exact h2.2.2.1

theorem Add_any (g : Nat) (n k : Int) (w : World) (hc : w.cell? ⟨g, 2, none⟩ = some (.int .i64 n)) (hz : w.frozen? ⟨g, 2, none⟩ = false) (h0 : 0 ≤ n) (h1 : n ≤ 1000000000) :
    Calls Try.prog 22 #[.pointer (some ⟨g, 2, none⟩), .int .i64 1] w fun e w' => e = .returned (.int .i64 (n + 1)) ∧ w' = w.setCell ⟨g, 2, none⟩ (.int .i64 (n + 1)) := by
  have hs : (Op.intArith .add .i64 n 1).run Try.prog w = .ok (.int .i64 (n + 1)) w := by
    simp only [go_sem]
    rw [IntKind.wrap_i64, show (n + 1 + 9223372036854775808) % 18446744073709551616 - 9223372036854775808 = n + 1 by omega]
    rfl
  have hcall := run_call_add (P := Try.prog) (f := 29) Try.func29 (by kernel_rfl) (by kernel_rfl) (by kernel_rfl) .i64 (by kernel_rfl) hc hz hs
  go_enter Try.func22, Try.ntmps22
  go_wp2
  go_ret
  exact ⟨rfl, rfl⟩

theorem Load_any (g : Nat) (n : Int) (w : World) (hc : w.cell? ⟨g, 2, none⟩ = some (.int .i64 n)) :
    Calls Try.prog 25 #[.pointer (some ⟨g, 2, none⟩)] w fun e w' => e = .returned (.int .i64 n) ∧ w' = w := by
  have hcall := run_call_load (P := Try.prog) (f := 30) Try.func30 (by kernel_rfl) (by kernel_rfl) (by kernel_rfl) .i64 (by kernel_rfl) hc
  go_enter Try.func25, Try.ntmps25
  go_wp2
  go_ret
  exact ⟨rfl, rfl⟩

theorem DkSyncs (F : Fp) (g : Nat) (s : DkS) (w : World) (hd : Dk F w g s) (hn0 : 0 ≤ s.2.2) (hn1 : s.2.2 ≤ 1000000000) :
    Calls Try.prog 16 #[.pointer (some ⟨g, 0, none⟩)] w fun e w' => e = .returned (.int .i64 s.2.2) ∧ Ext w w' := by
  obtain ⟨us, vB, vW, h1, h2⟩ := hd
  have c2 := h1.c2
  clear h1 h2
  go_enter Try.func16, Try.ntmps16
  go_wp2_with fail
  refine (Load_any g _ w c2).mono ?_
  rintro e w1 ⟨rfl, rfl⟩
  go_wp2
  go_ret
  exact ⟨rfl, Ext.refl _⟩

theorem DkSync (F : Fp) (g : Nat) (s : DkS) (w : World) (hd : Dk F w g s) (hw : s.2.1.length ≤ 1000000000) (hn0 : 0 ≤ s.2.2) (hn1 : s.2.2 ≤ 1000000000) :
    Calls Try.prog 10 #[.pointer (some ⟨g, 0, none⟩)] w fun e w' => e = .returned (.tuple #[]) ∧ Dk (F.since w w') w' g (syD s) ∧ Chg F w w' := by
  obtain ⟨us, vB, vW, hd, h2⟩ := hd
  have hm := h2.many
  have hw' := hw
  rw [h2.1] at hw'
  have HD := Lib.hid hd
  have H2 := Lib.hid h2
  clear hd h2
  go_enter Try.func10, Try.ntmps10
  go_wp2_with fail
  refine (DkWaits0 F g s.1 us s.2.2 vB vW w HD.out (by omega) hw').mono ?_
  rintro e w1 ⟨rfl, hx⟩
  go_wp2_with fail
  refine (Settle0 F g s.1 us s.2.2 vB vW _ w1 (HD.out.ext hx) H2.out.2.2.2 H2.out.2.2.1 (by omega) (by omega) (by omega)).mono ?_
  rintro e w2 ⟨rfl, h3, h4⟩
  rw [Int.toNat_natCast, List.take_length] at h3
  have c2 := h3.c2
  have f2 := h3.fr 2
  obtain ⟨h5, h6⟩ := ObjF.setCell h3 2 (.int .i64 (s.2.2 + 1))
  have H5 := Lib.hid h5
  have H6 := Lib.hid h6
  have H4 := Lib.hid h4
  have HX := Lib.hid hx
  have HI := Lib.hid (ObjF.isIn HD.out)
  clear h3 h4 h5 h6 hx
  go_wp2_with fail
  refine (Add_any g _ 0 w2 c2 f2 hn0 hn1).mono ?_
  rintro e w3 ⟨rfl, rfl⟩
  go_wp2
  go_end0
  have h2 := H2.out
  have hs1 : w.heap.size ≤ w1.heap.size := HX.out.size
  have hs2 : w1.heap.size ≤ w2.heap.size := H4.out.size
  refine ⟨rfl, ⟨[], vB, .slice none 0 0, ObjF.mono (F := F.since w1 w2) (G := F.since w (w2.setCell ⟨g, 2, none⟩ (.int .i64 (s.2.2 + 1)))) ?_ (fun k hk => ?_) ?_, rfl, ?_, ?_, by simp⟩, ?_⟩
  · have := H5.out
    rw [← h2.1] at this
    exact this
  · rcases hk with hk | hk
    · exact .inl hk
    · exact .inr ⟨Nat.le_trans hs1 hk.1, by simpa using hk.2⟩
  · exact HI.out.since (by simp; omega)
  · simp only [syD, putAll_len]; exact h2.2.1
  · simp only [syD, putAll_len]; exact h2.2.2.1
  · have e1 : Chg F w w1 := Chg.of_ext HX.out
    exact (e1.trans H4.out (fun _ _ h => h)).trans H6.out (fun x hx h => by
      rcases h with h | h
      · exact h
      · omega)

theorem DkBytes (F : Fp) (g : Nat) (s : DkS) (w : World) (hd : Dk F w g s) (hw : s.2.1.length ≤ 1000000000) :
    Calls Try.prog 13 #[.pointer (some ⟨g, 0, none⟩)] w fun e w' => ∃ v', e = .returned v' ∧ Grew w.heap.size 5 (.slice none 0 0) w ((rdD s).map B) v' w' := by
  obtain ⟨us, vB, vW, hd, h2⟩ := hd
  have hm := h2.many
  have hw' := hw
  rw [h2.1] at hw'
  have hb := h2.2.2.1
  have c0 := hd.c0
  have hrB := Rd.own hd.rowB
  have HD := Lib.hid hd
  have H2 := Lib.hid h2
  clear hd h2
  go_enter Try.func13, Try.ntmps13
  go_wp2_with fail
  refine (Clone_any s.1 vB w hrB (by omega)).mono ?_
  rintro e w1 ⟨v1, rfl, hg⟩
  have hdx := HD.out.ext (hg.ext.trans (Ext.dr (Ext.refl w1)))
  have c1 : w1.drew.cell? ⟨g, 1, none⟩ = some vW := hdx.c1
  have K1 := DkWaits0 F g s.1 us s.2.2 vB vW w1.drew hdx (by omega) hw'
  have K2 : ∀ w2, Ext w1.drew w2 → w2.cell? ⟨g, 1, none⟩ = some vW := fun w2 hx => (hdx.ext hx).c1
  have hlt := HD.out.wtLt
  have K3 : ∀ w2, Ext w1.drew w2 → Calls Try.prog 24 #[v1, vW, .int .i64 ((flatW (us.map WtS.plain)).length : Int)] w2 fun e w' => e = .returned (.tuple #[]) ∧ Grew w.heap.size 5 (.slice none 0 0) w ((rdD s).map B) v1 w' := by
    intro w2 hx
    have hg2 := hg.step ((Ext.dr (Ext.refl w1)).trans hx)
    have hO := hg2.1
    rw [List.length_map] at hO
    refine (Lay_any (wtFp vW us) w.heap.size v1 vW s.1 us _ w2 hO (hdx.ext hx).waits.1 (fun k hk h => ?_) H2.out.2.2.2 hb (by omega) (by omega) (by omega)).mono ?_
    · have := (hO.lt k hk).1
      have := hlt k h
      omega
    · rintro e w3 ⟨rfl, hg3⟩
      refine ⟨rfl, ?_⟩
      have := hg2.trans hg3
      rw [Int.toNat_natCast, List.take_length, ← H2.out.1] at this
      exact this
  have K1' := Lib.hid K1
  have K2' := Lib.hid K2
  have K3' := Lib.hid K3
  clear c0 hrB hg hdx K1 K2 K3 hlt
  go_wp2_with fail
  go_region_law (go_simp; (first | (go_at_call 15; refine K1'.out.mono ?_; rintro e w2 ⟨rfl, hx2⟩; have c2 := K2'.out w2 hx2) | (go_at_call 24; refine (K3'.out _ hx2).mono ?_; rintro e w3 ⟨rfl, hg3⟩)))
  all_goals
    go_wp2
    go_ret
    exact ⟨_, rfl, hg3⟩

theorem Try.infoWrite : (Try.prog.info? 57).map (fun i => (i.zero, i.size, i.bytes)) = some (some (.agg #[.int .i64 0, .slice none 0 0]), 2, 32) := by kernel_rfl

theorem stepPush_write {w : World} {ops : Array Oper} {o : Oper} {a : Act} {K : Act → World → Prop} {Q : Exit → Act → World → Prop} {E : Prop} {gx : Nat} (s x : Operand)
    (hop : o.op = .call { callee := .builtin .append, args := #[s, x], argTypes := #[46, 46] }) (hw : Region.wanted o (yielded ops a.tmps) = true)
    (v : Value) (n : Nat) (xs : List Value) (hown : w.ownsRow 0 57 2 v n xs) (hs : a.eval s = v) (y u : Value) (hy : y.oneCell' = true) (hu : u.oneCell' = true)
    (hx : a.eval x = .slice (some ⟨gx, 0, none⟩) 1 1) (hgx : gx = w.heap.size) (hn : n ≤ 1000000000) (h : ∀ v' w', GrewN 0 57 2 v w (n + 1) (xs ++ [y, u]) v' w' → K (a.put o.dst v') w') :
    if Region.wanted o (yielded ops a.tmps) = true then Oper.wp Try.prog o a (w.alloc (.cells #[y, u] 57)) K Q else E :=
  step_pushN s x 46 hop hw 0 57 (.agg #[.int .i64 0, .slice none 0 0]) 2 32 Try.underlying46 Try.infoWrite (by simp [Value.cells]) (by omega) v n xs hown hs #[y, u] rfl
    (fun z hz => by
      simp only [List.mem_cons, List.not_mem_nil, or_false] at hz
      rcases hz with rfl | rfl
      · exact hy
      · exact hu) hx hgx (by unfold maxLen; omega) (by omega) (Nat.zero_le _) h

/-- One write more waits. -/
theorem Dk0.pushed {F : Fp} {g : Nat} {bs : List UInt8} {us : List WtS} {n : Int} {vB vW v1 v2 : Value} {w w1 w2 : World} {i : Nat} {l : List UInt8} (hd : Dk0 F w g bs us n vB vW) (hg : Grew w.heap.size 5 (.slice none 0 0) w (l.map B) v1 w1)
    (hn : GrewN 0 57 2 vW w1 (us.length + 1) (us.flatMap WtS.cells ++ [I i, v1]) v2 w2) :
    Dk0 (F.since w (w2.setCell ⟨g, 1, none⟩ v2)) (w2.setCell ⟨g, 1, none⟩ v2) g bs (us ++ [(i, v1, l)]) n vB v2 ∧ Chg F w (w2.setCell ⟨g, 1, none⟩ v2) := by
  have hm := RowF.made hg
  have hrow : RowS.ok (WtS.row (i, v1, l)) (fun k => w.heap.size ≤ k ∧ k < w1.heap.size) w1 := by
    refine ⟨?_, hm.2⟩
    have := hm.1
    rw [List.length_map] at this
    exact this
  have h1 := ObjF.add hd (WtS.row (i, v1, l)) hg.ext hrow
  obtain ⟨h2, h3⟩ := ObjF.pushN h1 1 1 (by simp [rowsD]) rfl hn
  have e : ((rowsD vB bs vW us ++ [WtS.row (i, v1, l)]).set 1 ⟨57, 2, v2, us.length + 1, us.flatMap WtS.cells ++ [I i, v1]⟩) = rowsD vB bs v2 (us ++ [(i, v1, l)]) := by
    simp [rowsD, WtS.cells]
  rw [e] at h2
  have hs1 : w.heap.size ≤ w1.heap.size := hg.size
  have hs2 : w1.heap.size ≤ w2.heap.size := hn.size
  refine ⟨ObjF.mono h2 (fun k hk => ?_) ((ObjF.isIn hd).since (by simp; omega)), ?_⟩
  · rcases hk with (hk | hk) | hk
    · exact .inl hk
    · exact .inr ⟨hk.1, by simp; omega⟩
    · exact .inr ⟨by omega, by simpa using hk.2⟩
  · exact (Chg.of_ext (F := F) hg.ext).step h3
/-- Its fields stand while the list grows. -/
theorem Dk0.blkW {F : Fp} {g : Nat} {bs : List UInt8} {us : List WtS} {n : Int} {vB vW v2 : Value} {w w2 : World} {k : Nat} {xs : List Value} (hd : Dk0 F w g bs us n vB vW) (hn : GrewN 0 57 2 vW w k xs v2 w2) :
    w2.cell? ⟨g, 1, none⟩ = some vW ∧ w2.frozen? ⟨g, 1, none⟩ = false := by
  have hb := (ObjF.blk hd).grown hn.2.1 (fun e => ObjF.off hd ⟨57, 2, vW, us.length, us.flatMap WtS.cells⟩ (by simp [rowsD]) e.symm)
  exact ⟨hb.cell 1, hb.frozen 1⟩

theorem Write_yes (F H : Fp) (g : Nat) (bs : List UInt8) (us : List WtS) (n : Int) (vB vW : Value) (i : Nat) (v : Value) (l : List UInt8) (w : World) (hd : Dk0 F w g bs us n vB vW) (hr : RdF H w v (l.map B)) (ha : H.apart F) (hH : H.isIn w)
    (hb : bs.length ≤ 65536) (hi : i + l.length ≤ bs.length) (hl : 0 < l.length) (hus : us.length ≤ 1000000000) :
    Calls Try.prog 12 #[.pointer (some ⟨g, 0, none⟩), .int .i64 (i : Int), v] w fun e w' =>
      e = .returned (.int .i64 0) ∧ ∃ v1 v2, Dk0 (F.since w w') w' g bs (us ++ [(i, v1, l)]) n vB v2 ∧ Chg F w w' := by
  obtain ⟨A, c, rfl, hlc, hcm⟩ := hr.rd.sliceN (List.length_map _)
  unfold maxLen at hcm
  obtain ⟨AB, cB, rfl⟩ := hd.slB
  obtain ⟨AW, cW, rfl⟩ := hd.slW
  have c0 := hd.c0
  have hdd := hd.ext (Ext.dr (Ext.refl w))
  have c1 : w.drew.cell? ⟨g, 1, none⟩ = some (.slice AW us.length cW) := hdd.c1
  have KC := Lib.hid (Clone_any l _ w.drew (hr.rd.ext (Ext.dr (Ext.refl w))) (by omega))
  have HD := Lib.hid hdd
  have q1 : (i : Int) ≤ (bs.length : Int) - (l.length : Int) := by omega
  clear hd hr ha hH hdd
  go_enter Try.func12, Try.ntmps12
  go_wp2
  have uOne : ∀ (A : Option Addr) (n c : Nat), (Value.slice A n c).oneCell' = true := fun _ _ _ => rfl
  go_region_law (first | (go_simp; (go_at_call 23; refine KC.out.mono ?_; rintro e w1 ⟨v1, rfl, hg1⟩; obtain ⟨A1, k1, rfl⟩ := hg1.slice_ (List.length_map _); have hd1 := HD.out.ext hg1.ext; have c11 := hd1.c1; have hlt1 := hd1.lt; have hown1 := hd1.rowW; have hu1 := uOne A1 l.length k1)) | (refine stepPush_write (gx := w1.heap.size) (.tmp 30) (.tmp 35) ?_ ?_ (.slice AW us.length cW) us.length (us.flatMap WtS.cells) hown1 ?_ (I i) (.slice A1 l.length k1) ?_ hu1 ?_ ?_ hus ?_; rfl; rfl; rfl; rfl; rfl; rfl; intro v2 w2 hn2; have hc2 := hd1.blkW hn2; have c12 := hc2.1; have f12 := hc2.2; obtain ⟨A2, k2, rfl⟩ := hn2.slice_))
  all_goals
    have hp := HD.out.pushed hg1 hn2
    have HP := Lib.hid hp
    clear hp hn2 hg1 hd1 hown1
    go_wp2
    go_ret
    refine ⟨rfl, .slice A1 l.length k1, _, HP.out.1, ?_⟩
    have hc := HP.out.2
    exact ⟨hc.os, hc.tape, hc.output, hc.size, hc.block⟩

theorem DkWrite (F H : Fp) (g : Nat) (s : DkS) (i : Int) (v : Value) (l : List UInt8) (w : World) (hd : Dk F w g s) (hr : RdF H w v (l.map B)) (ha : H.apart F) (hH : H.isIn w) (h0 : -9223372036854775808 ≤ i) (h1 : i ≤ 9223372036854775807) (hw : s.2.1.length ≤ 1000000000) :
    Calls Try.prog 12 #[.pointer (some ⟨g, 0, none⟩), .int .i64 i, v] w fun e w' => e = .returned (.int .i64 (wrE s.1.length i l.length)) ∧ Dk (F.since w w') w' g (wrD s i l) ∧ Chg F w w' := by
  have hin := hd.isIn
  obtain ⟨us, vB, vW, hd, h2⟩ := hd
  have hm := h2.many
  have hb := h2.2.2.1
  by_cases he : wrE s.1.length i l.length = 0
  · obtain ⟨hi0, hi1⟩ := wrE_ok he
    obtain ⟨j, rfl⟩ : ∃ j : Nat, i = j := ⟨i.toNat, by omega⟩
    rw [Int.toNat_natCast] at hi1
    rw [he, wrD, if_pos he]
    by_cases hl : 0 < l.length
    · refine (Write_yes F H g s.1 us s.2.2 vB vW j v l w hd hr ha hH hb hi1 hl (by omega)).mono ?_
      rintro e w' ⟨rfl, v1, v2, h3, h4⟩
      refine ⟨rfl, ⟨_, vB, v2, h3, ?_, h2.2.1, hb, fun x hx => ?_⟩, h4⟩
      · rw [Int.toNat_natCast, List.map_append, flatW_append, ← h2.1, List.map_singleton, flatW_one]
        rfl
      · rcases List.mem_append.1 hx with hx | hx
        · exact h2.2.2.2 x hx
        · obtain rfl := List.mem_singleton.1 hx
          exact ⟨hi1, hl⟩
    · have hl0 : l = [] := List.eq_nil_of_length_eq_zero (by omega)
      subst hl0
      have hs : (s.1, s.2.1 ++ spanB (j : Int).toNat [], s.2.2) = s := by simp [spanB]
      rw [hs]
      obtain ⟨A, c, rfl, hlc, hcm⟩ := hr.rd.sliceN (List.length_map _)
      obtain ⟨AB, cB, rfl⟩ := hd.slB
      have c0 := hd.c0
      have HD := Lib.hid (show Dk F w g s from ⟨us, _, vW, hd, h2⟩)
      have hj : j ≤ s.1.length := by simpa using hi1
      clear hd hr h2 he ha hH hs hi1
      go_enter Try.func12, Try.ntmps12
      go_wp2
      go_ret
      exact ⟨rfl, HD.out.mono (fun k hk => .inl hk) (hin.since (Nat.le_refl _)), Chg.refl _ _⟩
  · rw [wrD, if_neg he]
    obtain ⟨A, c, rfl, hlc, hcm⟩ := hr.rd.sliceN (List.length_map _)
    unfold maxLen at hcm
    obtain ⟨AB, cB, rfl⟩ := hd.slB
    have c0 := hd.c0
    have HD := Lib.hid (show Dk F w g s from ⟨us, _, vW, hd, h2⟩)
    clear hd hr h2 ha hH
    rcases (show i < 0 ∨ (0 ≤ i ∧ (s.1.length : Int) - (l.length : Int) < i) by
      unfold wrE at he
      split at he
      · exact .inl (by assumption)
      · split at he
        · exact .inr (by omega)
        · exact absurd rfl he) with h3 | ⟨h3, h4⟩
    · have he1 : wrE s.1.length i l.length = 1 := by rw [wrE, if_pos h3]
      rw [he1]
      clear he he1
      go_enter Try.func12, Try.ntmps12
      go_wp2
      go_ret
      exact ⟨rfl, HD.out.mono (fun k hk => .inl hk) (hin.since (Nat.le_refl _)), Chg.refl _ _⟩
    · have he1 : wrE s.1.length i l.length = 3 := by rw [wrE, if_neg (by omega), if_pos (by omega)]
      rw [he1]
      clear he he1
      go_enter Try.func12, Try.ntmps12
      go_wp2
      go_ret
      exact ⟨rfl, HD.out.mono (fun k hk => .inl hk) (hin.since (Nat.le_refl _)), Chg.refl _ _⟩

end Go.Proofs.Ytkoppdhmbhgnfaa
