/- For every input DiskKeeps returns true: a crash that keeps all is a sync, one that keeps none leaves what lasted, and synced bytes are the same behind every crash. No condition. -/
import Derived.Test.YtkoppdhmbhgnfaaDiskDo
import Derived.Test.YtkoppdhmbhgnfaaAlive04
import Derived.Test.YtkoppdhmbhgnfaaDiskBytes
import Derived.Test.YtkoppdhmbhgnfaaLift
import Derived.StillTailTactics
namespace Go.Proofs.Ytkoppdhmbhgnfaa
open Go.ChangeShapes Go.WideShapes Go.ChangeAt Go.RowKit

/-- Three disks, and bytes that were read. -/
def Trio (w0 w : World) (ga gb gc : Nat) (v : Value) (sa sb sc : DkS) (L : List UInt8) : Prop :=
  ∃ col, Cols w0 w col ∧ Dk (Fp.of col 1) w ga sa ∧ Dk (Fp.of col 2) w gb sb ∧ Dk (Fp.of col 3) w gc sc ∧ RdF (Fp.of col 4) w v (L.map B)

section
variable {w0 w w' : World} {ga gb gc : Nat} {v : Value} {sa sb sc : DkS} {L : List UInt8}
theorem Trio.ext (h : Trio w0 w ga gb gc v sa sb sc L) (hx : Ext w w') : Trio w0 w' ga gb gc v sa sb sc L := by
  obtain ⟨col, C, da, db, dc, rv⟩ := h
  exact ⟨col, C.stepN hx, da.ext hx, db.ext hx, dc.ext hx, RdF.ext rv hx⟩
theorem Trio.ext0 (h : Trio w0 w ga gb gc v sa sb sc L) : Ext w0 w := by
  obtain ⟨col, C, _⟩ := h
  exact C.ext
theorem Trio.lasts (h : Trio w0 w ga gb gc v sa sb sc L) : Rd w v (L.map B) := by
  obtain ⟨col, C, da, db, dc, rv⟩ := h
  exact rv.rd
theorem Trio.waitsB (h : Trio w0 w ga gb gc v sa sb sc L) (hw : sb.2.1.length ≤ 1000000000) :
    Calls Try.prog 15 #[.pointer (some ⟨gb, 0, none⟩)] w fun e w' => e = .returned (.int .i64 (sb.2.1.length : Int)) ∧ Trio w0 w' ga gb gc v sa sb sc L := by
  have ht := h
  obtain ⟨col, C, da, db, dc, rv⟩ := h
  exact (DkWaits _ gb sb w db hw).mono fun e w' ⟨he, hx⟩ => ⟨he, ht.ext hx⟩
theorem Trio.writeA (h : Trio w0 w ga gb gc v sa sb sc L) {at_ : Int} {u : Value} {l : List UInt8} (hr : Rd w0 u (l.map B)) (h0 : -9223372036854775808 ≤ at_) (h1 : at_ ≤ 9223372036854775807) (hw : sa.2.1.length ≤ 1000000000) :
    Calls Try.prog 12 #[.pointer (some ⟨ga, 0, none⟩), .int .i64 at_, u] w fun e w' => e = .returned (.int .i64 (wrE sa.1.length at_ l.length)) ∧ Trio w0 w' ga gb gc v (wrD sa at_ l) sb sc L := by
  obtain ⟨col, C, da, db, dc, rv⟩ := h
  refine (DkWriteC C (i := 1) (by decide) da (C.old hr) (C.old_apart (by decide)) C.old_in h0 h1 hw).mono ?_
  rintro e w' ⟨he, C2, d2, hc⟩
  exact ⟨he, _, C2, d2, Cols.keep (X := fun F w => Dk F w gb sb) (i := 1) (j := 2) Dk.chgC Dk.monoC C (by decide) (by decide) (by decide) hc db, Cols.keep (X := fun F w => Dk F w gc sc) (i := 1) (j := 3) Dk.chgC Dk.monoC C (by decide) (by decide) (by decide) hc dc, Cols.keep (X := fun F w => RdF F w v (L.map B)) (i := 1) (j := 4) RdF.chgC RdF.monoC C (by decide) (by decide) (by decide) hc rv⟩

theorem Trio.syncA (h : Trio w0 w ga gb gc v sa sb sc L) (hw : sa.2.1.length ≤ 1000000000) (hn0 : 0 ≤ sa.2.2) (hn1 : sa.2.2 ≤ 1000000000) :
    Calls Try.prog 10 #[.pointer (some ⟨ga, 0, none⟩)] w fun e w' => e = .returned (.tuple #[]) ∧ Trio w0 w' ga gb gc v (syD sa) sb sc L := by
  obtain ⟨col, C, da, db, dc, rv⟩ := h
  refine (DkSyncC C (i := 1) (by decide) da hw hn0 hn1).mono ?_
  rintro e w' ⟨he, C2, d2, hc⟩
  exact ⟨he, _, C2, d2, Cols.keep (X := fun F w => Dk F w gb sb) (i := 1) (j := 2) Dk.chgC Dk.monoC C (by decide) (by decide) (by decide) hc db, Cols.keep (X := fun F w => Dk F w gc sc) (i := 1) (j := 3) Dk.chgC Dk.monoC C (by decide) (by decide) (by decide) hc dc, Cols.keep (X := fun F w => RdF F w v (L.map B)) (i := 1) (j := 4) RdF.chgC RdF.monoC C (by decide) (by decide) (by decide) hc rv⟩

theorem Trio.crashA (h : Trio w0 w ga gb gc v sa sb sc L) (k : Int) (h0 : -9223372036854775808 ≤ k) (h1 : k ≤ 9223372036854775807) (hw : sa.2.1.length ≤ 1000000000) :
    Calls Try.prog 11 #[.pointer (some ⟨ga, 0, none⟩), .int .i64 k] w fun e w' => e = .returned (.tuple #[]) ∧ Trio w0 w' ga gb gc v (crD sa k) sb sc L := by
  obtain ⟨col, C, da, db, dc, rv⟩ := h
  refine (DkCrashC C (i := 1) (by decide) da k h0 h1 hw).mono ?_
  rintro e w' ⟨he, C2, d2, hc⟩
  exact ⟨he, _, C2, d2, Cols.keep (X := fun F w => Dk F w gb sb) (i := 1) (j := 2) Dk.chgC Dk.monoC C (by decide) (by decide) (by decide) hc db, Cols.keep (X := fun F w => Dk F w gc sc) (i := 1) (j := 3) Dk.chgC Dk.monoC C (by decide) (by decide) (by decide) hc dc, Cols.keep (X := fun F w => RdF F w v (L.map B)) (i := 1) (j := 4) RdF.chgC RdF.monoC C (by decide) (by decide) (by decide) hc rv⟩

theorem Trio.bytesA (h : Trio w0 w ga gb gc v sa sb sc L) {N : Nat} (hN : sa.1.length = N) (hw : sa.2.1.length ≤ 1000000000) :
    Calls Try.prog 13 #[.pointer (some ⟨ga, 0, none⟩)] w fun e w' => ∃ A c, e = .returned (.slice A N c) ∧ Rd w' (.slice A N c) ((rdD sa).map B) ∧ Ext w w' ∧ Trio w0 w' ga gb gc v sa sb sc L ∧ Trio w0 w' ga gb gc (.slice A N c) sa sb sc (rdD sa) := by
  have ht := h
  obtain ⟨col, C, da, db, dc, rv⟩ := h
  refine (da.bytesN hN hw).mono ?_
  rintro e w' ⟨A, c, rfl, hr, _, _, hg⟩
  have hx := hg.ext
  have hc : Chg (Fp.of col 4) w w' := Chg.of_ext hx
  exact ⟨A, c, rfl, hr, hx, ht.ext hx, _, C.stepE (i := 4) (by decide) hx, Cols.keep (X := fun F w => Dk F w ga sa) (i := 4) (j := 1) Dk.chgC Dk.monoC C (by decide) (by decide) (by decide) hc da, Cols.keep (X := fun F w => Dk F w gb sb) (i := 4) (j := 2) Dk.chgC Dk.monoC C (by decide) (by decide) (by decide) hc db, Cols.keep (X := fun F w => Dk F w gc sc) (i := 4) (j := 3) Dk.chgC Dk.monoC C (by decide) (by decide) (by decide) hc dc, Cols.made (X := fun F w => RdF F w (.slice A N c) _) (i := 4) RdF.monoC C (by decide) hx (RdF.made hg)⟩

theorem Trio.writeB (h : Trio w0 w ga gb gc v sa sb sc L) {at_ : Int} {u : Value} {l : List UInt8} (hr : Rd w0 u (l.map B)) (h0 : -9223372036854775808 ≤ at_) (h1 : at_ ≤ 9223372036854775807) (hw : sb.2.1.length ≤ 1000000000) :
    Calls Try.prog 12 #[.pointer (some ⟨gb, 0, none⟩), .int .i64 at_, u] w fun e w' => e = .returned (.int .i64 (wrE sb.1.length at_ l.length)) ∧ Trio w0 w' ga gb gc v sa (wrD sb at_ l) sc L := by
  obtain ⟨col, C, da, db, dc, rv⟩ := h
  refine (DkWriteC C (i := 2) (by decide) db (C.old hr) (C.old_apart (by decide)) C.old_in h0 h1 hw).mono ?_
  rintro e w' ⟨he, C2, d2, hc⟩
  exact ⟨he, _, C2, Cols.keep (X := fun F w => Dk F w ga sa) (i := 2) (j := 1) Dk.chgC Dk.monoC C (by decide) (by decide) (by decide) hc da, d2, Cols.keep (X := fun F w => Dk F w gc sc) (i := 2) (j := 3) Dk.chgC Dk.monoC C (by decide) (by decide) (by decide) hc dc, Cols.keep (X := fun F w => RdF F w v (L.map B)) (i := 2) (j := 4) RdF.chgC RdF.monoC C (by decide) (by decide) (by decide) hc rv⟩

theorem Trio.syncB (h : Trio w0 w ga gb gc v sa sb sc L) (hw : sb.2.1.length ≤ 1000000000) (hn0 : 0 ≤ sb.2.2) (hn1 : sb.2.2 ≤ 1000000000) :
    Calls Try.prog 10 #[.pointer (some ⟨gb, 0, none⟩)] w fun e w' => e = .returned (.tuple #[]) ∧ Trio w0 w' ga gb gc v sa (syD sb) sc L := by
  obtain ⟨col, C, da, db, dc, rv⟩ := h
  refine (DkSyncC C (i := 2) (by decide) db hw hn0 hn1).mono ?_
  rintro e w' ⟨he, C2, d2, hc⟩
  exact ⟨he, _, C2, Cols.keep (X := fun F w => Dk F w ga sa) (i := 2) (j := 1) Dk.chgC Dk.monoC C (by decide) (by decide) (by decide) hc da, d2, Cols.keep (X := fun F w => Dk F w gc sc) (i := 2) (j := 3) Dk.chgC Dk.monoC C (by decide) (by decide) (by decide) hc dc, Cols.keep (X := fun F w => RdF F w v (L.map B)) (i := 2) (j := 4) RdF.chgC RdF.monoC C (by decide) (by decide) (by decide) hc rv⟩

theorem Trio.crashB (h : Trio w0 w ga gb gc v sa sb sc L) (k : Int) (h0 : -9223372036854775808 ≤ k) (h1 : k ≤ 9223372036854775807) (hw : sb.2.1.length ≤ 1000000000) :
    Calls Try.prog 11 #[.pointer (some ⟨gb, 0, none⟩), .int .i64 k] w fun e w' => e = .returned (.tuple #[]) ∧ Trio w0 w' ga gb gc v sa (crD sb k) sc L := by
  obtain ⟨col, C, da, db, dc, rv⟩ := h
  refine (DkCrashC C (i := 2) (by decide) db k h0 h1 hw).mono ?_
  rintro e w' ⟨he, C2, d2, hc⟩
  exact ⟨he, _, C2, Cols.keep (X := fun F w => Dk F w ga sa) (i := 2) (j := 1) Dk.chgC Dk.monoC C (by decide) (by decide) (by decide) hc da, d2, Cols.keep (X := fun F w => Dk F w gc sc) (i := 2) (j := 3) Dk.chgC Dk.monoC C (by decide) (by decide) (by decide) hc dc, Cols.keep (X := fun F w => RdF F w v (L.map B)) (i := 2) (j := 4) RdF.chgC RdF.monoC C (by decide) (by decide) (by decide) hc rv⟩

theorem Trio.bytesB (h : Trio w0 w ga gb gc v sa sb sc L) {N : Nat} (hN : sb.1.length = N) (hw : sb.2.1.length ≤ 1000000000) :
    Calls Try.prog 13 #[.pointer (some ⟨gb, 0, none⟩)] w fun e w' => ∃ A c, e = .returned (.slice A N c) ∧ Rd w' (.slice A N c) ((rdD sb).map B) ∧ Ext w w' ∧ Trio w0 w' ga gb gc v sa sb sc L ∧ Trio w0 w' ga gb gc (.slice A N c) sa sb sc (rdD sb) := by
  have ht := h
  obtain ⟨col, C, da, db, dc, rv⟩ := h
  refine (db.bytesN hN hw).mono ?_
  rintro e w' ⟨A, c, rfl, hr, _, _, hg⟩
  have hx := hg.ext
  have hc : Chg (Fp.of col 4) w w' := Chg.of_ext hx
  exact ⟨A, c, rfl, hr, hx, ht.ext hx, _, C.stepE (i := 4) (by decide) hx, Cols.keep (X := fun F w => Dk F w ga sa) (i := 4) (j := 1) Dk.chgC Dk.monoC C (by decide) (by decide) (by decide) hc da, Cols.keep (X := fun F w => Dk F w gb sb) (i := 4) (j := 2) Dk.chgC Dk.monoC C (by decide) (by decide) (by decide) hc db, Cols.keep (X := fun F w => Dk F w gc sc) (i := 4) (j := 3) Dk.chgC Dk.monoC C (by decide) (by decide) (by decide) hc dc, Cols.made (X := fun F w => RdF F w (.slice A N c) _) (i := 4) RdF.monoC C (by decide) hx (RdF.made hg)⟩

theorem Trio.writeC (h : Trio w0 w ga gb gc v sa sb sc L) {at_ : Int} {u : Value} {l : List UInt8} (hr : Rd w0 u (l.map B)) (h0 : -9223372036854775808 ≤ at_) (h1 : at_ ≤ 9223372036854775807) (hw : sc.2.1.length ≤ 1000000000) :
    Calls Try.prog 12 #[.pointer (some ⟨gc, 0, none⟩), .int .i64 at_, u] w fun e w' => e = .returned (.int .i64 (wrE sc.1.length at_ l.length)) ∧ Trio w0 w' ga gb gc v sa sb (wrD sc at_ l) L := by
  obtain ⟨col, C, da, db, dc, rv⟩ := h
  refine (DkWriteC C (i := 3) (by decide) dc (C.old hr) (C.old_apart (by decide)) C.old_in h0 h1 hw).mono ?_
  rintro e w' ⟨he, C2, d2, hc⟩
  exact ⟨he, _, C2, Cols.keep (X := fun F w => Dk F w ga sa) (i := 3) (j := 1) Dk.chgC Dk.monoC C (by decide) (by decide) (by decide) hc da, Cols.keep (X := fun F w => Dk F w gb sb) (i := 3) (j := 2) Dk.chgC Dk.monoC C (by decide) (by decide) (by decide) hc db, d2, Cols.keep (X := fun F w => RdF F w v (L.map B)) (i := 3) (j := 4) RdF.chgC RdF.monoC C (by decide) (by decide) (by decide) hc rv⟩

theorem Trio.syncC (h : Trio w0 w ga gb gc v sa sb sc L) (hw : sc.2.1.length ≤ 1000000000) (hn0 : 0 ≤ sc.2.2) (hn1 : sc.2.2 ≤ 1000000000) :
    Calls Try.prog 10 #[.pointer (some ⟨gc, 0, none⟩)] w fun e w' => e = .returned (.tuple #[]) ∧ Trio w0 w' ga gb gc v sa sb (syD sc) L := by
  obtain ⟨col, C, da, db, dc, rv⟩ := h
  refine (DkSyncC C (i := 3) (by decide) dc hw hn0 hn1).mono ?_
  rintro e w' ⟨he, C2, d2, hc⟩
  exact ⟨he, _, C2, Cols.keep (X := fun F w => Dk F w ga sa) (i := 3) (j := 1) Dk.chgC Dk.monoC C (by decide) (by decide) (by decide) hc da, Cols.keep (X := fun F w => Dk F w gb sb) (i := 3) (j := 2) Dk.chgC Dk.monoC C (by decide) (by decide) (by decide) hc db, d2, Cols.keep (X := fun F w => RdF F w v (L.map B)) (i := 3) (j := 4) RdF.chgC RdF.monoC C (by decide) (by decide) (by decide) hc rv⟩

theorem Trio.crashC (h : Trio w0 w ga gb gc v sa sb sc L) (k : Int) (h0 : -9223372036854775808 ≤ k) (h1 : k ≤ 9223372036854775807) (hw : sc.2.1.length ≤ 1000000000) :
    Calls Try.prog 11 #[.pointer (some ⟨gc, 0, none⟩), .int .i64 k] w fun e w' => e = .returned (.tuple #[]) ∧ Trio w0 w' ga gb gc v sa sb (crD sc k) L := by
  obtain ⟨col, C, da, db, dc, rv⟩ := h
  refine (DkCrashC C (i := 3) (by decide) dc k h0 h1 hw).mono ?_
  rintro e w' ⟨he, C2, d2, hc⟩
  exact ⟨he, _, C2, Cols.keep (X := fun F w => Dk F w ga sa) (i := 3) (j := 1) Dk.chgC Dk.monoC C (by decide) (by decide) (by decide) hc da, Cols.keep (X := fun F w => Dk F w gb sb) (i := 3) (j := 2) Dk.chgC Dk.monoC C (by decide) (by decide) (by decide) hc db, d2, Cols.keep (X := fun F w => RdF F w v (L.map B)) (i := 3) (j := 4) RdF.chgC RdF.monoC C (by decide) (by decide) (by decide) hc rv⟩

theorem Trio.bytesC (h : Trio w0 w ga gb gc v sa sb sc L) {N : Nat} (hN : sc.1.length = N) (hw : sc.2.1.length ≤ 1000000000) :
    Calls Try.prog 13 #[.pointer (some ⟨gc, 0, none⟩)] w fun e w' => ∃ A c, e = .returned (.slice A N c) ∧ Rd w' (.slice A N c) ((rdD sc).map B) ∧ Ext w w' ∧ Trio w0 w' ga gb gc v sa sb sc L ∧ Trio w0 w' ga gb gc (.slice A N c) sa sb sc (rdD sc) := by
  have ht := h
  obtain ⟨col, C, da, db, dc, rv⟩ := h
  refine (dc.bytesN hN hw).mono ?_
  rintro e w' ⟨A, c, rfl, hr, _, _, hg⟩
  have hx := hg.ext
  have hc : Chg (Fp.of col 4) w w' := Chg.of_ext hx
  exact ⟨A, c, rfl, hr, hx, ht.ext hx, _, C.stepE (i := 4) (by decide) hx, Cols.keep (X := fun F w => Dk F w ga sa) (i := 4) (j := 1) Dk.chgC Dk.monoC C (by decide) (by decide) (by decide) hc da, Cols.keep (X := fun F w => Dk F w gb sb) (i := 4) (j := 2) Dk.chgC Dk.monoC C (by decide) (by decide) (by decide) hc db, Cols.keep (X := fun F w => Dk F w gc sc) (i := 4) (j := 3) Dk.chgC Dk.monoC C (by decide) (by decide) (by decide) hc dc, Cols.made (X := fun F w => RdF F w (.slice A N c) _) (i := 4) RdF.monoC C (by decide) hx (RdF.made hg)⟩
end

/-- Three of them at one state, but for how often they were synced; what was read last is what lasts. -/
def KeepSt (w0 w : World) (ga gb gc : Nat) (v : Value) (bs : List UInt8) (ps : List (Nat × UInt8)) (k : Nat) : Prop :=
  ∃ na nb nc : Int, Trio w0 w ga gb gc v (bs, ps, na) (bs, ps, nb) (bs, ps, nc) bs ∧ 0 ≤ na ∧ na ≤ k ∧ 0 ≤ nb ∧ nb ≤ k ∧ 0 ≤ nc ∧ nc ≤ k

def wrP (bs : List UInt8) (ps : List (Nat × UInt8)) (i : Int) (l : List UInt8) : List (Nat × UInt8) := if wrE bs.length i l.length = 0 then ps ++ spanB i.toNat l else ps
theorem wrD_P (bs : List UInt8) (ps : List (Nat × UInt8)) (n : Int) (i : Int) (l : List UInt8) : wrD (bs, ps, n) i l = (bs, wrP bs ps i l, n) := by
  unfold wrD wrP
  split <;> rfl
theorem wrP_len (bs : List UInt8) (ps : List (Nat × UInt8)) (i : Int) (l : List UInt8) : (wrP bs ps i l).length ≤ ps.length + l.length := by
  unfold wrP
  split
  · rw [List.length_append, spanB_len]
    omega
  · omega
theorem crD_all (bs : List UInt8) (ps : List (Nat × UInt8)) (n : Int) : crD (bs, ps, n) (ps.length : Int) = (putAll bs ps, [], n) := by simp [crD]
theorem crD_none (bs : List UInt8) (ps : List (Nat × UInt8)) (n : Int) : crD (bs, ps, n) 0 = (bs, [], n) := by simp [crD, putAll]
theorem crD_nil (bs : List UInt8) (n k : Int) : crD (bs, [], n) k = (bs, [], n) := by simp [crD, putAll]


set_option maxRecDepth 100000 in
set_option maxHeartbeats 4000000 in
theorem DiskKeeps_main (n : Nat) (l : List ActS) (keep : Int) (v : Value) (w : World) (hr : RdActs w v l) (hn1 : 1 ≤ n) (hn2 : n ≤ 300) (hf : fewB l = true) (hk0' : -9223372036854775808 ≤ keep) (hk1 : keep ≤ 9223372036854775807) :
    Calls Try.prog 4 #[.int .i64 (n : Int), v, .int .i64 keep] w fun e w' => e = .returned (.bool true) ∧ Ext w w' := by
  obtain ⟨A, c, rfl, hlc, hcm⟩ := hr.slice_
  have hall := few_all hf
  have HF := Lib.hid hf
  have HALL := Lib.hid hall
  have hl60 := hall.1
  clear hf hall
  go_enter Try.func4, Try.ntmps4
  go_wp2_with fail
  refine (alive_any _).mono ?_
  rintro e w1 ⟨rfl, hx1⟩
  have hr1 := hr.ext hx1
  clear hr
  go_wp2_with fail
  refine (few_any l _ _ hr1).mono ?_
  rintro e w1' ⟨rfl, rfl⟩
  rw [HF.out]
  go_wp2_with fail
  refine (DkNewC (Cols.first w1) (i := 1) (by decide) n hn1 (by omega)).mono ?_
  rintro e w2 ⟨ga, rfl, ⟨C2, a2, -⟩, -⟩
  generalize Cols.next _ w1 w2 1 = col2 at *
  go_wp2_with fail
  refine (DkNewC C2 (i := 2) (by decide) n hn1 (by omega)).mono ?_
  rintro e w3 ⟨gb, rfl, ⟨C3, b3, hc3⟩, -⟩
  have a3 := Cols.keep (X := fun F w => Dk F w ga _) (i := 2) (j := 1) Dk.chgC Dk.monoC C2 (by decide) (by decide) (by decide) hc3 a2
  clear C2 a2 hc3
  generalize Cols.next _ w2 w3 2 = col3 at *
  go_wp2_with fail
  refine (DkNewC C3 (i := 3) (by decide) n hn1 (by omega)).mono ?_
  rintro e w4 ⟨gc, rfl, ⟨C4, c4, hc4⟩, -⟩
  have a4 := Cols.keep (X := fun F w => Dk F w ga _) (i := 3) (j := 1) Dk.chgC Dk.monoC C3 (by decide) (by decide) (by decide) hc4 a3
  have b4 := Cols.keep (X := fun F w => Dk F w gb _) (i := 3) (j := 2) Dk.chgC Dk.monoC C3 (by decide) (by decide) (by decide) hc4 b3
  have hT : Trio w1 w4 ga gb gc (.slice none 0 0) (List.replicate n 0, [], 0) (List.replicate n 0, [], 0) (List.replicate n 0, [], 0) [] :=
    ⟨_, C4, a4, b4, c4, ⟨none, 0, rfl, Nat.le_refl _, Nat.zero_le _, fun h => absurd h (by simp)⟩⟩
  clear C3 a3 b3 hc4 C4 a4 b4 c4
  go_wp2_with fail
  refine (hT.bytesA (N := n) List.length_replicate (by simp)).mono ?_
  rintro e w5 ⟨A5, c5, rfl, -, -, -, hT5⟩
  have hK : KeepSt w1 w5 ga gb gc (.slice A5 n c5) (List.replicate n 0) [] 0 := ⟨0, 0, 0, hT5, by decide, by decide, by decide, by decide, by decide, by decide⟩
  clear hT hT5
  go_wp2
  go_loopw [10, 11] (fun v i wr => ∃ (k : Nat) (bs : List UInt8) (ps : List (Nat × UInt8)) (AL : Option Addr) (cL : Nat), i = .int .i64 k ∧ k ≤ l.length ∧ bs.length = n ∧ ps.length ≤ 300 * k ∧ v = .slice AL n cL ∧ KeepSt w1 wr ga gb gc (.slice AL n cL) bs ps k) (fun _ i _ => l.length - (intOf i).toNat)
  case atStart => exact ⟨0, _, [], A5, c5, rfl, Nat.zero_le _, List.length_replicate, Nat.le_refl _, rfl, hK⟩
  case round =>
    obtain ⟨k, bs, ps, AL, cL, rfl, hk, hbs, hps, rfl, na, nb, nc, hT, ha0, ha1, hb0, hb1, hc0, hc1⟩ := hrel
    have HBS := Lib.hid hbs
    clear hbs
    by_cases hlt : k < l.length
    · obtain ⟨b, o, rfl, hb, hc⟩ := hr1.get (by omega)
      obtain ⟨e1, e2, b1, b2, u, e3, hu⟩ := hc k l[k] (List.getElem?_eq_getElem hlt)
      have h300 := HALL.out.2 l[k] (List.getElem_mem hlt)
      rw [← Nat.add_assoc] at e2 e3
      have hm : ∀ w', Ext w1 w' → w'.cell? ⟨b, o + k * 3 + 1, none⟩ = some (I l[k].2.1) ∧ w'.cell? ⟨b, o + k * 3 + 2, none⟩ = some u := fun w' hx => ⟨hx.cellOf e2 hb, hx.cellOf e3 hb⟩
      replace e1 := hT.ext0.cellOf e1 hb
      have HM := Lib.hid hm
      clear hm hc e2 e3
      generalize l[k] = x at *
      obtain ⟨A2, c2, rfl, _, _⟩ := hu.sliceN (List.length_map _)
      simp only [I] at e1
      by_cases hk0 : x.1 = 0
      · rw [hk0] at e1
        have ke : ((0 : Int) == 0) = true := rfl
        clear hk0
        have hps2 : ps.length ≤ 1000000000 := by omega
        have f2 := (HM.out wr hT.ext0).1
        have f3 := (HM.out wr hT.ext0).2
        simp only [I] at f2
        go_wp2_with fail
        go_still_tail 11, (by kernel_rfl)
        change wpList _ _ _ _ _ (World.drew wr)
        go_wp2_with fail
        refine ((hT.ext (Ext.drew1 wr)).writeA hu b2.1 b2.2 hps2).mono ?_
        rintro e w6 ⟨rfl, hT6⟩
        rw [wrD_P] at hT6
        clear f2 f3 hT
        have f2 := (HM.out w6 hT6.ext0).1
        have f3 := (HM.out w6 hT6.ext0).2
        simp only [I] at f2
        go_wp2_with fail
        go_still_tail 11, (by kernel_rfl)
        change wpList _ _ _ _ _ (World.drew w6)
        go_wp2_with fail
        refine ((hT6.ext (Ext.drew1 w6)).writeB hu b2.1 b2.2 hps2).mono ?_
        rintro e w7 ⟨rfl, hT7⟩
        rw [wrD_P] at hT7
        clear f2 f3 hT6
        have f2 := (HM.out w7 hT7.ext0).1
        have f3 := (HM.out w7 hT7.ext0).2
        simp only [I] at f2
        go_wp2_with fail
        go_still_tail 11, (by kernel_rfl)
        change wpList _ _ _ _ _ (World.drew w7)
        go_wp2_with fail
        refine ((hT7.ext (Ext.drew1 w7)).writeC hu b2.1 b2.2 hps2).mono ?_
        rintro e w8 ⟨rfl, hT8⟩
        rw [wrD_P] at hT8
        clear f2 f3 hT7
        have hpl := wrP_len bs ps x.2.1 x.2.2
        have hK : KeepSt w1 w8 ga gb gc (.slice AL n cL) bs (wrP bs ps x.2.1 x.2.2) (k + 1) := ⟨na, nb, nc, hT8, ha0, by omega, hb0, by omega, hc0, by omega⟩
        have HK := Lib.hid hK
        clear hK hT8
        go_wp2
        go_roundw
        case rel => exact ⟨k + 1, bs, wrP bs ps x.2.1 x.2.2, AL, cL, by go_num, by omega, HBS.out, by omega, rfl, HK.out⟩
        case measure => simp [intOf]; omega
      · have ke : (x.1 == 0) = false := by rw [beq_eq_false_iff_ne]; exact hk0
        have ke2 : (x.1 != 0) = true := by rw [bne, ke]; rfl
        clear hk0 HM hu b1 b2 h300
        have hps2 : ps.length ≤ 1000000000 := by omega
        have hlp : (putAll bs ps).length = n := by rw [putAll_len, HBS.out]
        have HLP := Lib.hid hlp
        clear hlp
        go_wp2_with fail
        have hna2 : na ≤ 1000000000 := by omega
        have hnc2 : nc ≤ 1000000000 := by omega
        refine (hT.syncA hps2 ha0 hna2).mono ?_
        rintro e w6 ⟨rfl, hT6⟩
        clear hT e1
        go_wp2_with fail
        refine (hT6.waitsB hps2).mono ?_
        rintro e w7 ⟨rfl, hT7⟩
        clear hT6
        go_wp2_with fail
        refine (hT7.crashB _ (by omega) (by omega) hps2).mono ?_
        rintro e w8 ⟨rfl, hT8⟩
        rw [crD_all] at hT8
        clear hT7
        go_wp2_with fail
        refine (hT8.syncC hps2 hc0 hnc2).mono ?_
        rintro e w9 ⟨rfl, hT9⟩
        simp only [syD] at hT9
        clear hT8
        generalize putAll bs ps = bs' at *
        go_wp2_with fail
        refine (hT9.bytesA (N := n) HLP.out (by simp)).mono ?_
        rintro e w10 ⟨A10, c10, rfl, -, -, -, hT10⟩
        have hrd : rdD (bs', [], na + 1) = bs' := rfl
        have hrdb : rdD (bs', [], nb) = bs' := rfl
        rw [hrd] at hT10
        clear hT9
        go_wp2_with fail
        refine (hT10.crashA keep hk0' hk1 (by simp)).mono ?_
        rintro e w11 ⟨rfl, hT11⟩
        rw [crD_nil] at hT11
        clear hT10
        go_wp2_with fail
        refine (hT11.bytesA (N := n) HLP.out (by simp)).mono ?_
        rintro e w12 ⟨A12, c12, rfl, r12, -, hT12, -⟩
        rw [hrd] at r12
        clear hT11
        go_wp2_with fail
        refine (Bytes_same bs' _ _ _ r12 hT12.lasts).mono ?_
        rintro e w13 ⟨rfl, n13, hw13⟩
        have hT13 := hT12.ext (Below.drewN' (Ext.refl w12) n13)
        rw [← hw13] at hT13
        clear hT12 r12 hw13
        go_wp2_with fail
        refine (hT13.bytesB (N := n) HLP.out (by simp)).mono ?_
        rintro e w14 ⟨A14, c14, rfl, r14, -, hT14, -⟩
        rw [hrdb] at r14
        clear hT13
        go_wp2_with fail
        refine (Bytes_same bs' _ _ _ r14 hT14.lasts).mono ?_
        rintro e w15 ⟨rfl, n15, hw15⟩
        have hT15 := hT14.ext (Below.drewN' (Ext.refl w14) n15)
        rw [← hw15] at hT15
        have hK : KeepSt w1 w15 ga gb gc (.slice A10 n c10) bs' [] (k + 1) := ⟨na + 1, nb, nc + 1, hT15, by omega, by omega, hb0, by omega, by omega, by omega⟩
        have HK := Lib.hid hK
        clear hK hT15 hT14 r14 hw15 hrd hrdb
        go_wp2
        go_roundw
        case rel => exact ⟨k + 1, bs', [], A10, c10, by go_num, by omega, HLP.out, Nat.zero_le _, rfl, HK.out⟩
        case measure => simp [intOf]; omega
    · obtain rfl : k = l.length := by omega
      have hps2 : ps.length ≤ 1000000000 := by omega
      go_wp2_with fail
      refine (hT.crashC 0 (by decide) (by decide) hps2).mono ?_
      rintro e w6 ⟨rfl, hT6⟩
      rw [crD_none] at hT6
      clear hT
      go_wp2_with fail
      refine (hT6.bytesC (N := n) HBS.out (by simp)).mono ?_
      rintro e w7 ⟨A7, c7, rfl, r7, -, hT7, -⟩
      have hrdc : rdD (bs, [], nc) = bs := rfl
      rw [hrdc] at r7
      clear hT6 hrdc
      go_wp2_with fail
      refine (Bytes_same bs _ _ _ r7 hT7.lasts).mono ?_
      rintro e w8 ⟨rfl, n8, hw8⟩
      have hT8 := hT7.ext (Below.drewN' (Ext.refl w7) n8)
      rw [← hw8] at hT8
      clear hT7 r7 hw8
      go_wp2_with fail
      refine (hT8.bytesA (N := n) HBS.out hps2).mono ?_
      rintro e w9 ⟨A9, c9, rfl, r9, -, hT9, -⟩
      clear hT8
      go_wp2_with fail
      refine (hT9.bytesB (N := n) HBS.out hps2).mono ?_
      rintro e w10 ⟨A10, c10, rfl, r10, hx10, hT10, -⟩
      have r9 := r9.ext hx10
      have hrda : rdD (bs, ps, nb) = rdD (bs, ps, na) := rfl
      rw [hrda] at r10
      clear hT9 hrda hx10
      go_wp2_with fail
      refine (Bytes_same _ _ _ _ r9 r10).mono ?_
      rintro e w11 ⟨rfl, n11, hw11⟩
      have hT11 := hT10.ext (Below.drewN' (Ext.refl w10) n11)
      rw [← hw11] at hT11
      have hx := Ext.trans hx1 hT11.ext0
      clear hT10 hT11 r9 r10 hw11
      go_wp2
      go_ret
      exact ⟨rfl, hx⟩

theorem DiskKeeps_out (n : Int) (l : List ActS) (keep : Int) (v : Value) (w : World) (hr : RdActs w v l) (h : n < 1 ∨ (1 ≤ n ∧ 300 < n) ∨ (1 ≤ n ∧ n ≤ 300 ∧ fewB l = false)) :
    Calls Try.prog 4 #[.int .i64 n, v, .int .i64 keep] w fun e w' => e = .returned (.bool true) ∧ Ext w w' := by
  have alive := alive_any w
  rcases h with h | ⟨h1, h⟩ | ⟨h1, h2, h⟩
  · go_enter Try.func4, Try.ntmps4
    go_wp2_with fail
    refine alive.mono ?_
    rintro e w1 ⟨rfl, hx1⟩
    go_wp2
    go_ret
    exact ⟨rfl, hx1⟩
  · go_enter Try.func4, Try.ntmps4
    go_wp2_with fail
    refine alive.mono ?_
    rintro e w1 ⟨rfl, hx1⟩
    go_wp2
    go_ret
    exact ⟨rfl, hx1⟩
  · have HF := Lib.hid h
    clear h
    go_enter Try.func4, Try.ntmps4
    go_wp2_with fail
    refine alive.mono ?_
    rintro e w1 ⟨rfl, hx1⟩
    go_wp2_with fail
    refine (few_any l _ _ (hr.ext hx1)).mono ?_
    rintro e w1' ⟨rfl, rfl⟩
    rw [HF.out]
    go_wp2
    go_ret
    exact ⟨rfl, hx1⟩

theorem DiskKeeps_calls (n : Int) (l : List ActS) (keep : Int) (v : Value) (w : World) (hr : RdActs w v l) (hk0 : -9223372036854775808 ≤ keep) (hk1 : keep ≤ 9223372036854775807) :
    Calls Try.prog 4 #[.int .i64 n, v, .int .i64 keep] w fun e w' => e = .returned (.bool true) ∧ Ext w w' := by
  by_cases h : 1 ≤ n ∧ n ≤ 300
  · cases hf : fewB l with
    | true =>
      obtain ⟨k, rfl⟩ : ∃ k : Nat, n = k := ⟨n.toNat, by omega⟩
      exact DiskKeeps_main k l keep v w hr (by omega) (by omega) hf hk0 hk1
    | false => exact DiskKeeps_out n l keep v w hr (.inr (.inr ⟨h.1, h.2, hf⟩))
  · exact DiskKeeps_out n l keep v w hr (by omega)

set_option maxRecDepth 100000 in
theorem DiskKeeps_lifted (os : Os) (started : os.Started) (H : Type) (enc : TypeId × Value → H) :
    ReturnsInHanded {} Try.checked os 4 .any (Rows.diskKeepsSpec.pre6 enc Try.prog Try.f4 Rows.diskKeepsRow.domain false) (Rows.diskKeepsSpec.post enc Try.prog Try.f4 false true false false) := by
  refine law_lift (C := Try.checked) (tb := 4) Try.ownKnob started (by kernel_rfl) Try.func4 Try.laidOut (by kernel_rfl) rfl Try.underlying4 rfl rfl ?_
    (ChangeSpec.witness6 (enc := enc) (C := Try.checked) false ⟨#[], #[.int .i64 0, .slice none 0 0, .int .i64 0], []⟩ 8 (by kernel_rfl) (by kernel_rfl) (by kernel_rfl) (by kernel_rfl)) ?_
  · intro ds hd
    rw [Try.params4] at hd
    match ds, hd with
    | [d0, d1, d2], _ => rfl
  · intro W base args ds p hval hA hsz
    rw [Try.params4] at hA hval hsz
    obtain ⟨v0, vs0, d0, ds0, p0, q0, hargs, rfl, rfl, h0, r0_⟩ := trodAll_cons hA
    obtain ⟨v1, vs1, d1, ds1, p1, q1, rfl, rfl, rfl, h1, r1_⟩ := trodAll_cons r0_
    obtain ⟨v2, vs2, d2, ds2, p2, q2, rfl, rfl, rfl, h2, r2_⟩ := trodAll_cons r1_
    obtain ⟨rfl, rfl, rfl⟩ := trodAll_nil r2_
    obtain rfl : args = #[v0, v1, v2] := by cases args; simp_all
    obtain ⟨a0, rfl, lo0, hi0⟩ := dec_int Try.underlying3 (hval 0 3 v0 rfl rfl) h0
    obtain ⟨a1, r1⟩ := dec_acts Try.underlying22 Try.underlying37 (by kernel_rfl) (by kernel_rfl) rfl rfl rfl rfl Try.underlying3 Try.underlying3 Try.underlying30 Try.underlying5 (by kernel_rfl) (hval 1 22 v1 rfl rfl) h1
    obtain ⟨a2, rfl, lo2, hi2⟩ := dec_int Try.underlying3 (hval 2 3 v2 rfl rfl) h2
    exact DiskKeeps_calls a0 a1 a2 _ W r1 lo2 hi2

theorem DiskKeeps_holds : Rows.DiskKeepsSaid :=
  OpenClaim.holds_of_wide 4 Try.f4 rfl rfl rfl rfl rfl rfl rfl ⟨rfl, rfl, rfl, rfl, rfl⟩ rfl rfl rfl rfl rfl (by kernel_rfl) Try.func4 (by kernel_rfl)
    (of_decide_eq_true (by kernel_rfl)) (by unfold Func.isWrapper; first | (rw [if_pos (by decide +kernel)]; kernel_rfl) | (rw [if_neg (by decide +kernel)]; exact ⟨rfl, rfl⟩))
    (fun os started H enc _ => DiskKeeps_lifted os started H enc)


end Go.Proofs.Ytkoppdhmbhgnfaa
