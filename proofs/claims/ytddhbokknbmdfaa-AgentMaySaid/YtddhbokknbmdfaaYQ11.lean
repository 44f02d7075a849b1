/- Texts that the proof of Y rests on, one behind the other. -/
import Derived.Test.YtddhbokknbmdfaaYQ10
import Derived.Deep.CutBlock
import Derived.Test.YtddhbokknbmdfaaRows

/- Package store: a new store; what a nil one answers. -/
namespace Go.Proofs.Ytddhbokknbmdfaa
open Go.RowKit

theorem soC_new (r : Int) : Try.zeroCells103.setIfInBounds 0 (.int .i64 r) = (soC r 0 (List.replicate 24 zLp) 0).toArray := by kernel_rfl

set_option maxRecDepth 100000 in
theorem New_any (room : Int) (w : World) :
    Calls Try.prog 24 #[.int .i64 room] w fun e w' => e = .returned (.pointer (some ⟨w.heap.size, 0, none⟩)) ∧ Ext w w' ∧ w.heap.size < w'.heap.size ∧
      ∀ N : Fp, N.isIn w' → N w.heap.size → SoAt N w' w.heap.size (newS room) := by
  go_enter Try.func24, Try.ntmps24
  go_wp2
  go_ret
  refine ⟨rfl, (Below.refl _ _).alloc (Nat.le_refl _) _, by simp, fun N hN hg => ⟨⟨List.replicate 24 zLp, rfl, ?_, fun x hx => by rw [List.eq_of_mem_replicate hx]; exact zLp_rd _ _⟩, hN, hg⟩⟩
  rw [soC_new]
  exact Blk.new _ _ _

/-! A nil store. -/
theorem of_nil (job : Int) (w : World) :
    Calls Try.prog 64 #[.pointer none, .int .i64 job] w fun e w' => ∃ b, e = .returned (.pointer (some ⟨b, 0, none⟩)) ∧ Ext w w' ∧ w.heap.size ≤ b ∧ Blk w' b 100 #[.int .i64 0, .slice none 0 0, .int .i64 0, .slice none 0 0] := by
  go_enter Try.func64, Try.ntmps64
  go_wp2
  go_ret
  exact ⟨_, rfl, (Below.refl _ _).alloc (Nat.le_refl _) _, Nat.le_refl _, Blk.new _ _ _⟩
theorem Fence_nil (t : Int) (w : World) : Calls Try.prog 15 #[.pointer none, .int .i64 t] w fun e w' => e = .returned (.tuple #[]) ∧ Ext w w' := by
  go_enter Try.func15, Try.ntmps15
  go_wp2
  go_end0
  exact ⟨rfl, Ext.refl _⟩
theorem Term_nil (w : World) : Calls Try.prog 22 #[.pointer none] w fun e w' => e = .returned (.int .i64 0) ∧ Ext w w' := by
  go_enter Try.func22, Try.ntmps22
  go_wp2
  go_ret
  exact ⟨rfl, Ext.refl _⟩
theorem Writes_nil (w : World) : Calls Try.prog 23 #[.pointer none] w fun e w' => e = .returned (.int .i64 0) ∧ Ext w w' := by
  go_enter Try.func23, Try.ntmps23
  go_wp2
  go_ret
  exact ⟨rfl, Ext.refl _⟩
theorem Used_nil (w : World) : Calls Try.prog 21 #[.pointer none] w fun e w' => e = .returned (.int .i64 0) ∧ Ext w w' := by
  go_enter Try.func21, Try.ntmps21
  go_wp2
  go_ret
  exact ⟨rfl, Ext.refl _⟩
theorem Stage_nil (t job e : Int) (v : Value) (w : World) : Calls Try.prog 18 #[.pointer none, .int .i64 t, .int .i64 job, .int .i64 e, v] w fun e w' => e = .returned (.int .i64 1) ∧ Ext w w' := by
  go_enter Try.func18, Try.ntmps18
  go_wp2
  go_ret
  exact ⟨rfl, Ext.refl _⟩
theorem Commit_nil (job e : Int) (w : World) : Calls Try.prog 19 #[.pointer none, .int .i64 job, .int .i64 e] w fun e w' => e = .returned (.int .i64 1) ∧ Ext w w' := by
  go_enter Try.func19, Try.ntmps19
  go_wp2
  go_ret
  exact ⟨rfl, Ext.refl _⟩
theorem Counts_nil (job : Int) (w : World) : Calls Try.prog 20 #[.pointer none, .int .i64 job] w fun e w' => e = .returned (.int .i64 0) ∧ Ext w w' := by
  go_enter Try.func20, Try.ntmps20
  go_wp2_with fail
  refine (of_nil job w).mono ?_
  rintro e1 w1 ⟨b, rfl, hx, -, hb⟩
  have c0 : w1.cell? ⟨b, 0, none⟩ = some (.int .i64 0) := hb.cell 0
  have HX := Lib.hid hx
  clear hx hb
  go_wp2
  go_ret
  exact ⟨rfl, HX.out⟩
theorem End_nil (job : Int) (w : World) : Calls Try.prog 16 #[.pointer none, .int .i64 job] w fun e w' => e = .returned (.tuple #[]) ∧ Ext w w' := by
  go_enter Try.func16, Try.ntmps16
  go_wp2_with fail
  refine (of_nil job w).mono ?_
  rintro e1 w1 ⟨b, rfl, hx, hlb, hb⟩
  have c0 : w1.cell? ⟨b, 0, none⟩ = some (.int .i64 0) := hb.cell 0
  have c1 : w1.cell? ⟨b, 1, none⟩ = some (.slice none 0 0) := hb.cell 1
  have c2 : w1.cell? ⟨b, 2, none⟩ = some (.int .i64 0) := hb.cell 2
  have c3 : w1.cell? ⟨b, 3, none⟩ = some (.slice none 0 0) := hb.cell 3
  have f0 := hb.frozen 0
  have f1 := hb.frozen 1
  have f2 := hb.frozen 2
  have f3 := hb.frozen 3
  have HX := Lib.hid (fun (W : World) (hc : Chg (fun k => k = b) w1 W) => hc.ext hx (fun k hk => by rw [hk]; exact hlb))
  clear hx hb hlb
  go_wp2
  go_end0
  exact ⟨rfl, HX.out _ (((((Chg.refl _ _).set1 _ _).set1 _ _).set1 _ _).set1 _ _)⟩
theorem Get_nil (job e : Int) (w : World) : Calls Try.prog 17 #[.pointer none, .int .i64 job, .int .i64 e] w fun x w' => x = .returned (.tuple #[.slice none 0 0, .bool false]) ∧ Ext w w' := by
  go_enter Try.func17, Try.ntmps17
  go_wp2_with fail
  refine (of_nil job w).mono ?_
  rintro e1 w1 ⟨b, rfl, hx, -, hb⟩
  have c0 : w1.cell? ⟨b, 0, none⟩ = some (.int .i64 0) := hb.cell 0
  have c1 : w1.cell? ⟨b, 1, none⟩ = some (.slice none 0 0) := hb.cell 1
  have HX := Lib.hid hx
  have HB := Lib.hid hb
  clear hx hb
  go_wp2_with fail
  refine (is_c zCk e false (by simp [isC, zCk]) (.slice none 0 0) w1).mono ?_
  rintro e2 w2 ⟨rfl, hx2⟩
  have hb := HB.out.ext hx2
  have c2 : w2.cell? ⟨b, 2, none⟩ = some (.int .i64 0) := hb.cell 2
  have c3 : w2.cell? ⟨b, 3, none⟩ = some (.slice none 0 0) := hb.cell 3
  have HX2 := Lib.hid (HX.out.trans hx2)
  clear hx2 hb
  go_wp2_with fail
  refine (is_c zCk e false (by simp [isC, zCk]) (.slice none 0 0) w2).mono ?_
  rintro e3 w3 ⟨rfl, hx3⟩
  have HX3 := Lib.hid (HX2.out.trans hx3)
  clear hx3
  go_wp2
  go_ret2
  exact ⟨rfl, HX3.out⟩

end Go.Proofs.Ytddhbokknbmdfaa

/- Package store: a store as a statement uses it, alone. -/
namespace Go.Proofs.Ytddhbokknbmdfaa
open Go.RowKit

theorem usedJ_all : ∀ l : List PrP, (∀ p ∈ l, OkP p) → usedJ l ≤ 200 * l.length
  | [], _ => Nat.le_refl _
  | a :: l, h => by
    have h1 := usedJ_all l fun p hp => h p (by simp [hp])
    have h2 := h a (by simp)
    have h3 := h2.cl
    have h4 := h2.sl
    simp only [usedJ, List.map_cons, List.sum_cons, List.length_cons, wtP] at h1 ⊢
    omega
theorem OkS.used_le {S : StoP} (h : OkS S) : usedJ S.jobs ≤ 4800 := by have h1 := usedJ_all S.jobs h.each; have h2 := h.len; omega
abbrev G1 (g : Nat) : Fp := fun k => k = g
/-- The store at g was made since w; n: how often something was staged, at most. -/
structure SW (w W : World) (g : Nat) (S : StoP) (n : Nat) : Prop where
  so : SoAt (G1 g) W g S
  ok : OkS S
  ext : Ext w W
  low : w.heap.size ≤ g
  wr : 0 ≤ S.writes ∧ S.writes ≤ (n : Int)

section
variable {w W W' : World} {g n : Nat} {S : StoP}
theorem SW.more (h : SW w W g S n) (hx : Ext W W') : SW w W' g S n := ⟨h.so.ext hx, h.ok, h.ext.trans hx, h.low, h.wr⟩
theorem SW.new {w W : World} (hx : Ext w W) (room : Int) : Calls Try.prog 24 #[.int .i64 room] W fun e w' => ∃ g, e = .returned (.pointer (some ⟨g, 0, none⟩)) ∧ SW w w' g (newS room) 0 :=
  (New_any room W).mono (by
    rintro e w' ⟨rfl, hx2, hl, hm⟩
    exact ⟨_, rfl, hm _ (fun k hk => by rw [hk]; exact hl) rfl, okS_new room, hx.trans hx2, hx.size, Int.le_refl 0, Int.le_refl 0⟩)
theorem SW.stage (h : SW w W g S n) (hn : n ≤ 1000) (t j e : Int) (d : List UInt8) (A : Option Addr) (c : Nat) (hr : Rd W (.slice A d.length c) (d.map B)) (hd : d.length ≤ 1000) :
    Calls Try.prog 18 #[.pointer (some ⟨g, 0, none⟩), .int .i64 t, .int .i64 j, .int .i64 e, .slice A d.length c] W fun x w' =>
      x = .returned (.int .i64 (stageS S t j e d).1) ∧ SW w w' g (stageS S t j e d).2 (n + 1) ∧ Chg (G1 g) W w' :=
  (Stage_any (G1 g) g S t j e d A c W h.so h.ok hr (by omega) h.wr.1 (by have := h.wr.2; omega) (by have := h.ok.used_le; omega)).mono (by
    rintro x w' ⟨rfl, hs, hc⟩
    have hw := stage_room S t j e d
    exact ⟨rfl, ⟨hs, h.ok.stage _ _ _ _, hc.ext h.ext (fun k hk => by have hk : k = g := hk; rw [hk]; exact h.low), h.low, by have := h.wr; omega, by have := h.wr; omega⟩, hc⟩)
theorem SW.commit (h : SW w W g S n) (j e : Int) :
    Calls Try.prog 19 #[.pointer (some ⟨g, 0, none⟩), .int .i64 j, .int .i64 e] W fun x w' =>
      x = .returned (.int .i64 (commitS S j e).1) ∧ SW w w' g (commitS S j e).2 n ∧ Chg (G1 g) W w' :=
  (Commit_any (G1 g) g S j e W h.so h.ok).mono (by
    rintro x w' ⟨rfl, hs, hc⟩
    have hw := commit_room S j e
    exact ⟨rfl, ⟨hs, h.ok.commit _ _, hc.ext h.ext (fun k hk => by have hk : k = g := hk; rw [hk]; exact h.low), h.low, by have := h.wr; omega, by have := h.wr; omega⟩, hc⟩)
theorem SW.end_ (h : SW w W g S n) (j : Int) :
    Calls Try.prog 16 #[.pointer (some ⟨g, 0, none⟩), .int .i64 j] W fun x w' => x = .returned (.tuple #[]) ∧ SW w w' g (endS S j) n ∧ Chg (G1 g) W w' :=
  (End_any (G1 g) g S j W h.so h.ok).mono (by
    rintro x w' ⟨rfl, hs, hc⟩
    have hw := setJ_room S j zPr
    exact ⟨rfl, ⟨hs, h.ok.end_ _, hc.ext h.ext (fun k hk => by have hk : k = g := hk; rw [hk]; exact h.low), h.low, by unfold endS; have := h.wr; omega, by unfold endS; have := h.wr; omega⟩, hc⟩)
theorem SW.fence (h : SW w W g S n) (t : Int) :
    Calls Try.prog 15 #[.pointer (some ⟨g, 0, none⟩), .int .i64 t] W fun x w' => x = .returned (.tuple #[]) ∧ SW w w' g (fenceS S t) n ∧ Chg (G1 g) W w' :=
  (Fence_any (G1 g) g S t W h.so).mono (by
    rintro x w' ⟨rfl, hs, hc⟩
    exact ⟨rfl, ⟨hs, h.ok.fence _, hc.ext h.ext (fun k hk => by have hk : k = g := hk; rw [hk]; exact h.low), h.low, h.wr⟩, hc⟩)
theorem SW.get (h : SW w W g S n) (j e : Int) :
    Calls Try.prog 17 #[.pointer (some ⟨g, 0, none⟩), .int .i64 j, .int .i64 e] W fun x w' =>
      ∃ v, x = .returned (.tuple #[v, .bool (getS S j e).2]) ∧ RdF (fun k => ¬ G1 g k) w' v ((getS S j e).1.map B) ∧ SW w w' g S n ∧ Ext W w' :=
  (Get_any (G1 g) g S j e W h.so h.ok).mono (by
    rintro x w' ⟨v, rfl, hv, hx⟩
    exact ⟨v, rfl, hv, h.more hx, hx⟩)
theorem SW.counts (h : SW w W g S n) (j : Int) :
    Calls Try.prog 20 #[.pointer (some ⟨g, 0, none⟩), .int .i64 j] W fun x w' => x = .returned (.int .i64 (ofJ S j).c.ep) ∧ SW w w' g S n ∧ Ext W w' :=
  (Counts_any (G1 g) g S j W h.so h.ok).mono (by
    rintro x w' ⟨rfl, hx⟩
    exact ⟨rfl, h.more hx, hx⟩)
theorem SW.used (h : SW w W g S n) :
    Calls Try.prog 21 #[.pointer (some ⟨g, 0, none⟩)] W fun x w' => x = .returned (.int .i64 (usedJ S.jobs : Int)) ∧ SW w w' g S n ∧ Ext W w' :=
  (Used_any (G1 g) g S W h.so h.ok (by have := h.ok.used_le; omega)).mono (by
    rintro x w' ⟨rfl, hx⟩
    exact ⟨rfl, h.more hx, hx⟩)
theorem SW.writes (h : SW w W g S n) :
    Calls Try.prog 23 #[.pointer (some ⟨g, 0, none⟩)] W fun x w' => x = .returned (.int .i64 S.writes) ∧ W = w' := Writes_any (G1 g) g S W h.so h.ok
theorem SW.term (h : SW w W g S n) :
    Calls Try.prog 22 #[.pointer (some ⟨g, 0, none⟩)] W fun x w' => x = .returned (.int .i64 S.term) ∧ W = w' := Term_any (G1 g) g S W h.so
end

end Go.Proofs.Ytddhbokknbmdfaa

/- Package agent: Take, with a store. -/
namespace Go.Proofs.Ytddhbokknbmdfaa
open Go.RowKit

section
variable {N N' G : Fp} {w w' : World} {g : Nat} {S : StoP}
theorem SoAt.wide (h : SoAt N w g S) (hx : Ext w w') (hN : ∀ k, N' k → N k ∨ w.heap.size ≤ k) (hi : N'.isIn w') (hg : N' g) : SoAt N' w' g S := by
  obtain ⟨lp, h1, h2, h3⟩ := h.out
  have hr : ∀ v xs, RdF (fun k => ¬ N k) w v xs → RdF (fun k => ¬ N' k) w' v xs := by
    rintro v xs ⟨A, c, e, q1, q2, q3⟩
    refine ⟨A, c, e, q1, q2, fun hn => ?_⟩
    obtain ⟨b, o, hA, hb, hNb, hc⟩ := q3 hn
    refine ⟨b, o, hA, Nat.lt_of_lt_of_le hb hx.size, fun hb' => ?_, fun j u hu => (hx.cell (p := ⟨b, o + j, none⟩) hb).trans (hc j u hu)⟩
    rcases hN b hb' with h | h
    · exact hNb h
    · omega
  exact ⟨⟨lp, h1, h2.ext hx, fun x hxm => ⟨hr _ _ (h3 x hxm).1, hr _ _ (h3 x hxm).2⟩⟩, hi, hg⟩
theorem SoAt.narrow (h : SoAt N' w g S) (hN : ∀ k, N k → N' k) (hg : N g) : SoAt N w g S := by
  obtain ⟨lp, h1, h2, h3⟩ := h.out
  exact ⟨⟨lp, h1, h2, fun x hx => ⟨(h3 x hx).1.mono fun k hk hn => hk (hN k hn), (h3 x hx).2.mono fun k hk hn => hk (hN k hn)⟩⟩, fun k hk => h.isIn k (hN k hk), hg⟩
end

/-- A store, as a statement uses it, beside other blocks that are written: N. -/
structure SX (N : Fp) (w W : World) (g : Nat) (S : StoP) (n : Nat) : Prop where
  so : SoAt N W g S
  ok : OkS S
  ext : Ext w W
  low : ∀ k, N k → w.heap.size ≤ k
  wr : 0 ≤ S.writes ∧ S.writes ≤ (n : Int)
section
variable {N G : Fp} {w W W' : World} {g n : Nat} {S : StoP}
theorem SX.more (h : SX N w W g S n) (hx : Ext W W') : SX N w W' g S n := ⟨h.so.ext hx, h.ok, h.ext.trans hx, h.low, h.wr⟩
theorem SX.le (h : SX N w W g S n) {m : Nat} (hm : n ≤ m) : SX N w W g S m := ⟨h.so, h.ok, h.ext, h.low, h.wr.1, by have := h.wr.2; omega⟩
theorem SX.chg (h : SX N w W g S n) (hc : Chg G W W') (hG : ∀ k, G k → N k) (hg : ¬ G g) : SX N w W' g S n := ⟨h.so.chg hc hG hg, h.ok, hc.ext h.ext (fun k hk => h.low k (hG k hk)), h.low, h.wr⟩
theorem SX.sw (h : SX N w W g S n) : SW w W g S n := ⟨h.so.narrow (fun k hk => by have hk : k = g := hk; rw [hk]; exact h.so.here) rfl, h.ok, h.ext, h.low g h.so.here, h.wr⟩
theorem SW.sx (h : SW w W g S n) : SX (G1 g) w W g S n := ⟨h.so, h.ok, h.ext, fun k hk => by have hk : k = g := hk; rw [hk]; exact h.low, h.wr⟩
theorem SX.wide {N' : Fp} (h : SX N w W g S n) (hx : Ext W W') (hN : ∀ k, N' k → N k ∨ W.heap.size ≤ k) (hi : N'.isIn W') (hg : N' g) : SX N' w W' g S n :=
  ⟨h.so.wide hx hN hi hg, h.ok, h.ext.trans hx, fun k hk => by rcases hN k hk with h1 | h1; exact h.low k h1; have := h.ext.size; omega, h.wr⟩

/-- The store, told a checkpoint. -/
theorem stg_so (h : SX N w W g S n) (hn : n ≤ 1000) (t j e : Int) (D : List UInt8) (hd : D.length ≤ 1000) :
    StgOk W (G1 g) (.pointer (some ⟨g, 0, none⟩)) t j e D (fun r W' => r = (stageS S t j e D).1 ∧ SX N w W' g (stageS S t j e D).2 (n + 1)) := by
  refine ⟨fun k hk => by have hk : k = g := hk; rw [hk]; exact h.so.lt, fun W1 A c hx hr => ?_⟩
  have hs := h.so.wide (N' := fun k => N k ∨ (W.heap.size ≤ k ∧ k < W1.heap.size)) hx (fun k hk => by rcases hk with hk | hk; exact .inl hk; exact .inr hk.1)
    (fun k hk => by rcases hk with hk | hk; exact Nat.lt_of_lt_of_le (h.so.isIn k hk) hx.size; exact hk.2) (.inl h.so.here)
  refine (Stage_any _ g S t j e D A c W1 hs h.ok hr (by omega) h.wr.1 (by have := h.wr.2; omega) (by have := h.ok.used_le; omega)).mono ?_
  rintro x w' ⟨rfl, hs', hc⟩
  refine ⟨_, rfl, hc, fun K W' hK hk => ⟨rfl, ?_⟩⟩
  have hw := stage_room S t j e D
  have h1 := hs'.chg hk (fun k hkk => .inr (hK k hkk)) (fun hkk => by have := (hK _ hkk).1; have := h.so.lt; omega)
  have h2 : Ext w w' := hc.ext (h.ext.trans hx) (fun k hk => by have hk : k = g := hk; rw [hk]; exact h.low g h.so.here)
  have h3 : Ext w W' := hk.ext h2 (fun k hkk => by have h1 := (hK k hkk).1; have h2 := h.ext.size; omega)
  exact ⟨h1.narrow (fun k hk => .inl hk) h.so.here, h.ok.stage _ _ _ _, h3, h.low, by have := h.wr; omega, by have := h.wr; omega⟩
end

/-- What comes of an agent's checkpoint, and the store behind it. -/
def svS (S : StoP) (a : Ag) (m : Ms) (now : Int) : Bool := if asksA a m now = true then (stageS S m.term a.job a.inc (svB a.worked)).1 == 0 else true
def soS (S : StoP) (a : Ag) (m : Ms) (now : Int) : StoP := if asksA a m now = true then (stageS S m.term a.job a.inc (svB a.worked)).2 else S
theorem Take_so {N : Fp} {w W : World} {g n : Nat} {S : StoP} (h : SX N w W g S n) (hn : n ≤ 1000) (a : Ag) (m : Ms) (node now : Int) (hkb : -9223372036854775808 ≤ m.kind ∧ m.kind ≤ 9223372036854775807) (h0 : 0 ≤ a.worked) (h1 : a.worked ≤ 1000000000) :
    Calls Try.prog 55 #[agV a, .int .i64 node, msV m, .int .i64 now, .pointer (some ⟨g, 0, none⟩)] W fun e w' =>
      e = .returned (.tuple #[agV (takeA a m now (svS S a m now)), msV (if goesA a m = true then tellA (takeA a m now (svS S a m now)) node else zMs), .bool (goesA a m)]) ∧ SX N w w' g (soS S a m now) (n + 1) ∧ Chg (G1 g) W w' :=
  (Take_any a m node now (some ⟨g, 0, none⟩) (G1 g) _ W hkb h0 h1 (fun _ => stg_so h hn m.term a.job a.inc (svB a.worked) (by have := svB_len h0 h1; omega))).mono (by
    rintro e w' ⟨sv, rfl, hno, hy⟩
    cases ha : asksA a m now with
    | false =>
      obtain ⟨rfl, hx⟩ := hno ha
      have h3 : soS S a m now = S := by unfold soS; rw [ha]; rfl
      exact ⟨by unfold svS; rw [ha]; rfl, by rw [h3]; exact (h.more hx).le (Nat.le_succ n), Chg.of_ext hx⟩
    | true =>
      obtain ⟨r, rfl, ⟨rfl, hs⟩, hc⟩ := hy ha
      have h3 : soS S a m now = (stageS S m.term a.job a.inc (svB a.worked)).2 := by unfold soS; rw [ha]; rfl
      exact ⟨by unfold svS; rw [ha]; rfl, by rw [h3]; exact hs, hc⟩)

end Go.Proofs.Ytddhbokknbmdfaa

/- Layer 13's statement AgentMay, walked. -/
namespace Go.Proofs.Ytddhbokknbmdfaa
open Go.RowKit

/-- The agent and the store, behind some of what was done: N: the blocks that are written. -/
def MayR (w W : World) (ga gs k : Nat) : Prop := ∃ a S, AgAt W ga a ∧ OkA a ∧ SX (fun q => q = gs ∨ q = ga) w W gs S k
/-- Behind one more: what it was is at gw. -/
def MayC (w W : World) (ga gs gw k : Nat) (kind : Int) : Prop := ∃ a b S, AgAt W gw a ∧ AgAt W ga b ∧ MayA a b kind ∧ OkA b ∧ SX (fun q => q = gs ∨ q = ga) w W gs S k
theorem okX_parts {x : List Int} (h : okX x = true) : rightM (msOf x) = true := by unfold okX at h; simp only [Bool.and_eq_true] at h; exact h.1
theorem rightM_kd {m : Ms} (h : rightM m = true) : (1 ≤ m.kind ∧ m.kind ≤ 6) ∧ 0 ≤ m.work ∧ m.work ≤ 1000000 := by
  have h2 := rightM_all h
  have h3 := List.all_eq_true.1 h2 m.work (by simp [msL])
  unfold rightM at h
  simp only [Bool.and_eq_true, decide_eq_true_eq] at h
  unfold okN at h3
  simp only [Bool.and_eq_true, decide_eq_true_eq] at h3
  exact ⟨h.1.2, h3⟩

set_option maxRecDepth 100000 in
set_option maxHeartbeats 4000000 in
theorem AgentMay_calls (l : List (List Int)) (v : Value) (w : World) (h : RdI 13 w v l) (hln : ∀ x ∈ l, x.length = 13) : Calls Try.prog 11 #[v] w fun e w' => e = .returned (.bool true) ∧ Ext w w' := by
  obtain ⟨A, c, rfl, hlc, hcm⟩ := h.slice_
  have HR := Lib.hid h
  have HLN := Lib.hid hln
  have HFW := Lib.hid (fun W (hx : Ext w W) => few13_any l _ W (h.ext hx) hln)
  clear h hln
  go_enter Try.func11, Try.ntmps11
  go_wp2_with fail
  refine (alive13_any w).mono ?_
  rintro e0 w0 ⟨rfl, hx0⟩
  have HX0 := Lib.hid hx0
  have HFE := Lib.hid (HFW.out w0 hx0)
  clear hx0
  cases hf : few13 l with
  | false =>
    rw [hf] at HFE
    clear hf
    go_wp2_with fail
    refine HFE.out.mono ?_
    rintro e1 w1 ⟨rfl, hx⟩
    have HX1 := Lib.hid (HX0.out.trans hx)
    clear hx
    go_wp2
    go_ret
    exact ⟨rfl, HX1.out⟩
  | true =>
    have HF := Lib.hid (few13_iff.1 hf)
    rw [hf] at HFE
    clear hf HFW
    go_wp2_with fail
    refine HFE.out.mono ?_
    rintro e1 w1 ⟨rfl, hx⟩
    have HX1 := Lib.hid (HX0.out.trans hx)
    clear hx HFE
    go_wp2_with fail
    refine (SW.new HX1.out 60).mono ?_
    rintro e2 w2 ⟨gs, rfl, hs⟩
    have HS2 := Lib.hid hs
    clear hs HX0 HX1
    go_wp2_with fail
    refine (ex_nw w2).mono ?_
    rintro e3 w3 ⟨rfl, hx⟩
    have HS3 := Lib.hid (HS2.out.more hx)
    clear hx HS2
    obtain ⟨ga, hga⟩ : ∃ g, g = w3.heap.size := ⟨_, rfl⟩
    have hxa : Ext w3 (w3.alloc (.cells #[.bool true, .int .i64 0, .int .i64 0, .int .i64 0, .int .i64 0, .int .i64 0, .int .i64 1, .int .i64 0, .int .i64 0, .int .i64 0] 81)) := Ext.alloc_ _ _
    have hba : AgAt (w3.alloc (.cells #[.bool true, .int .i64 0, .int .i64 0, .int .i64 0, .int .i64 0, .int .i64 0, .int .i64 1, .int .i64 0, .int .i64 0, .int .i64 0] 81)) ga newA := by rw [hga]; exact ⟨Blk.new _ _ _⟩
    have hsx : SX (fun q => q = gs ∨ q = ga) w (w3.alloc (.cells #[.bool true, .int .i64 0, .int .i64 0, .int .i64 0, .int .i64 0, .int .i64 0, .int .i64 1, .int .i64 0, .int .i64 0, .int .i64 0] 81)) gs (newS 60) 0 := HS3.out.sx.wide hxa (fun k hk => by rcases hk with hk | hk; exact .inl hk; exact .inr (by omega)) (fun k hk => by have := HS3.out.so.lt; rcases hk with rfl | rfl; (simp; omega); (rw [hga]; simp)) (.inl rfl)
    have HGG : Hid (gs < ga ∧ w.heap.size ≤ gs) := Lib.hid ⟨by have := HS3.out.so.lt; omega, HS3.out.low⟩
    obtain ⟨w4, hw4⟩ : ∃ W, W = w3.alloc (.cells #[.bool true, .int .i64 0, .int .i64 0, .int .i64 0, .int .i64 0, .int .i64 0, .int .i64 1, .int .i64 0, .int .i64 0, .int .i64 0] 81) := ⟨_, rfl⟩
    rw [← hw4] at hba hsx
    have HR4 : Hid (MayR w w4 ga gs 0) := Lib.hid ⟨newA, _, hba, okA_new, hsx⟩
    clear hxa hba hsx HS3
    go_upto_region 7 with (fail)
    rw [← hw4, ← hga]
    clear hw4 hga
    go_wp2_with fail
    go_loopg [5] l.length (fun gg i wr => ∃ k : Nat, i = .int .i64 k ∧ k ≤ l.length ∧ gg = l.length - k ∧ Hid (MayR w wr ga gs k))
    case atStart => exact ⟨0, rfl, Nat.zero_le _, rfl, HR4.out.elim fun a h => HR4⟩
    case round =>
      obtain ⟨k, rfl, hk, rfl, HK⟩ := hrel
      clear HR4
      obtain ⟨a, S, ha, hok, hs⟩ := HK.out
      by_cases hlt : k < l.length
      · have e1 : decide ((k : Int) < (l.length : Int)) = true := decide_eq_true (by omega)
        have e1' : decide (k < l.length) = true := decide_eq_true hlt
        have HRW := Lib.hid (HR.out.ext hs.ext)
        obtain ⟨b, o, rfl, hb1, hcl⟩ := HRW.out.get (by omega)
        obtain ⟨x, hx⟩ : ∃ x, l[k]? = some x := ⟨_, List.getElem?_eq_getElem hlt⟩
        obtain ⟨z0, z1, z2, z3, z4, z5, z6, z7, z8, z9, z10, z11, z12, rfl⟩ := list13 (HLN.out x (List.mem_of_getElem? hx))
        have e0_ := hcl k _ 0 z0 hx rfl
        have e1_ := hcl k _ 1 z1 hx rfl
        have m0 := hcl k _ 2 z2 hx rfl
        have m1 := hcl k _ 3 z3 hx rfl
        have m2 := hcl k _ 4 z4 hx rfl
        have m3 := hcl k _ 5 z5 hx rfl
        have m4 := hcl k _ 6 z6 hx rfl
        have m5 := hcl k _ 7 z7 hx rfl
        have m6 := hcl k _ 8 z8 hx rfl
        have m7 := hcl k _ 9 z9 hx rfl
        have m8 := hcl k _ 10 z10 hx rfl
        have m9 := hcl k _ 11 z11 hx rfl
        have m10 := hcl k _ 12 z12 hx rfl
        simp only [Nat.add_zero] at e0_
        have HXM := Lib.hid hx
        have HOX := Lib.hid (okX_parts (HF.out.2 _ (List.mem_of_getElem? hx)))
        obtain ⟨M, hM⟩ : ∃ M, M = msOf [z0, z1, z2, z3, z4, z5, z6, z7, z8, z9, z10, z11, z12] := ⟨_, rfl⟩
        rw [← hM] at HOX
        have HMV : Hid (msV M = .agg #[.int .i64 z2, .int .i64 z3, .int .i64 z4, .int .i64 z5, .int .i64 z6, .int .i64 z7, .int .i64 z8, .int .i64 z9, .int .i64 z10, .int .i64 z11, .int .i64 z12]) := Lib.hid (by rw [hM]; rfl)
        obtain ⟨gw, hgw⟩ : ∃ g, g = wr.heap.size := ⟨_, rfl⟩
        have HGW : Hid (ga < gw ∧ b < w.heap.size) := Lib.hid ⟨by have := ha.blk.lt; omega, by have := HR.out; obtain ⟨A', c', e', q1, q2, q3⟩ := this; obtain ⟨b', o', e'', q4, -⟩ := q3 (by omega); cases e'; cases e''; exact q4⟩
        have hxw : Ext wr (wr.alloc (.cells #[.bool a.up, .int .i64 a.term, .int .i64 a.gen, .int .i64 a.mode, .int .i64 a.job, .int .i64 a.inc, .int .i64 a.ver, .int .i64 a.lease, .int .i64 a.worked, .int .i64 a.aim] 81)) := Ext.alloc_ _ _
        have hw : AgAt (wr.alloc (.cells #[.bool a.up, .int .i64 a.term, .int .i64 a.gen, .int .i64 a.mode, .int .i64 a.job, .int .i64 a.inc, .int .i64 a.ver, .int .i64 a.lease, .int .i64 a.worked, .int .i64 a.aim] 81)) gw a := by rw [hgw]; exact ⟨Blk.new _ _ _⟩
        obtain ⟨c0, c1, c2, c3, c4, c5, c6, c7, c8, c9⟩ := ha.cells
        have HA := Lib.hid (ha.ext hxw)
        have HS := Lib.hid (hs.more hxw)
        have HOK := Lib.hid hok
        obtain ⟨wb, hwb⟩ : ∃ W, W = (wr.alloc (.cells #[.bool a.up, .int .i64 a.term, .int .i64 a.gen, .int .i64 a.mode, .int .i64 a.job, .int .i64 a.inc, .int .i64 a.ver, .int .i64 a.lease, .int .i64 a.worked, .int .i64 a.aim] 81)) := ⟨_, rfl⟩
        rw [← hwb] at HA HS hw hxw
        have HW := Lib.hid hw
        have HCL : Hid (∀ W', Ext w W' → W'.cell? ⟨b, o + k * 13, none⟩ = some (.int .i64 z0) ∧ W'.cell? ⟨b, o + k * 13 + 1, none⟩ = some (.int .i64 z1) ∧ W'.cell? ⟨b, o + k * 13 + 2, none⟩ = some (.int .i64 z2) ∧ W'.cell? ⟨b, o + k * 13 + 3, none⟩ = some (.int .i64 z3) ∧ W'.cell? ⟨b, o + k * 13 + 4, none⟩ = some (.int .i64 z4) ∧ W'.cell? ⟨b, o + k * 13 + 5, none⟩ = some (.int .i64 z5) ∧ W'.cell? ⟨b, o + k * 13 + 6, none⟩ = some (.int .i64 z6) ∧ W'.cell? ⟨b, o + k * 13 + 7, none⟩ = some (.int .i64 z7) ∧ W'.cell? ⟨b, o + k * 13 + 8, none⟩ = some (.int .i64 z8) ∧ W'.cell? ⟨b, o + k * 13 + 9, none⟩ = some (.int .i64 z9) ∧ W'.cell? ⟨b, o + k * 13 + 10, none⟩ = some (.int .i64 z10) ∧ W'.cell? ⟨b, o + k * 13 + 11, none⟩ = some (.int .i64 z11) ∧ W'.cell? ⟨b, o + k * 13 + 12, none⟩ = some (.int .i64 z12)) := Lib.hid fun W' h => by obtain ⟨b', o', e', -, hc'⟩ := (HR.out.ext h).get (by omega); cases e'; exact ⟨hc' k _ 0 z0 hx rfl, hc' k _ 1 z1 hx rfl, hc' k _ 2 z2 hx rfl, hc' k _ 3 z3 hx rfl, hc' k _ 4 z4 hx rfl, hc' k _ 5 z5 hx rfl, hc' k _ 6 z6 hx rfl, hc' k _ 7 z7 hx rfl, hc' k _ 8 z8 hx rfl, hc' k _ 9 z9 hx rfl, hc' k _ 10 z10 hx rfl, hc' k _ 11 z11 hx rfl, hc' k _ 12 z12 hx rfl⟩
        have HLT := Lib.hid hlt
        have hz0 := (HCL.out wb HS.out.ext).1
        clear hM hw hxw ha hs hok hb1 hcl hx hlt e0_ e1_ m0 m1 m2 m3 m4 m5 m6 m7 m8 m9 m10 HRW HXM HK
        have x1 : (0 : Int) ≤ (k : Int) ∧ (k : Int) < (l.length : Int) := by have := HLT.out; omega
        go_upto_region 11 with (fail)
        rw [← hwb, ← hgw]
        clear hwb hgw c0 c1 c2 c3 c4 c5 c6 c7 c8 c9
        go_upto_block 2 with (fail)
        go_cut [] (fun wx => MayC w wx ga gs gw (k + 1) z0)
        case first =>
          by_cases h0 : z0 = 0
          · have hk0 : (z0 == 0) = true := by rw [h0]; rfl
            have HZ := Lib.hid h0
            clear h0
            have HTK := Lib.hid (Take_so (HS.out.more (ext_dr13 wb)) (by have := HF.out.1; have := HLT.out; omega) a M 1 z1 (by have := (rightM_kd HOX.out).1; omega) HOK.out.w0 (by have := HOK.out.w1; omega))
            have HMY := Lib.hid (take_may M z1 (svS S a M z1) HOK.out (rightM_kd HOX.out).2)
            obtain ⟨b', hb'⟩ : ∃ x, x = takeA a M z1 (svS S a M z1) := ⟨_, rfl⟩
            rw [← hb'] at HTK HMY
            obtain ⟨t', ht'⟩ : ∃ x, x = (if goesA a M = true then tellA b' 1 else zMs) := ⟨_, rfl⟩
            rw [← ht'] at HTK
            rw [HMV.out] at HTK
            unfold agV msV at HTK
            clear hb' ht'
            have HSM : Hid (∀ W', Ext w W' → (fun (W' : World) => W'.cell? ⟨b, o + k * 13 + 1, none⟩ = some (.int .i64 z1) ∧ W'.cell? ⟨b, o + k * 13 + 2, none⟩ = some (.int .i64 z2) ∧ W'.cell? ⟨b, o + k * 13 + 2 + 1, none⟩ = some (.int .i64 z3) ∧ W'.cell? ⟨b, o + k * 13 + 2 + 2, none⟩ = some (.int .i64 z4) ∧ W'.cell? ⟨b, o + k * 13 + 2 + 3, none⟩ = some (.int .i64 z5) ∧ W'.cell? ⟨b, o + k * 13 + 2 + 4, none⟩ = some (.int .i64 z6) ∧ W'.cell? ⟨b, o + k * 13 + 2 + 5, none⟩ = some (.int .i64 z7) ∧ W'.cell? ⟨b, o + k * 13 + 2 + 6, none⟩ = some (.int .i64 z8) ∧ W'.cell? ⟨b, o + k * 13 + 2 + 7, none⟩ = some (.int .i64 z9) ∧ W'.cell? ⟨b, o + k * 13 + 2 + 8, none⟩ = some (.int .i64 z10) ∧ W'.cell? ⟨b, o + k * 13 + 2 + 9, none⟩ = some (.int .i64 z11) ∧ W'.cell? ⟨b, o + k * 13 + 2 + 10, none⟩ = some (.int .i64 z12)) W') := Lib.hid fun W' h => by obtain ⟨k0, k1, k2, k3, k4, k5, k6, k7, k8, k9, k10, k11, k12⟩ := HCL.out W' h; exact ⟨k1, k2, k3, k4, k5, k6, k7, k8, k9, k10, k11, k12⟩
            have HCH : Hid (∀ W', Chg (fun q => q = gs ∨ q = ga) wb W' → Ext w W') := Lib.hid fun W' h => h.ext HS.out.ext (fun q hq => by have := HGG.out; rcases hq with hq | hq <;> omega)
            obtain ⟨c0, c1, c2, c3, c4, c5, c6, c7, c8, c9⟩ := HA.out.cells
            clear hz0
            go_wp2_with fail
            refine held_begin (by kernel_rfl) ?_
            have hHeld0 : True := True.intro
            refine held_more (S' := fun (W' : World) => W'.cell? ⟨b, o + k * 13 + 1, none⟩ = some (.int .i64 z1) ∧ W'.cell? ⟨b, o + k * 13 + 2, none⟩ = some (.int .i64 z2) ∧ W'.cell? ⟨b, o + k * 13 + 2 + 1, none⟩ = some (.int .i64 z3) ∧ W'.cell? ⟨b, o + k * 13 + 2 + 2, none⟩ = some (.int .i64 z4) ∧ W'.cell? ⟨b, o + k * 13 + 2 + 3, none⟩ = some (.int .i64 z5) ∧ W'.cell? ⟨b, o + k * 13 + 2 + 4, none⟩ = some (.int .i64 z6) ∧ W'.cell? ⟨b, o + k * 13 + 2 + 5, none⟩ = some (.int .i64 z7) ∧ W'.cell? ⟨b, o + k * 13 + 2 + 6, none⟩ = some (.int .i64 z8) ∧ W'.cell? ⟨b, o + k * 13 + 2 + 7, none⟩ = some (.int .i64 z9) ∧ W'.cell? ⟨b, o + k * 13 + 2 + 8, none⟩ = some (.int .i64 z10) ∧ W'.cell? ⟨b, o + k * 13 + 2 + 9, none⟩ = some (.int .i64 z11) ∧ W'.cell? ⟨b, o + k * 13 + 2 + 10, none⟩ = some (.int .i64 z12)) (fun _ _ => True.intro) ?_
            have hHeld1 : (fun (W' : World) => W'.cell? ⟨b, o + k * 13 + 1, none⟩ = some (.int .i64 z1) ∧ W'.cell? ⟨b, o + k * 13 + 2, none⟩ = some (.int .i64 z2) ∧ W'.cell? ⟨b, o + k * 13 + 2 + 1, none⟩ = some (.int .i64 z3) ∧ W'.cell? ⟨b, o + k * 13 + 2 + 2, none⟩ = some (.int .i64 z4) ∧ W'.cell? ⟨b, o + k * 13 + 2 + 3, none⟩ = some (.int .i64 z5) ∧ W'.cell? ⟨b, o + k * 13 + 2 + 4, none⟩ = some (.int .i64 z6) ∧ W'.cell? ⟨b, o + k * 13 + 2 + 5, none⟩ = some (.int .i64 z7) ∧ W'.cell? ⟨b, o + k * 13 + 2 + 6, none⟩ = some (.int .i64 z8) ∧ W'.cell? ⟨b, o + k * 13 + 2 + 7, none⟩ = some (.int .i64 z9) ∧ W'.cell? ⟨b, o + k * 13 + 2 + 8, none⟩ = some (.int .i64 z10) ∧ W'.cell? ⟨b, o + k * 13 + 2 + 9, none⟩ = some (.int .i64 z11) ∧ W'.cell? ⟨b, o + k * 13 + 2 + 10, none⟩ = some (.int .i64 z12)) _ := HSM.out _ (HS.out.ext.trans (ext_dr13 wb))
            clear hHeld0
            refine held_take (i := 1) (v := ?_) rfl (by kernel_rfl) (by kernel_rfl) (by kernel_rfl) (by rfl) (by first | assumption | exact True.intro) ?_ ?_
            rotate_left
            · (intro w hSw; (try dsimp only at hSw); (try obtain ⟨k0, k1, k2, k3, k4, k5, k6, k7, k8, k9, k10, k11⟩ := hSw); go_simp; (try with_reducible rfl))
            try simp only [Act.put, List.setIfInBounds_toArray, List.set_cons_zero, List.set_cons_succ]
            refine held_take (i := 2) (v := ?_) rfl (by kernel_rfl) (by kernel_rfl) (by kernel_rfl) (by rfl) (by first | assumption | exact True.intro) ?_ ?_
            rotate_left
            · (intro w hSw; (try dsimp only at hSw); (try obtain ⟨k0, k1, k2, k3, k4, k5, k6, k7, k8, k9, k10, k11⟩ := hSw); go_simp; (try with_reducible rfl))
            try simp only [Act.put, List.setIfInBounds_toArray, List.set_cons_zero, List.set_cons_succ]
            refine held_take (i := 3) (v := ?_) rfl (by kernel_rfl) (by kernel_rfl) (by kernel_rfl) (by rfl) (by first | assumption | exact True.intro) ?_ ?_
            rotate_left
            · (intro w hSw; (try dsimp only at hSw); (try obtain ⟨k0, k1, k2, k3, k4, k5, k6, k7, k8, k9, k10, k11⟩ := hSw); go_simp; (try with_reducible rfl))
            try simp only [Act.put, List.setIfInBounds_toArray, List.set_cons_zero, List.set_cons_succ]
            refine held_take (i := 4) (v := ?_) rfl (by kernel_rfl) (by kernel_rfl) (by kernel_rfl) (by rfl) (by first | assumption | exact True.intro) ?_ ?_
            rotate_left
            · (intro w hSw; (try dsimp only at hSw); (try obtain ⟨k0, k1, k2, k3, k4, k5, k6, k7, k8, k9, k10, k11⟩ := hSw); go_simp; (try with_reducible rfl))
            try simp only [Act.put, List.setIfInBounds_toArray, List.set_cons_zero, List.set_cons_succ]
            refine held_take (i := 5) (v := ?_) rfl (by kernel_rfl) (by kernel_rfl) (by kernel_rfl) (by rfl) (by first | assumption | exact True.intro) ?_ ?_
            rotate_left
            · (intro w hSw; (try dsimp only at hSw); (try obtain ⟨k0, k1, k2, k3, k4, k5, k6, k7, k8, k9, k10, k11⟩ := hSw); go_simp; (try with_reducible rfl))
            try simp only [Act.put, List.setIfInBounds_toArray, List.set_cons_zero, List.set_cons_succ]
            refine held_take (i := 6) (v := ?_) rfl (by kernel_rfl) (by kernel_rfl) (by kernel_rfl) (by rfl) (by first | assumption | exact True.intro) ?_ ?_
            rotate_left
            · (intro w hSw; (try dsimp only at hSw); (try obtain ⟨k0, k1, k2, k3, k4, k5, k6, k7, k8, k9, k10, k11⟩ := hSw); go_simp; (try with_reducible rfl))
            try simp only [Act.put, List.setIfInBounds_toArray, List.set_cons_zero, List.set_cons_succ]
            refine held_take (i := 7) (v := ?_) rfl (by kernel_rfl) (by kernel_rfl) (by kernel_rfl) (by rfl) (by first | assumption | exact True.intro) ?_ ?_
            rotate_left
            · (intro w hSw; (try dsimp only at hSw); (try obtain ⟨k0, k1, k2, k3, k4, k5, k6, k7, k8, k9, k10, k11⟩ := hSw); go_simp; (try with_reducible rfl))
            try simp only [Act.put, List.setIfInBounds_toArray, List.set_cons_zero, List.set_cons_succ]
            refine held_take (i := 8) (v := ?_) rfl (by kernel_rfl) (by kernel_rfl) (by kernel_rfl) (by rfl) (by first | assumption | exact True.intro) ?_ ?_
            rotate_left
            · (intro w hSw; (try dsimp only at hSw); (try obtain ⟨k0, k1, k2, k3, k4, k5, k6, k7, k8, k9, k10, k11⟩ := hSw); go_simp; (try with_reducible rfl))
            try simp only [Act.put, List.setIfInBounds_toArray, List.set_cons_zero, List.set_cons_succ]
            refine held_take (i := 9) (v := ?_) rfl (by kernel_rfl) (by kernel_rfl) (by kernel_rfl) (by rfl) (by first | assumption | exact True.intro) ?_ ?_
            rotate_left
            · (intro w hSw; (try dsimp only at hSw); (try obtain ⟨k0, k1, k2, k3, k4, k5, k6, k7, k8, k9, k10, k11⟩ := hSw); go_simp; (try with_reducible rfl))
            try simp only [Act.put, List.setIfInBounds_toArray, List.set_cons_zero, List.set_cons_succ]
            refine held_take (i := 10) (v := ?_) rfl (by kernel_rfl) (by kernel_rfl) (by kernel_rfl) (by rfl) (by first | assumption | exact True.intro) ?_ ?_
            rotate_left
            · (intro w hSw; (try dsimp only at hSw); (try obtain ⟨k0, k1, k2, k3, k4, k5, k6, k7, k8, k9, k10, k11⟩ := hSw); go_simp; (try with_reducible rfl))
            try simp only [Act.put, List.setIfInBounds_toArray, List.set_cons_zero, List.set_cons_succ]
            refine held_take (i := 11) (v := ?_) rfl (by kernel_rfl) (by kernel_rfl) (by kernel_rfl) (by rfl) (by first | assumption | exact True.intro) ?_ ?_
            rotate_left
            · (intro w hSw; (try dsimp only at hSw); (try obtain ⟨k0, k1, k2, k3, k4, k5, k6, k7, k8, k9, k10, k11⟩ := hSw); go_simp; (try with_reducible rfl))
            try simp only [Act.put, List.setIfInBounds_toArray, List.set_cons_zero, List.set_cons_succ]
            refine held_op (i := 0) (by kernel_rfl) rfl (fun K hK => ?_)
            go_simp
            refine hK _ _ ?_ (fun hHeld2 => ?_)
            · exact HSM.out _ (HS.out.ext.trans (ext_dr13 wb))
            clear hK K hHeld1
            try simp only [Act.put, List.setIfInBounds_toArray, List.set_cons_zero, List.set_cons_succ]
            refine held_op (i := 12) (by kernel_rfl) rfl (fun K hK => ?_)
            go_simp
            go_at_call 55
            (with_reducible refine (HTK.out).mono ?_)
            rintro e6 w6 ⟨rfl, hs6, hc6⟩
            refine hK _ _ ?_ (fun hHeld3 => ?_)
            · exact HSM.out _ hs6.ext
            clear hK K hHeld2
            try simp only [Act.put, List.setIfInBounds_toArray, List.set_cons_zero, List.set_cons_succ]
            refine held_take (i := 13) (v := ?_) rfl (by kernel_rfl) (by kernel_rfl) (by kernel_rfl) (by rfl) (by first | assumption | exact True.intro) ?_ ?_
            rotate_left
            · (intro w hSw; (try dsimp only at hSw); (try obtain ⟨k0, k1, k2, k3, k4, k5, k6, k7, k8, k9, k10, k11⟩ := hSw); go_simp; (try with_reducible rfl))
            try simp only [Act.put, List.setIfInBounds_toArray, List.set_cons_zero, List.set_cons_succ]
            refine held_take (i := 14) (v := ?_) rfl (by kernel_rfl) (by kernel_rfl) (by kernel_rfl) (by rfl) (by first | assumption | exact True.intro) ?_ ?_
            rotate_left
            · (intro w hSw; (try dsimp only at hSw); (try obtain ⟨k0, k1, k2, k3, k4, k5, k6, k7, k8, k9, k10, k11⟩ := hSw); go_simp; (try with_reducible rfl))
            try simp only [Act.put, List.setIfInBounds_toArray, List.set_cons_zero, List.set_cons_succ]
            refine held_take (i := 15) (v := ?_) rfl (by kernel_rfl) (by kernel_rfl) (by kernel_rfl) (by rfl) (by first | assumption | exact True.intro) ?_ ?_
            rotate_left
            · (intro w hSw; (try dsimp only at hSw); (try obtain ⟨k0, k1, k2, k3, k4, k5, k6, k7, k8, k9, k10, k11⟩ := hSw); go_simp; (try with_reducible rfl))
            try simp only [Act.put, List.setIfInBounds_toArray, List.set_cons_zero, List.set_cons_succ]
            refine held_take (i := 16) (v := ?_) rfl (by kernel_rfl) (by kernel_rfl) (by kernel_rfl) (by rfl) (by first | assumption | exact True.intro) ?_ ?_
            rotate_left
            · (intro w hSw; (try dsimp only at hSw); (try obtain ⟨k0, k1, k2, k3, k4, k5, k6, k7, k8, k9, k10, k11⟩ := hSw); go_simp; (try with_reducible rfl))
            try simp only [Act.put, List.setIfInBounds_toArray, List.set_cons_zero, List.set_cons_succ]
            have hcT : Chg (G1 gs) wb w6 := (Chg.of_ext (F := G1 gs) (ext_dr13 wb)).trans hc6 (fun _ _ h => h)
            have hA6 := HA.out.chg hcT (by intro h; have h : ga = gs := h; have := HGG.out; omega)
            have HW6 := Lib.hid (HW.out.chg hcT (by intro h; have h : gw = gs := h; have := HGG.out; have := HGW.out; omega))
            have HS6 := Lib.hid hs6
            refine held_op (i := 17) (by kernel_rfl) rfl (fun K hK => ?_)
            refine step_storeC 81 _ _ rfl (by rfl) ga (agA b') rfl rfl 81 _ hA6.blk (infoA b') rfl (agA_one b') ?_
            intro w5 hb5 hc5
            refine hK _ _ ?_ (fun hHeldZ => ?_)
            · exact HSM.out _ (hc5.ext HS6.out.ext (fun q hq => by have hq : q = ga := hq; have := HGG.out; omega))
            clear hK K hHeldZ
            try simp only [Act.put, List.setIfInBounds_toArray, List.set_cons_zero, List.set_cons_succ]
            refine wpAnyH_done (by kernel_rfl) ?_ _
            refine NoPanic.normal ?_
            have HB5 : Hid (AgAt w5 ga (b')) := Lib.hid ⟨hb5⟩
            have HWN := Lib.hid (HW6.out.chg hc5 (by intro h; have h : gw = ga := h; have := HGW.out; omega))
            have HS5 := Lib.hid (HS6.out.chg hc5 (fun q hq => .inr hq) (by intro h; have h : gs = ga := h; have := HGG.out; omega))
            clear hc5
            clear hb5 hs6 hc6 hcT hA6 c0 c1 c2 c3 c4 c5 c6 c7 c8 c9
            go_wp2_with fail
            go_meet
            exact ⟨a, b', _, HWN.out, HB5.out, by rw [HZ.out]; exact HMY.out.1, HMY.out.2, HS5.out⟩
          · have hk0 : (z0 == 0) = false := by simpa using h0
            by_cases h1 : z0 = 1
            · have hk1 : (z0 == 1) = true := by rw [h1]; rfl
              have HZ := Lib.hid h1
              clear h0 h1
              have HTK := Lib.hid (Act_any a z1 wb.drew (by have := HOK.out.w0; omega))
              have HMY := Lib.hid (act_may z1 HOK.out)
              obtain ⟨b', hb'⟩ : ∃ x, x = actA a z1 := ⟨_, rfl⟩
              rw [← hb'] at HTK HMY
              unfold agV at HTK
              clear hb'
              have HSM : Hid (∀ W', Ext w W' → (fun (W' : World) => W'.cell? ⟨b, o + k * 13 + 1, none⟩ = some (.int .i64 z1) ∧ W'.cell? ⟨b, o + k * 13 + 2, none⟩ = some (.int .i64 z2) ∧ W'.cell? ⟨b, o + k * 13 + 2 + 1, none⟩ = some (.int .i64 z3) ∧ W'.cell? ⟨b, o + k * 13 + 2 + 2, none⟩ = some (.int .i64 z4) ∧ W'.cell? ⟨b, o + k * 13 + 2 + 3, none⟩ = some (.int .i64 z5) ∧ W'.cell? ⟨b, o + k * 13 + 2 + 4, none⟩ = some (.int .i64 z6) ∧ W'.cell? ⟨b, o + k * 13 + 2 + 5, none⟩ = some (.int .i64 z7) ∧ W'.cell? ⟨b, o + k * 13 + 2 + 6, none⟩ = some (.int .i64 z8) ∧ W'.cell? ⟨b, o + k * 13 + 2 + 7, none⟩ = some (.int .i64 z9) ∧ W'.cell? ⟨b, o + k * 13 + 2 + 8, none⟩ = some (.int .i64 z10) ∧ W'.cell? ⟨b, o + k * 13 + 2 + 9, none⟩ = some (.int .i64 z11) ∧ W'.cell? ⟨b, o + k * 13 + 2 + 10, none⟩ = some (.int .i64 z12)) W') := Lib.hid fun W' h => by obtain ⟨k0, k1, k2, k3, k4, k5, k6, k7, k8, k9, k10, k11, k12⟩ := HCL.out W' h; exact ⟨k1, k2, k3, k4, k5, k6, k7, k8, k9, k10, k11, k12⟩
              have HCH : Hid (∀ W', Chg (fun q => q = gs ∨ q = ga) wb W' → Ext w W') := Lib.hid fun W' h => h.ext HS.out.ext (fun q hq => by have := HGG.out; rcases hq with hq | hq <;> omega)
              obtain ⟨c0, c1, c2, c3, c4, c5, c6, c7, c8, c9⟩ := HA.out.cells
              clear hz0
              go_wp2_with fail
              refine held_begin (by kernel_rfl) ?_
              have hHeld0 : True := True.intro
              refine held_more (S' := fun (W' : World) => W'.cell? ⟨b, o + k * 13 + 1, none⟩ = some (.int .i64 z1) ∧ W'.cell? ⟨b, o + k * 13 + 2, none⟩ = some (.int .i64 z2) ∧ W'.cell? ⟨b, o + k * 13 + 2 + 1, none⟩ = some (.int .i64 z3) ∧ W'.cell? ⟨b, o + k * 13 + 2 + 2, none⟩ = some (.int .i64 z4) ∧ W'.cell? ⟨b, o + k * 13 + 2 + 3, none⟩ = some (.int .i64 z5) ∧ W'.cell? ⟨b, o + k * 13 + 2 + 4, none⟩ = some (.int .i64 z6) ∧ W'.cell? ⟨b, o + k * 13 + 2 + 5, none⟩ = some (.int .i64 z7) ∧ W'.cell? ⟨b, o + k * 13 + 2 + 6, none⟩ = some (.int .i64 z8) ∧ W'.cell? ⟨b, o + k * 13 + 2 + 7, none⟩ = some (.int .i64 z9) ∧ W'.cell? ⟨b, o + k * 13 + 2 + 8, none⟩ = some (.int .i64 z10) ∧ W'.cell? ⟨b, o + k * 13 + 2 + 9, none⟩ = some (.int .i64 z11) ∧ W'.cell? ⟨b, o + k * 13 + 2 + 10, none⟩ = some (.int .i64 z12)) (fun _ _ => True.intro) ?_
              have hHeld1 : (fun (W' : World) => W'.cell? ⟨b, o + k * 13 + 1, none⟩ = some (.int .i64 z1) ∧ W'.cell? ⟨b, o + k * 13 + 2, none⟩ = some (.int .i64 z2) ∧ W'.cell? ⟨b, o + k * 13 + 2 + 1, none⟩ = some (.int .i64 z3) ∧ W'.cell? ⟨b, o + k * 13 + 2 + 2, none⟩ = some (.int .i64 z4) ∧ W'.cell? ⟨b, o + k * 13 + 2 + 3, none⟩ = some (.int .i64 z5) ∧ W'.cell? ⟨b, o + k * 13 + 2 + 4, none⟩ = some (.int .i64 z6) ∧ W'.cell? ⟨b, o + k * 13 + 2 + 5, none⟩ = some (.int .i64 z7) ∧ W'.cell? ⟨b, o + k * 13 + 2 + 6, none⟩ = some (.int .i64 z8) ∧ W'.cell? ⟨b, o + k * 13 + 2 + 7, none⟩ = some (.int .i64 z9) ∧ W'.cell? ⟨b, o + k * 13 + 2 + 8, none⟩ = some (.int .i64 z10) ∧ W'.cell? ⟨b, o + k * 13 + 2 + 9, none⟩ = some (.int .i64 z11) ∧ W'.cell? ⟨b, o + k * 13 + 2 + 10, none⟩ = some (.int .i64 z12)) _ := HSM.out _ (HS.out.ext.trans (ext_dr13 wb))
              clear hHeld0
              refine held_take (i := 1) (v := ?_) rfl (by kernel_rfl) (by kernel_rfl) (by kernel_rfl) (by rfl) (by first | assumption | exact True.intro) ?_ ?_
              rotate_left
              · (intro w hSw; (try dsimp only at hSw); (try obtain ⟨k0, k1, k2, k3, k4, k5, k6, k7, k8, k9, k10, k11⟩ := hSw); go_simp; (try with_reducible rfl))
              try simp only [Act.put, List.setIfInBounds_toArray, List.set_cons_zero, List.set_cons_succ]
              refine held_take (i := 2) (v := ?_) rfl (by kernel_rfl) (by kernel_rfl) (by kernel_rfl) (by rfl) (by first | assumption | exact True.intro) ?_ ?_
              rotate_left
              · (intro w hSw; (try dsimp only at hSw); (try obtain ⟨k0, k1, k2, k3, k4, k5, k6, k7, k8, k9, k10, k11⟩ := hSw); go_simp; (try with_reducible rfl))
              try simp only [Act.put, List.setIfInBounds_toArray, List.set_cons_zero, List.set_cons_succ]
              refine held_take (i := 3) (v := ?_) rfl (by kernel_rfl) (by kernel_rfl) (by kernel_rfl) (by rfl) (by first | assumption | exact True.intro) ?_ ?_
              rotate_left
              · (intro w hSw; (try dsimp only at hSw); (try obtain ⟨k0, k1, k2, k3, k4, k5, k6, k7, k8, k9, k10, k11⟩ := hSw); go_simp; (try with_reducible rfl))
              try simp only [Act.put, List.setIfInBounds_toArray, List.set_cons_zero, List.set_cons_succ]
              refine held_take (i := 4) (v := ?_) rfl (by kernel_rfl) (by kernel_rfl) (by kernel_rfl) (by rfl) (by first | assumption | exact True.intro) ?_ ?_
              rotate_left
              · (intro w hSw; (try dsimp only at hSw); (try obtain ⟨k0, k1, k2, k3, k4, k5, k6, k7, k8, k9, k10, k11⟩ := hSw); go_simp; (try with_reducible rfl))
              try simp only [Act.put, List.setIfInBounds_toArray, List.set_cons_zero, List.set_cons_succ]
              refine held_take (i := 5) (v := ?_) rfl (by kernel_rfl) (by kernel_rfl) (by kernel_rfl) (by rfl) (by first | assumption | exact True.intro) ?_ ?_
              rotate_left
              · (intro w hSw; (try dsimp only at hSw); (try obtain ⟨k0, k1, k2, k3, k4, k5, k6, k7, k8, k9, k10, k11⟩ := hSw); go_simp; (try with_reducible rfl))
              try simp only [Act.put, List.setIfInBounds_toArray, List.set_cons_zero, List.set_cons_succ]
              refine held_op (i := 0) (by kernel_rfl) rfl (fun K hK => ?_)
              go_simp
              refine hK _ _ ?_ (fun hHeld2 => ?_)
              · exact HSM.out _ (HS.out.ext.trans (ext_dr13 wb))
              clear hK K hHeld1
              try simp only [Act.put, List.setIfInBounds_toArray, List.set_cons_zero, List.set_cons_succ]
              refine held_op (i := 6) (by kernel_rfl) rfl (fun K hK => ?_)
              go_simp
              go_at_call 61
              (with_reducible refine (HTK.out).mono ?_)
              rintro e6 w6 ⟨rfl, hx6⟩
              refine hK _ _ ?_ (fun hHeld3 => ?_)
              · exact HSM.out _ (HS.out.ext.trans (Ext.trans (ext_dr13 wb) hx6))
              clear hK K hHeld2
              try simp only [Act.put, List.setIfInBounds_toArray, List.set_cons_zero, List.set_cons_succ]
              have hxT : Ext wb w6 := Ext.trans (ext_dr13 wb) hx6
              have hA6 := HA.out.ext hxT
              have HW6 := Lib.hid (HW.out.ext hxT)
              have HS6 := Lib.hid ((HS.out.more hxT).le (Nat.le_succ k))
              refine held_op (i := 7) (by kernel_rfl) rfl (fun K hK => ?_)
              refine step_storeC 81 _ _ rfl (by rfl) ga (agA b') rfl rfl 81 _ hA6.blk (infoA b') rfl (agA_one b') ?_
              intro w5 hb5 hc5
              refine hK _ _ ?_ (fun hHeldZ => ?_)
              · exact HSM.out _ (hc5.ext HS6.out.ext (fun q hq => by have hq : q = ga := hq; have := HGG.out; omega))
              clear hK K hHeldZ
              try simp only [Act.put, List.setIfInBounds_toArray, List.set_cons_zero, List.set_cons_succ]
              refine wpAnyH_done (by kernel_rfl) ?_ _
              refine NoPanic.normal ?_
              have HB5 : Hid (AgAt w5 ga (b')) := Lib.hid ⟨hb5⟩
              have HWN := Lib.hid (HW6.out.chg hc5 (by intro h; have h : gw = ga := h; have := HGW.out; omega))
              have HS5 := Lib.hid (HS6.out.chg hc5 (fun q hq => .inr hq) (by intro h; have h : gs = ga := h; have := HGG.out; omega))
              clear hc5
              clear hb5 hx6 hxT hA6 c0 c1 c2 c3 c4 c5 c6 c7 c8 c9
              go_wp2_with fail
              go_meet
              exact ⟨a, b', _, HWN.out, HB5.out, by rw [HZ.out]; exact HMY.out.1, HMY.out.2, HS5.out⟩
            · have hk1 : (z0 == 1) = false := by simpa using h1
              by_cases h2 : z0 = 2
              · have hk2 : (z0 == 2) = true := by rw [h2]; rfl
                have HZ := Lib.hid h2
                clear h0 h1 h2
                have HTK := Lib.hid (Fail_any a wb)
                have HMY := Lib.hid (fail_may HOK.out)
                obtain ⟨b', hb'⟩ : ∃ x, x = failA a := ⟨_, rfl⟩
                rw [← hb'] at HTK HMY
                unfold agV at HTK
                clear hb' hz0
                obtain ⟨c0, c1, c2, c3, c4, c5, c6, c7, c8, c9⟩ := HA.out.cells
                go_wp2_with fail
                refine HTK.out.mono ?_
                rintro e6 w6 ⟨rfl, hxT⟩
                have HO := Lib.hid (agA_one b')
                have HI := Lib.hid (infoA b')
                clear c0 c1 c2 c3 c4 c5 c6 c7 c8 c9
                have hA6 := HA.out.ext hxT
                have HW6 := Lib.hid (HW.out.ext hxT)
                have HS6 := Lib.hid ((HS.out.more hxT).le (Nat.le_succ k))
                have HA6 := Lib.hid hA6.blk
                clear hA6 hxT
                go_wp2_with (refine wpList_storeC rfl 81 _ _ rfl ga (agA b') rfl rfl 81 _ HA6.out HI.out rfl HO.out ?_; intro w5 hb5 hc5)
                have HB5 : Hid (AgAt w5 ga (b')) := Lib.hid ⟨hb5⟩
                have HWN := Lib.hid (HW6.out.chg hc5 (by intro h; have h : gw = ga := h; have := HGW.out; omega))
                have HS5 := Lib.hid (HS6.out.chg hc5 (fun q hq => .inr hq) (by intro h; have h : gs = ga := h; have := HGG.out; omega))
                clear hc5
                clear hb5
                go_meet
                exact ⟨a, b', _, HWN.out, HB5.out, by rw [HZ.out]; exact HMY.out.1, HMY.out.2, HS5.out⟩
              · have hk2 : (z0 == 2) = false := by simpa using h2
                by_cases h3 : z0 = 3
                · have hk3 : (z0 == 3) = true := by rw [h3]; rfl
                  have HZ := Lib.hid h3
                  clear h0 h1 h2 h3
                  have HTK := Lib.hid (Back_any a wb)
                  have HMY := Lib.hid (back_may HOK.out)
                  obtain ⟨b', hb'⟩ : ∃ x, x = backA a := ⟨_, rfl⟩
                  rw [← hb'] at HTK HMY
                  unfold agV at HTK
                  clear hb' hz0
                  obtain ⟨c0, c1, c2, c3, c4, c5, c6, c7, c8, c9⟩ := HA.out.cells
                  go_wp2_with fail
                  refine HTK.out.mono ?_
                  rintro e6 w6 ⟨rfl, hxT⟩
                  have HO := Lib.hid (agA_one b')
                  have HI := Lib.hid (infoA b')
                  clear c0 c1 c2 c3 c4 c5 c6 c7 c8 c9
                  have hA6 := HA.out.ext hxT
                  have HW6 := Lib.hid (HW.out.ext hxT)
                  have HS6 := Lib.hid ((HS.out.more hxT).le (Nat.le_succ k))
                  have HA6 := Lib.hid hA6.blk
                  clear hA6 hxT
                  go_wp2_with (refine wpList_storeC rfl 81 _ _ rfl ga (agA b') rfl rfl 81 _ HA6.out HI.out rfl HO.out ?_; intro w5 hb5 hc5)
                  have HB5 : Hid (AgAt w5 ga (b')) := Lib.hid ⟨hb5⟩
                  have HWN := Lib.hid (HW6.out.chg hc5 (by intro h; have h : gw = ga := h; have := HGW.out; omega))
                  have HS5 := Lib.hid (HS6.out.chg hc5 (fun q hq => .inr hq) (by intro h; have h : gs = ga := h; have := HGG.out; omega))
                  clear hc5
                  clear hb5
                  go_meet
                  exact ⟨a, b', _, HWN.out, HB5.out, by rw [HZ.out]; exact HMY.out.1, HMY.out.2, HS5.out⟩
                · have hk3 : (z0 == 3) = false := by simpa using h3
                  clear h0 h1 h2 h3 hz0
                  go_wp2_with fail
                  go_meet
                  exact ⟨a, a, S, HW.out, HA.out, MayA.refl HOK.out _, HOK.out, HS.out.le (Nat.le_succ k)⟩
        case rest =>
          clear HA HS HOK HMV HOX HW
          go_upto_region 20 with (fail)
          go_cut [94] (fun t w' => t = .bool false ∧ MayC w w' ga gs gw (k + 1) z0)
          case first =>
            have HMC := Lib.hid hcut
            obtain ⟨av, bv, S', hw, ha, hm, hok, hs⟩ := hcut
            obtain ⟨-, r1, r2, r3, r4, r5, r6, -, -, -⟩ := hw.cells
            obtain ⟨s0, s1, s2, s3, s4, s5, s6, -, -, -⟩ := ha.cells
            have HMY := Lib.hid hm
            have HMR := Lib.hid (show MayR w _ ga gs (k + 1) from ⟨bv, S', ha, hok, hs⟩)
            have hz0 := (HCL.out _ hs.ext).1
            clear hw ha hm hok hs
            rcases HMY.out.ver with hv | ⟨hv1, hv2⟩
            · have dv : (bv.ver != av.ver) = false := by rw [hv]; simp
              clear hv
              by_cases hb : bv.mode = 4
              · by_cases ha_ : av.mode = 4
                · have p4 : (bv.mode == 4) = true := by rw [show bv.mode = 4 by omega]; rfl
                  have q4 : (av.mode != 4) = false := by rw [show av.mode = 4 by omega]; rfl
                  clear hb ha_
                  go_wp2_with fail
                  go_meet
                  exact ⟨rfl, HMC.out⟩
                · have p4 : (bv.mode == 4) = true := by rw [show bv.mode = 4 by omega]; rfl
                  have ha2 : av.mode = 0 := (HMY.out.turn hb).resolve_left ha_
                  have q4 : (av.mode != 4) = true := by simp only [bne_iff_ne, ne_eq]; omega
                  have q0 : (av.mode != 0) = false := by rw [show av.mode = 0 by omega]; rfl
                  clear hb ha_ ha2
                  go_wp2_with fail
                  go_meet
                  exact ⟨rfl, HMC.out⟩
              · have p4 : (bv.mode == 4) = false := by simp only [beq_eq_false_iff_ne, ne_eq]; omega
                clear hb
                go_wp2_with fail
                go_meet
                exact ⟨rfl, HMC.out⟩
            · have w4_ : (av.mode != 4) = false := by rw [hv1]; rfl
              have w1_ : (z0 != 1) = false := by rw [hv2]; rfl
              cases dv : (bv.ver != av.ver) with
              | false =>
                by_cases hb : bv.mode = 4
                · have p4 : (bv.mode == 4) = true := by rw [show bv.mode = 4 by omega]; rfl
                  clear hb hv1 hv2
                  go_wp2_with fail
                  go_meet
                  exact ⟨rfl, HMC.out⟩
                · have p4 : (bv.mode == 4) = false := by simp only [beq_eq_false_iff_ne, ne_eq]; omega
                  clear hb hv1 hv2
                  go_wp2_with fail
                  go_meet
                  exact ⟨rfl, HMC.out⟩
              | true =>
                by_cases hb : bv.mode = 4
                · have p4 : (bv.mode == 4) = true := by rw [show bv.mode = 4 by omega]; rfl
                  clear hb hv1 hv2
                  go_wp2_with fail
                  go_meet
                  exact ⟨rfl, HMC.out⟩
                · have p4 : (bv.mode == 4) = false := by simp only [beq_eq_false_iff_ne, ne_eq]; omega
                  clear hb hv1 hv2
                  go_wp2_with fail
                  go_meet
                  exact ⟨rfl, HMC.out⟩
          case rest =>
            obtain ⟨rfl, hcut⟩ := hcut
            go_upto_region 22 with (fail)
            go_cut [121] (fun t w' => t = .bool false ∧ MayC w w' ga gs gw (k + 1) z0)
            case first =>
              have HMC := Lib.hid hcut
              obtain ⟨av, bv, S', hw, ha, hm, hok, hs⟩ := hcut
              obtain ⟨-, r1, r2, r3, r4, r5, r6, -, -, -⟩ := hw.cells
              obtain ⟨s0, s1, s2, s3, s4, s5, s6, -, -, -⟩ := ha.cells
              have HMY := Lib.hid hm
              have HMR := Lib.hid (show MayR w _ ga gs (k + 1) from ⟨bv, S', ha, hok, hs⟩)
              clear hw ha hm hok hs
              by_cases hc : bv.mode = 2
              · by_cases ha_ : av.mode = 2
                · have p2 : (bv.mode == 2) = true := by rw [show bv.mode = 2 by omega]; rfl
                  have q2 : (av.mode != 2) = false := by rw [show av.mode = 2 by omega]; rfl
                  clear hc ha_
                  go_wp2_with fail
                  go_meet
                  exact ⟨rfl, HMC.out⟩
                · have p2 : (bv.mode == 2) = true := by rw [show bv.mode = 2 by omega]; rfl
                  obtain ⟨hd1, hd2, hd3⟩ := (HMY.out.work hc).resolve_left ha_
                  have q2 : (av.mode != 2) = true := by simp only [bne_iff_ne, ne_eq]; omega
                  have q1 : (av.mode != 1) = false := by rw [show av.mode = 1 by omega]; rfl
                  have qj : (av.job != bv.job) = false := by rw [hd2]; simp
                  have qi : (av.inc != bv.inc) = false := by rw [hd3]; simp
                  clear hc ha_ hd1 hd2 hd3
                  go_wp2_with fail
                  go_meet
                  exact ⟨rfl, HMC.out⟩
              · have p2 : (bv.mode == 2) = false := by simp only [beq_eq_false_iff_ne, ne_eq]; omega
                clear hc
                go_wp2_with fail
                go_meet
                exact ⟨rfl, HMC.out⟩
            case rest =>
              obtain ⟨rfl, hcut⟩ := hcut
              go_upto_region 24 with (fail)
              go_cut [150] (fun t w' => t = .bool false ∧ Hid (MayR w w' ga gs (k + 1)))
              case first =>
                have HMC := Lib.hid hcut
                obtain ⟨av, bv, S', hw, ha, hm, hok, hs⟩ := hcut
                obtain ⟨-, r1, r2, r3, r4, r5, r6, -, -, -⟩ := hw.cells
                obtain ⟨s0, s1, s2, s3, s4, s5, s6, -, -, -⟩ := ha.cells
                have HMY := Lib.hid hm
                have HMR := Lib.hid (show MayR w _ ga gs (k + 1) from ⟨bv, S', ha, hok, hs⟩)
                have dt : decide (bv.term < av.term) = false := decide_eq_false (by have := HMY.out.term; omega)
                clear hw ha hm hok hs
                by_cases ht : bv.term = av.term
                · have de : (bv.term == av.term) = true := by rw [ht]; simp
                  have dg : decide (bv.gen < av.gen) = false := decide_eq_false (by have := HMY.out.gen ht; omega)
                  clear ht
                  by_cases hu : bv.mode = 0
                  · have du : (bv.mode != 0) = false := by rw [hu]; rfl
                    clear hu
                    go_wp2_with fail
                    go_meet
                    exact ⟨rfl, HMR⟩
                  · have du : (bv.mode != 0) = true := by simp only [bne_iff_ne]; exact hu
                    have dn : (!bv.up) = false := by rw [HMY.out.up hu]; rfl
                    clear hu
                    go_wp2_with fail
                    go_meet
                    exact ⟨rfl, HMR⟩
                · have de : (bv.term == av.term) = false := by simpa using ht
                  clear ht
                  by_cases hu : bv.mode = 0
                  · have du : (bv.mode != 0) = false := by rw [hu]; rfl
                    clear hu
                    go_wp2_with fail
                    go_meet
                    exact ⟨rfl, HMR⟩
                  · have du : (bv.mode != 0) = true := by simp only [bne_iff_ne]; exact hu
                    have dn : (!bv.up) = false := by rw [HMY.out.up hu]; rfl
                    clear hu
                    go_wp2_with fail
                    go_meet
                    exact ⟨rfl, HMR⟩
              case rest =>
                obtain ⟨rfl, HK2⟩ := hcut
                have hwq : wrap64 ((k : Int) + 1) = (k : Int) + 1 := IntWalk.wrap64_in _ (by have := HLT.out; omega)
                go_wp2
                go_roundg (l.length - (k + 1))
                case measure => have := HLT.out; omega
                case rel => exact ⟨k + 1, by go_num, HLT.out, rfl, HK2⟩
      · obtain rfl : k = l.length := by omega
        have e1 : decide ((l.length : Int) < (l.length : Int)) = false := decide_eq_false (by omega)
        have e1' : decide (l.length < l.length) = false := decide_eq_false (by omega)
        have HX := Lib.hid hs.ext
        clear ha hok hs HK
        go_wp2
        go_ret
        exact ⟨rfl, HX.out⟩

end Go.Proofs.Ytddhbokknbmdfaa

/- Two closed facts on the program that every row asks. -/
namespace Go.Proofs.Ytddhbokknbmdfaa
open Go.RowKit

theorem Try.ownKnob : ownKnob Try.prog.godebug = none := by kernel_rfl

theorem Try.laidOut : laidOutB Try.prog = true := by kernel_rfl

end Go.Proofs.Ytddhbokknbmdfaa

/- Layer 13: agents and messages as arguments. -/
namespace Go.Proofs.Ytddhbokknbmdfaa
open Go.ChangeShapes Go.WideShapes Go.ChangeAt Go.RowKit Go.Deep

section
variable {H : Type} {enc : TypeId × Value → H} {P : Program}
theorem dec_nums13 {w : World} {base : Nat} {held : Bool} {r : Reach} {b0 : Nat} {t : TypeId} {fs : Array Field} {v : Value} {d : DataW H} {p : List MemPlace} (hs : P.underlying t = some (.struct fs)) (hone : oneCellFields P fs = true) (hC : P.cellsOf t = fs.size)
    {ti : TypeId} (hta : (fs.all fun f => f.type == ti) = true) (hi : P.underlying ti = some (.int .i64)) (hv : Value.okWide P w r b0 t v) (h : DataW.Trod enc P w base (fun _ => true) held t v d p) : ∃ l : List Int, l.length = fs.size ∧ v = .agg (l.map (Value.int .i64)).toArray := by
  obtain ⟨cs, rfl, hsz⟩ := okWide_struct hs hv
  obtain ⟨fuel, hf⟩ := h
  have hti : ∀ f ∈ fs, P.underlying f.type = some (.int .i64) := fun f hf => by
    obtain ⟨i, hlt, rfl⟩ := Array.getElem_of_mem hf
    have := Array.all_eq_true.1 hta i hlt
    rw [beq_iff_eq] at this
    rw [this]
    exact hi
  obtain ⟨hl, hp⟩ := struct_parts hs hone hC hf
  have hl' : cs.size = fs.size := hsz.trans hC
  refine ⟨cs.toList.map intOf, by simpa using hl', ?_⟩
  congr 1
  apply Array.ext'
  apply List.ext_getElem?
  intro i
  by_cases hi : i < fs.size
  · obtain ⟨u, n, y, hu, hy⟩ := hp i fs[i] (Array.getElem?_eq_getElem hi)
    obtain ⟨z, hz, _, _⟩ := DataW.trod_int (hti _ (Array.getElem_mem hi)) hy
    simp only [List.cons.injEq, and_true] at hz
    subst hz
    have hu' : cs.toList[i]? = some (.int .i64 z) := hu
    simp only [List.getElem?_map, hu', Option.map_some, intOf]
  · rw [List.getElem?_eq_none (by simp; omega), List.getElem?_eq_none (by simp; omega)]

/-! ### Slices of structs -/


end

section
variable {H : Type} {enc : TypeId × Value → H} {w : World} {base : Nat} {held : Bool} {r : Reach} {b0 : Nat}
set_option maxRecDepth 100000 in
theorem dec_msg {v : Value} {d : DataW H} {p : List MemPlace} (hv : Value.okWide Try.prog w r b0 49 v) (h : DataW.Trod enc Try.prog w base (fun _ => true) held 49 v d p) : ∃ m : Ms, v = msV m := by
  obtain ⟨l, hl, rfl⟩ := dec_nums13 Try.underlying49 (by kernel_rfl) (by kernel_rfl) (ti := 3) (by kernel_rfl) Try.underlying3 hv h
  match l, hl with
  | [a, b, c, d, e, f, g, h, i, j, k], _ => exact ⟨⟨a, b, c, d, e, f, g, h, i, j, k⟩, rfl⟩
theorem tr_int13 {m : Nat} {u : Value} {y : DataW H × List MemPlace} (h : DataW.trod enc Try.prog w base (fun _ => true) held m 3 [u] = some y) : ∃ z : Int, u = .int .i64 z := by
  obtain ⟨z, hz, _, _⟩ := DataW.trod_int Try.underlying3 h
  simp only [List.cons.injEq, and_true] at hz
  exact ⟨z, hz⟩
theorem tr_bool13 {m : Nat} {u : Value} {y : DataW H × List MemPlace} (h : DataW.trod enc Try.prog w base (fun _ => true) held m 4 [u] = some y) : ∃ z : Bool, u = .bool z := by
  obtain ⟨z, hz, _⟩ := DataW.trod_bool Try.underlying4 h
  simp only [List.cons.injEq, and_true] at hz
  exact ⟨z, hz⟩
set_option maxRecDepth 100000 in
theorem dec_agent {v : Value} {d : DataW H} {p : List MemPlace} (hv : Value.okWide Try.prog w r b0 81 v) (h : DataW.Trod enc Try.prog w base (fun _ => true) held 81 v d p) : ∃ a : Ag, v = agV a := by
  obtain ⟨cs, rfl, hsz⟩ := okWide_struct Try.underlying81 hv
  obtain ⟨fuel, hf⟩ := h
  obtain ⟨hl, hp⟩ := struct_parts Try.underlying81 (by kernel_rfl) (by kernel_rfl) hf
  obtain ⟨u0, k0, y0, c0, t0⟩ := hp 0 _ rfl
  obtain ⟨u1, k1, y1, c1, t1⟩ := hp 1 _ rfl
  obtain ⟨u2, k2, y2, c2, t2⟩ := hp 2 _ rfl
  obtain ⟨u3, k3, y3, c3, t3⟩ := hp 3 _ rfl
  obtain ⟨u4, k4, y4, c4, t4⟩ := hp 4 _ rfl
  obtain ⟨u5, k5, y5, c5, t5⟩ := hp 5 _ rfl
  obtain ⟨u6, k6, y6, c6, t6⟩ := hp 6 _ rfl
  obtain ⟨u7, k7, y7, c7, t7⟩ := hp 7 _ rfl
  obtain ⟨u8, k8, y8, c8, t8⟩ := hp 8 _ rfl
  obtain ⟨u9, k9, y9, c9, t9⟩ := hp 9 _ rfl
  obtain ⟨z0, rfl⟩ := tr_bool13 t0
  obtain ⟨z1, rfl⟩ := tr_int13 t1
  obtain ⟨z2, rfl⟩ := tr_int13 t2
  obtain ⟨z3, rfl⟩ := tr_int13 t3
  obtain ⟨z4, rfl⟩ := tr_int13 t4
  obtain ⟨z5, rfl⟩ := tr_int13 t5
  obtain ⟨z6, rfl⟩ := tr_int13 t6
  obtain ⟨z7, rfl⟩ := tr_int13 t7
  obtain ⟨z8, rfl⟩ := tr_int13 t8
  obtain ⟨z9, rfl⟩ := tr_int13 t9
  refine ⟨⟨z0, z1, z2, z3, z4, z5, z6, z7, z8, z9⟩, ?_⟩
  have hsz' : cs.toList.length = 10 := hl
  obtain ⟨l⟩ := cs
  match l, hsz' with
  | [a, b, c, d, e, f, g, h, i, j], _ =>
    simp only [Value.cells, List.getElem?_cons_zero, List.getElem?_cons_succ, Option.some.injEq] at c0 c1 c2 c3 c4 c5 c6 c7 c8 c9
    subst c0 c1 c2 c3 c4 c5 c6 c7 c8 c9
    rfl
end

end Go.Proofs.Ytddhbokknbmdfaa

/- Layer 13: what is done to an agent, as an argument. -/
namespace Go.Proofs.Ytddhbokknbmdfaa
open Go.ChangeShapes Go.WideShapes Go.ChangeAt Go.RowKit Go.Deep

section
variable {H : Type} {enc : TypeId × Value → H} {w : World} {base : Nat} {held : Bool} {r : Reach} {b0 : Nat}
set_option maxRecDepth 100000 in
theorem dec_acts13 {v : Value} {d : DataW H} {p : List MemPlace} (hv : Value.okWide Try.prog w r b0 89 v) (h : DataW.Trod enc Try.prog w base (fun _ => true) held 89 v d p) : ∃ l : List (List Int), (∀ x ∈ l, x.length = 13) ∧ RdI 13 w v l := by
  refine dec_rdI Try.underlying89 13 (by decide) (by kernel_rfl) (fun m cs x hx j hj => ?_) hv h
  refine nest_ints Try.underlying93 2 11 (by kernel_rfl) (fun i hi => ?_) ⟨_, rfl, rfl, rfl⟩ Try.underlying49 (by kernel_rfl) (by kernel_rfl) rfl ?_ hx j hj
  · match i, hi with
    | 0, _ => exact ⟨_, rfl, rfl, by kernel_rfl, Try.underlying3⟩
    | 1, _ => exact ⟨_, rfl, rfl, by kernel_rfl, Try.underlying3⟩
  · intro f hf
    simp only [List.mem_toArray, List.mem_cons, List.not_mem_nil, or_false] at hf
    rcases hf with rfl | rfl | rfl | rfl | rfl | rfl | rfl | rfl | rfl | rfl | rfl <;> exact Try.underlying3
end

end Go.Proofs.Ytddhbokknbmdfaa
