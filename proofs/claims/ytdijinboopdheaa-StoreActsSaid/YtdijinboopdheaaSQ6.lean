/- Texts that the proof of S rests on, one behind the other. -/
import Derived.Test.YtdijinboopdheaaSQ5
import Derived.Lib.SlBytesConst
import Derived.Test.YtdijinboopdheaaRows
import Derived.Deep.QuietTactic
import Derived.BigQuiet

/- Package store: a store as a statement uses it, alone. -/
namespace Go.Proofs.Ytdijinboopdheaa
open Go.RowKit

theorem usedJ_all : ∀ l : List PrP, (∀ p ∈ l, OkP p) → usedJ l ≤ 200 * l.length
  | [], _ => Nat.le_refl _
  | a :: l, h => by
    have h1 := usedJ_all l fun p hp => h p (by simp [hp])
    have h2 := h a (by simp)
    have h3 := h2.cl
    have h4 := h2.sl
    simp only [usedJ, List.map_cons, List.sum_cons, List.length_cons, wtP] at h1 ⊢
    omega
theorem OkS.used_le {S : StoP} (h : OkS S) : usedJ S.jobs ≤ 4800 := by have h1 := usedJ_all S.jobs h.each; have h2 := h.len; omega
abbrev G1 (g : Nat) : Fp := fun k => k = g
/-- The store at g was made since w; n: how often something was staged, at most. -/
structure SW (w W : World) (g : Nat) (S : StoP) (n : Nat) : Prop where
  so : SoAt (G1 g) W g S
  ok : OkS S
  ext : Ext w W
  low : w.heap.size ≤ g
  wr : 0 ≤ S.writes ∧ S.writes ≤ (n : Int)

section
variable {w W W' : World} {g n : Nat} {S : StoP}
theorem SW.more (h : SW w W g S n) (hx : Ext W W') : SW w W' g S n := ⟨h.so.ext hx, h.ok, h.ext.trans hx, h.low, h.wr⟩
theorem SW.new {w W : World} (hx : Ext w W) (room : Int) : Calls Try.prog 21 #[.int .i64 room] W fun e w' => ∃ g, e = .returned (.pointer (some ⟨g, 0, none⟩)) ∧ SW w w' g (newS room) 0 :=
  (New_any room W).mono (by
    rintro e w' ⟨rfl, hx2, hl, hm⟩
    exact ⟨_, rfl, hm _ (fun k hk => by rw [hk]; exact hl) rfl, okS_new room, hx.trans hx2, hx.size, Int.le_refl 0, Int.le_refl 0⟩)
theorem SW.stage (h : SW w W g S n) (hn : n ≤ 1000) (t j e : Int) (d : List UInt8) (A : Option Addr) (c : Nat) (hr : Rd W (.slice A d.length c) (d.map B)) (hd : d.length ≤ 1000) :
    Calls Try.prog 15 #[.pointer (some ⟨g, 0, none⟩), .int .i64 t, .int .i64 j, .int .i64 e, .slice A d.length c] W fun x w' =>
      x = .returned (.int .i64 (stageS S t j e d).1) ∧ SW w w' g (stageS S t j e d).2 (n + 1) ∧ Chg (G1 g) W w' :=
  (Stage_any (G1 g) g S t j e d A c W h.so h.ok hr (by omega) h.wr.1 (by have := h.wr.2; omega) (by have := h.ok.used_le; omega)).mono (by
    rintro x w' ⟨rfl, hs, hc⟩
    have hw := stage_room S t j e d
    exact ⟨rfl, ⟨hs, h.ok.stage _ _ _ _, hc.ext h.ext (fun k hk => by have hk : k = g := hk; rw [hk]; exact h.low), h.low, by have := h.wr; omega, by have := h.wr; omega⟩, hc⟩)
theorem SW.commit (h : SW w W g S n) (j e : Int) :
    Calls Try.prog 16 #[.pointer (some ⟨g, 0, none⟩), .int .i64 j, .int .i64 e] W fun x w' =>
      x = .returned (.int .i64 (commitS S j e).1) ∧ SW w w' g (commitS S j e).2 n ∧ Chg (G1 g) W w' :=
  (Commit_any (G1 g) g S j e W h.so h.ok).mono (by
    rintro x w' ⟨rfl, hs, hc⟩
    have hw := commit_room S j e
    exact ⟨rfl, ⟨hs, h.ok.commit _ _, hc.ext h.ext (fun k hk => by have hk : k = g := hk; rw [hk]; exact h.low), h.low, by have := h.wr; omega, by have := h.wr; omega⟩, hc⟩)
theorem SW.end_ (h : SW w W g S n) (j : Int) :
    Calls Try.prog 13 #[.pointer (some ⟨g, 0, none⟩), .int .i64 j] W fun x w' => x = .returned (.tuple #[]) ∧ SW w w' g (endS S j) n ∧ Chg (G1 g) W w' :=
  (End_any (G1 g) g S j W h.so h.ok).mono (by
    rintro x w' ⟨rfl, hs, hc⟩
    have hw := setJ_room S j zPr
    exact ⟨rfl, ⟨hs, h.ok.end_ _, hc.ext h.ext (fun k hk => by have hk : k = g := hk; rw [hk]; exact h.low), h.low, by unfold endS; have := h.wr; omega, by unfold endS; have := h.wr; omega⟩, hc⟩)
theorem SW.fence (h : SW w W g S n) (t : Int) :
    Calls Try.prog 12 #[.pointer (some ⟨g, 0, none⟩), .int .i64 t] W fun x w' => x = .returned (.tuple #[]) ∧ SW w w' g (fenceS S t) n ∧ Chg (G1 g) W w' :=
  (Fence_any (G1 g) g S t W h.so).mono (by
    rintro x w' ⟨rfl, hs, hc⟩
    exact ⟨rfl, ⟨hs, h.ok.fence _, hc.ext h.ext (fun k hk => by have hk : k = g := hk; rw [hk]; exact h.low), h.low, h.wr⟩, hc⟩)
theorem SW.get (h : SW w W g S n) (j e : Int) :
    Calls Try.prog 14 #[.pointer (some ⟨g, 0, none⟩), .int .i64 j, .int .i64 e] W fun x w' =>
      ∃ v, x = .returned (.tuple #[v, .bool (getS S j e).2]) ∧ RdF (fun k => ¬ G1 g k) w' v ((getS S j e).1.map B) ∧ SW w w' g S n ∧ Ext W w' :=
  (Get_any (G1 g) g S j e W h.so h.ok).mono (by
    rintro x w' ⟨v, rfl, hv, hx⟩
    exact ⟨v, rfl, hv, h.more hx, hx⟩)
theorem SW.counts (h : SW w W g S n) (j : Int) :
    Calls Try.prog 17 #[.pointer (some ⟨g, 0, none⟩), .int .i64 j] W fun x w' => x = .returned (.int .i64 (ofJ S j).c.ep) ∧ SW w w' g S n ∧ Ext W w' :=
  (Counts_any (G1 g) g S j W h.so h.ok).mono (by
    rintro x w' ⟨rfl, hx⟩
    exact ⟨rfl, h.more hx, hx⟩)
theorem SW.used (h : SW w W g S n) :
    Calls Try.prog 18 #[.pointer (some ⟨g, 0, none⟩)] W fun x w' => x = .returned (.int .i64 (usedJ S.jobs : Int)) ∧ SW w w' g S n ∧ Ext W w' :=
  (Used_any (G1 g) g S W h.so h.ok (by have := h.ok.used_le; omega)).mono (by
    rintro x w' ⟨rfl, hx⟩
    exact ⟨rfl, h.more hx, hx⟩)
theorem SW.writes (h : SW w W g S n) :
    Calls Try.prog 20 #[.pointer (some ⟨g, 0, none⟩)] W fun x w' => x = .returned (.int .i64 S.writes) ∧ W = w' := Writes_any (G1 g) g S W h.so h.ok
theorem SW.term (h : SW w W g S n) :
    Calls Try.prog 19 #[.pointer (some ⟨g, 0, none⟩)] W fun x w' => x = .returned (.int .i64 S.term) ∧ W = w' := Term_any (G1 g) g S W h.so
end

end Go.Proofs.Ytdijinboopdheaa

/- A store beside other blocks that are written. -/
namespace Go.Proofs.Ytdijinboopdheaa
open Go.RowKit

section
variable {N N' G : Fp} {w w' : World} {g : Nat} {S : StoP}
theorem SoAt.wide (h : SoAt N w g S) (hx : Ext w w') (hN : ∀ k, N' k → N k ∨ w.heap.size ≤ k) (hi : N'.isIn w') (hg : N' g) : SoAt N' w' g S := by
  obtain ⟨lp, h1, h2, h3⟩ := h.out
  have hr : ∀ v xs, RdF (fun k => ¬ N k) w v xs → RdF (fun k => ¬ N' k) w' v xs := by
    rintro v xs ⟨A, c, e, q1, q2, q3⟩
    refine ⟨A, c, e, q1, q2, fun hn => ?_⟩
    obtain ⟨b, o, hA, hb, hNb, hc⟩ := q3 hn
    refine ⟨b, o, hA, Nat.lt_of_lt_of_le hb hx.size, fun hb' => ?_, fun j u hu => (hx.cell (p := ⟨b, o + j, none⟩) hb).trans (hc j u hu)⟩
    rcases hN b hb' with h | h
    · exact hNb h
    · omega
  exact ⟨⟨lp, h1, h2.ext hx, fun x hxm => ⟨hr _ _ (h3 x hxm).1, hr _ _ (h3 x hxm).2⟩⟩, hi, hg⟩
theorem SoAt.narrow (h : SoAt N' w g S) (hN : ∀ k, N k → N' k) (hg : N g) : SoAt N w g S := by
  obtain ⟨lp, h1, h2, h3⟩ := h.out
  exact ⟨⟨lp, h1, h2, fun x hx => ⟨(h3 x hx).1.mono fun k hk hn => hk (hN k hn), (h3 x hx).2.mono fun k hk hn => hk (hN k hn)⟩⟩, fun k hk => h.isIn k (hN k hk), hg⟩
end

/-- A store, as a statement uses it, beside other blocks that are written: N. -/
structure SX (N : Fp) (w W : World) (g : Nat) (S : StoP) (n : Nat) : Prop where
  so : SoAt N W g S
  ok : OkS S
  ext : Ext w W
  low : ∀ k, N k → w.heap.size ≤ k
  wr : 0 ≤ S.writes ∧ S.writes ≤ (n : Int)
section
variable {N G : Fp} {w W W' : World} {g n : Nat} {S : StoP}
theorem SX.more (h : SX N w W g S n) (hx : Ext W W') : SX N w W' g S n := ⟨h.so.ext hx, h.ok, h.ext.trans hx, h.low, h.wr⟩
theorem SX.le (h : SX N w W g S n) {m : Nat} (hm : n ≤ m) : SX N w W g S m := ⟨h.so, h.ok, h.ext, h.low, h.wr.1, by have := h.wr.2; omega⟩
theorem SX.chg (h : SX N w W g S n) (hc : Chg G W W') (hG : ∀ k, G k → N k) (hg : ¬ G g) : SX N w W' g S n := ⟨h.so.chg hc hG hg, h.ok, hc.ext h.ext (fun k hk => h.low k (hG k hk)), h.low, h.wr⟩
theorem SX.sw (h : SX N w W g S n) : SW w W g S n := ⟨h.so.narrow (fun k hk => by have hk : k = g := hk; rw [hk]; exact h.so.here) rfl, h.ok, h.ext, h.low g h.so.here, h.wr⟩
theorem SW.sx (h : SW w W g S n) : SX (G1 g) w W g S n := ⟨h.so, h.ok, h.ext, fun k hk => by have hk : k = g := hk; rw [hk]; exact h.low, h.wr⟩
theorem SX.wide {N' : Fp} (h : SX N w W g S n) (hx : Ext W W') (hN : ∀ k, N' k → N k ∨ W.heap.size ≤ k) (hi : N'.isIn W') (hg : N' g) : SX N' w W' g S n :=
  ⟨h.so.wide hx hN hi hg, h.ok, h.ext.trans hx, fun k hk => by rcases hN k hk with h1 | h1; exact h.low k h1; have := h.ext.size; omega, h.wr⟩
end

end Go.Proofs.Ytdijinboopdheaa

/- Both stores, beside each other, as a law uses them. -/
namespace Go.Proofs.Ytdijinboopdheaa
open Go.RowKit

section
variable {N N' G F : Fp} {w w' w2 w3 W W' : World} {g h n n' : Nat} {S S' : StoP} {R R' : RsP}
theorem SoAt.over (q : SoAt N w g S) (hc : Chg G w w') (hG : ∀ k, G k → N k) (hg : ¬ G g) (hN : ∀ k, N' k → N k ∨ w.heap.size ≤ k) (hi : N'.isIn w') (hg' : N' g) : SoAt N' w' g S := by
  obtain ⟨lp, h1, h2, h3⟩ := q.out
  have hr : ∀ v xs, RdF (fun k => ¬ N k) w v xs → RdF (fun k => ¬ N' k) w' v xs := by
    rintro v xs ⟨A, c, e, q1, q2, q3⟩
    refine ⟨A, c, e, q1, q2, fun hn => ?_⟩
    obtain ⟨b, o, hA, hb, hNb, hcl⟩ := q3 hn
    refine ⟨b, o, hA, Nat.lt_of_lt_of_le hb hc.size, fun hb' => ?_, fun j u hu => (World.cell?_of_block (a := ⟨b, o + j, none⟩) (hc.block b hb (fun hGb => hNb (hG b hGb)))).trans (hcl j u hu)⟩
    rcases hN b hb' with h | h
    · exact hNb h
    · omega
  exact ⟨⟨lp, h1, (hc.block g h2.lt hg).trans h2, fun x hxm => ⟨hr _ _ (h3 x hxm).1, hr _ _ (h3 x hxm).2⟩⟩, hi, hg'⟩
theorem SX.over (q : SX N w W g S n) (hc : Chg G W W') (hG : ∀ k, G k → N k) (hg : ¬ G g) (hN : ∀ k, N' k → N k ∨ W.heap.size ≤ k) (hi : N'.isIn W') (hg' : N' g) : SX N' w W' g S n :=
  ⟨q.so.over hc hG hg hN hi hg', q.ok, hc.ext q.ext (fun k hk => q.low k (hG k hk)), fun k hk => by rcases hN k hk with h1 | h1; exact q.low k h1; have := q.ext.size; omega, q.wr⟩
theorem SX.stage (q : SX N w W g S n) (hn : n ≤ 1000) (t j e : Int) (d : List UInt8) (A : Option Addr) (c : Nat) (hr : Rd W (.slice A d.length c) (d.map B)) (hd : d.length ≤ 1000) :
    Calls Try.prog 15 #[.pointer (some ⟨g, 0, none⟩), .int .i64 t, .int .i64 j, .int .i64 e, .slice A d.length c] W fun x w' => x = .returned (.int .i64 (stageS S t j e d).1) ∧ SX N w w' g (stageS S t j e d).2 (n + 1) ∧ Chg (G1 g) W w' :=
  (Stage_any N g S t j e d A c W q.so q.ok hr (by omega) q.wr.1 (by have := q.wr.2; omega) (by have := q.ok.used_le; omega)).mono (by
    rintro x w' ⟨rfl, hs, hc⟩
    have hw := stage_room S t j e d
    exact ⟨rfl, ⟨hs, q.ok.stage _ _ _ _, hc.ext q.ext (fun k hk => by have hk : k = g := hk; rw [hk]; exact q.low g q.so.here), q.low, by have := q.wr; omega, by have := q.wr; omega⟩, hc⟩)
theorem SX.commit (q : SX N w W g S n) (j e : Int) :
    Calls Try.prog 16 #[.pointer (some ⟨g, 0, none⟩), .int .i64 j, .int .i64 e] W fun x w' => x = .returned (.int .i64 (commitS S j e).1) ∧ SX N w w' g (commitS S j e).2 n ∧ Chg (G1 g) W w' :=
  (Commit_any N g S j e W q.so q.ok).mono (by
    rintro x w' ⟨rfl, hs, hc⟩
    have hw := commit_room S j e
    exact ⟨rfl, ⟨hs, q.ok.commit _ _, hc.ext q.ext (fun k hk => by have hk : k = g := hk; rw [hk]; exact q.low g q.so.here), q.low, by have := q.wr; omega, by have := q.wr; omega⟩, hc⟩)
theorem SX.end_ (q : SX N w W g S n) (j : Int) :
    Calls Try.prog 13 #[.pointer (some ⟨g, 0, none⟩), .int .i64 j] W fun x w' => x = .returned (.tuple #[]) ∧ SX N w w' g (endS S j) n ∧ Chg (G1 g) W w' :=
  (End_any N g S j W q.so q.ok).mono (by
    rintro x w' ⟨rfl, hs, hc⟩
    have hw := setJ_room S j zPr
    exact ⟨rfl, ⟨hs, q.ok.end_ _, hc.ext q.ext (fun k hk => by have hk : k = g := hk; rw [hk]; exact q.low g q.so.here), q.low, by unfold endS; have := q.wr; omega, by unfold endS; have := q.wr; omega⟩, hc⟩)
theorem SX.fence (q : SX N w W g S n) (t : Int) :
    Calls Try.prog 12 #[.pointer (some ⟨g, 0, none⟩), .int .i64 t] W fun x w' => x = .returned (.tuple #[]) ∧ SX N w w' g (fenceS S t) n ∧ Chg (G1 g) W w' :=
  (Fence_any N g S t W q.so).mono (by
    rintro x w' ⟨rfl, hs, hc⟩
    exact ⟨rfl, ⟨hs, q.ok.fence _, hc.ext q.ext (fun k hk => by have hk : k = g := hk; rw [hk]; exact q.low g q.so.here), q.low, q.wr⟩, hc⟩)

theorem stageR_len (R : RsP) (t j e : Int) (d : List UInt8) : (stageR R t j e d).2.L.length ≤ R.L.length + 1 := by
  have h1 : (withoutR R.L j false).length ≤ R.L.length := List.length_filter_le _ _
  unfold stageR
  split
  · exact Nat.le_succ _
  · split
    · exact Nat.le_succ _
    · split
      · exact Nat.le_succ _
      · split
        · exact Nat.le_succ _
        · split
          · exact Nat.le_succ _
          · simp only [List.length_append, List.length_singleton]
            omega
theorem endR_len (R : RsP) (j : Int) : (endR R j).L.length ≤ R.L.length := Nat.le_trans (List.length_filter_le _ _) (List.length_filter_le _ _)
theorem commitR_len (R : RsP) (j e : Int) : (commitR R j e).2.L.length ≤ R.L.length + 1 := by
  have h1 := endR_len R j
  unfold commitR
  split
  · exact Nat.le_succ _
  · split
    · exact Nat.le_succ _
    · split
      · simp only [List.length_append, List.length_singleton]
        omega
      · exact Nat.le_succ _

/-- The store S in block g, the reference's R in block h, alike; F: the blocks of the reference's. -/
structure St2 (w W : World) (g h n : Nat) (S : StoP) (R : RsP) (F : Fp) : Prop where
  sx : SX (fun k => k = g ∨ F k) w W g S n
  rs : RsF F W h R
  rel : RelP S R
  off : ¬ F g
  len : R.L.length ≤ n
theorem St2.more (q : St2 w W g h n S R F) (hx : Ext W W') : St2 w W' g h n S R F := ⟨q.sx.more hx, q.rs.ext hx, q.rel, q.off, q.len⟩
theorem St2.le (q : St2 w W g h n S R F) (hn : n ≤ n') : St2 w W g h n' S R F := ⟨q.sx.le hn, q.rs, q.rel, q.off, Nat.le_trans q.len hn⟩
theorem St2.mid (q : St2 w W g h n S R F) (hc : Chg (G1 g) W W') : RsF F W' h R := q.rs.chg hc (fun k hk e => by have e : k = g := e; rw [e] at hk; exact q.off hk)
theorem St2.both (q2 : SX (fun k => k = g ∨ F k) w w2 g S' n') (hoff : ¬ F g) (hr : RsF (F.since w2 w3) w3 h R') (hc3 : Chg F w2 w3) (hrel : RelP S' R') (hl : R'.L.length ≤ n') : St2 w w3 g h n' S' R' (F.since w2 w3) := by
  have hg := q2.so.lt
  refine ⟨q2.over hc3 (fun k hk => .inr hk) hoff (fun k hk => ?_) (fun k hk => ?_) (.inl rfl), hr, hrel, fun hk => ?_, hl⟩
  · rcases hk with hk | hk | hk
    · exact .inl (.inl hk)
    · exact .inl (.inr hk)
    · exact .inr hk.1
  · rcases hk with hk | hk
    · rw [hk]; exact Nat.lt_of_lt_of_le hg hc3.size
    · exact hr.isIn k hk
  · rcases hk with hk | hk
    · exact hoff hk
    · omega
theorem St2.turn (hx : Ext W W') (hc : Chg (G1 g) W' w2) (hc2 : Chg F w2 w3) : Chg (fun q => q = g ∨ F q) W w3 :=
  ((Chg.of_ext (F := fun q => q = g ∨ F q) hx).trans hc (fun k _ hk => .inl hk)).trans hc2 (fun k _ hk => .inr hk)
theorem St2.bytes (q : St2 w W g h n S R F) : bytesP R.L ≤ 1000000 := by have h1 := q.rel.used; have h2 := q.sx.ok.used_le; omega
theorem St2.new {w W2 W3 : World} {g : Nat} {room : Int} (q : SW w W2 g (newS room) 0) (hx : Ext W2 W3) (hr : RsF (fun k => W2.heap.size ≤ k ∧ k < W3.heap.size) W3 h (newR room)) : St2 w W3 g h 0 (newS room) (newR room) (fun k => W2.heap.size ≤ k ∧ k < W3.heap.size) :=
  ⟨q.sx.wide hx (fun k hk => by rcases hk with hk | hk; exact .inl hk; exact .inr hk.1) (fun k hk => by rcases hk with hk | hk; (rw [hk]; exact Nat.lt_of_lt_of_le q.so.lt hx.size); exact hk.2) (.inl rfl), hr, relP_new room, fun hk => by have := q.so.lt; omega, Nat.zero_le _⟩
end
/-- Behind what was done. -/
def StR (w : World) (g h n : Nat) (S : StoP) (W : World) : Prop := ∃ R F, St2 w W g h n S R F

end Go.Proofs.Ytdijinboopdheaa

/- Layer 11's statement StoreActs: an act. -/
namespace Go.Proofs.Ytdijinboopdheaa
open Go.RowKit

set_option maxRecDepth 100000 in
set_option maxHeartbeats 4000000 in
theorem do11_any {w W : World} {g h n : Nat} {S : StoP} {R : RsP} {F : Fp} (q : St2 w W g h n S R F) (hn : n ≤ 100) (kd t j e : Int) (d : List UInt8) (A : Option Addr) (c : Nat) (hr : Rd W (.slice A d.length c) (d.map B)) (hdw : Rd w (.slice A d.length c) (d.map B)) (hdl : d.length ≤ 1000) :
    Calls Try.prog 23 #[.pointer (some ⟨g, 0, none⟩), .pointer (some ⟨h, 0, none⟩), .agg #[.int .i64 kd, .int .i64 t, .int .i64 j, .int .i64 e, .slice A d.length c]] W fun x w' => x = .returned (.bool true) ∧ StR w g h (n + 1) (actS S (kd, t, j, e, d)) w' ∧ Chg (fun q => q = g ∨ F q) W w' := by
  have HQ := Lib.hid q
  have HN := Lib.hid hn
  have HDL := Lib.hid hdl
  obtain ⟨W1, hW1⟩ : ∃ W', W' = W.alloc (.cells #[.int .i64 kd, .int .i64 t, .int .i64 j, .int .i64 e, .slice A d.length c] 39) := ⟨_, rfl⟩
  obtain ⟨gb, hgb⟩ : ∃ q, q = W.heap.size := ⟨_, rfl⟩
  have HB : Hid (Blk W1 gb 39 #[.int .i64 kd, .int .i64 t, .int .i64 j, .int .i64 e, .slice A d.length c]) := Lib.hid (by rw [hgb, hW1]; exact Blk.new _ _ _)
  have HX1 := Lib.hid (show Ext W W1 by rw [hW1]; exact Ext.alloc_ _ _)
  have HQ1 := Lib.hid (HQ.out.more HX1.out)
  have HD := Lib.hid hr
  have HGB : Hid (gb ≠ g ∧ ¬ F gb) := Lib.hid ⟨by have := HQ.out.sx.so.lt; omega, fun hf => by have := HQ.out.rs.isIn gb hf; omega⟩
  clear hr q hn hdl
  go_enter Try.func23, Try.ntmps23
  go_upto_region 1 with (fail)
  rw [← hW1, ← hgb]
  clear hW1 hgb
  have k0 := HB.out.cell 0
  have HDW := Lib.hid hdw
  clear hdw
  by_cases h0 : kd = 0
  · have g0 : (kd == 0) = true := by rw [h0]; rfl
    have HAS : Hid (actS S (kd, t, j, e, d) = (stageS S t j e d).2) := Lib.hid (by unfold actS; simp [h0])
    clear h0
    have HXD : Hid (Ext W1 W1.drew) := Lib.hid (Below.drewN' (Ext.refl W1) 1)
    have HQD := Lib.hid (HQ1.out.more HXD.out)
    have HBD := Lib.hid (HB.out.ext HXD.out)
    have HREL := Lib.hid (HQ.out.rel.stage HQ.out.sx.ok t j e d)
    obtain ⟨rr, hrr⟩ : ∃ r, r = (stageS S t j e d).1 := ⟨_, rfl⟩
    have HC := Lib.hid (HQD.out.sx.stage (by have := HN.out; omega) t j e d A c (HD.out.ext (HX1.out.trans HXD.out)) HDL.out)
    have HC2 := Lib.hid (fun (W' : World) (hx : Ext w W') (hr : RsF F W' h R) => XStage_any F h R t j e d A c W' hr (HDW.out.ext hx) HDL.out (by have := HQ.out.len; have := HN.out; omega) HQ.out.bytes (by have := HQ.out.rel.writes; have := HQ.out.sx.wr; omega) (by have := HQ.out.rel.writes; have := HQ.out.sx.wr; have := HN.out; omega))
    rw [← HREL.out.1, ← hrr] at HC2
    rw [← hrr] at HC
    clear hrr
    have hqq : (rr == rr) = true := by simp
    go_upto_region 3 with (fail)
    clear k0
    refine held_begin (by kernel_rfl) ?_
    refine held_more (S' := fun W' : World => Blk W' gb 39 #[.int .i64 kd, .int .i64 t, .int .i64 j, .int .i64 e, .slice A d.length c]) (fun _ _ => True.intro) ?_
    have hSx : (fun W' : World => Blk W' gb 39 #[.int .i64 kd, .int .i64 t, .int .i64 j, .int .i64 e, .slice A d.length c]) W1.drew := HBD.out
    refine held_take (i := 0) (v := ?_) rfl (by kernel_rfl) (by kernel_rfl) (by kernel_rfl) (by rfl) (by first | assumption | exact True.intro) ?_ ?_
    rotate_left
    · (intro W hSw; have k1 := hSw.cell 1; have k2 := hSw.cell 2; have k3 := hSw.cell 3; have k4 := hSw.cell 4; go_simp; (try with_reducible rfl))
    try simp only [Act.put, List.setIfInBounds_toArray, List.set_cons_zero, List.set_cons_succ]
    refine held_take (i := 1) (v := ?_) rfl (by kernel_rfl) (by kernel_rfl) (by kernel_rfl) (by rfl) (by first | assumption | exact True.intro) ?_ ?_
    rotate_left
    · (intro W hSw; have k1 := hSw.cell 1; have k2 := hSw.cell 2; have k3 := hSw.cell 3; have k4 := hSw.cell 4; go_simp; (try with_reducible rfl))
    try simp only [Act.put, List.setIfInBounds_toArray, List.set_cons_zero, List.set_cons_succ]
    refine held_take (i := 2) (v := ?_) rfl (by kernel_rfl) (by kernel_rfl) (by kernel_rfl) (by rfl) (by first | assumption | exact True.intro) ?_ ?_
    rotate_left
    · (intro W hSw; have k1 := hSw.cell 1; have k2 := hSw.cell 2; have k3 := hSw.cell 3; have k4 := hSw.cell 4; go_simp; (try with_reducible rfl))
    try simp only [Act.put, List.setIfInBounds_toArray, List.set_cons_zero, List.set_cons_succ]
    refine held_take (i := 3) (v := ?_) rfl (by kernel_rfl) (by kernel_rfl) (by kernel_rfl) (by rfl) (by first | assumption | exact True.intro) ?_ ?_
    rotate_left
    · (intro W hSw; have k1 := hSw.cell 1; have k2 := hSw.cell 2; have k3 := hSw.cell 3; have k4 := hSw.cell 4; go_simp; (try with_reducible rfl))
    try simp only [Act.put, List.setIfInBounds_toArray, List.set_cons_zero, List.set_cons_succ]
    refine held_take (i := 4) (v := ?_) rfl (by kernel_rfl) (by kernel_rfl) (by kernel_rfl) (by rfl) (by first | assumption | exact True.intro) ?_ ?_
    rotate_left
    · (intro W hSw; have k1 := hSw.cell 1; have k2 := hSw.cell 2; have k3 := hSw.cell 3; have k4 := hSw.cell 4; go_simp; (try with_reducible rfl))
    try simp only [Act.put, List.setIfInBounds_toArray, List.set_cons_zero, List.set_cons_succ]
    refine held_take (i := 5) (v := ?_) rfl (by kernel_rfl) (by kernel_rfl) (by kernel_rfl) (by rfl) (by first | assumption | exact True.intro) ?_ ?_
    rotate_left
    · (intro W hSw; have k1 := hSw.cell 1; have k2 := hSw.cell 2; have k3 := hSw.cell 3; have k4 := hSw.cell 4; go_simp; (try with_reducible rfl))
    try simp only [Act.put, List.setIfInBounds_toArray, List.set_cons_zero, List.set_cons_succ]
    refine held_take (i := 6) (v := ?_) rfl (by kernel_rfl) (by kernel_rfl) (by kernel_rfl) (by rfl) (by first | assumption | exact True.intro) ?_ ?_
    rotate_left
    · (intro W hSw; have k1 := hSw.cell 1; have k2 := hSw.cell 2; have k3 := hSw.cell 3; have k4 := hSw.cell 4; go_simp; (try with_reducible rfl))
    try simp only [Act.put, List.setIfInBounds_toArray, List.set_cons_zero, List.set_cons_succ]
    refine held_take (i := 7) (v := ?_) rfl (by kernel_rfl) (by kernel_rfl) (by kernel_rfl) (by rfl) (by first | assumption | exact True.intro) ?_ ?_
    rotate_left
    · (intro W hSw; have k1 := hSw.cell 1; have k2 := hSw.cell 2; have k3 := hSw.cell 3; have k4 := hSw.cell 4; go_simp; (try with_reducible rfl))
    try simp only [Act.put, List.setIfInBounds_toArray, List.set_cons_zero, List.set_cons_succ]
    refine held_take (i := 8) (v := ?_) rfl (by kernel_rfl) (by kernel_rfl) (by kernel_rfl) (by rfl) (by first | assumption | exact True.intro) ?_ ?_
    rotate_left
    · (intro W hSw; have k1 := hSw.cell 1; have k2 := hSw.cell 2; have k3 := hSw.cell 3; have k4 := hSw.cell 4; go_simp; (try with_reducible rfl))
    try simp only [Act.put, List.setIfInBounds_toArray, List.set_cons_zero, List.set_cons_succ]
    refine held_take (i := 10) (v := ?_) rfl (by kernel_rfl) (by kernel_rfl) (by kernel_rfl) (by rfl) (by first | assumption | exact True.intro) ?_ ?_
    rotate_left
    · (intro W hSw; have k1 := hSw.cell 1; have k2 := hSw.cell 2; have k3 := hSw.cell 3; have k4 := hSw.cell 4; go_simp; (try with_reducible rfl))
    try simp only [Act.put, List.setIfInBounds_toArray, List.set_cons_zero, List.set_cons_succ]
    refine held_take (i := 11) (v := ?_) rfl (by kernel_rfl) (by kernel_rfl) (by kernel_rfl) (by rfl) (by first | assumption | exact True.intro) ?_ ?_
    rotate_left
    · (intro W hSw; have k1 := hSw.cell 1; have k2 := hSw.cell 2; have k3 := hSw.cell 3; have k4 := hSw.cell 4; go_simp; (try with_reducible rfl))
    try simp only [Act.put, List.setIfInBounds_toArray, List.set_cons_zero, List.set_cons_succ]
    refine held_take (i := 12) (v := ?_) rfl (by kernel_rfl) (by kernel_rfl) (by kernel_rfl) (by rfl) (by first | assumption | exact True.intro) ?_ ?_
    rotate_left
    · (intro W hSw; have k1 := hSw.cell 1; have k2 := hSw.cell 2; have k3 := hSw.cell 3; have k4 := hSw.cell 4; go_simp; (try with_reducible rfl))
    try simp only [Act.put, List.setIfInBounds_toArray, List.set_cons_zero, List.set_cons_succ]
    refine held_take (i := 13) (v := ?_) rfl (by kernel_rfl) (by kernel_rfl) (by kernel_rfl) (by rfl) (by first | assumption | exact True.intro) ?_ ?_
    rotate_left
    · (intro W hSw; have k1 := hSw.cell 1; have k2 := hSw.cell 2; have k3 := hSw.cell 3; have k4 := hSw.cell 4; go_simp; (try with_reducible rfl))
    try simp only [Act.put, List.setIfInBounds_toArray, List.set_cons_zero, List.set_cons_succ]
    refine held_take (i := 14) (v := ?_) rfl (by kernel_rfl) (by kernel_rfl) (by kernel_rfl) (by rfl) (by first | assumption | exact True.intro) ?_ ?_
    rotate_left
    · (intro W hSw; have k1 := hSw.cell 1; have k2 := hSw.cell 2; have k3 := hSw.cell 3; have k4 := hSw.cell 4; go_simp; (try with_reducible rfl))
    try simp only [Act.put, List.setIfInBounds_toArray, List.set_cons_zero, List.set_cons_succ]
    refine held_take (i := 15) (v := ?_) rfl (by kernel_rfl) (by kernel_rfl) (by kernel_rfl) (by rfl) (by first | assumption | exact True.intro) ?_ ?_
    rotate_left
    · (intro W hSw; have k1 := hSw.cell 1; have k2 := hSw.cell 2; have k3 := hSw.cell 3; have k4 := hSw.cell 4; go_simp; (try with_reducible rfl))
    try simp only [Act.put, List.setIfInBounds_toArray, List.set_cons_zero, List.set_cons_succ]
    refine held_take (i := 16) (v := ?_) rfl (by kernel_rfl) (by kernel_rfl) (by kernel_rfl) (by rfl) (by first | assumption | exact True.intro) ?_ ?_
    rotate_left
    · (intro W hSw; have k1 := hSw.cell 1; have k2 := hSw.cell 2; have k3 := hSw.cell 3; have k4 := hSw.cell 4; go_simp; (try with_reducible rfl))
    try simp only [Act.put, List.setIfInBounds_toArray, List.set_cons_zero, List.set_cons_succ]
    refine held_take (i := 17) (v := ?_) rfl (by kernel_rfl) (by kernel_rfl) (by kernel_rfl) (by rfl) (by first | assumption | exact True.intro) ?_ ?_
    rotate_left
    · (intro W hSw; have k1 := hSw.cell 1; have k2 := hSw.cell 2; have k3 := hSw.cell 3; have k4 := hSw.cell 4; go_simp; (try with_reducible rfl))
    try simp only [Act.put, List.setIfInBounds_toArray, List.set_cons_zero, List.set_cons_succ]
    refine held_take (i := 18) (v := ?_) rfl (by kernel_rfl) (by kernel_rfl) (by kernel_rfl) (by rfl) (by first | assumption | exact True.intro) ?_ ?_
    rotate_left
    · (intro W hSw; have k1 := hSw.cell 1; have k2 := hSw.cell 2; have k3 := hSw.cell 3; have k4 := hSw.cell 4; go_simp; (try with_reducible rfl))
    try simp only [Act.put, List.setIfInBounds_toArray, List.set_cons_zero, List.set_cons_succ]
    clear hSx
    refine held_op (i := 9) (by kernel_rfl) rfl (fun K hK => ?_)
    go_simp
    go_at_call 15
    refine (HC.out).mono ?_
    rintro e3 w3 ⟨rfl, hn3, hc3⟩
    have HN3 := Lib.hid hn3
    have HC3 := Lib.hid hc3
    have HR3 := Lib.hid (HQD.out.mid hc3)
    have HB3 : Hid (Blk w3 gb 39 #[.int .i64 kd, .int .i64 t, .int .i64 j, .int .i64 e, .slice A d.length c]) := Lib.hid ((hc3.block gb HBD.out.lt (fun e => HGB.out.1 e)).trans HBD.out)
    clear hn3 hc3 HC
    refine hK _ _ (HB3.out) (fun hSx => ?_)
    clear hK K
    try simp only [Act.put, List.setIfInBounds_toArray, List.set_cons_zero, List.set_cons_succ]
    clear hSx
    refine held_op (i := 19) (by kernel_rfl) rfl (fun K hK => ?_)
    go_simp
    go_at_call 62
    refine (HC2.out _ HN3.out.ext HR3.out).mono ?_
    rintro e4 w4 ⟨rfl, hn4, hc4⟩
    have HT : Hid (StR w g h (n + 1) (actS S (kd, t, j, e, d)) w4) := Lib.hid ⟨_, _, St2.both (by rw [HAS.out]; exact HN3.out) HQ.out.off hn4 hc4 (by rw [HAS.out]; exact HREL.out.2) (by have h1 := stageR_len R t j e d; have h2 := HQ.out.len; omega)⟩
    have HB4 : Hid (Blk w4 gb 39 #[.int .i64 kd, .int .i64 t, .int .i64 j, .int .i64 e, .slice A d.length c]) := Lib.hid ((hc4.block gb HB3.out.lt HGB.out.2).trans HB3.out)
    have HCC := Lib.hid (St2.turn (HX1.out.trans HXD.out) HC3.out hc4)
    clear hn4 hc4 HC2
    refine hK _ _ (HB4.out) (fun hSx => ?_)
    clear hK K
    try simp only [Act.put, List.setIfInBounds_toArray, List.set_cons_zero, List.set_cons_succ]
    refine held_take (i := 20) (v := ?_) rfl (by kernel_rfl) (by kernel_rfl) (by kernel_rfl) (by rfl) (by first | assumption | exact True.intro) ?_ ?_
    rotate_left
    · (intro W hSw; go_simp; (try with_reducible rfl))
    try simp only [Act.put, List.setIfInBounds_toArray, List.set_cons_zero, List.set_cons_succ]
    refine held_take (i := 21) (v := ?_) rfl (by kernel_rfl) (by kernel_rfl) (by kernel_rfl) (by rfl) (by first | assumption | exact True.intro) ?_ ?_
    rotate_left
    · (intro W hSw; go_simp; (try with_reducible rfl))
    try simp only [Act.put, List.setIfInBounds_toArray, List.set_cons_zero, List.set_cons_succ]
    clear hSx
    refine wpAnyH_done (by kernel_rfl) ?_ _
    refine NoPanic.normal ?_
    go_wp2
    go_ret
    exact ⟨rfl, HT.out, HCC.out⟩
  by_cases h1 : kd = 1
  · have g0 : (kd == 0) = false := by simpa using h0
    have g1 : (kd == 1) = true := by rw [h1]; rfl
    have HAS : Hid (actS S (kd, t, j, e, d) = (commitS S j e).2) := Lib.hid (by unfold actS; simp [h0, h1])
    clear h0 h1
    have HXD : Hid (Ext W1 W1.drew) := Lib.hid (Below.drewN' (Ext.refl W1) 1)
    have HQD := Lib.hid (HQ1.out.more HXD.out)
    have HBD := Lib.hid (HB.out.ext HXD.out)
    have HREL := Lib.hid (HQ.out.rel.commit HQ.out.sx.ok j e)
    obtain ⟨rr, hrr⟩ : ∃ r, r = (commitS S j e).1 := ⟨_, rfl⟩
    have HC := Lib.hid (HQD.out.sx.commit j e)
    have HC2 := Lib.hid (fun (W' : World) (hx : Ext w W') (hr : RsF F W' h R) => XCommit_any F h R j e W' hr (by have := HQ.out.len; have := HN.out; omega))
    rw [← HREL.out.1, ← hrr] at HC2
    rw [← hrr] at HC
    clear hrr
    have hqq : (rr == rr) = true := by simp
    go_upto_region 5 with (fail)
    clear k0
    refine held_begin (by kernel_rfl) ?_
    refine held_more (S' := fun W' : World => Blk W' gb 39 #[.int .i64 kd, .int .i64 t, .int .i64 j, .int .i64 e, .slice A d.length c]) (fun _ _ => True.intro) ?_
    have hSx : (fun W' : World => Blk W' gb 39 #[.int .i64 kd, .int .i64 t, .int .i64 j, .int .i64 e, .slice A d.length c]) W1.drew := HBD.out
    refine held_take (i := 0) (v := ?_) rfl (by kernel_rfl) (by kernel_rfl) (by kernel_rfl) (by rfl) (by first | assumption | exact True.intro) ?_ ?_
    rotate_left
    · (intro W hSw; have k2 := hSw.cell 2; have k3 := hSw.cell 3; go_simp; (try with_reducible rfl))
    try simp only [Act.put, List.setIfInBounds_toArray, List.set_cons_zero, List.set_cons_succ]
    refine held_take (i := 1) (v := ?_) rfl (by kernel_rfl) (by kernel_rfl) (by kernel_rfl) (by rfl) (by first | assumption | exact True.intro) ?_ ?_
    rotate_left
    · (intro W hSw; have k2 := hSw.cell 2; have k3 := hSw.cell 3; go_simp; (try with_reducible rfl))
    try simp only [Act.put, List.setIfInBounds_toArray, List.set_cons_zero, List.set_cons_succ]
    refine held_take (i := 2) (v := ?_) rfl (by kernel_rfl) (by kernel_rfl) (by kernel_rfl) (by rfl) (by first | assumption | exact True.intro) ?_ ?_
    rotate_left
    · (intro W hSw; have k2 := hSw.cell 2; have k3 := hSw.cell 3; go_simp; (try with_reducible rfl))
    try simp only [Act.put, List.setIfInBounds_toArray, List.set_cons_zero, List.set_cons_succ]
    refine held_take (i := 3) (v := ?_) rfl (by kernel_rfl) (by kernel_rfl) (by kernel_rfl) (by rfl) (by first | assumption | exact True.intro) ?_ ?_
    rotate_left
    · (intro W hSw; have k2 := hSw.cell 2; have k3 := hSw.cell 3; go_simp; (try with_reducible rfl))
    try simp only [Act.put, List.setIfInBounds_toArray, List.set_cons_zero, List.set_cons_succ]
    refine held_take (i := 4) (v := ?_) rfl (by kernel_rfl) (by kernel_rfl) (by kernel_rfl) (by rfl) (by first | assumption | exact True.intro) ?_ ?_
    rotate_left
    · (intro W hSw; have k2 := hSw.cell 2; have k3 := hSw.cell 3; go_simp; (try with_reducible rfl))
    try simp only [Act.put, List.setIfInBounds_toArray, List.set_cons_zero, List.set_cons_succ]
    refine held_take (i := 6) (v := ?_) rfl (by kernel_rfl) (by kernel_rfl) (by kernel_rfl) (by rfl) (by first | assumption | exact True.intro) ?_ ?_
    rotate_left
    · (intro W hSw; have k2 := hSw.cell 2; have k3 := hSw.cell 3; go_simp; (try with_reducible rfl))
    try simp only [Act.put, List.setIfInBounds_toArray, List.set_cons_zero, List.set_cons_succ]
    refine held_take (i := 7) (v := ?_) rfl (by kernel_rfl) (by kernel_rfl) (by kernel_rfl) (by rfl) (by first | assumption | exact True.intro) ?_ ?_
    rotate_left
    · (intro W hSw; have k2 := hSw.cell 2; have k3 := hSw.cell 3; go_simp; (try with_reducible rfl))
    try simp only [Act.put, List.setIfInBounds_toArray, List.set_cons_zero, List.set_cons_succ]
    refine held_take (i := 8) (v := ?_) rfl (by kernel_rfl) (by kernel_rfl) (by kernel_rfl) (by rfl) (by first | assumption | exact True.intro) ?_ ?_
    rotate_left
    · (intro W hSw; have k2 := hSw.cell 2; have k3 := hSw.cell 3; go_simp; (try with_reducible rfl))
    try simp only [Act.put, List.setIfInBounds_toArray, List.set_cons_zero, List.set_cons_succ]
    refine held_take (i := 9) (v := ?_) rfl (by kernel_rfl) (by kernel_rfl) (by kernel_rfl) (by rfl) (by first | assumption | exact True.intro) ?_ ?_
    rotate_left
    · (intro W hSw; have k2 := hSw.cell 2; have k3 := hSw.cell 3; go_simp; (try with_reducible rfl))
    try simp only [Act.put, List.setIfInBounds_toArray, List.set_cons_zero, List.set_cons_succ]
    refine held_take (i := 10) (v := ?_) rfl (by kernel_rfl) (by kernel_rfl) (by kernel_rfl) (by rfl) (by first | assumption | exact True.intro) ?_ ?_
    rotate_left
    · (intro W hSw; have k2 := hSw.cell 2; have k3 := hSw.cell 3; go_simp; (try with_reducible rfl))
    try simp only [Act.put, List.setIfInBounds_toArray, List.set_cons_zero, List.set_cons_succ]
    clear hSx
    refine held_op (i := 5) (by kernel_rfl) rfl (fun K hK => ?_)
    go_simp
    go_at_call 16
    refine (HC.out).mono ?_
    rintro e3 w3 ⟨rfl, hn3, hc3⟩
    have HN3 := Lib.hid hn3
    have HC3 := Lib.hid hc3
    have HR3 := Lib.hid (HQD.out.mid hc3)
    have HB3 : Hid (Blk w3 gb 39 #[.int .i64 kd, .int .i64 t, .int .i64 j, .int .i64 e, .slice A d.length c]) := Lib.hid ((hc3.block gb HBD.out.lt (fun e => HGB.out.1 e)).trans HBD.out)
    clear hn3 hc3 HC
    refine hK _ _ (HB3.out) (fun hSx => ?_)
    clear hK K
    try simp only [Act.put, List.setIfInBounds_toArray, List.set_cons_zero, List.set_cons_succ]
    clear hSx
    refine held_op (i := 11) (by kernel_rfl) rfl (fun K hK => ?_)
    go_simp
    go_at_call 63
    refine (HC2.out _ HN3.out.ext HR3.out).mono ?_
    rintro e4 w4 ⟨rfl, hn4, hc4⟩
    have HT : Hid (StR w g h (n + 1) (actS S (kd, t, j, e, d)) w4) := Lib.hid ⟨_, _, St2.both (by rw [HAS.out]; exact HN3.out.le (Nat.le_succ n)) HQ.out.off hn4 hc4 (by rw [HAS.out]; exact HREL.out.2) (by have h1 := commitR_len R j e; have h2 := HQ.out.len; omega)⟩
    have HB4 : Hid (Blk w4 gb 39 #[.int .i64 kd, .int .i64 t, .int .i64 j, .int .i64 e, .slice A d.length c]) := Lib.hid ((hc4.block gb HB3.out.lt HGB.out.2).trans HB3.out)
    have HCC := Lib.hid (St2.turn (HX1.out.trans HXD.out) HC3.out hc4)
    clear hn4 hc4 HC2
    refine hK _ _ (HB4.out) (fun hSx => ?_)
    clear hK K
    try simp only [Act.put, List.setIfInBounds_toArray, List.set_cons_zero, List.set_cons_succ]
    refine held_take (i := 12) (v := ?_) rfl (by kernel_rfl) (by kernel_rfl) (by kernel_rfl) (by rfl) (by first | assumption | exact True.intro) ?_ ?_
    rotate_left
    · (intro W hSw; go_simp; (try with_reducible rfl))
    try simp only [Act.put, List.setIfInBounds_toArray, List.set_cons_zero, List.set_cons_succ]
    refine held_take (i := 13) (v := ?_) rfl (by kernel_rfl) (by kernel_rfl) (by kernel_rfl) (by rfl) (by first | assumption | exact True.intro) ?_ ?_
    rotate_left
    · (intro W hSw; go_simp; (try with_reducible rfl))
    try simp only [Act.put, List.setIfInBounds_toArray, List.set_cons_zero, List.set_cons_succ]
    clear hSx
    refine wpAnyH_done (by kernel_rfl) ?_ _
    refine NoPanic.normal ?_
    go_wp2
    go_ret
    exact ⟨rfl, HT.out, HCC.out⟩
  by_cases h2 : kd = 2
  · have g0 : (kd == 0) = false := by simpa using h0
    have g1 : (kd == 1) = false := by simpa using h1
    have g2 : (kd == 2) = true := by rw [h2]; rfl
    have HAS : Hid (actS S (kd, t, j, e, d) = endS S j) := Lib.hid (by unfold actS; simp [h0, h1, h2])
    clear h0 h1 h2
    have k2 := HB.out.cell 2
    have HC := Lib.hid (HQ1.out.sx.end_ j)
    go_wp2_with fail
    refine HC.out.mono ?_
    rintro e3 w3 ⟨rfl, hn3, hc3⟩
    have HN3 := Lib.hid hn3
    have HC3 := Lib.hid hc3
    have HR3 := Lib.hid (HQ1.out.mid hc3)
    have HB3 : Hid (Blk w3 gb 39 #[.int .i64 kd, .int .i64 t, .int .i64 j, .int .i64 e, .slice A d.length c]) := Lib.hid ((hc3.block gb HB.out.lt (fun e => HGB.out.1 e)).trans HB.out)
    clear hn3 hc3 HC k0 k2
    have k2 := HB3.out.cell 2
    have HC2 := Lib.hid (XEnd_any F h R j w3 HR3.out (by have := HQ.out.len; have := HN.out; omega))
    go_wp2_with fail
    refine HC2.out.mono ?_
    rintro e4 w4 ⟨rfl, hn4, hc4⟩
    have HT : Hid (StR w g h (n + 1) (actS S (kd, t, j, e, d)) w4) := Lib.hid ⟨_, _, St2.both (by rw [HAS.out]; exact HN3.out.le (Nat.le_succ n)) HQ.out.off hn4 hc4 (by rw [HAS.out]; exact HQ.out.rel.end_ HQ.out.sx.ok j) (by have h1 := endR_len R j; have h2 := HQ.out.len; omega)⟩
    have HCC := Lib.hid (St2.turn HX1.out HC3.out hc4)
    clear hn4 hc4 HC2 k2
    go_wp2
    go_ret
    exact ⟨rfl, HT.out, HCC.out⟩
  by_cases h3 : kd = 3
  · have g0 : (kd == 0) = false := by simpa using h0
    have g1 : (kd == 1) = false := by simpa using h1
    have g2 : (kd == 2) = false := by simpa using h2
    have g3 : (kd == 3) = true := by rw [h3]; rfl
    have HAS : Hid (actS S (kd, t, j, e, d) = fenceS S t) := Lib.hid (by unfold actS; simp [h0, h1, h2, h3])
    clear h0 h1 h2 h3
    have k1 := HB.out.cell 1
    have HC := Lib.hid (HQ1.out.sx.fence t)
    go_wp2_with fail
    refine HC.out.mono ?_
    rintro e3 w3 ⟨rfl, hn3, hc3⟩
    have HN3 := Lib.hid hn3
    have HC3 := Lib.hid hc3
    have HR3 := Lib.hid (HQ1.out.mid hc3)
    have HB3 : Hid (Blk w3 gb 39 #[.int .i64 kd, .int .i64 t, .int .i64 j, .int .i64 e, .slice A d.length c]) := Lib.hid ((hc3.block gb HB.out.lt (fun e => HGB.out.1 e)).trans HB.out)
    clear hn3 hc3 HC k0 k1
    have k1 := HB3.out.cell 1
    have HC2 := Lib.hid (XFence_any F h R t w3 HR3.out)
    go_wp2_with fail
    refine HC2.out.mono ?_
    rintro e4 w4 ⟨rfl, hn4, hc4⟩
    have HT : Hid (StR w g h (n + 1) (actS S (kd, t, j, e, d)) w4) := Lib.hid ⟨_, _, St2.both (by rw [HAS.out]; exact HN3.out.le (Nat.le_succ n)) HQ.out.off hn4 hc4 (by rw [HAS.out]; exact HQ.out.rel.fence t) (by have h1 := (show (fenceR R t).L.length ≤ R.L.length from Nat.le_refl _); have h2 := HQ.out.len; omega)⟩
    have HCC := Lib.hid (St2.turn HX1.out HC3.out hc4)
    clear hn4 hc4 HC2 k1
    go_wp2
    go_ret
    exact ⟨rfl, HT.out, HCC.out⟩
  have g0 : (kd == 0) = false := by simpa using h0
  have g1 : (kd == 1) = false := by simpa using h1
  have g2 : (kd == 2) = false := by simpa using h2
  have g3 : (kd == 3) = false := by simpa using h3
  have HAS : Hid (actS S (kd, t, j, e, d) = S) := Lib.hid (by unfold actS; simp [h0, h1, h2, h3])
  clear h0 h1 h2 h3
  have HT : Hid (StR w g h (n + 1) (actS S (kd, t, j, e, d)) W1) := Lib.hid ⟨R, F, by rw [HAS.out]; exact HQ1.out.le (Nat.le_succ n)⟩
  go_wp2
  go_ret
  exact ⟨rfl, HT.out, Chg.of_ext HX1.out⟩

end Go.Proofs.Ytdijinboopdheaa

/- Layer 11's statements: may acts be looked at? -/
namespace Go.Proofs.Ytdijinboopdheaa
open Go.RowKit

def few11 (l : List Act4) : Bool := decide (l.length ≤ 60) && l.all fun x => decide (x.2.2.2.2.length ≤ 200)
theorem few11_iff {l : List Act4} : few11 l = true ↔ l.length ≤ 60 ∧ ∀ x ∈ l, x.2.2.2.2.length ≤ 200 := by simp [few11]
theorem few11_any (l : List Act4) (v : Value) (w : World) (h : RdActs4 w v l) :
    Calls Try.prog 11 #[v] w fun e w' => e = .returned (.bool (few11 l)) ∧ w = w' := by
  obtain ⟨A, c, rfl, hlc, hcm⟩ := h.slice_
  have HR := Lib.hid h
  clear h
  by_cases h60 : l.length ≤ 60
  · have d60 : decide (60 < l.length) = false := decide_eq_false (by omega)
    have d60' : decide ((60 : Int) < (l.length : Int)) = false := decide_eq_false (by omega)
    go_enter Try.func11, Try.ntmps11
    go_wp2
    go_loopw [3] (fun i wr => wr = w ∧ ∃ k : Nat, i = .int .i64 k ∧ k ≤ l.length ∧ Hid (∀ x ∈ l.take k, x.2.2.2.2.length ≤ 200)) (fun i _ => l.length - (intOf i).toNat)
    case atStart => exact ⟨rfl, 0, rfl, Nat.zero_le _, Lib.hid (by intro x hx; simp at hx)⟩
    case round =>
      obtain ⟨rfl, k, rfl, hk, HK⟩ := hrel
      by_cases hlt : k < l.length
      · have e1 : decide ((k : Int) < (l.length : Int)) = true := decide_eq_true (by omega)
        have e1' : decide (k < l.length) = true := decide_eq_true hlt
        obtain ⟨b, o, rfl, hb1, hcl⟩ := HR.out.get (by omega)
        obtain ⟨x, hx⟩ : ∃ x, l[k]? = some x := ⟨_, List.getElem?_eq_getElem hlt⟩
        obtain ⟨-, -, -, -, u, e4, hu⟩ := hcl k x hx
        have HXM := Lib.hid (List.mem_of_getElem? hx)
        have HXK := Lib.hid hx
        obtain ⟨Au, cu, rfl, -, -⟩ := hu.sliceN (List.length_map _)
        obtain ⟨n, hn⟩ : ∃ n, n = x.2.2.2.2.length := ⟨_, rfl⟩
        rw [← hn] at e4
        have HN := Lib.hid hn
        have HLT := Lib.hid hlt
        clear hcl hu hn hx
        by_cases h2 : 200 < n
        · have d2 : decide ((200 : Int) < (n : Int)) = true := decide_eq_true (by omega)
          have d2' : decide (200 < n) = true := decide_eq_true h2
          have HF : Hid (few11 l = false) := Lib.hid (by
            cases hf : few11 l with
            | false => rfl
            | true => have := (few11_iff.1 hf).2 _ HXM.out; rw [HN.out] at h2; omega)
          clear h2 hlt
          go_wp2
          go_ret
          exact ⟨by rw [HF.out]; rfl, rfl⟩
        · have d2 : decide ((200 : Int) < (n : Int)) = false := decide_eq_false (by omega)
          have d2' : decide (200 < n) = false := decide_eq_false h2
          have HK2 : Hid (∀ x ∈ l.take (k + 1), x.2.2.2.2.length ≤ 200) := Lib.hid (by
            rw [List.take_add_one, HXK.out]
            intro y hy
            rcases List.mem_append.1 hy with hy | hy
            · exact HK.out y hy
            · obtain rfl : y = x := by simpa using hy
              rw [← HN.out]; omega)
          have hwq : wrap64 ((k : Int) + 1) = (k : Int) + 1 := IntWalk.wrap64_in _ (by omega)
          clear h2 hlt
          go_wp2
          go_roundw
          case rel => first | exact ⟨rfl, k + 1, by go_num, HLT.out, HK2⟩ | exact ⟨trivial, k + 1, by go_num, HLT.out, HK2⟩
          case measure => simp [intOf]; have := HLT.out; omega
      · obtain rfl : k = l.length := by omega
        have e1 : decide ((l.length : Int) < (l.length : Int)) = false := decide_eq_false (by omega)
        have e1' : decide (l.length < l.length) = false := decide_eq_false (by omega)
        have HF : Hid (few11 l = true) := Lib.hid (few11_iff.2 ⟨h60, fun x hx => HK.out x (by rw [List.take_length]; exact hx)⟩)
        clear HK
        go_wp2
        go_ret
        exact ⟨by rw [HF.out]; rfl, rfl⟩
  · have d60 : decide (60 < l.length) = true := decide_eq_true (by omega)
    have d60' : decide ((60 : Int) < (l.length : Int)) = true := decide_eq_true (by omega)
    have HF : Hid (few11 l = false) := Lib.hid (by simp [few11, h60])
    clear h60
    go_enter Try.func11, Try.ntmps11
    go_wp2
    go_ret
    exact ⟨by rw [HF.out]; rfl, rfl⟩

end Go.Proofs.Ytdijinboopdheaa

/- Layer 11's statements: the document's example. -/
namespace Go.Proofs.Ytdijinboopdheaa
open Go.RowKit

set_option maxRecDepth 100000 in
set_option maxHeartbeats 4000000 in
theorem alive11_any (w : World) : Calls Try.prog 10 #[] w fun e w' => e = .returned (.bool true) ∧ Ext w w' := by
  have kc := fun (w : World) (C : Array Value) (n c : Nat) => Lib.run_convert_bytes_const (P := Try.prog) w 27 5 C n c Try.underlying27 Try.underlying5
  go_enter Try.func10, Try.ntmps10
  go_wp2_with fail
  refine (New_any 5 w).mono ?_
  rintro e0 w0 ⟨rfl, hx0, hl0, hm0⟩
  have HS0 := Lib.hid (hm0 (fun k => k = w.heap.size) (fun k hk => by rw [hk]; exact hl0) rfl)
  have HX0 := Lib.hid hx0
  clear hx0 hl0 hm0
  obtain ⟨u0, hu0⟩ : ∃ u, u = w0.alloc (.cells #[.int .u8 97, .int .u8 98, .int .u8 99] 5 (3, 4)) := ⟨_, rfl⟩
  have hz0 : u0.heap.size = w0.heap.size + 1 := by rw [hu0]; simp
  have hy0 : Ext w0 u0 := by rw [hu0]; exact (Below.refl _ _).alloc (Nat.le_refl _) _
  have hr0 : Rd u0 (.slice (some ⟨w0.heap.size, 0, none⟩) 3 3) (([97, 98, 99] : List UInt8).map B) := by rw [hu0]; exact Rd.litM w0 [97, 98, 99] _ _ 3 _ (3, 4) (by decide) (by simp [B]) rfl rfl
  have HC0 := Lib.hid (Stage_any (fun k => k = w.heap.size) w.heap.size exSa 0 1 2 [97, 98, 99] (some ⟨w0.heap.size, 0, none⟩) 3 u0 (HS0.out.ext hy0) exS_a hr0 (by decide) (by decide) (by decide) (by decide))
  have HY0 := Lib.hid (HX0.out.trans hy0)
  clear hz0 hy0 hr0
  go_wp2_with fail
  rw [← hu0]
  clear hu0
  refine HC0.out.mono ?_
  rintro e1 w1 ⟨rfl, hs, hc⟩
  have HX1 := Lib.hid (hc.ext HY0.out (fun k hk => by rw [hk]; exact Nat.le_refl _))
  have HS1 : Hid (SoAt (fun k => k = w.heap.size) w1 w.heap.size exSb) := Lib.hid hs
  rw [exS_1]
  clear hs hc HC0 HS0 HX0 HY0
  go_wp2_with fail
  refine (Commit_any (fun k => k = w.heap.size) w.heap.size exSb 1 2 w1 HS1.out exS_b).mono ?_
  rintro e2 w2 ⟨rfl, hs, hc⟩
  have HX2 := Lib.hid (hc.ext HX1.out (fun k hk => by rw [hk]; exact Nat.le_refl _))
  have HS2 : Hid (SoAt (fun k => k = w.heap.size) w2 w.heap.size exSc) := Lib.hid hs
  rw [exS_2]
  clear hs hc HS1 HX1
  go_wp2_with fail
  refine (Get_any (fun k => k = w.heap.size) w.heap.size exSc 1 2 w2 HS2.out exS_c).mono ?_
  rintro e3 w3 ⟨v3, rfl, hv3, hx3⟩
  rw [exS_3] at hv3 ⊢
  have HS3 := Lib.hid (HS2.out.ext hx3)
  have HX3 := Lib.hid (HX2.out.trans hx3)
  have HV3 := Lib.hid hv3.rd
  obtain ⟨A3, c3, hv, -⟩ := hv3.rd.sliceN (n := 3) rfl
  subst hv
  clear hv3 hx3 HS2 HX2
  have hcv := run_conv_rd (P := Try.prog) w3 27 9 5 Try.underlying27 Try.underlying5 Try.underlying9 (.slice A3 3 c3) [97, 98, 99] HV3.out
  obtain ⟨u3, hu3⟩ : ∃ u, u = w3.alloc (.cells #[.int .u8 120, .int .u8 121, .int .u8 122] 5 (3, 4)) := ⟨_, rfl⟩
  have hz3 : u3.heap.size = w3.heap.size + 1 := by rw [hu3]; simp
  have hy3 : Ext w3 u3 := by rw [hu3]; exact (Below.refl _ _).alloc (Nat.le_refl _) _
  have hr3 : Rd u3 (.slice (some ⟨w3.heap.size, 0, none⟩) 3 3) (([120, 121, 122] : List UInt8).map B) := by rw [hu3]; exact Rd.litM w3 [120, 121, 122] _ _ 3 _ (3, 4) (by decide) (by simp [B]) rfl rfl
  have HC3 := Lib.hid (Stage_any (fun k => k = w.heap.size) w.heap.size exSc 0 1 3 [120, 121, 122] (some ⟨w3.heap.size, 0, none⟩) 3 u3 (HS3.out.ext hy3) exS_c hr3 (by decide) (by rw [exS_8]; decide) (by rw [exS_8]; decide) (by rw [exS_6]; decide))
  have HY3 := Lib.hid (HX3.out.trans hy3)
  clear hz3 hy3 hr3
  go_wp2_with fail
  rw [← hu3]
  clear hu3
  refine HC3.out.mono ?_
  rintro e4 w4 ⟨rfl, hs, hc⟩
  have HX4 := Lib.hid (hc.ext HY3.out (fun k hk => by rw [hk]; exact Nat.le_refl _))
  rw [exS_4'] at hs
  rw [exS_4]
  have HS4 : Hid (SoAt (fun k => k = w.heap.size) w4 w.heap.size exSc) := Lib.hid hs
  clear hs hc HC3 HS3 HX3 HY3 hcv HV3
  obtain ⟨u4, hu4⟩ : ∃ u, u = w4.alloc (.cells #[.int .u8 120] 5 (1, 2)) := ⟨_, rfl⟩
  have hz4 : u4.heap.size = w4.heap.size + 1 := by rw [hu4]; simp
  have hy4 : Ext w4 u4 := by rw [hu4]; exact (Below.refl _ _).alloc (Nat.le_refl _) _
  have hr4 : Rd u4 (.slice (some ⟨w4.heap.size, 0, none⟩) 1 1) (([120] : List UInt8).map B) := by rw [hu4]; exact Rd.litM w4 [120] _ _ 1 _ (1, 2) (by decide) (by simp [B]) rfl rfl
  have HC4 := Lib.hid (Stage_any (fun k => k = w.heap.size) w.heap.size exSc 0 1 2 [120] (some ⟨w4.heap.size, 0, none⟩) 1 u4 (HS4.out.ext hy4) exS_c hr4 (by decide) (by rw [exS_8]; decide) (by rw [exS_8]; decide) (by rw [exS_6]; decide))
  have HY4 := Lib.hid (HX4.out.trans hy4)
  clear hz4 hy4 hr4
  go_wp2_with fail
  rw [← hu4]
  clear hu4
  refine HC4.out.mono ?_
  rintro e5 w5 ⟨rfl, hs, hc⟩
  have HX5 := Lib.hid (hc.ext HY4.out (fun k hk => by rw [hk]; exact Nat.le_refl _))
  rw [exS_5'] at hs
  rw [exS_5]
  have HS5 : Hid (SoAt (fun k => k = w.heap.size) w5 w.heap.size exSc) := Lib.hid hs
  clear hs hc HC4 HS4 HX4 HY4
  go_wp2_with fail
  refine (Used_any (fun k => k = w.heap.size) w.heap.size exSc w5 HS5.out exS_c (by rw [exS_6]; decide)).mono ?_
  rintro e6 w6 ⟨rfl, hx6⟩
  rw [exS_6]
  have HS6 := Lib.hid (HS5.out.ext hx6)
  have HX6 := Lib.hid (HX5.out.trans hx6)
  clear hx6 HS5 HX5
  go_wp2_with fail
  refine (Counts_any (fun k => k = w.heap.size) w.heap.size exSc 1 w6 HS6.out exS_c).mono ?_
  rintro e7 w7 ⟨rfl, hx7⟩
  rw [exS_7]
  have HS7 := Lib.hid (HS6.out.ext hx7)
  have HX7 := Lib.hid (HX6.out.trans hx7)
  clear hx7 HS6 HX6
  go_wp2_with fail
  refine (Writes_any (fun k => k = w.heap.size) w.heap.size exSc w7 HS7.out exS_c).mono ?_
  rintro e8 w8 ⟨rfl, rfl⟩
  rw [exS_8]
  go_wp2_with fail
  refine (Term_any (fun k => k = w.heap.size) w.heap.size exSc w7 HS7.out).mono ?_
  rintro e9 w9 ⟨rfl, rfl⟩
  rw [exS_9]
  go_wp2
  go_ret
  exact ⟨rfl, HX7.out⟩

end Go.Proofs.Ytdijinboopdheaa

/- The reference's words for 'the same bytes'. -/
namespace Go.Proofs.Ytdijinboopdheaa
open Go.RowKit

set_option maxHeartbeats 1000000 in
theorem Bytes_any (xs ys : List UInt8) (u v : Value) (w : World) (hu : Rd w u (xs.map B)) (hv : Rd w v (ys.map B)) :
    Calls Try.prog 25 #[u, v] w fun e w' => e = .returned (.bool (decide (xs = ys))) ∧ ∃ n, w' = w.drewN n := by
  obtain ⟨A, c, rfl, hlc, hcm, hca⟩ := hu
  obtain ⟨A', c', rfl, hlc', hcm', hcb⟩ := hv
  simp only [List.length_map] at *
  unfold maxLen at hcm hcm'
  by_cases hl : xs.length = ys.length
  · have HL := Lib.hid hl
    rw [hl] at hlc hca ⊢
    clear hl
    go_enter Try.func25, Try.ntmps25
    go_wp2
    go_loopw [5] (fun i' wr => ∃ i k : Nat, i' = .int .i64 i ∧ i ≤ ys.length ∧ xs.take i = ys.take i ∧ wr = w.drewN k) (fun i' _ => ys.length - (intOf i').toNat)
    case atStart => exact ⟨0, 0, rfl, by omega, rfl, rfl⟩
    case round =>
      obtain ⟨i, k, rfl, hi, htk, rfl⟩ := hrel
      have HT := Lib.hid htk
      clear htk
      by_cases hlt : i < ys.length
      · have hlx : i < xs.length := by have := HL.out; omega
        obtain ⟨b, o, rfl, hb, hc1⟩ := hca (by omega)
        obtain ⟨b', o', rfl, hb', hc2⟩ := hcb (by omega)
        have e1 : w.cell? ⟨b, o + i, none⟩ = some (B xs[i]) := hc1 i _ (by simp [hlx])
        have e2 : w.cell? ⟨b', o' + i, none⟩ = some (B ys[i]) := hc2 i _ (by simp [hlt])
        clear hc1 hc2 hca hcb
        generalize hx : xs[i] = x at e1
        generalize hy : ys[i] = y at e2
        have HX := Lib.hid hx
        have HY := Lib.hid hy
        clear hx hy
        simp only [B] at e1 e2
        by_cases hxy : x = y
        · subst hxy
          go_wp2
          go_quiet (fail)
          go_wp2
          go_roundw
          case rel => exact ⟨i + 1, _, by go_num, by omega, by rw [take_snoc _ _ hlx, take_snoc _ _ hlt, HT.out, HX.out, HY.out], rfl⟩
          case measure => simp [intOf]; omega
        · have hne : ((x.toNat : Int) == (y.toNat : Int)) = false := by rw [beq_eq_false_iff_ne]; intro e; exact hxy (by first | exact UInt8.toNat_inj.1 (by omega) | omega)
          have hne2 : ((x.toNat : Int) != (y.toNat : Int)) = true := by rw [bne_iff_ne]; intro e; exact hxy (by first | exact UInt8.toNat_inj.1 (by omega) | omega)
          have HN := Lib.hid hxy
          clear hxy
          go_wp2
          go_quiet (fail)
          go_wp2
          go_ret
          refine ⟨?_, _, World.drewN_drewN _ _ _⟩
          rw [decide_eq_false (fun e => HN.out (by rw [← HX.out, ← HY.out]; simp only [e]))]
          rfl
      · obtain rfl : i = ys.length := by omega
        go_wp2
        go_ret
        refine ⟨?_, _, rfl⟩
        have := HT.out
        rw [List.take_length, ← HL.out, List.take_length] at this
        rw [decide_eq_true this]
        rfl
  · have hlb : ((xs.length : Int) == (ys.length : Int)) = false := by rw [beq_eq_false_iff_ne]; omega
    have H := Lib.hid hl
    clear hl
    go_enter Try.func25, Try.ntmps25
    go_wp2
    go_ret
    exact ⟨by rw [decide_eq_false (fun e => H.out (by rw [e]))]; rfl, 0, rfl⟩

end Go.Proofs.Ytdijinboopdheaa

/- Layer 11's statement StoreActs, walked. -/
namespace Go.Proofs.Ytdijinboopdheaa
open Go.RowKit

theorem BytesX (l : List UInt8) (u v : Value) (w : World) (hu : Rd w u (l.map B)) (hv : Rd w v (l.map B)) : Calls Try.prog 25 #[u, v] w fun e w' => e = .returned (.bool true) ∧ Ext w w' :=
  (Bytes_any l l u v w hu hv).mono (by
    rintro e w' ⟨rfl, n, rfl⟩
    exact ⟨by simp, Below.drewN' (Ext.refl _) n⟩)
theorem RsX.pts {F : Fp} {w : World} {h : Nat} {R : RsP} {lp : List PtL} {v : Value} (r : RsX F w h R lp v) : PtsRd (fun k => k = h) w v lp := by
  refine ⟨?_, fun x hx => (r.dat x hx).mono (fun k hk => hk.2.1)⟩
  obtain ⟨A, c, rfl, h1, h2, -⟩ := r.row.slice_
  refine ⟨A, c, rfl, h1, h2, fun hn => ?_⟩
  obtain ⟨b, rfl, hb, hG, -⟩ := r.row.at_ (List.getElem?_eq_getElem hn)
  exact ⟨b, 0, rfl, hb, hG.2, fun j x hj => by
    obtain ⟨b', e, -, -, hat⟩ := r.row.at_ hj
    cases e
    rw [Nat.zero_add]
    exact hat⟩

set_option maxRecDepth 100000 in
set_option maxHeartbeats 8000000 in
theorem StoreActs_calls (room : Int) (l : List Act4) (v : Value) (w : World) (hr : RdActs4 w v l) : Calls Try.prog 3 #[.int .i64 room, v] w fun x w' => x = .returned (.bool true) ∧ Ext w w' := by
  have kc := fun (w : World) (C : Array Value) (n c : Nat) => Lib.run_convert_bytes_const (P := Try.prog) w 27 5 C n c Try.underlying27 Try.underlying5
  obtain ⟨A, c, rfl, hlc, hcm⟩ := hr.slice_
  have HR := Lib.hid hr
  clear hr hlc hcm
  go_enter Try.func3, Try.ntmps3
  go_wp2_with fail
  refine (alive11_any w).mono ?_
  rintro e0 w0 ⟨rfl, hx0⟩
  have HX0 := Lib.hid hx0
  clear hx0
  have HFW := Lib.hid (few11_any l (.slice A l.length c) w0 (HR.out.ext HX0.out))
  cases hfew : few11 l with
  | false =>
    rw [hfew] at HFW
    clear hfew
    go_wp2_with fail
    refine HFW.out.mono ?_
    rintro e1 w1 ⟨rfl, rfl⟩
    go_wp2
    go_ret
    exact ⟨rfl, HX0.out⟩
  | true =>
    have HFE := Lib.hid (few11_iff.1 hfew)
    rw [hfew] at HFW
    clear hfew
    go_wp2_with fail
    refine HFW.out.mono ?_
    rintro e1 w1 ⟨rfl, rfl⟩
    clear HFW
    go_wp2_with fail
    refine (Fence_nil 1 w0).mono ?_
    rintro e2 w2 ⟨rfl, hx⟩
    replace HX0 := Lib.hid (HX0.out.trans hx)
    clear hx
    go_wp2_with fail
    refine (End_nil 1 w2).mono ?_
    rintro e3 w3 ⟨rfl, hx⟩
    replace HX0 := Lib.hid (HX0.out.trans hx)
    clear hx
    go_wp2_with fail
    refine (Get_nil 1 1 w3).mono ?_
    rintro e4 w4 ⟨rfl, hx⟩
    replace HX0 := Lib.hid (HX0.out.trans hx)
    clear hx
    obtain ⟨W5, hW5⟩ : ∃ W', W' = w4.alloc (.cells #[.int .u8 97] 5 (1, 2)) := ⟨_, rfl⟩
    replace HX0 := Lib.hid (HX0.out.trans (show Ext w4 W5 by rw [hW5]; exact (Below.refl _ _).alloc (Nat.le_refl _) _))
    go_wp2_with fail
    rw [← hW5]
    clear hW5 kc
    refine (Stage_nil 0 1 1 _ W5).mono ?_
    rintro e6 w6 ⟨rfl, hx⟩
    replace HX0 := Lib.hid (HX0.out.trans hx)
    clear hx
    go_wp2_with fail
    refine (Commit_nil 1 1 w6).mono ?_
    rintro e7 w7 ⟨rfl, hx⟩
    replace HX0 := Lib.hid (HX0.out.trans hx)
    clear hx
    go_wp2_with fail
    refine (Counts_nil 1 w7).mono ?_
    rintro e8 w8 ⟨rfl, hx⟩
    replace HX0 := Lib.hid (HX0.out.trans hx)
    clear hx
    go_wp2_with fail
    refine (Used_nil w8).mono ?_
    rintro e9 w9 ⟨rfl, hx⟩
    replace HX0 := Lib.hid (HX0.out.trans hx)
    clear hx
    go_wp2_with fail
    refine (Term_nil w9).mono ?_
    rintro e10 w10 ⟨rfl, hx⟩
    replace HX0 := Lib.hid (HX0.out.trans hx)
    clear hx
    go_wp2_with fail
    refine (Writes_nil w10).mono ?_
    rintro e11 w11 ⟨rfl, hx⟩
    replace HX0 := Lib.hid (HX0.out.trans hx)
    clear hx
    go_wp2_with fail
    refine (SW.new HX0.out room).mono ?_
    rintro e12 w12 ⟨g, rfl, hs⟩
    have HS := Lib.hid hs
    clear hs
    go_wp2_with fail
    refine (XNew_any room w12).mono ?_
    rintro e13 w13 ⟨rfl, hx13, hrn⟩
    obtain ⟨h, hh⟩ : ∃ q, q = w12.heap.size := ⟨_, rfl⟩
    have HQ0 := Lib.hid (St2.new HS.out hx13 hrn)
    rw [← hh] at HQ0 ⊢
    have HK0 : Hid (StR w g h 0 (newS room) w13) := Lib.hid ⟨_, _, HQ0.out⟩
    clear hx13 hrn hh HS HQ0 HX0
    obtain ⟨S0, hS0⟩ : ∃ S, S = newS room := ⟨_, rfl⟩
    rw [← hS0] at HK0
    clear hS0
    go_wp2_with fail
    go_loopg [10] l.length (fun gg i wr => ∃ k : Nat, i = .int .i64 k ∧ k ≤ l.length ∧ gg = l.length - k ∧ Hid (∃ S, StR w g h k S wr))
    case atStart => exact ⟨0, rfl, Nat.zero_le _, rfl, Lib.hid ⟨S0, HK0.out⟩⟩
    case round =>
      obtain ⟨k, rfl, hk, rfl, HK⟩ := hrel
      clear HK0
      obtain ⟨S, R, F, hq⟩ := HK.out
      have HQ := Lib.hid hq
      clear HK hq
      by_cases hlt : k < l.length
      · have e1 : decide ((k : Int) < (l.length : Int)) = true := decide_eq_true (by omega)
        have e1' : decide (k < l.length) = true := decide_eq_true hlt
        have HLT := Lib.hid hlt
        have HK60 : Hid (k + 1 ≤ 60) := Lib.hid (by have := HFE.out.1; omega)
        have x1 : (0 : Int) ≤ (k : Int) ∧ (k : Int) < (l.length : Int) := by omega
        have hwq : wrap64 ((k : Int) + 1) = (k : Int) + 1 := IntWalk.wrap64_in _ (by have := HK60.out; omega)
        obtain ⟨b, o, hA_, hb1, hcl⟩ := HR.out.get (by omega)
        subst hA_
        obtain ⟨x, hxk⟩ : ∃ x, l[k]? = some x := ⟨_, List.getElem?_eq_getElem hlt⟩
        obtain ⟨a0, a1, a2, a3, u, a4, hu⟩ := (hcl k x hxk).ext HQ.out.sx.ext hb1
        obtain ⟨-, -, -, -, u2, b4, hu2⟩ := hcl k x hxk
        have huu : u = u2 := Option.some.inj (a4.symm.trans (HQ.out.sx.ext.cellOf b4 hb1))
        subst huu
        have hx200 := HFE.out.2 x (List.mem_of_getElem? hxk)
        obtain ⟨kd, t, j, e, d⟩ := x
        simp only at a0 a1 a2 a3 hu hu2 hx200
        obtain ⟨Au, cu, hue, -, -⟩ := hu.sliceN (List.length_map _)
        subst hue
        have HDW := Lib.hid hu2
        have HL200 := Lib.hid hx200
        clear hcl hu hu2 hxk hx200 hlt hb1 b4
        obtain ⟨gb, hgb⟩ : ∃ q, q = wr.heap.size := ⟨_, rfl⟩
        obtain ⟨wb, hwb⟩ : ∃ W', W' = wr.alloc (.cells #[.int .i64 kd, .int .i64 t, .int .i64 j, .int .i64 e, .slice Au d.length cu] 39) := ⟨_, rfl⟩
        have HXB := Lib.hid (show Ext wr wb by rw [hwb]; exact Ext.alloc_ _ _)
        have HB : Hid (Blk wb gb 39 #[.int .i64 kd, .int .i64 t, .int .i64 j, .int .i64 e, .slice Au d.length cu]) := Lib.hid (by rw [hgb, hwb]; exact Blk.new _ _ _)
        have HQB := Lib.hid (HQ.out.more HXB.out)
        have HDO := Lib.hid (do11_any HQB.out (by have := HK60.out; omega) kd t j e d Au cu (HDW.out.ext HQB.out.sx.ext) HDW.out (by have := HL200.out; omega))
        have HCB := Lib.hid (show ∀ W', Chg (fun q => q = g ∨ F q) wb W' → Blk W' gb 39 #[.int .i64 kd, .int .i64 t, .int .i64 j, .int .i64 e, .slice Au d.length cu] from fun W' hc => (hc.block gb HB.out.lt (fun hf => by rcases hf with hf | hf; (have := HQ.out.sx.so.lt; omega); (have := HQ.out.rs.isIn gb hf; omega))).trans HB.out)
        go_upto_region 16 with (fail)
        rw [← hwb, ← hgb]
        clear hwb hgb a0 a1 a2 a3 a4 HXB
        have k0 := HB.out.cell 0
        have k1 := HB.out.cell 1
        have k2 := HB.out.cell 2
        have k3 := HB.out.cell 3
        have k4 := HB.out.cell 4
        go_wp2_with fail
        refine HDO.out.mono ?_
        rintro e5 w5 ⟨rfl, hq5, hc5⟩
        clear k0 k1 k2 k3 k4 HDO
        have HB5 := Lib.hid (HCB.out w5 hc5)
        obtain ⟨S5, hS5⟩ : ∃ S', S' = actS S (kd, t, j, e, d) := ⟨_, rfl⟩
        rw [← hS5] at hq5
        clear hS5 hc5
        obtain ⟨R5, F5, hq5⟩ := hq5
        have HQ5 := Lib.hid hq5
        have HG := Lib.hid (HQ5.out.rel.get HQ5.out.sx.ok j e)
        clear hq5
        obtain ⟨dd, hdd⟩ : ∃ x, x = getS S5 j e := ⟨_, rfl⟩
        have HC := Lib.hid (HQ5.out.sx.sw.get j e)
        rw [← hdd] at HC HG
        have HDD := Lib.hid hdd
        clear hdd
        have k2 := HB5.out.cell 2
        have k3 := HB5.out.cell 3
        go_wp2_with fail
        refine HC.out.mono ?_
        rintro e6 w6 ⟨v6, rfl, hv6, -, hx6⟩
        obtain ⟨A6, c6, rfl, -, -⟩ := hv6.rd.sliceN (List.length_map _)
        have HV6 := Lib.hid hv6.rd
        have HQ6 := Lib.hid (HQ5.out.more hx6)
        have HB6 := Lib.hid (HB5.out.ext hx6)
        clear hv6 hx6 HC k2 k3
        have HC := Lib.hid (RGet_any (fun k => k = h) h R5 j e w6 HQ6.out.rs.view (by have := HQ6.out.len; have := HK60.out; omega))
        rw [← HG.out] at HC
        have k2 := HB6.out.cell 2
        have k3 := HB6.out.cell 3
        go_wp2_with fail
        refine HC.out.mono ?_
        rintro e7 w7 ⟨v7, rfl, hv7, rfl⟩
        obtain ⟨A7, c7, rfl, -, -⟩ := hv7.rd.sliceN (List.length_map _)
        have HV7 := Lib.hid hv7.rd
        clear hv7 HC k2 k3 HQ HQB HB HCB HB5 HG HDD
        obtain ⟨db, hdb⟩ : ∃ x, x = dd.2 := ⟨_, rfl⟩
        rw [← hdb]
        clear hdb
        have hdq : (db != db) = false := by simp
        obtain ⟨lp, v, hi⟩ := HQ6.out.rs.out
        obtain ⟨AL, cL, rfl, -, -, -⟩ := hi.row.slice_
        obtain ⟨nl, hnl⟩ : ∃ n, n = lp.length := ⟨_, rfl⟩
        rw [← hnl] at hi
        have HI := Lib.hid hi
        have hrd := hi.view
        have HLC : Hid (∀ W', Ext w6 W' → W'.cell? ⟨h, 1, none⟩ = some (.int .i64 R5.term) ∧ W'.cell? ⟨h, 2, none⟩ = some (.slice AL nl cL) ∧ W'.cell? ⟨h, 3, none⟩ = some (.int .i64 R5.writes) ∧ W'.cell? ⟨gb, 2, none⟩ = some (.int .i64 j)) := Lib.hid fun W' q => ⟨(HI.out.blk.ext q).cell 1, (HI.out.blk.ext q).cell 2, (HI.out.blk.ext q).cell 3, (HB6.out.ext q).cell 2⟩
        have HC1 := Lib.hid (fun (W : World) (hx : Ext w6 W) => BytesX dd.1 _ _ W (HV6.out.ext hx) (HV7.out.ext hx))
        have HC2 := Lib.hid (fun (W : World) (hx : Ext w6 W) => Counts_any _ g S5 j W (HQ6.out.more hx).sx.so HQ6.out.sx.ok)
        have HC3 := Lib.hid (fun (W : World) (hx : Ext w6 W) => REpoch_any (fun k => k = h) h R5 j true W (HQ6.out.more hx).rs.view (by have := HQ6.out.len; have := HK60.out; omega))
        rw [HQ6.out.rel.epoch j true] at HC3
        have hck : (ckOf (ofJ S5 j) true).ep = (ofJ S5 j).c.ep := rfl
        rw [hck] at HC3
        clear hck
        obtain ⟨ec, hec⟩ : ∃ x, x = (ofJ S5 j).c.ep := ⟨_, rfl⟩
        rw [← hec] at HC2 HC3
        clear hec
        have HC4 := Lib.hid (fun (W : World) (hx : Ext w6 W) => Used_any _ g S5 W (HQ6.out.more hx).sx.so HQ6.out.sx.ok (by have := HQ6.out.sx.ok.used_le; omega))
        have HC5 : Hid (∀ W, Ext w6 W → Calls Try.prog 27 #[.slice AL nl cL] W fun e w' => e = .returned (.int .i64 (bytesP R5.L : Int)) ∧ W = w') := Lib.hid fun W hx => by
          have hp2 : PtsRd (fun k => k = h) W (.slice AL nl cL) lp := (RsX.pts HI.out).chg (G := fun _ => False) (Chg.of_ext hx) (fun _ h => h.elim)
          have h8 := RBytes_any (fun k => k = h) (.slice AL nl cL) lp W hp2 (by have h9 := congrArg List.length HI.out.eq; rw [List.length_map] at h9; have := HQ6.out.len; have := HK60.out; omega) (by rw [HI.out.eq]; have := HQ6.out.bytes; omega)
          rw [HI.out.eq] at h8
          exact h8
        rw [← HQ6.out.rel.used] at HC5
        obtain ⟨us, hus⟩ : ∃ x, x = usedJ S5.jobs := ⟨_, rfl⟩
        rw [← hus] at HC4 HC5
        clear hus
        have HC6 := Lib.hid (fun (W : World) (hx : Ext w6 W) => Term_any _ g S5 W (HQ6.out.more hx).sx.so)
        have HC7 := Lib.hid (fun (W : World) (hx : Ext w6 W) => Writes_any _ g S5 W (HQ6.out.more hx).sx.so HQ6.out.sx.ok)
        rw [HQ6.out.rel.term] at HC6
        rw [HQ6.out.rel.writes] at HC7
        clear hi hrd hnl
        obtain ⟨rt, hrt⟩ : ∃ x, x = R5.term := ⟨_, rfl⟩
        obtain ⟨rw_, hrw⟩ : ∃ x, x = R5.writes := ⟨_, rfl⟩
        rw [← hrt] at HC6 HLC
        rw [← hrw] at HC7 HLC
        clear hrt hrw
        have q1 : (ec != ec) = false := by simp
        have q2 : ((us : Int) != (us : Int)) = false := by simp
        have q3 : (rt != rt) = false := by simp
        have q4 : (rw_ != rw_) = false := by simp
        have HXD : Hid (Ext w6 w6.drew) := Lib.hid (Below.drewN' (Ext.refl w6) 1)
        go_upto_region 20 with (fail)
        refine held_begin (by kernel_rfl) ?_
        refine held_more (S' := fun W' : World => Ext w6 W') (fun _ _ => True.intro) ?_
        have hSx : (fun W' : World => Ext w6 W') w6.drew := HXD.out
        refine held_take (i := 0) (v := ?_) rfl (by kernel_rfl) (by kernel_rfl) (by kernel_rfl) (by rfl) (by first | assumption | exact True.intro) ?_ ?_
        rotate_left
        · (intro W hSw; go_simp; (try with_reducible rfl))
        try simp only [Act.put, List.setIfInBounds_toArray, List.set_cons_zero, List.set_cons_succ]
        refine held_take (i := 1) (v := ?_) rfl (by kernel_rfl) (by kernel_rfl) (by kernel_rfl) (by rfl) (by first | assumption | exact True.intro) ?_ ?_
        rotate_left
        · (intro W hSw; go_simp; (try with_reducible rfl))
        try simp only [Act.put, List.setIfInBounds_toArray, List.set_cons_zero, List.set_cons_succ]
        refine held_take (i := 2) (v := ?_) rfl (by kernel_rfl) (by kernel_rfl) (by kernel_rfl) (by rfl) (by first | assumption | exact True.intro) ?_ ?_
        rotate_left
        · (intro W hSw; go_simp; (try with_reducible rfl))
        try simp only [Act.put, List.setIfInBounds_toArray, List.set_cons_zero, List.set_cons_succ]
        refine held_take (i := 3) (v := ?_) rfl (by kernel_rfl) (by kernel_rfl) (by kernel_rfl) (by rfl) (by first | assumption | exact True.intro) ?_ ?_
        rotate_left
        · (intro W hSw; go_simp; (try with_reducible rfl))
        try simp only [Act.put, List.setIfInBounds_toArray, List.set_cons_zero, List.set_cons_succ]
        refine held_take (i := 4) (v := ?_) rfl (by kernel_rfl) (by kernel_rfl) (by kernel_rfl) (by rfl) (by first | assumption | exact True.intro) ?_ ?_
        rotate_left
        · (intro W hSw; go_simp; (try with_reducible rfl))
        try simp only [Act.put, List.setIfInBounds_toArray, List.set_cons_zero, List.set_cons_succ]
        refine held_take (i := 5) (v := ?_) rfl (by kernel_rfl) (by kernel_rfl) (by kernel_rfl) (by rfl) (by first | assumption | exact True.intro) ?_ ?_
        rotate_left
        · (intro W hSw; go_simp; (try with_reducible rfl))
        try simp only [Act.put, List.setIfInBounds_toArray, List.set_cons_zero, List.set_cons_succ]
        clear hSx
        refine held_op (i := 6) (by kernel_rfl) rfl (fun K hK => ?_)
        go_simp
        go_at_call 25
        refine (HC1.out _ HXD.out).mono ?_
        rintro e8 w8 ⟨rfl, hx8⟩
        have HX8 := Lib.hid (HXD.out.trans hx8)
        clear hx8
        refine hK _ _ (HX8.out) (fun hSx => ?_)
        clear hK K
        try simp only [Act.put, List.setIfInBounds_toArray, List.set_cons_zero, List.set_cons_succ]
        refine held_take (i := 7) (v := ?_) rfl (by kernel_rfl) (by kernel_rfl) (by kernel_rfl) (by rfl) (by first | assumption | exact True.intro) ?_ ?_
        rotate_left
        · (intro W hSw; go_simp; (try with_reducible rfl))
        try simp only [Act.put, List.setIfInBounds_toArray, List.set_cons_zero, List.set_cons_succ]
        refine held_take (i := 8) (v := ?_) rfl (by kernel_rfl) (by kernel_rfl) (by kernel_rfl) (by rfl) (by first | assumption | exact True.intro) ?_ ?_
        rotate_left
        · (intro W hSw; go_simp; (try with_reducible rfl))
        try simp only [Act.put, List.setIfInBounds_toArray, List.set_cons_zero, List.set_cons_succ]
        refine held_take (i := 9) (v := ?_) rfl (by kernel_rfl) (by kernel_rfl) (by kernel_rfl) (by rfl) (by first | assumption | exact True.intro) ?_ ?_
        rotate_left
        · (intro W hSw; go_simp; (try with_reducible rfl))
        try simp only [Act.put, List.setIfInBounds_toArray, List.set_cons_zero, List.set_cons_succ]
        refine held_take (i := 10) (v := ?_) rfl (by kernel_rfl) (by kernel_rfl) (by kernel_rfl) (by rfl) (by first | assumption | exact True.intro) ?_ ?_
        rotate_left
        · (intro W hSw; go_simp; (try with_reducible rfl))
        try simp only [Act.put, List.setIfInBounds_toArray, List.set_cons_zero, List.set_cons_succ]
        refine held_take (i := 11) (v := ?_) rfl (by kernel_rfl) (by kernel_rfl) (by kernel_rfl) (by rfl) (by first | assumption | exact True.intro) ?_ ?_
        rotate_left
        · (intro W hSw; go_simp; (try with_reducible rfl))
        try simp only [Act.put, List.setIfInBounds_toArray, List.set_cons_zero, List.set_cons_succ]
        refine held_take (i := 12) (v := ?_) rfl (by kernel_rfl) (by kernel_rfl) (by kernel_rfl) (by rfl) (by first | assumption | exact True.intro) ?_ ?_
        rotate_left
        · (intro W hSw; obtain ⟨k1, k2, k3, k4⟩ := HLC.out W hSw; go_simp; (try with_reducible rfl))
        try simp only [Act.put, List.setIfInBounds_toArray, List.set_cons_zero, List.set_cons_succ]
        refine held_take (i := 14) (v := ?_) rfl (by kernel_rfl) (by kernel_rfl) (by kernel_rfl) (by rfl) (by first | assumption | exact True.intro) ?_ ?_
        rotate_left
        · (intro W hSw; go_simp; (try with_reducible rfl))
        try simp only [Act.put, List.setIfInBounds_toArray, List.set_cons_zero, List.set_cons_succ]
        refine held_take (i := 15) (v := ?_) rfl (by kernel_rfl) (by kernel_rfl) (by kernel_rfl) (by rfl) (by first | assumption | exact True.intro) ?_ ?_
        rotate_left
        · (intro W hSw; go_simp; (try with_reducible rfl))
        try simp only [Act.put, List.setIfInBounds_toArray, List.set_cons_zero, List.set_cons_succ]
        refine held_take (i := 16) (v := ?_) rfl (by kernel_rfl) (by kernel_rfl) (by kernel_rfl) (by rfl) (by first | assumption | exact True.intro) ?_ ?_
        rotate_left
        · (intro W hSw; obtain ⟨k1, k2, k3, k4⟩ := HLC.out W hSw; go_simp; (try with_reducible rfl))
        try simp only [Act.put, List.setIfInBounds_toArray, List.set_cons_zero, List.set_cons_succ]
        clear hSx
        refine held_op (i := 13) (by kernel_rfl) rfl (fun K hK => ?_)
        go_simp
        go_at_call 17
        refine (HC2.out _ HX8.out).mono ?_
        rintro e9 w9 ⟨rfl, hx9⟩
        have HX9 := Lib.hid (HX8.out.trans hx9)
        clear hx9
        refine hK _ _ (HX9.out) (fun hSx => ?_)
        clear hK K
        try simp only [Act.put, List.setIfInBounds_toArray, List.set_cons_zero, List.set_cons_succ]
        clear hSx
        refine held_op (i := 17) (by kernel_rfl) rfl (fun K hK => ?_)
        go_simp
        go_at_call 26
        refine (HC3.out _ HX9.out).mono ?_
        rintro e10 w10 ⟨rfl, rfl⟩
        refine hK _ _ (HX9.out) (fun hSx => ?_)
        clear hK K
        try simp only [Act.put, List.setIfInBounds_toArray, List.set_cons_zero, List.set_cons_succ]
        refine held_take (i := 18) (v := ?_) rfl (by kernel_rfl) (by kernel_rfl) (by kernel_rfl) (by rfl) (by first | assumption | exact True.intro) ?_ ?_
        rotate_left
        · (intro W hSw; go_simp; (try with_reducible rfl))
        try simp only [Act.put, List.setIfInBounds_toArray, List.set_cons_zero, List.set_cons_succ]
        refine held_take (i := 19) (v := ?_) rfl (by kernel_rfl) (by kernel_rfl) (by kernel_rfl) (by rfl) (by first | assumption | exact True.intro) ?_ ?_
        rotate_left
        · (intro W hSw; go_simp; (try with_reducible rfl))
        try simp only [Act.put, List.setIfInBounds_toArray, List.set_cons_zero, List.set_cons_succ]
        refine held_take (i := 20) (v := ?_) rfl (by kernel_rfl) (by kernel_rfl) (by kernel_rfl) (by rfl) (by first | assumption | exact True.intro) ?_ ?_
        rotate_left
        · (intro W hSw; obtain ⟨k1, k2, k3, k4⟩ := HLC.out W hSw; go_simp; (try with_reducible rfl))
        try simp only [Act.put, List.setIfInBounds_toArray, List.set_cons_zero, List.set_cons_succ]
        refine held_take (i := 21) (v := ?_) rfl (by kernel_rfl) (by kernel_rfl) (by kernel_rfl) (by rfl) (by first | assumption | exact True.intro) ?_ ?_
        rotate_left
        · (intro W hSw; go_simp; (try with_reducible rfl))
        try simp only [Act.put, List.setIfInBounds_toArray, List.set_cons_zero, List.set_cons_succ]
        refine held_take (i := 23) (v := ?_) rfl (by kernel_rfl) (by kernel_rfl) (by kernel_rfl) (by rfl) (by first | assumption | exact True.intro) ?_ ?_
        rotate_left
        · (intro W hSw; go_simp; (try with_reducible rfl))
        try simp only [Act.put, List.setIfInBounds_toArray, List.set_cons_zero, List.set_cons_succ]
        refine held_take (i := 24) (v := ?_) rfl (by kernel_rfl) (by kernel_rfl) (by kernel_rfl) (by rfl) (by first | assumption | exact True.intro) ?_ ?_
        rotate_left
        · (intro W hSw; go_simp; (try with_reducible rfl))
        try simp only [Act.put, List.setIfInBounds_toArray, List.set_cons_zero, List.set_cons_succ]
        refine held_take (i := 25) (v := ?_) rfl (by kernel_rfl) (by kernel_rfl) (by kernel_rfl) (by rfl) (by first | assumption | exact True.intro) ?_ ?_
        rotate_left
        · (intro W hSw; go_simp; (try with_reducible rfl))
        try simp only [Act.put, List.setIfInBounds_toArray, List.set_cons_zero, List.set_cons_succ]
        refine held_take (i := 26) (v := ?_) rfl (by kernel_rfl) (by kernel_rfl) (by kernel_rfl) (by rfl) (by first | assumption | exact True.intro) ?_ ?_
        rotate_left
        · (intro W hSw; obtain ⟨k1, k2, k3, k4⟩ := HLC.out W hSw; go_simp; (try with_reducible rfl))
        try simp only [Act.put, List.setIfInBounds_toArray, List.set_cons_zero, List.set_cons_succ]
        clear hSx
        refine held_op (i := 22) (by kernel_rfl) rfl (fun K hK => ?_)
        go_simp
        go_at_call 18
        refine (HC4.out _ HX9.out).mono ?_
        rintro e11 w11 ⟨rfl, hx11⟩
        have HX11 := Lib.hid (HX9.out.trans hx11)
        clear hx11
        refine hK _ _ (HX11.out) (fun hSx => ?_)
        clear hK K
        try simp only [Act.put, List.setIfInBounds_toArray, List.set_cons_zero, List.set_cons_succ]
        clear hSx
        refine held_op (i := 27) (by kernel_rfl) rfl (fun K hK => ?_)
        go_simp
        go_at_call 27
        refine (HC5.out _ HX11.out).mono ?_
        rintro e12 w12_ ⟨rfl, rfl⟩
        refine hK _ _ (HX11.out) (fun hSx => ?_)
        clear hK K
        try simp only [Act.put, List.setIfInBounds_toArray, List.set_cons_zero, List.set_cons_succ]
        refine held_take (i := 28) (v := ?_) rfl (by kernel_rfl) (by kernel_rfl) (by kernel_rfl) (by rfl) (by first | assumption | exact True.intro) ?_ ?_
        rotate_left
        · (intro W hSw; go_simp; (try with_reducible rfl))
        try simp only [Act.put, List.setIfInBounds_toArray, List.set_cons_zero, List.set_cons_succ]
        refine held_take (i := 29) (v := ?_) rfl (by kernel_rfl) (by kernel_rfl) (by kernel_rfl) (by rfl) (by first | assumption | exact True.intro) ?_ ?_
        rotate_left
        · (intro W hSw; go_simp; (try with_reducible rfl))
        try simp only [Act.put, List.setIfInBounds_toArray, List.set_cons_zero, List.set_cons_succ]
        refine held_take (i := 30) (v := ?_) rfl (by kernel_rfl) (by kernel_rfl) (by kernel_rfl) (by rfl) (by first | assumption | exact True.intro) ?_ ?_
        rotate_left
        · (intro W hSw; go_simp; (try with_reducible rfl))
        try simp only [Act.put, List.setIfInBounds_toArray, List.set_cons_zero, List.set_cons_succ]
        refine held_take (i := 31) (v := ?_) rfl (by kernel_rfl) (by kernel_rfl) (by kernel_rfl) (by rfl) (by first | assumption | exact True.intro) ?_ ?_
        rotate_left
        · (intro W hSw; go_simp; (try with_reducible rfl))
        try simp only [Act.put, List.setIfInBounds_toArray, List.set_cons_zero, List.set_cons_succ]
        refine held_take (i := 33) (v := ?_) rfl (by kernel_rfl) (by kernel_rfl) (by kernel_rfl) (by rfl) (by first | assumption | exact True.intro) ?_ ?_
        rotate_left
        · (intro W hSw; go_simp; (try with_reducible rfl))
        try simp only [Act.put, List.setIfInBounds_toArray, List.set_cons_zero, List.set_cons_succ]
        refine held_take (i := 34) (v := ?_) rfl (by kernel_rfl) (by kernel_rfl) (by kernel_rfl) (by rfl) (by first | assumption | exact True.intro) ?_ ?_
        rotate_left
        · (intro W hSw; go_simp; (try with_reducible rfl))
        try simp only [Act.put, List.setIfInBounds_toArray, List.set_cons_zero, List.set_cons_succ]
        refine held_take (i := 35) (v := ?_) rfl (by kernel_rfl) (by kernel_rfl) (by kernel_rfl) (by rfl) (by first | assumption | exact True.intro) ?_ ?_
        rotate_left
        · (intro W hSw; go_simp; (try with_reducible rfl))
        try simp only [Act.put, List.setIfInBounds_toArray, List.set_cons_zero, List.set_cons_succ]
        refine held_take (i := 36) (v := ?_) rfl (by kernel_rfl) (by kernel_rfl) (by kernel_rfl) (by rfl) (by first | assumption | exact True.intro) ?_ ?_
        rotate_left
        · (intro W hSw; obtain ⟨k1, k2, k3, k4⟩ := HLC.out W hSw; go_simp; (try with_reducible rfl))
        try simp only [Act.put, List.setIfInBounds_toArray, List.set_cons_zero, List.set_cons_succ]
        clear hSx
        refine held_op (i := 32) (by kernel_rfl) rfl (fun K hK => ?_)
        go_simp
        go_at_call 19
        refine (HC6.out _ HX11.out).mono ?_
        rintro e13 w13_ ⟨rfl, rfl⟩
        refine hK _ _ (HX11.out) (fun hSx => ?_)
        clear hK K
        try simp only [Act.put, List.setIfInBounds_toArray, List.set_cons_zero, List.set_cons_succ]
        refine held_take (i := 37) (v := ?_) rfl (by kernel_rfl) (by kernel_rfl) (by kernel_rfl) (by rfl) (by first | assumption | exact True.intro) ?_ ?_
        rotate_left
        · (intro W hSw; go_simp; (try with_reducible rfl))
        try simp only [Act.put, List.setIfInBounds_toArray, List.set_cons_zero, List.set_cons_succ]
        refine held_take (i := 38) (v := ?_) rfl (by kernel_rfl) (by kernel_rfl) (by kernel_rfl) (by rfl) (by first | assumption | exact True.intro) ?_ ?_
        rotate_left
        · (intro W hSw; go_simp; (try with_reducible rfl))
        try simp only [Act.put, List.setIfInBounds_toArray, List.set_cons_zero, List.set_cons_succ]
        refine held_take (i := 39) (v := ?_) rfl (by kernel_rfl) (by kernel_rfl) (by kernel_rfl) (by rfl) (by first | assumption | exact True.intro) ?_ ?_
        rotate_left
        · (intro W hSw; go_simp; (try with_reducible rfl))
        try simp only [Act.put, List.setIfInBounds_toArray, List.set_cons_zero, List.set_cons_succ]
        refine held_take (i := 40) (v := ?_) rfl (by kernel_rfl) (by kernel_rfl) (by kernel_rfl) (by rfl) (by first | assumption | exact True.intro) ?_ ?_
        rotate_left
        · (intro W hSw; go_simp; (try with_reducible rfl))
        try simp only [Act.put, List.setIfInBounds_toArray, List.set_cons_zero, List.set_cons_succ]
        refine held_take (i := 42) (v := ?_) rfl (by kernel_rfl) (by kernel_rfl) (by kernel_rfl) (by rfl) (by first | assumption | exact True.intro) ?_ ?_
        rotate_left
        · (intro W hSw; go_simp; (try with_reducible rfl))
        try simp only [Act.put, List.setIfInBounds_toArray, List.set_cons_zero, List.set_cons_succ]
        refine held_take (i := 43) (v := ?_) rfl (by kernel_rfl) (by kernel_rfl) (by kernel_rfl) (by rfl) (by first | assumption | exact True.intro) ?_ ?_
        rotate_left
        · (intro W hSw; go_simp; (try with_reducible rfl))
        try simp only [Act.put, List.setIfInBounds_toArray, List.set_cons_zero, List.set_cons_succ]
        refine held_take (i := 44) (v := ?_) rfl (by kernel_rfl) (by kernel_rfl) (by kernel_rfl) (by rfl) (by first | assumption | exact True.intro) ?_ ?_
        rotate_left
        · (intro W hSw; go_simp; (try with_reducible rfl))
        try simp only [Act.put, List.setIfInBounds_toArray, List.set_cons_zero, List.set_cons_succ]
        refine held_take (i := 45) (v := ?_) rfl (by kernel_rfl) (by kernel_rfl) (by kernel_rfl) (by rfl) (by first | assumption | exact True.intro) ?_ ?_
        rotate_left
        · (intro W hSw; obtain ⟨k1, k2, k3, k4⟩ := HLC.out W hSw; go_simp; (try with_reducible rfl))
        try simp only [Act.put, List.setIfInBounds_toArray, List.set_cons_zero, List.set_cons_succ]
        clear hSx
        refine held_op (i := 41) (by kernel_rfl) rfl (fun K hK => ?_)
        go_simp
        go_at_call 20
        refine (HC7.out _ HX11.out).mono ?_
        rintro e14 w14_ ⟨rfl, rfl⟩
        refine hK _ _ (HX11.out) (fun hSx => ?_)
        clear hK K
        try simp only [Act.put, List.setIfInBounds_toArray, List.set_cons_zero, List.set_cons_succ]
        refine held_take (i := 46) (v := ?_) rfl (by kernel_rfl) (by kernel_rfl) (by kernel_rfl) (by rfl) (by first | assumption | exact True.intro) ?_ ?_
        rotate_left
        · (intro W hSw; go_simp; (try with_reducible rfl))
        try simp only [Act.put, List.setIfInBounds_toArray, List.set_cons_zero, List.set_cons_succ]
        refine held_take (i := 47) (v := ?_) rfl (by kernel_rfl) (by kernel_rfl) (by kernel_rfl) (by rfl) (by first | assumption | exact True.intro) ?_ ?_
        rotate_left
        · (intro W hSw; go_simp; (try with_reducible rfl))
        try simp only [Act.put, List.setIfInBounds_toArray, List.set_cons_zero, List.set_cons_succ]
        clear hSx
        refine wpAnyH_done (by kernel_rfl) ?_ _
        refine NoPanic.normal ?_
        have HT : Hid (∃ S, StR w g h (k + 1) S w11) := Lib.hid ⟨S5, R5, F5, HQ6.out.more HX11.out⟩
        go_wp2
        go_roundg (l.length - (k + 1))
        case measure => have := HLT.out; omega
        case rel => exact ⟨k + 1, by go_num, HLT.out, rfl, HT⟩
      · obtain rfl : k = l.length := by omega
        have e1 : decide ((l.length : Int) < (l.length : Int)) = false := decide_eq_false (by omega)
        have e1' : decide (l.length < l.length) = false := decide_eq_false (by omega)
        have HXE := Lib.hid HQ.out.sx.ext
        clear hlt hk
        go_wp2
        go_ret
        exact ⟨rfl, HXE.out⟩

end Go.Proofs.Ytdijinboopdheaa

/- Two closed facts on the program that every row asks. -/
namespace Go.Proofs.Ytdijinboopdheaa
open Go.RowKit

theorem Try.ownKnob : ownKnob Try.prog.godebug = none := by kernel_rfl

theorem Try.laidOut : laidOutB Try.prog = true := by kernel_rfl

end Go.Proofs.Ytdijinboopdheaa
