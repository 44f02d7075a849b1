/- Texts that the proof of JournalActs rests on, one behind the other. -/
import Derived.Test.YtdcmjmanalijfaaJournalActsQ11
import Derived.RangeFuncNested
import Derived.RangeFuncBound
import Derived.RangeFuncCalls
import Derived.RangeFuncLeaves
import Derived.RangeFuncBox
import Derived.Shelf.Abstract
import Derived.Shelf.RegionOpen
import Derived.WalkKit
import Derived.OwnWalkIn
import Derived.TacticsInMore
import Derived.LoopNIn
import Derived.LoopIn
import Derived.Maps.AppendAt
import Derived.Outline
import Derived.Deep.RegionHeld3
import Derived.Lib.SlBytesConst

/- Package journal: the iterator over a log's records. -/
namespace Go.Proofs.Ytdcmjmanalijfaa
open Go.RowKit Go.Shelf

attribute [local go_sem] Oper.semAt_some

/-- An op as it is handed on: a slice that reads as its bytes. -/
abbrev OpV (V : Fp) (w0 : World) : Type := {x : Value × List UInt8 // RdF V w0 x.1 (x.2.map B)}
/-- The ops' bytes. -/
def opsOf {V : Fp} {w0 : World} (l : List (OpV V w0)) : List (List UInt8) := l.map (fun x => x.1.2)
theorem opsOf_snoc {V : Fp} {w0 : World} (l : List (OpV V w0)) (x : OpV V w0) : opsOf (l ++ [x]) = opsOf l ++ [x.1.2] := by simp [opsOf]
theorem opsOf_len {V : Fp} {w0 : World} (l : List (OpV V w0)) : (opsOf l).length = l.length := by simp [opsOf]

theorem RdF.cutFrom {F : Fp} {w : World} {b o n c i : Nat} {xs : List Value} (h : RdF F w (.slice (some ⟨b, o, none⟩) n c) xs) (hi : i < xs.length) : RdF F w (.slice (some ⟨b, o + i, none⟩) (n - i) (c - i)) (xs.drop i) := by
  obtain ⟨A, c', e, h1, h2, h3⟩ := h
  cases e
  refine ⟨_, _, by rw [List.length_drop], by rw [List.length_drop]; omega, by omega, fun _ => ?_⟩
  obtain ⟨b', o', e, hb, hF, hc⟩ := h3 (by omega)
  cases e
  refine ⟨b, o + i, rfl, hb, hF, fun j u hu => ?_⟩
  rw [List.getElem?_drop] at hu
  rw [Nat.add_assoc]
  exact hc (i + j) u hu

/-- The steps of reading ops. -/
theorem jr_at {recs : List (List UInt8)} {k c : Nat} (h : k < recs.length) : jr (recs.drop k) c = match getN recs[k] with
    | none => ([], c)
    | some x => if recs[k].length = x.2 then ([], c) else if x.1 < c then jr (recs.drop (k + 1)) c else if x.1 = c then (recs[k].drop x.2 :: (jr (recs.drop (k + 1)) (c + 1)).1, (jr (recs.drop (k + 1)) (c + 1)).2) else ([], c) := by
  rw [List.drop_eq_getElem_cons h, jr]
  rfl

/-- What told has done when k records are behind it. -/
def ToldP {V : Fp} {w0 : World} (recs : List (List UInt8)) (c0 : Nat) (k want : Nat) (pre : List (OpV V w0)) : Prop :=
  c0 ≤ want ∧ want ≤ c0 + k ∧ pre.length ≤ k ∧ opsOf pre ++ (jr (recs.drop k) want).1 = (jr recs c0).1

section
variable {V : Fp} {w0 : World} {recs : List (List UInt8)} {c0 k want : Nat} {pre : List (OpV V w0)}
theorem ToldP.start : ToldP (V := V) (w0 := w0) recs c0 0 c0 [] := ⟨Nat.le_refl _, Nat.le_refl _, Nat.le_refl _, by simp [opsOf]⟩
theorem ToldP.end_ (h : ToldP recs c0 recs.length want pre) : opsOf pre = (jr recs c0).1 := by
  have := h.2.2.2
  rw [List.drop_length, jr] at this
  simpa using this
theorem ToldP.none_ (h : ToldP recs c0 k want pre) (hk : k < recs.length) (hg : getN recs[k] = none) : opsOf pre = (jr recs c0).1 := by
  have := h.2.2.2
  rw [jr_at hk, hg] at this
  simpa using this
theorem ToldP.stop (h : ToldP recs c0 k want pre) (hk : k < recs.length) {m a : Nat} (hg : getN recs[k] = some (m, a)) (hs : want < m ∨ recs[k].length = a) : opsOf pre = (jr recs c0).1 := by
  have := h.2.2.2
  rw [jr_at hk, hg] at this
  simp only at this
  by_cases h1 : recs[k].length = a
  · rw [if_pos h1] at this
    simpa using this
  · rw [if_neg h1, if_neg (by omega), if_neg (by omega)] at this
    simpa using this
theorem ToldP.skip (h : ToldP recs c0 k want pre) (hk : k < recs.length) {m a : Nat} (hg : getN recs[k] = some (m, a)) (h1 : a < recs[k].length) (h2 : m < want) : ToldP recs c0 (k + 1) want pre := by
  obtain ⟨a1, a2, a3, a4⟩ := h
  rw [jr_at hk, hg] at a4
  simp only at a4
  rw [if_neg (by omega), if_pos h2] at a4
  exact ⟨a1, by omega, by omega, a4⟩
theorem ToldP.take (h : ToldP recs c0 k want pre) (hk : k < recs.length) {a : Nat} (hg : getN recs[k] = some (want, a)) (h1 : a < recs[k].length) (x : OpV V w0) (hx : x.1.2 = recs[k].drop a) : ToldP recs c0 (k + 1) (want + 1) (pre ++ [x]) := by
  obtain ⟨a1, a2, a3, a4⟩ := h
  rw [jr_at hk, hg] at a4
  simp only at a4
  rw [if_neg (by omega), if_neg (Nat.lt_irrefl _), if_pos trivial] at a4
  refine ⟨by omega, by omega, by simp; omega, ?_⟩
  rw [opsOf_snoc, hx, List.append_assoc]
  exact a4
end

set_option maxRecDepth 100000 in
set_option maxHeartbeats 1000000 in
theorem JnTold1 (n : Nat) (hn : 1 ≤ n) (l Bn Br : Nat) (V : Fp) (w0 : World) (A : Option Addr) (c : Nat) (recs : List (List UInt8)) (c0 : Nat) (hrec : RdLF V w0 (.slice A recs.length c) recs) (h39 : ∀ r ∈ recs, r.length ≤ 3900) (hcb : c0 + recs.length ≤ 1000000000)
    (J Jx : List (OpV V w0) → World → Prop)
    (hY : ∀ pre (x : OpV V w0) W, J pre W → pre.length < recs.length → YieldAt Fence.wide (n - 1) Try.prog l #[x.1.1] W fun e W' =>
      (e = .returned (.bool true) ∧ J (pre ++ [x]) W' ∧ Below w0.heap.size W W') ∨ (e = .returned (.bool false) ∧ Jx (pre ++ [x]) W'))
    (W : World) (hW : Ext w0 W) (hBn : W.cell? ⟨Bn, 0, none⟩ = some (.int .i64 (c0 : Int))) (hBr : W.cell? ⟨Br, 0, none⟩ = some (.slice A recs.length c)) (h0 : J [] W) :
    CallsIn Fence.wide n Try.prog 61 #[.func (.yield l) #[] #[], .pointer (some ⟨Bn, 0, none⟩), .pointer (some ⟨Br, 0, none⟩)] W fun e W' => (∃ v, e = .returned v) ∧
      ((∃ xs, opsOf xs = (jr recs c0).1 ∧ J xs W') ∨ (∃ pre, True ∧ Jx pre W')) := by
  obtain ⟨vs, r1, r2, r3⟩ := hrec
  have hlen : recs.length ≤ 1000000000 := by omega
  refine callsIn_of_wp Try.func61 rfl trivial ?_ rfl
  simp only [Try.ntmps61, List.size_toArray, List.length_cons, List.length_nil, Nat.reduceAdd, Nat.reduceSub, Array.replicate_succ, Array.replicate_zero, List.push_toArray, List.append_toArray, List.nil_append, List.cons_append]
  gi_wp2
  gi_loopw [4, 13] (fun wt i wr => ∃ (k want : Nat) (pre : List (OpV V w0)), wt = .int .i64 want ∧ i = .int .i64 k ∧ k ≤ recs.length ∧ Hid (ToldP recs c0 k want pre) ∧ J pre wr ∧ Ext w0 wr) (fun _ i _ => recs.length - (intOf i).toNat)
  case atStart => exact ⟨0, c0, [], rfl, rfl, Nat.zero_le _, Lib.hid ToldP.start, h0, hW⟩
  case round =>
    obtain ⟨k, want, pre, rfl, rfl, hk, HT, hJ, hx⟩ := hrel
    by_cases hlt : k < recs.length
    · obtain ⟨b, o, rfl, hb, -, hcell⟩ := r1.get (by rw [r2]; omega)
      obtain ⟨uk, hvk⟩ : ∃ uk, vs[k]? = some uk := ⟨_, List.getElem?_eq_getElem (by omega)⟩
      have hcx : wr.cell? ⟨b, o + k, none⟩ = some uk := (hx.cell (p := ⟨b, o + k, none⟩) hb).trans (hcell k _ hvk)
      have hrk := r3 k uk recs[k] hvk (List.getElem?_eq_getElem hlt)
      have hl39 := h39 recs[k] (List.getElem_mem hlt)
      have hTT := HT.out
      have hpl := hTT.2.2.1
      have hwt := hTT.2.1
      clear hTT hvk hcell r1 r2 r3
      generalize hrr : recs[k] = r at *
      obtain ⟨A1, c1, rfl, hlc1, hcm1⟩ := hrk.rd.sliceN (List.length_map _)
      have hru := hrk.chg (G := fun _ => False) (Chg.of_ext hx) (fun _ _ h => h)
      unfold maxLen at hcm1
      cases hg : getN r with
      | none =>
        have hend := HT.out.none_ hlt (by rw [hrr]; exact hg)
        have KG := GetNum_none r _ 0 wr hru.rd (by decide) (by rw [List.drop_zero]; exact hg)
        have HE := Lib.hid hend
        have HG := Lib.hid KG
        clear hend KG hg hrr
        gi_wp2_with (refine ⟨trivial, ?_⟩; gi_at_call 62; refine (callsIn_wide.2 HG.out).mono ?_; rintro e w' ⟨rfl, rfl⟩)
        refine ⟨trivial, ?_⟩
        gi_wp2
        refine bodyPost_ret (results_none rfl _ _ _) rfl ?_
        exact ⟨⟨_, rfl⟩, .inl ⟨pre, HE.out, hJ⟩⟩
      | some y =>
        obtain ⟨m, a⟩ := y
        have hle := getN_le hg
        have KG := GetNum_some r _ 0 m a wr hru.rd (by decide) (by rw [List.drop_zero]; exact hg)
        rw [Nat.zero_add] at KG
        have HG := Lib.hid KG
        by_cases hm : want < m
        · have hend := HT.out.stop hlt (by rw [hrr]; exact hg) (.inl hm)
          have HE := Lib.hid hend
          clear hend KG hg hrr
          gi_wp2_with (refine ⟨trivial, ?_⟩; gi_at_call 62; refine (callsIn_wide.2 HG.out).mono ?_; rintro e w' ⟨rfl, rfl⟩)
          refine ⟨trivial, ?_⟩
          gi_wp2
          refine bodyPost_ret (results_none rfl _ _ _) rfl ?_
          exact ⟨⟨_, rfl⟩, .inl ⟨pre, HE.out, hJ⟩⟩
        · by_cases ha : a < r.length
          · have KI := isOp_any ((r.length : Int) - (a : Int)) wr
            have hdd : decide (1 ≤ (r.length : Int) - (a : Int) ∧ (r.length : Int) - (a : Int) ≤ 3900) = true := decide_eq_true (by omega)
            rw [hdd] at KI
            have HI := Lib.hid KI
            by_cases hmw : m < want
            · have hnext := HT.out.skip hlt (by rw [hrr]; exact hg) (by rw [hrr]; exact ha) hmw
              have HN := Lib.hid hnext
              clear hnext KG hg hrr KI hdd
              gi_wp2_with (first | (refine ⟨trivial, ?_⟩; gi_at_call 62; refine (callsIn_wide.2 HG.out).mono ?_; rintro e w' ⟨rfl, rfl⟩) | (refine ⟨trivial, ?_⟩; gi_at_call 63; refine (callsIn_wide.2 HI.out).mono ?_; rintro e w' ⟨rfl, rfl⟩))
              go_roundw
              case rel => exact ⟨k + 1, want, pre, rfl, by go_num, by omega, HN, hJ, hx⟩
              case measure => simp [intOf]; omega
            · obtain rfl : m = want := by omega
              obtain ⟨b1, o1, rfl, -, -, -⟩ := hrk.get (by rw [List.length_map]; omega)
              have hcut := hrk.cutFrom (i := a) (by rw [List.length_map]; exact ha)
              rw [← List.map_drop] at hcut
              obtain ⟨x, hx1, hx2⟩ : ∃ x : OpV V w0, x.1.1 = .slice (some ⟨b1, o1 + a, none⟩) (r.length - a) (c1 - a) ∧ x.1.2 = r.drop a := ⟨⟨(_, _), hcut⟩, rfl, rfl⟩
              have hnext := HT.out.take hlt (by rw [hrr]; exact hg) (by rw [hrr]; exact ha) x (by rw [hrr]; exact hx2)
              have HN := Lib.hid hnext
              obtain ⟨fn, tmps, assign, body, hy, hR⟩ := hY pre x wr hJ (by omega)
              rw [hx1] at hy
              have hac : ¬ c1 = a := by omega
              have hm1 : m ≤ 1000000000 := by omega
              clear hnext KG hg hrr KI hdd hx1 hx2 hcut
              gi_wp2_with (first | (refine ⟨trivial, ?_⟩; gi_at_call 62; refine (callsIn_wide.2 HG.out).mono ?_; rintro e w' ⟨rfl, rfl⟩) | (refine ⟨trivial, ?_⟩; gi_at_call 63; refine (callsIn_wide.2 HI.out).mono ?_; rintro e w' ⟨rfl, rfl⟩))
              refine hR.mono ?_
              rintro e W3 (⟨rfl, hJ3, hk3⟩ | ⟨rfl, hJx3⟩)
              · have hx3 : Ext w0 W3 := Below.trans hx hk3
                clear hR hk3
                gi_wp2
                go_roundw
                case rel => exact ⟨k + 1, m + 1, pre ++ [x], by go_num, by go_num, by omega, HN, hJ3, hx3⟩
                case measure => simp [intOf]; omega
              · clear hR
                gi_wp2
                refine bodyPost_ret (results_none rfl _ _ _) rfl ?_
                exact ⟨⟨_, rfl⟩, .inr ⟨pre ++ [x], trivial, hJx3⟩⟩
          · have hend := HT.out.stop hlt (by rw [hrr]; exact hg) (.inr (by rw [hrr]; omega))
            have KI := isOp_any ((r.length : Int) - (a : Int)) wr
            have hdd : decide (1 ≤ (r.length : Int) - (a : Int) ∧ (r.length : Int) - (a : Int) ≤ 3900) = false := decide_eq_false (by omega)
            rw [hdd] at KI
            have HI := Lib.hid KI
            have HE := Lib.hid hend
            clear hend KG hg hrr KI hdd
            gi_wp2_with (first | (refine ⟨trivial, ?_⟩; gi_at_call 62; refine (callsIn_wide.2 HG.out).mono ?_; rintro e w' ⟨rfl, rfl⟩) | (refine ⟨trivial, ?_⟩; gi_at_call 63; refine (callsIn_wide.2 HI.out).mono ?_; rintro e w' ⟨rfl, rfl⟩))
            refine bodyPost_ret (results_none rfl _ _ _) rfl ?_
            exact ⟨⟨_, rfl⟩, .inl ⟨pre, HE.out, hJ⟩⟩
    · obtain rfl : k = recs.length := by omega
      have hend := HT.out.end_
      have HE := Lib.hid hend
      clear hend
      gi_wp2
      go_end0
      exact ⟨⟨_, rfl⟩, .inl ⟨pre, HE.out, hJ⟩⟩

set_option maxHeartbeats 1000000 in
/-- **told**: the records and the number are boxed; the function value captures both. -/
theorem JnTold (A : Option Addr) (k c : Nat) (m : Int) (w : World) :
    Calls Try.prog 33 #[.slice A k c, .int .i64 m] w fun e w' => e = .returned (.func (.func 61) #[] #[.pointer (some ⟨w.heap.size + 1, 0, none⟩), .pointer (some ⟨w.heap.size, 0, none⟩)]) ∧ w' = (w.alloc (.cells #[.slice A k c] 31)).alloc (.cells #[.int .i64 m] 3) := by
  go_enter Try.func33, Try.ntmps33
  go_wp2
  go_ret
  exact ⟨rfl, rfl⟩

/-- What it hands back: all ops, one behind the other. -/
theorem JnTold_stops (n : Nat) (hn : 1 ≤ n) (Bn Br : Nat) (V : Fp) (w0 w : World) (A : Option Addr) (c : Nat) (recs : List (List UInt8)) (c0 : Nat) (hrec : RdLF V w0 (.slice A recs.length c) recs) (h39 : ∀ r ∈ recs, r.length ≤ 3900) (hcb : c0 + recs.length ≤ 1000000000)
    (hx : Ext w0 w) (hBn : w.cell? ⟨Bn, 0, none⟩ = some (.int .i64 (c0 : Int))) (hBr : w.cell? ⟨Br, 0, none⟩ = some (.slice A recs.length c)) (b1 : Bn < w.heap.size) (b2 : Br < w.heap.size) :
    SeqStopsK Fence.wide n Try.prog 61 #[.pointer (some ⟨Bn, 0, none⟩), .pointer (some ⟨Br, 0, none⟩)] (fun x : OpV V w0 => #[x.1.1]) (Below w0.heap.size) (fun xs => opsOf xs = (jr recs c0).1) (fun _ => True) recs.length w := fun l J Jx W hW _ _ hY h0 =>
  JnTold1 n hn l Bn Br V w0 A c recs c0 hrec h39 hcb J Jx hY W (Ext.trans hx hW) ((hW.cell (p := ⟨Bn, 0, none⟩) b1).trans hBn) ((hW.cell (p := ⟨Br, 0, none⟩) b2).trans hBr) h0

end Go.Proofs.Ytdcmjmanalijfaa

/- Package journal: Open, where no crash came between a picture and the log's clearing. -/
namespace Go.Proofs.Ytdcmjmanalijfaa
open Go.RowKit Go.Shelf

attribute [local go_sem] Oper.semAt_some

theorem Try.infoBs : (Try.prog.info? 30).map (fun i => (i.zero, i.size, i.bytes)) = some (some (.slice none 0 0), 1, 24) := by kernel_rfl

theorem own_rdF {w : World} {base : Nat} {e : TypeId} {v : Value} {xs : List Value} (h : w.ownsRow base e 1 v xs.length xs) : RdF (fun b => base ≤ b) w v xs := by
  refine RowF.rdF (e := e) ⟨⟨h.1, ?_⟩, fun k hk => (h.lt k hk).1⟩
  rcases h.2 with hv | ⟨g, cap, cur, hv, hg, r⟩
  · exact .inl hv
  · exact .inr ⟨g, cap, cur, hv, Nat.zero_le _, r⟩

/-- What Open leaves. -/
def OpenP (F : Fp) (g : Nat) (s : DkS) (q f z : Nat) (w : World) (e : Ending) (w' : World) : Prop :=
  ∃ (j ms ml : Nat) (pv ov : Value), e = .returned (.tuple #[.pointer (some ⟨j, 0, none⟩), pv, ov, .int .i64 0]) ∧ JN (F.since w w') w' j ms ml g (opD s f z) q f z (endD s f z) (jopC s q f z) ∧
    RdF (fun b => w.heap.size ≤ b) w' pv ((bytP (loadD s 0 q)).map B) ∧ RdLF (fun b => w.heap.size ≤ b) w' ov (jopO s q f z) ∧ Chg F w w'

set_option maxRecDepth 100000 in
set_option maxHeartbeats 2000000 in
theorem JnOpen (F : Fp) (g : Nat) (s : DkS) (q f z : Nat) (w : World) (hd : Dk F w g s) (geo : Geo s.1.length q f z) (hw : s.2.1.length ≤ 10000000) (hn0 : 0 ≤ s.2.2) (hn1 : s.2.2 ≤ 100000000)
    (hold : oldR (recD s f z) (c0D s q) = false) (h39 : ∀ r ∈ recD s f z, r.length ≤ 3900) (hcb : c0D s q + (recD s f z).length ≤ 1000000000) :
    Calls Try.prog 11 #[.pointer (some ⟨g, 0, none⟩)] w (OpenP F g s q f z w) := by
  have hsl := geo.slots
  have hg1 := geo.small
  have hg2 := geo.big
  have KSize := DkSize F g s w hd
  have hHD := hd
  obtain ⟨N, hN⟩ : ∃ N, s.1.length = N := ⟨_, rfl⟩
  rw [hN] at KSize hg1 hg2 hsl
  have q1 : decide ((N : Int) < 64) = false := by simp; omega
  have q4 : (N : Int) / 4 = (q : Int) := by have := geo.hq; omega
  have qf : 2 * (q : Int) = (f : Int) := by have := geo.hf; omega
  have qz : (N : Int) - (f : Int) = (z : Int) := by have := geo.hz; omega
  have HS := Lib.hid KSize
  have HGEO := Lib.hid geo
  have HD := Lib.hid hd
  have HSL := Lib.hid hsl
  clear KSize hsl hd hN
  refine (callsIn_wide (n := 5)).1 ?_
  refine callsIn_of_wp_marks Try.func11 rfl trivial ?_ rfl
  refine wpIn_wide.2 ?_
  simp only [Try.ntmps11, List.size_toArray, List.length_cons, List.length_nil, Nat.reduceAdd, Nat.reduceSub, Array.replicate_succ, Array.replicate_zero, List.push_toArray, List.append_toArray, List.nil_append, List.cons_append]
  go_wp2_with fail
  refine HS.out.mono ?_
  rintro e w0 ⟨rfl, hx0⟩
  have HD0 := Lib.hid (HD.out.ext hx0)
  have HX0 := Lib.hid hx0
  clear hx0
  go_wp2_with fail
  refine (SlOpen_yes F g s 0 q w0 HD0.out (by have := HSL.out; have := HGEO.out.hq; have := HGEO.out.small; omega) (HSL.out.2.1)).mono ?_
  rintro e w1 ⟨ms, rfl, hs1, hx1⟩
  have HS1 := Lib.hid hs1
  have HX1 := Lib.hid hx1
  clear hs1 hx1
  go_wp2_with fail
  refine (LgOpen_yes F g s f z w1 (HD0.out.ext HX1.out) (by have := HGEO.out.hz; omega) HSL.out.2.2.2.1 hw hn0 hn1).mono ?_
  rintro e w2 ⟨ml, rv, F1, F2, V, rfl, k1, k2, k3, k4, k5, k6, k7, k8, k9, k10⟩
  have hop1 : (opD s f z).1.length = s.1.length := opD_len _ _ _
  have hiF := HD.out.isIn
  have y0 := HX0.out.size
  have y1 := HX1.out.size
  have y2 := k10.size
  have HS2 : Hid (Sl (fun k => w0.heap.size ≤ k ∧ k < w1.heap.size) w2 ms g 0 q) := Lib.hid (HS1.out.chg k10 (fun k hk hF => by have := hiF k hF; omega))
  have apS : Fp.apart (fun k => w0.heap.size ≤ k ∧ k < w1.heap.size) F1 := fun k hk hF => by
    rcases k7 k hF with h | h
    · have := hiF k h
      omega
    · omega
  have inF1 : F1.isIn w2 := fun k hk => by
    rcases k7 k hk with h | h
    · have := hiF k h
      omega
    · exact h.2
  have hLD : LD (fun k => F1 k ∨ F2 k) w2 ml g (opD s f z) f z (endD s f z) := ⟨F1, F2, endD s f z, k1, k2, k4, fun _ => .inl, fun _ => .inr, fun k hk => hk.elim (inF1 k) (fun h => (k8 k h).2), .inl rfl, HSL.out.2.2.2.1⟩
  have hSD : SD (fun k => F1 k ∨ (w0.heap.size ≤ k ∧ k < w1.heap.size)) w2 ms g (opD s f z) 0 q := ⟨F1, _, k1, HS2.out, apS, fun _ => .inl, fun _ => .inr, fun k hk => hk.elim (inF1 k) (fun h => by have := h.2; omega)⟩
  have KL : Calls Try.prog 32 #[.pointer (some ⟨ms, 0, none⟩)] w2 fun e w' => ∃ v, e = .returned (.tuple #[v, .int .i64 (c0D s q : Int), .bool (loadD s 0 q).isSome]) ∧ RdF (fun b => w2.heap.size ≤ b) w' v ((bytP (loadD s 0 q)).map B) ∧ Ext w2 w' := by
    have := SlLoadF _ ms g (opD s f z) 0 q w2 hSD (by rw [hop1]; have := HGEO.out.hq; omega) HSL.out.2.1 (Nat.zero_le _)
    rw [opD_load HGEO.out] at this
    refine this.mono ?_
    rintro e w' ⟨v, rfl, hv, hx⟩
    refine ⟨v, congrArg (fun m => Ending.returned (.tuple #[v, .int .i64 m, .bool (loadD s 0 q).isSome])) ?_, hv, hx⟩
    unfold c0D
    cases loadD s 0 q <;> simp [ageI]
  obtain ⟨A, c, rfl, hlc, hcm⟩ := k3.rdl.sliceN rfl
  have HKL := Lib.hid KL
  have HLD := Lib.hid hLD
  have HV := Lib.hid k3
  have HAP := Lib.hid (And.intro k4 (And.intro k5 (And.intro k6 (And.intro k7 (And.intro k8 k9)))))
  have HC2 := Lib.hid k10
  have HJ := Lib.hid (And.intro apS inF1)
  have HC := Lib.hid (And.intro h39 hcb)
  have HOLD := Lib.hid hold
  have HM := Lib.hid (jopC_ge s q f z)
  have HJO : Hid (jopO s q f z = (jr (recD s f z) (c0D s q)).1) := Lib.hid rfl
  have HNN := Lib.hid hlc
  have HMX := Lib.hid hcm
  generalize (loadD s 0 q).isSome = lb at *
  clear KL hLD hSD k1 k2 k3 k4 k5 k6 k7 k8 k9 k10 hop1 hiF y0 y1 y2 apS inF1 h39 hcb hold hlc hcm
  generalize hc0 : c0D s q = c0 at *
  generalize hrecs : recD s f z = recs at *
  go_wp2_with fail
  refine HKL.out.mono ?_
  rintro e w3 ⟨pv, rfl, hpv, hx3⟩
  have HPV := Lib.hid hpv
  have HX3 := Lib.hid hx3
  clear hpv hx3
  go_wp2_with fail
  refine (JnTold A recs.length c (c0 : Int) _).mono ?_
  rintro e w5 ⟨rfl, rfl⟩
  go_wp2_with fail
  obtain ⟨i0, hi, hz0, hz1, hz2⟩ := info_parts Try.infoBs
  have bO := Boxed.new w3 31 (.slice none 0 0)
  have hB0 : Below w3.heap.size w3 (((w3.alloc (.cells #[.slice none 0 0] 31)).alloc (.cells #[.slice A recs.length c] 31)).alloc (.cells #[.int .i64 (c0 : Int)] 3)) := (((Below.refl _ w3).alloc (Nat.le_refl _) _).alloc (by simp) _).alloc (by simp; omega) _
  have hst := JnTold_stops 4 (by decide) (w3.heap.size + 2) (w3.heap.size + 1) V w3 (((w3.alloc (.cells #[.slice none 0 0] 31)).alloc (.cells #[.slice A recs.length c] 31)).alloc (.cells #[.int .i64 (c0 : Int)] 3)) A c recs c0 (HV.out.ext HX3.out) HC.out.1 HC.out.2 hB0 (by
      have := (Blk.new ((w3.alloc (.cells #[.slice none 0 0] 31)).alloc (.cells #[.slice A recs.length c] 31)) 3 #[.int .i64 (c0 : Int)]).cell 0
      simpa using this) (by
      have := ((Blk.new (w3.alloc (.cells #[.slice none 0 0] 31)) 31 #[.slice A recs.length c]).alloc (.cells #[.int .i64 (c0 : Int)] 3)).cell 0
      simpa using this) (by simp) (by simp)
  refine (wpIn_wide (n := 5)).1 ?_
  refine' wpIn_rangeFunc_ownG rfl (by decide) (gf := 61) (lb := #[.pointer (some ⟨w3.heap.size + 2, 0, none⟩), .pointer (some ⟨w3.heap.size + 1, 0, none⟩)]) (by simp [go_sem]) trivial (enters_of Try.func61 (by kernel_rfl) rfl)
    hst belowK_t (belowK_b (by simp; omega)) (Below.refl _ _) (fun _ => rfl)
    (fun (pre : List (OpV V w3)) W => (∃ v, Boxed W w3.heap.size 31 v ∧ W.ownsRow w3.heap.size 30 1 v pre.length (pre.map (fun x => x.1.1)) ∧ True) ∧ Below w3.heap.size w3 W)
    (fun _ _ _ => False)
    (OwnFrom.and (Own.from (holdsRow_own w3.heap.size w3.heap.size 31 30 1 (fun pre : List (OpV V w3) => pre.length) (fun pre => pre.map (fun x => x.1.1)) (fun _ _ => True)) _) (ownFrom_below (Nat.le_refl _) (by simp; omega)))
    (fun _ _ _ _ _ hs _ _ => hs)
    ⟨⟨_, (bO.alloc _).alloc _, World.ownsRow_nil _ _ _ _, trivial⟩, hB0⟩
    _ ?assign ?body ?done ?stop
  case assign =>
    intro l x W K hK
    gi_wp2
    exact hK
  case body =>
    rintro l pre ⟨⟨xv, xb⟩, hxp⟩ W ⟨⟨v, hv, hrow, -⟩, hB⟩ hlt
    dsimp only at hxp ⊢
    obtain ⟨Ax, nx, cx, hxv⟩ : ∃ Ax nx cx, xv = .slice Ax nx cx := by
      obtain ⟨Ax, cx, e, _⟩ := hxp
      exact ⟨Ax, _, cx, e⟩
    subst hxv
    have hc := hv.cell
    have hone : ∀ u ∈ [Value.slice Ax nx cx], u.oneCell' = true := by simp [Value.oneCell']
    have b1 : pre.length + 1 ≤ maxLen := by have := HC.out.2; unfold maxLen; omega
    have b2 : (pre.length + 1) * 24 ≤ 140737488355328 := by have := HC.out.2; omega
    have b3 : w3.heap.size ≤ (W.alloc (.cells #[Value.slice Ax nx cx] 30)).heap.size := by have := hB.size; simp; omega
    gi_wp2_with (gi_at_builtin; refine wpListIn_append_own _ rfl _ _ 31 rfl w3.heap.size 30 i0 (.slice none 0 0) 1 24 Try.underlying31 hi hz0 hz1 hz2 rfl (by decide) _ _ _ rfl (hrow.alloc _) ⟨W.heap.size, 0, none⟩ 1 1 [Value.slice Ax nx cx] rfl rfl (cell_one_new _ _ _) hone b1 b2 b3 ?_; intro v' w1 hown' hgrow _; obtain ⟨g', cap', rfl⟩ := ownsRow_succ hown'; obtain ⟨hv1, hv2, hr2, hk2, hb2⟩ := hv.appended (by decide) hrow hB.size (Nat.le_refl _) hown' hgrow; have hc1 := hv1.cell; have hf1 := hv1.frozen)
    exact ⟨hk2.from _, hb2, ⟨_, hv2, by simpa using hr2, trivial⟩, hB.trans hb2⟩
  case done =>
    rintro D xs w7 hD hS ⟨⟨v, hv, hrow, -⟩, hB⟩ hK
    have hjl := jr_ge recs c0
    have hxl : xs.length = (jr recs c0).1.length := by rw [← hS, opsOf_len]
    have hrl : RdL w7 (.slice A recs.length c) recs := ((HV.out.ext HX3.out).ext hB).rdl
    have KO := JnOld recs _ c0 w7 hrl (by have := HC.out.2; omega)
    rw [HOLD.out] at KO
    have w6 : IntKind.i64.wrap ((c0 : Int) + (xs.length : Int)) = ((c0 + xs.length : Nat) : Int) := by rw [IntKind.wrap_i64]; have := HC.out.2; omega
    have w6' : wrap64 ((c0 : Int) + (xs.length : Int)) = ((c0 + xs.length : Nat) : Int) := IntWalk.wrap64_in _ (by have := HC.out.2; omega)
    obtain ⟨A', k', rfl⟩ := own_slice hrow
    have hc := hv.cell
    have hlt := hv.lt
    have HKO := Lib.hid KO
    have HROW := Lib.hid hrow
    have HBX := Lib.hid hB
    have HKK := Lib.hid hK
    have HSS := Lib.hid hS
    have HXL := Lib.hid (And.intro hxl hjl)
    obtain ⟨nx, hlx⟩ : ∃ x, xs.length = x := ⟨_, rfl⟩
    have HLX := Lib.hid hlx
    rw [hlx] at w6 w6' HXL HROW hc
    clear hlx
    generalize hcn : c0 + nx = cn at *
    have HCN := Lib.hid hcn
    clear KO hrow hB hK hS hxl hjl hrl hcn hv
    go_wp2_with fail
    refine HKO.out.mono ?_
    rintro e w7' ⟨rfl, rfl⟩
    go_wp2
    have hcd : w7.drew.cell? ⟨w3.heap.size, 0, none⟩ = some (.slice A' nx k') := hc
    have hltd : w3.heap.size < w7.drew.heap.size := hlt

    go_region_held3 (fun w' => w'.cell? ⟨w3.heap.size, 0, none⟩ = some (.slice A' nx k')) (first | go_keep) (fail)
    all_goals
      go_wp2
      have hDl : D < w7.heap.size := lt_of_block HKK.out
      have hD3 : w3.heap.size ≤ D := by simp at hD; omega
      have hK9 : ((w7.alloc (.cells #[.pointer (some ⟨ms, 0, none⟩), .pointer (some ⟨ml, 0, none⟩), .int .i64 (cn : Int), .slice none 0 0] 79)).drew).heap[D]? = some (.deferred (some [])) := (Below.heap_alloc w7 _ D hDl).trans HKK.out
      have hB9 : Below w3.heap.size w3 ((w7.alloc (.cells #[.pointer (some ⟨ms, 0, none⟩), .pointer (some ⟨ml, 0, none⟩), .int .i64 (cn : Int), .slice none 0 0] 79)).drew) := (HBX.out.alloc HBX.out.size _).drew
      have hB10 := hB9.trans (belowK_b (w := w3) (Nat.le_refl _) _ D _ (.deferred none) hD3 hK9 rfl rfl)
      have hrow10 := ownsRow_putObj (W := (w7.alloc (.cells #[.pointer (some ⟨ms, 0, none⟩), .pointer (some ⟨ml, 0, none⟩), .int .i64 (cn : Int), .slice none 0 0] 79)).drew) (HROW.out.alloc _) (.deferred none) hK9 rfl
      have hblk9 : ((w7.alloc (.cells #[.pointer (some ⟨ms, 0, none⟩), .pointer (some ⟨ml, 0, none⟩), .int .i64 (cn : Int), .slice none 0 0] 79)).drew).heap[w7.heap.size]? = some (.cells #[.pointer (some ⟨ms, 0, none⟩), .pointer (some ⟨ml, 0, none⟩), .int .i64 (cn : Int), .slice none 0 0] 79 (0, 0)) := heap_alloc_new w7 _
      have hblk10 := ((grownBy_putObj' _ D (.deferred none)).block w7.heap.size (lt_of_block hblk9) (by simp; omega)).trans hblk9
      have hsz := (grownBy_putObj' ((w7.alloc (.cells #[.pointer (some ⟨ms, 0, none⟩), .pointer (some ⟨ml, 0, none⟩), .int .i64 (cn : Int), .slice none 0 0] 79)).drew) D (.deferred none)).size
      refine ⟨by simp, .inl ⟨_, _, rfl, run_takeDeferred hK9, ?_⟩⟩
      refine ⟨.tuple #[.pointer (some ⟨w7.heap.size, 0, none⟩), pv, .slice A' nx k', .int .i64 0], by simp [results, Try.results11, go_sem], ?_⟩
      generalize World.putObj _ D (.deferred none) = W10 at *
      have E3 : Ext w2 W10 := HX3.out.trans hB10
      obtain ⟨a4, a5, a6, a7, a8, a9⟩ := HAP.out
      obtain ⟨aS, aI⟩ := HJ.out
      have y0 := HX0.out.size
      have y1 := HX1.out.size
      have y2 := HC2.out.size
      have y3 := HX3.out.size
      have y7 := HBX.out.size
      have y10 : w7.heap.size < W10.heap.size := lt_of_block hblk10
      have hcc : jopC s q f z = cn := by have := HM.out.2; rw [HJO.out, ← HXL.out.1, HCN.out] at this; exact this
      have hexF := HD.out.isIn
      refine ⟨w7.heap.size, ms, ml, pv, .slice A' nx k', rfl, ⟨fun k => F1 k ∨ F2 k, fun k => w0.heap.size ≤ k ∧ k < w1.heap.size, fun k => k = w7.heap.size, HLD.out.ext E3, HS2.out.ext E3, ⟨by rw [hcc]; exact hblk10, rfl, (fun k hk => by omega), (fun r hr => by cases hr), (fun r hr => by cases hr), List.Pairwise.nil⟩, ⟨?_, ?_, ?_⟩, ⟨?_, ?_, ?_⟩, ?_⟩, (HPV.out.ext0 hB10).mono (fun b hb => by omega), ?_, ?_⟩
      · intro k hk hh
        rcases hh with hh | hh
        · exact aS k hk hh
        · have := (a8 k hh).1
          omega
      · intro k hk hh
        rcases hh with hh | hh
        · have := aI k hh
          omega
        · have := (a8 k hh).2
          omega
      · intro k hk hh
        omega
      · intro k hk
        rcases hk with hk | hk
        · rcases a7 k hk with h | h
          · exact .inl h
          · exact .inr ⟨by omega, by omega⟩
        · have := a8 k hk
          exact .inr ⟨by omega, by omega⟩
      · intro k hk
        exact .inr ⟨by omega, by omega⟩
      · intro k hk
        exact .inr ⟨by omega, by omega⟩
      · intro k hk
        rcases hk with hk | hk
        · have := hexF k hk
          omega
        · exact hk.2
      · have hlx : xs.length = nx := HLX.out
        have hrow11 := own_rdF (xs := xs.map (fun x => x.1.1)) (by rw [List.length_map, hlx]; exact hrow10)
        refine ⟨xs.map (fun x => x.1.1), hrow11.mono (fun b hb => by omega), by rw [HJO.out, ← HSS.out, opsOf_len, List.length_map], fun i u l hu hl => ?_⟩
        rw [HJO.out, ← HSS.out, opsOf, List.getElem?_map] at hl
        rw [List.getElem?_map] at hu
        cases hxi : xs[i]? with
        | none => rw [hxi] at hu; cases hu
        | some x =>
          rw [hxi] at hu hl
          cases hu
          cases hl
          exact (x.2.ext0 hB10).mono (fun b hb => by have := (a9 b hb).1; omega)
      · exact ((Chg.of_ext (HX0.out.trans HX1.out)).trans HC2.out (fun _ _ h => h)).trans (Chg.of_ext E3 : Chg (fun _ => False) w2 W10) (fun _ _ h => h.elim)
  case stop =>
    rintro D c pre W _ _ h _
    exact h.elim

end Go.Proofs.Ytdcmjmanalijfaa

/- Layer 7: a journal, and its disk, that a call made itself, through the calls. -/
namespace Go.Proofs.Ytdcmjmanalijfaa
open Go.RowKit

/-- Since w0 all that was there stands; the journal at j on the disk at g was made since, and lies in F. -/
def JW (w0 w : World) (j g N q f z k : Nat) (t : DkS) (L W : List (List UInt8)) (c : Nat) (a : Int) (pic : List UInt8) (F : Fp) : Prop :=
  JS N q f z k t L W c a pic ∧ (∃ ms ml, JN F w j ms ml g t q f z (catF L).length c) ∧ (∀ b, F b → w0.heap.size ≤ b) ∧ Ext w0 w

section
variable {w0 w w' : World} {j g N q f z k : Nat} {t s : DkS} {L W : List (List UInt8)} {c : Nat} {a : Int} {pic p : List UInt8} {v : Value} {F G H : Fp}
theorem JW.js (h : JW w0 w j g N q f z k t L W c a pic F) : JS N q f z k t L W c a pic := h.1
theorem JW.ext (h : JW w0 w j g N q f z k t L W c a pic F) (hx : Ext w w') : JW w0 w' j g N q f z k t L W c a pic F := by
  obtain ⟨h1, ⟨ms, ml, h2⟩, h3, h4⟩ := h
  exact ⟨h1, ⟨ms, ml, h2.ext hx⟩, h3, h4.trans hx⟩
theorem JW.chg (h : JW w0 w j g N q f z k t L W c a pic F) (hc : Chg G w w') (ha : F.apart G) (hg : ∀ b, G b → w0.heap.size ≤ b) : JW w0 w' j g N q f z k t L W c a pic F := by
  obtain ⟨h1, ⟨ms, ml, h2⟩, h3, h4⟩ := h
  exact ⟨h1, ⟨ms, ml, h2.chg hc ha⟩, h3, hc.ext h4 hg⟩
theorem JW.isIn (h : JW w0 w j g N q f z k t L W c a pic F) : F.isIn w := by
  obtain ⟨h1, ⟨ms, ml, h2⟩, h3, h4⟩ := h
  exact h2.isIn
theorem JW.dsW (h : JW w0 w j g N q f z k t L W c a pic F) : DsW w0 w g t F := by
  obtain ⟨h1, ⟨ms, ml, h2⟩, h3, h4⟩ := h
  exact ⟨h2.dk, h3, h4⟩
theorem JW.later (h : JW w0 w j g N q f z k t L W c a pic F) {k' : Nat} (hk : k ≤ k') (hk' : k' ≤ 1000000) : JW w0 w j g N q f z k' t L W c a pic F := ⟨h.1.later hk hk', h.2⟩

theorem JW.count (h : JW w0 w j g N q f z k t L W c a pic F) :
    Calls Try.prog 16 #[.pointer (some ⟨j, 0, none⟩)] w fun e w' => e = .returned (.int .i64 (c : Int)) ∧ JW w0 w' j g N q f z k t L W c a pic F ∧ Ext w w' := by
  have hh := h
  obtain ⟨h1, ⟨ms, ml, h2⟩, h3, h4⟩ := h
  have hu := h1.used
  have hz := h1.hz
  have hc := h1.ck
  have hk := h1.hk
  exact (h2.count (by omega) (by omega)).mono fun _ _ ⟨he, hx⟩ => ⟨he, hh.ext hx, hx⟩
theorem JW.room (h : JW w0 w j g N q f z k t L W c a pic F) (n : Nat) (hn : n ≤ 1000000000) :
    Calls Try.prog 17 #[.pointer (some ⟨j, 0, none⟩), .int .i64 (n : Int)] w fun e w' => e = .returned (.bool (jroom z (catF L).length c n)) ∧ JW w0 w' j g N q f z k t L W c a pic F ∧ Ext w w' := by
  have hh := h
  obtain ⟨h1, ⟨ms, ml, h2⟩, h3, h4⟩ := h
  have hu := h1.used
  have hz := h1.hz
  have hc := h1.ck
  have hk := h1.hk
  exact (h2.room n (by omega) hu (by omega) hn).mono fun _ _ ⟨he, hx⟩ => ⟨he, hh.ext hx, hx⟩
theorem JW.append_no (h : JW w0 w j g N q f z k t L W c a pic F) (hr : Rd w v (p.map B)) (hp : p.length ≤ 1000000) (he : jE z (catF L).length c p ≠ 0) :
    Calls Try.prog 13 #[.pointer (some ⟨j, 0, none⟩), v] w fun e w' => e = .returned (.int .i64 (jE z (catF L).length c p)) ∧ JW w0 w' j g N q f z k t L W c a pic F ∧ Ext w w' := by
  have hh := h
  obtain ⟨h1, ⟨ms, ml, h2⟩, h3, h4⟩ := h
  have hu := h1.used
  have hz := h1.hz
  have hc := h1.ck
  have hk := h1.hk
  exact (h2.append_no hr (by omega) hu (by omega) hp he).mono fun _ _ ⟨he, hx⟩ => ⟨he, hh.ext hx, hx⟩
theorem JW.append_yes (h : JW w0 w j g N q f z k t L W c a pic F) (hr : Rd w v (p.map B)) (hp : p.length ≤ 1000000) (hk1 : k + 1 ≤ 1000000) (he : jE z (catF L).length c p = 0) :
    Calls Try.prog 13 #[.pointer (some ⟨j, 0, none⟩), v] w fun e w' => e = .returned (.int .i64 0) ∧ JW w0 w' j g N q f z (k + 1) (syD (jsD t f (catF L).length c p)) (L ++ [payB c p]) (W ++ [p]) (c + 1) a pic (F.since w w') ∧ Chg F w w' := by
  obtain ⟨h1, ⟨ms, ml, h2⟩, h3, h4⟩ := h
  have hu := h1.used
  have hz := h1.hz
  have hc := h1.ck
  have hk := h1.hk
  have hs := h1.geo.slots
  have hn1 := h1.n1
  have hst := h1.ji.still
  have hlen := h1.len
  have hbn : t.2.2 ≤ 100000000 := by omega
  have hbz : f + z ≤ t.1.length := by omega
  refine (h2.append_yes hr hbz hu (by rw [hst]; exact Nat.zero_le _) h1.n0 hbn (by omega) hp he).mono ?_
  rintro e w' ⟨he', hd, hcg⟩
  refine ⟨he', ⟨h1.append hk1 he, ⟨ms, ml, ?_⟩, since_lowS h3 h4.size, hcg.ext h4 h3⟩, hcg⟩
  rw [catF_snoc_len]
  exact hd
theorem JW.start_no (h : JW w0 w j g N q f z k t L W c a pic F) (hr : Rd w v (p.map B)) (hp : p.length ≤ 1000000) (he : jE z (catF L).length c p ≠ 0) :
    Calls Try.prog 14 #[.pointer (some ⟨j, 0, none⟩), v] w fun e w' => e = .returned (.int .i64 (jE z (catF L).length c p)) ∧ JW w0 w' j g N q f z k t L W c a pic F ∧ Ext w w' := by
  have hh := h
  obtain ⟨h1, ⟨ms, ml, h2⟩, h3, h4⟩ := h
  have hu := h1.used
  have hz := h1.hz
  have hc := h1.ck
  have hk := h1.hk
  exact (h2.start_no hr (by omega) hu (by omega) hp he).mono fun _ _ ⟨he, hx⟩ => ⟨he, hh.ext hx, hx⟩
theorem JW.start_yes (h : JW w0 w j g N q f z k t L W c a pic F) (hr : Rd w v (p.map B)) (hp : p.length ≤ 1000000) (he : jE z (catF L).length c p = 0) :
    Calls Try.prog 14 #[.pointer (some ⟨j, 0, none⟩), v] w fun e w' => e = .returned (.int .i64 0) ∧ DsW w0 w' g (jsD t f (catF L).length c p) (F.since w w') ∧ Chg F w w' := by
  obtain ⟨h1, ⟨ms, ml, h2⟩, h3, h4⟩ := h
  have hu := h1.used
  have hz := h1.hz
  have hc := h1.ck
  have hk := h1.hk
  have hs := h1.geo.slots
  have hst := h1.ji.still
  have hlen := h1.len
  refine (h2.start_yes hr (by omega) hu (by rw [hst]; exact Nat.zero_le _) (by omega) hp he).mono ?_
  rintro e w' ⟨he', hd, hcg⟩
  exact ⟨he', ⟨hd, since_lowS h3 h4.size, hcg.ext h4 h3⟩, hcg⟩
theorem JW.compact_yes (h : JW w0 w j g N q f z k t L W c a pic F) (hr : RdF H w v (p.map B)) (ha : H.apart F) (hH : H.isIn w) (hp : p.length ≤ 1000000) (hk1 : k + 1 ≤ 1000000) (he : cpE t q p c a = 0) :
    Calls Try.prog 15 #[.pointer (some ⟨j, 0, none⟩), v] w fun e w' => e = .returned (.int .i64 0) ∧ JW w0 w' j g N q f z (k + 1) (cpD t q f z p c) [] [] c (c : Int) p (F.since w w') ∧ Chg F w w' := by
  obtain ⟨h1, ⟨ms, ml, h2⟩, h3, h4⟩ := h
  have hu := h1.used
  have hz := h1.hz
  have hc := h1.ck
  have hk := h1.hk
  have hs := h1.geo.slots
  have hn1 := h1.n1
  have hst := h1.ji.still
  have hlen := h1.len
  have hbn : t.2.2 ≤ 10000000 := by omega
  have he2 := (cpE_yes he).2
  refine (h2.compact_yes hr ha hH hst hs.2.1 (by omega) hs.2.2.2.1 (by omega) hu h1.n0 hbn (by omega) hp he2).mono ?_
  rintro e w' ⟨he', hd, hcg⟩
  exact ⟨he', ⟨h1.compact hk1 he, ⟨ms, ml, hd⟩, since_lowS h3 h4.size, hcg.ext h4 h3⟩, hcg⟩
theorem JW.compact_no (h : JW w0 w j g N q f z k t L W c a pic F) (hr : RdF H w v (p.map B)) (ha : H.apart F) (hH : H.isIn w) (hp : p.length ≤ 1000000) (he : cpE t q p c a ≠ 0) :
    Calls Try.prog 15 #[.pointer (some ⟨j, 0, none⟩), v] w fun e w' => e = .returned (.int .i64 3) ∧ JW w0 w' j g N q f z k t L W c a pic (F.since w w') ∧ Chg F w w' := by
  obtain ⟨h1, ⟨ms, ml, h2⟩, h3, h4⟩ := h
  have hu := h1.used
  have hz := h1.hz
  have hc := h1.ck
  have hk := h1.hk
  have hs := h1.geo.slots
  have hn1 := h1.n1
  have hst := h1.ji.still
  have hlen := h1.len
  have hbn : t.2.2 ≤ 10000000 := by omega
  have he2 : stE t 0 q p (c : Int) ≠ 0 := fun h0 => he (by rw [cpE_st h1.ji (by omega), if_pos h0])
  refine (h2.compact_no hr ha hH hst hs.2.1 (by omega) hs.2.2.2.1 (by omega) hu h1.n0 hbn (by omega) hp he2).mono ?_
  rintro e w' ⟨he', hd, hcg⟩
  exact ⟨he', ⟨h1, ⟨ms, ml, hd⟩, since_lowS h3 h4.size, hcg.ext h4 h3⟩, hcg⟩
/-- An op is started, or not. -/
theorem JW.start_any (h : JW w0 w j g N q f z k t L W c a pic F) (hr : Rd w v (p.map B)) (hp : p.length ≤ 1000000) (hk1 : k + 1 ≤ 1000000) :
    Calls Try.prog 14 #[.pointer (some ⟨j, 0, none⟩), v] w fun e w' => e = .returned (.int .i64 (jE z (catF L).length c p)) ∧ ∃ s F', DsW w0 w' g s F' ∧ s.2.1.length ≤ 4000 ∧ (jE z (catF L).length c p = 0 → s.2.1.length = (frameB (payB c p)).length) ∧
      (∀ keep : Int, ((jE z (catF L).length c p = 0 ∧ ((frameB (payB c p)).length : Int) ≤ keep) → JOpens N q f z (k + 1) (crD s keep) (L ++ [payB c p]) (W ++ [p]) (c + 1) a pic) ∧ (¬ (jE z (catF L).length c p = 0 ∧ ((frameB (payB c p)).length : Int) ≤ keep) → JOpens N q f z (k + 1) (crD s keep) L W c a pic)) ∧ (∀ b, F' b → F.since w w' b) ∧ Chg F w w' := by
  by_cases he : jE z (catF L).length c p = 0
  · refine (h.start_yes hr hp he).mono ?_
    rintro e w' ⟨rfl, hd, hcg⟩
    have hw := h.js.waits he
    have hy := jE_yes h.js.clt he
    have hz := h.js.hz
    refine ⟨by rw [he], _, _, hd, by omega, fun _ => hw, fun keep => ⟨fun hh => h.js.opens1 hk1 he keep hh.2, fun hh => ?_⟩, fun _ hb => hb, hcg⟩
    have := h.js.opens2 he keep (fun h1 => hh ⟨he, h1⟩)
    exact ⟨this.recs, this.gj, this.age, this.pic, this.len, this.geo, this.n0, by have := this.n1; omega, by have := this.ck; omega, hk1, this.hz⟩
  · refine (h.start_no hr hp he).mono ?_
    rintro e w' ⟨rfl, hd, hx⟩
    refine ⟨rfl, t, F, hd.dsW, by rw [h.js.ji.still]; exact Nat.zero_le _, fun h0 => absurd h0 he, fun keep => ⟨fun hh => absurd hh.1 he, fun _ => (hd.later (Nat.le_succ k) hk1).js.opens0 keep⟩, fun _ hb => .inl hb, Chg.of_ext hx⟩

/-- A disk is opened. -/
theorem DsW.jopenF (h : DsW w0 w g s F) (ho : JOpens N q f z k s L W c a pic) (hw : s.2.1.length ≤ 10000000) (hk1 : k + 1 ≤ 1000000) :
    Calls Try.prog 11 #[.pointer (some ⟨g, 0, none⟩)] w fun e w' => ∃ (j : Nat) (pv ov : Value), e = .returned (.tuple #[.pointer (some ⟨j, 0, none⟩), pv, ov, .int .i64 0]) ∧ JW w0 w' j g N q f z (k + 1) (opD s f z) L W c a pic (F.since w w') ∧
      RdF (fun b => w.heap.size ≤ b) w' pv (pic.map B) ∧ RdLF (fun b => w.heap.size ≤ b) w' ov W ∧ Chg F w w' := by
  obtain ⟨o1, o2, o3, o4, o5, o6⟩ := ho.what
  have hn1 := ho.n1
  have hk := ho.hk
  have hbn : s.2.2 ≤ 100000000 := by omega
  refine (JnOpen F g s q f z w h.1 (by rw [ho.len]; exact ho.geo) hw ho.n0 hbn o1 o5 o6).mono ?_
  rintro e w' ⟨j, ms, ml, pv, ov, he, hd, hp, hov, hcg⟩
  rw [o2, o4] at hd
  rw [o3] at hov
  rw [ho.pic] at hp
  exact ⟨j, pv, ov, he, ⟨ho.open_ hk1, ⟨ms, ml, hd⟩, since_lowS h.2.1 h.2.2.size, hcg.ext h.2.2 h.2.1⟩, hp, hov, hcg⟩
theorem DsW.jopen (h : DsW w0 w g s F) (ho : JOpens N q f z k s L W c a pic) (hw : s.2.1.length ≤ 10000000) (hk1 : k + 1 ≤ 1000000) :
    Calls Try.prog 11 #[.pointer (some ⟨g, 0, none⟩)] w fun e w' => ∃ (j : Nat) (pv ov : Value), e = .returned (.tuple #[.pointer (some ⟨j, 0, none⟩), pv, ov, .int .i64 0]) ∧ JW w0 w' j g N q f z (k + 1) (opD s f z) L W c a pic (F.since w w') ∧
      Rd w' pv (pic.map B) ∧ RdL w' ov W ∧ Chg F w w' :=
  (h.jopenF ho hw hk1).mono fun _ _ ⟨j, pv, ov, he, hj, hp, hov, hc⟩ => ⟨j, pv, ov, he, hj, hp.rd, hov.rdl, hc⟩
theorem DsW.crash (h : DsW w0 w g s F) (keep : Int) (h0 : -9223372036854775808 ≤ keep) (h1 : keep ≤ 9223372036854775807) (hw : s.2.1.length ≤ 1000000000) :
    Calls Try.prog 21 #[.pointer (some ⟨g, 0, none⟩), .int .i64 keep] w fun e w' => e = .returned (.tuple #[]) ∧ DsW w0 w' g (crD s keep) (F.since w w') ∧ Chg F w w' :=
  (DkCrash F g s keep w h.1 h0 h1 hw).mono fun _ _ ⟨he, hd, hc⟩ => ⟨he, ⟨hd, since_lowS h.2.1 h.2.2.size, hc.ext h.2.2 h.2.1⟩, hc⟩
end

end Go.Proofs.Ytdcmjmanalijfaa

/- Layer 7, the statements: what all of them ask first. -/
namespace Go.Proofs.Ytdcmjmanalijfaa
open Go.RowKit

theorem RdF.litJ (w : World) (l : List UInt8) (cs : Array Value) (e : TypeId) (n g : Nat) (m : Nat × Nat) (h : l.length ≤ 4096) (hc : cs = (l.map B).toArray) (hn : n = l.length) (hg : g = w.heap.size) :
    RdF (fun k => w.heap.size ≤ k ∧ k < (w.alloc (.cells cs e m)).heap.size) (w.alloc (.cells cs e m)) (.slice (some ⟨g, 0, none⟩) n n) (l.map B) := by
  subst hc hn hg
  exact ⟨some ⟨w.heap.size, 0, none⟩, l.length, by rw [List.length_map], by rw [List.length_map]; exact Nat.le_refl _, by unfold maxLen; omega, fun _ => ⟨w.heap.size, 0, rfl, by simp, ⟨Nat.le_refl _, by simp⟩, fun j u hu => by
    rw [Nat.zero_add, cell_of_row _ _ _ (l.map B).toArray e m (heap_alloc_new w _)]
    simpa using hu⟩⟩
theorem lit1 (c : UInt8) : #[Value.int .u8 (c.toNat : Int)] = (([c] : List UInt8).map B).toArray := by simp [B]

theorem geo200 : Geo 200 50 100 100 := ⟨by decide, by decide, by decide, by decide, by decide⟩

set_option maxRecDepth 100000 in
set_option maxHeartbeats 1000000 in
theorem alive7_any (w : World) : Calls Try.prog 7 #[] w fun e w' => e = .returned (.bool true) ∧ Ext w w' := by
  have kc := fun (w : World) (C : Array Value) (n c : Nat) => Lib.run_convert_bytes_const (P := Try.prog) w 30 5 C n c Try.underlying30 Try.underlying5
  go_enter Try.func7, Try.ntmps7
  go_wp2_with fail
  refine (DsW.new (Ext.refl w) 200 (by decide) (by decide)).mono ?_
  rintro e w1 ⟨g, rfl, hd1, -⟩
  go_wp2_with fail
  refine (hd1.jopen (JOpens.new geo200 (by decide)) (Nat.zero_le _) (by decide)).mono ?_
  rintro e w2 ⟨j, pv, ov, rfl, hj2, -, -, -⟩
  clear hd1
  generalize (Fp.since _ w1 w2) = F2 at *
  generalize opD _ _ _ = t2 at *
  go_wp2_with fail
  have xl := RdF.litJ w2 [97] #[.int .u8 97] 5 1 w2.heap.size (1, 2) (by decide) (lit1 97) rfl rfl
  have hE : Ext w2 (w2.alloc (.cells #[.int .u8 97] 5 (1, 2))) := (Below.refl _ _).alloc (Nat.le_refl _) _
  have hj2' := hj2.ext hE
  refine (hj2'.append_yes (p := [97]) xl.rd (by decide) (by decide) (by decide +kernel)).mono ?_
  rintro e w3 ⟨rfl, hj3, -⟩
  clear xl hE hj2 hj2'
  generalize (Fp.since F2 _ w3) = F3 at *
  generalize syD (jsD t2 100 (catF []).length 0 [97]) = t3 at *
  go_wp2_with fail
  have xl := RdF.litJ w3 [80] #[.int .u8 80] 5 1 w3.heap.size (1, 2) (by decide) (lit1 80) rfl rfl
  have hE : Ext w3 (w3.alloc (.cells #[.int .u8 80] 5 (1, 2))) := (Below.refl _ _).alloc (Nat.le_refl _) _
  have hj3' := hj3.ext hE
  have he3 : cpE t3 50 [80] (0 + 1) (-1) = 0 := by
    rw [cpE_of hj3.js.ji (by decide) (by rw [okP]; decide +kernel) (by decide +kernel)]
    decide
  refine (hj3'.compact_yes (p := [80]) xl (fun b hb hF => by have := hj3.isIn b hF; omega) (fun b hb => hb.2) (by decide) (by decide) he3).mono ?_
  rintro e w4 ⟨rfl, hj4, -⟩
  clear xl hE hj3 hj3' he3
  generalize (Fp.since F3 _ w4) = F4 at *
  generalize cpD t3 50 100 100 [80] (0 + 1) = t4 at *
  go_wp2_with fail
  have xl := RdF.litJ w4 [98] #[.int .u8 98] 5 1 w4.heap.size (1, 2) (by decide) (lit1 98) rfl rfl
  have hE : Ext w4 (w4.alloc (.cells #[.int .u8 98] 5 (1, 2))) := (Below.refl _ _).alloc (Nat.le_refl _) _
  have hj4' := hj4.ext hE
  refine (hj4'.append_yes (p := [98]) xl.rd (by decide) (by decide) (by decide +kernel)).mono ?_
  rintro e w5 ⟨rfl, hj5, -⟩
  clear xl hE hj4 hj4'
  generalize (Fp.since F4 _ w5) = F5 at *
  generalize syD (jsD t4 100 (catF []).length (0 + 1) [98]) = t5 at *
  go_wp2_with fail
  refine (hj5.dsW.jopen hj5.js.opens (by rw [hj5.js.ji.still]; exact Nat.zero_le _) (by decide)).mono ?_
  rintro e w6 ⟨j6, pv6, ov6, rfl, hj6, hp6, ho6, -⟩
  clear hj5
  generalize (Fp.since F5 w5 w6) = F6 at *
  obtain ⟨A6, c6, rfl, _, _⟩ := hp6.sliceN (n := 1) rfl
  obtain ⟨A7, c7, rfl, _, _⟩ := ho6.sliceN (n := 1) rfl
  obtain ⟨b7, o7, rfl, hb7, hc7⟩ := ho6.at (by decide)
  obtain ⟨u7, hu7, hr7⟩ := hc7 0 [98] rfl
  rw [Nat.add_zero] at hu7
  obtain ⟨A8, c8, rfl, _, _⟩ := hr7.sliceN (n := 1) rfl
  have kc6 := run_conv_rd (P := Try.prog) w6 30 9 5 Try.underlying30 Try.underlying5 Try.underlying9 _ [80] hp6
  have kc7 := run_conv_rd (P := Try.prog) w6 30 9 5 Try.underlying30 Try.underlying5 Try.underlying9 _ [98] hr7
  have HJ6 := Lib.hid hj6
  clear kc hp6 ho6 hc7 hr7 hj6
  go_wp2_with fail
  refine HJ6.out.count.mono ?_
  rintro e w7 ⟨rfl, hj7, -⟩
  have HJ7 := Lib.hid hj7
  clear hj7 hu7 kc6 kc7
  go_wp2_with fail
  refine (HJ7.out.room 3 (by decide)).mono ?_
  rintro e w8 ⟨he, hj8, -⟩
  have hroom : jroom 100 (catF ([] ++ [payB (0 + 1) [98]])).length (0 + 1 + 1) ((3 : Nat) : Int) = true := by decide +kernel
  rw [hroom] at he
  obtain rfl := he
  have hx8 := hj8.2.2.2
  clear hj8 hroom
  go_wp2
  go_ret
  exact ⟨rfl, hx8⟩

end Go.Proofs.Ytdcmjmanalijfaa

/- Layer 7, the statements: a journal of the code and one of the reference, side by side. -/
namespace Go.Proofs.Ytdcmjmanalijfaa
open Go.RowKit

/-- Two things that were made since w1, apart of one another and of the block ix. -/
def JP2 (A B : World → Fp → Prop) (w1 w : World) (ix : Nat) : Prop :=
  ∃ F G : Fp, A w F ∧ B w G ∧ F.apart G ∧ (F.isIn w ∧ G.isIn w) ∧ ((∀ b, F b → w1.heap.size ≤ b) ∧ (∀ b, G b → w1.heap.size ≤ b)) ∧ ¬ F ix ∧ ¬ G ix
/-- What a call leaves of the block i. -/
def KeepsJ (i : Nat) (w w' : World) : Prop := (∀ (T : TypeId) (cs : Array Value), Blk w i T cs → Blk w' i T cs) ∧ w.heap.size ≤ w'.heap.size
/-- It stands, whatever else turns. -/
def StandsA (A : World → Fp → Prop) (w1 : World) : Prop := ∀ (w w' : World) (F G : Fp), A w F → Chg G w w' → F.apart G → (∀ b, G b → w1.heap.size ≤ b) → A w' F

section
variable {A A' B B' : World → Fp → Prop} {w1 w w' : World} {ix : Nat}
theorem since_lowJ {F : Fp} (hf : ∀ k, F k → w1.heap.size ≤ k) (hs : w1.heap.size ≤ w.heap.size) : ∀ k, F.since w w' k → w1.heap.size ≤ k := fun k hk => by
  rcases hk with hk | hk
  · exact hf k hk
  · exact Nat.le_trans hs hk.1
theorem JP2.ext (h : JP2 A B w1 w ix) (hA : StandsA A w1) (hB : StandsA B w1) (hx : Ext w w') : JP2 A B w1 w' ix := by
  obtain ⟨F, G, h1, h2, h3, ⟨h4, h5⟩, ⟨h6, h7⟩, h8⟩ := h
  exact ⟨F, G, hA w w' F (fun _ => False) h1 (Chg.of_ext hx) (fun _ _ h => h) (fun _ h => h.elim), hB w w' G (fun _ => False) h2 (Chg.of_ext hx) (fun _ _ h => h) (fun _ h => h.elim), h3, ⟨h4.ext hx, h5.ext hx⟩, ⟨h6, h7⟩, h8⟩
theorem JP2.code {n : Nat} {args : Array Value} {P : Ending → World → Prop} (h : JP2 A B w1 w ix) (hix : ix < w.heap.size) (hw : w1.heap.size ≤ w.heap.size) (hB : StandsA B w1)
    (hk : ∀ F, A w F → (∀ b, F b → w1.heap.size ≤ b) → F.isIn w → Calls Try.prog n args w fun e w' => P e w' ∧ (∃ F', A' w' F' ∧ F'.isIn w' ∧ ∀ b, F' b → F.since w w' b) ∧ Chg F w w') :
    Calls Try.prog n args w fun e w' => P e w' ∧ JP2 A' B w1 w' ix ∧ KeepsJ ix w w' := by
  obtain ⟨F, G, h1, h2, h3, ⟨h4, h5⟩, ⟨h6, h7⟩, h8, h9⟩ := h
  refine (hk F h1 h6 h4).mono ?_
  rintro e w' ⟨he, ⟨F', a1, a2, a3⟩, hc⟩
  refine ⟨he, ⟨F', G, a1, hB w w' G F h2 hc h3.symm h6, fun b hb hg => ?_, ⟨a2, h5.chg hc⟩, ⟨fun b hb => since_lowJ h6 hw b (a3 b hb), h7⟩, fun hF => ?_, h9⟩, fun T cs hb => (hc.block ix hb.lt h8).trans hb, hc.size⟩
  · rcases a3 b hb with h | h
    · exact h3 b h hg
    · have := h5 b hg
      omega
  · rcases a3 ix hF with h | h
    · exact h8 h
    · omega
theorem JP2.ref {n : Nat} {args : Array Value} {P : Ending → World → Prop} (h : JP2 A B w1 w ix) (hix : ix < w.heap.size) (hw : w1.heap.size ≤ w.heap.size) (hA : StandsA A w1)
    (hk : ∀ G, B w G → (∀ b, G b → w1.heap.size ≤ b) → G.isIn w → Calls Try.prog n args w fun e w' => P e w' ∧ (∃ G', B' w' G' ∧ G'.isIn w' ∧ ∀ b, G' b → G.since w w' b) ∧ Chg G w w') :
    Calls Try.prog n args w fun e w' => P e w' ∧ JP2 A B' w1 w' ix ∧ KeepsJ ix w w' := by
  obtain ⟨F, G, h1, h2, h3, ⟨h4, h5⟩, ⟨h6, h7⟩, h8, h9⟩ := h
  refine (hk G h2 h7 h5).mono ?_
  rintro e w' ⟨he, ⟨G', a1, a2, a3⟩, hc⟩
  refine ⟨he, ⟨F, G', hA w w' F G h1 hc h3 h7, a1, fun b hb hg => ?_, ⟨h4.chg hc, a2⟩, ⟨h6, fun b hb => since_lowJ h7 hw b (a3 b hb)⟩, h8, fun hF => ?_⟩, fun T cs hb => (hc.block ix hb.lt h9).trans hb, hc.size⟩
  · rcases a3 b hg with h | h
    · exact h3 b hb h
    · have := h4 b hb
      omega
  · rcases a3 ix hF with h | h
    · exact h9 h
    · omega
end

/-- The code's journal, and what Open told. -/
def jAr (w1 : World) (j g N q f z k : Nat) (t : DkS) (L W : List (List UInt8)) (c : Nat) (a : Int) (pic : List UInt8) (pv ov : Value) : World → Fp → Prop := fun w F => JW w1 w j g N q f z k t L W c a pic F ∧ RdF F w pv (pic.map B) ∧ RdLF F w ov W
/-- The code's journal; its disk alone; the reference's; its disk alone. -/
def jA (w1 : World) (j g N q f z k : Nat) (t : DkS) (L W : List (List UInt8)) (c : Nat) (a : Int) (pic : List UInt8) : World → Fp → Prop := fun w F => JW w1 w j g N q f z k t L W c a pic F
def dA (w1 : World) (g : Nat) (s : DkS) : World → Fp → Prop := fun w F => DsW w1 w g s F
def jB (m r q f z : Nat) (t : DkS) (L : List (List UInt8)) (c : Nat) (a : Int) : World → Fp → Prop := fun w G => ∃ ms ml, RJD G w m ms ml r t q f z L c a
def dB (r : Nat) (s : DkS) : World → Fp → Prop := fun w G => Rk G w r s

section
variable {w1 w : World} {j g N q f z k m r : Nat} {t s : DkS} {L W : List (List UInt8)} {c : Nat} {a : Int} {pic p : List UInt8} {v : Value} {ix : Nat} {P R : World → Fp → Prop} {keep : Int}
theorem jA_stands : StandsA (jA w1 j g N q f z k t L W c a pic) w1 := fun _ _ _ _ h hc ha hg => JW.chg h hc ha hg
theorem jAr_stands {pv ov : Value} : StandsA (jAr w1 j g N q f z k t L W c a pic pv ov) w1 := fun _ _ _ _ h hc ha hg => ⟨JW.chg h.1 hc ha hg, h.2.1.chg hc ha, h.2.2.chg hc ha⟩
theorem JP2.read {pv ov : Value} (h : JP2 (jAr w1 j g N q f z k t L W c a pic pv ov) R w1 w ix) : JP2 (jA w1 j g N q f z k t L W c a pic) R w1 w ix ∧ Rd w pv (pic.map B) ∧ RdL w ov W := by
  obtain ⟨F, G, ⟨h1, h2, h3⟩, h4⟩ := h
  exact ⟨⟨F, G, h1, h4⟩, h2.rd, h3.rdl⟩
theorem dA_stands : StandsA (dA w1 g s) w1 := fun _ _ _ _ h hc ha hg => ⟨Dk.chg h.1 hc ha, h.2.1, hc.ext h.2.2 hg⟩
theorem jB_stands : StandsA (jB m r q f z t L c a) w1 := fun _ _ _ _ ⟨ms, ml, h⟩ hc ha _ => ⟨ms, ml, h.chg hc ha⟩
theorem dB_stands : StandsA (dB r s) w1 := fun _ _ _ _ h hc ha _ => Rk.chg h hc ha

/-- What an Append leaves. -/
def jaT (t : DkS) (f z u c : Nat) (p : List UInt8) : DkS := if jE z u c p = 0 then syD (jsD t f u c p) else t
def jaW (z u c : Nat) (W : List (List UInt8)) (p : List UInt8) : List (List UInt8) := if jE z u c p = 0 then W ++ [p] else W
def cpW (t : DkS) (q : Nat) (W : List (List UInt8)) (p : List UInt8) (c : Nat) (a : Int) : List (List UInt8) := if cpE t q p c a = 0 then [] else W
def cpP (t : DkS) (q : Nat) (pic p : List UInt8) (c : Nat) (a : Int) : List UInt8 := if cpE t q p c a = 0 then p else pic

theorem JP2.appendA (h : JP2 (jA w1 j g N q f z k t L W c a pic) R w1 w ix) (hB : StandsA R w1) (hix : ix < w.heap.size) (hr : Rd w1 v (p.map B)) (hx : Ext w1 w) (hp : p.length ≤ 1000000) (hk : k + 1 ≤ 1000000) :
    Calls Try.prog 13 #[.pointer (some ⟨j, 0, none⟩), v] w fun e w' => e = .returned (.int .i64 (jE z (catF L).length c p)) ∧
      JP2 (jA w1 j g N q f z (k + 1) (jaT t f z (catF L).length c p) (jL z (catF L).length L c p) (jaW z (catF L).length c W p) (jC z (catF L).length c p) a pic) R w1 w' ix ∧ KeepsJ ix w w' := by
  refine JP2.code (P := fun e _ => e = .returned (.int .i64 (jE z (catF L).length c p))) h hix hx.size hB fun F hj hl hi => ?_
  by_cases he : jE z (catF L).length c p = 0
  · refine (JW.append_yes hj (hr.ext hx) hp hk he).mono ?_
    rintro e w' ⟨rfl, hd, hc⟩
    rw [jaT, jL, jaW, jC, if_pos he, if_pos he, if_pos he, if_pos he, he]
    exact ⟨rfl, ⟨_, hd, hd.isIn, fun _ hb => hb⟩, hc⟩
  · refine (JW.append_no hj (hr.ext hx) hp he).mono ?_
    rintro e w' ⟨rfl, hd, hxx⟩
    rw [jaT, jL, jaW, jC, if_neg he, if_neg he, if_neg he, if_neg he]
    exact ⟨rfl, ⟨F, hd.later (Nat.le_succ k) hk, hd.isIn, fun _ hb => .inl hb⟩, Chg.of_ext hxx⟩
theorem JP2.compactA (h : JP2 (jA w1 j g N q f z k t L W c a pic) R w1 w ix) (hB : StandsA R w1) (hix : ix < w.heap.size) (hr : Rd w1 v (p.map B)) (hx : Ext w1 w) (hp : p.length ≤ 1000000) (hk : k + 1 ≤ 1000000) :
    Calls Try.prog 15 #[.pointer (some ⟨j, 0, none⟩), v] w fun e w' => e = .returned (.int .i64 (cpE t q p c a)) ∧
      JP2 (jA w1 j g N q f z (k + 1) (cpS t q f z p c a) (cpL t q L p c a) (cpW t q W p c a) c (cpA t q p c a) (cpP t q pic p c a)) R w1 w' ix ∧ KeepsJ ix w w' := by
  refine JP2.code (P := fun e _ => e = .returned (.int .i64 (cpE t q p c a))) h hix hx.size hB fun F hj hl hi => ?_
  by_cases he : cpE t q p c a = 0
  · refine (JW.compact_yes hj (old_rdS hr hx) (old_apartS hl) (old_inS hx) hp hk he).mono ?_
    rintro e w' ⟨rfl, hd, hc⟩
    rw [cpS, cpL, cpW, cpA, cpP, if_pos he, if_pos he, if_pos he, if_pos he, if_pos he, he]
    exact ⟨rfl, ⟨_, hd, hd.isIn, fun _ hb => hb⟩, hc⟩
  · refine (JW.compact_no hj (old_rdS hr hx) (old_apartS hl) (old_inS hx) hp he).mono ?_
    rintro e w' ⟨rfl, hd, hc⟩
    rw [cpS, cpL, cpW, cpA, cpP, if_neg he, if_neg he, if_neg he, if_neg he, if_neg he]
    refine ⟨?_, ⟨_, hd.later (Nat.le_succ k) hk, hd.isIn, fun _ hb => hb⟩, hc⟩
    rcases cpE_cases t q p c a with h0 | h0
    · exact absurd h0 he
    · rw [h0]
theorem JP2.startA (h : JP2 (jA w1 j g N q f z k t L W c a pic) R w1 w ix) (hB : StandsA R w1) (hix : ix < w.heap.size) (hr : Rd w1 v (p.map B)) (hx : Ext w1 w) (hp : p.length ≤ 1000000) :
    Calls Try.prog 14 #[.pointer (some ⟨j, 0, none⟩), v] w fun e w' => e = .returned (.int .i64 (jE z (catF L).length c p)) ∧
      JP2 (dA w1 g (jsS t f z (catF L).length c p)) R w1 w' ix ∧ KeepsJ ix w w' := by
  refine JP2.code (P := fun e _ => e = .returned (.int .i64 (jE z (catF L).length c p))) h hix hx.size hB fun F hj hl hi => ?_
  by_cases he : jE z (catF L).length c p = 0
  · refine (JW.start_yes hj (hr.ext hx) hp he).mono ?_
    rintro e w' ⟨rfl, hd, hc⟩
    rw [jsS, if_pos he, he]
    exact ⟨rfl, ⟨_, hd, Dk.isIn hd.1, fun _ hb => hb⟩, hc⟩
  · refine (JW.start_no hj (hr.ext hx) hp he).mono ?_
    rintro e w' ⟨rfl, hd, hxx⟩
    rw [jsS, if_neg he]
    exact ⟨rfl, ⟨F, hd.dsW, hd.isIn, fun _ hb => .inl hb⟩, Chg.of_ext hxx⟩
theorem JP2.diskA (h : JP2 (jA w1 j g N q f z k t L W c a pic) R w1 w ix) : JP2 (dA w1 g t) R w1 w ix := by
  obtain ⟨F, G, h1, h2⟩ := h
  exact ⟨F, G, JW.dsW h1, h2⟩
theorem JP2.diskB {L2 : List (List UInt8)} {c2 : Nat} {a2 : Int} (h : JP2 P (jB m r q f z t L2 c2 a2) w1 w ix) : JP2 P (dB r t) w1 w ix := by
  obtain ⟨F, G, h1, ⟨ms, ml, h2⟩, h3⟩ := h
  exact ⟨F, G, h1, h2.rk, h3⟩
theorem JP2.crashA (h : JP2 (dA w1 g s) R w1 w ix) (hB : StandsA R w1) (hix : ix < w.heap.size) (hx : w1.heap.size ≤ w.heap.size) (h0 : -9223372036854775808 ≤ keep) (h1 : keep ≤ 9223372036854775807) (hw : s.2.1.length ≤ 1000000000) :
    Calls Try.prog 21 #[.pointer (some ⟨g, 0, none⟩), .int .i64 keep] w fun e w' => e = .returned (.tuple #[]) ∧ JP2 (dA w1 g (crD s keep)) R w1 w' ix ∧ KeepsJ ix w w' := by
  refine JP2.code (P := fun e _ => e = .returned (.tuple #[])) h hix hx hB fun F hj hl hi => ?_
  refine (DsW.crash hj keep h0 h1 hw).mono ?_
  rintro e w' ⟨rfl, hd, hc⟩
  exact ⟨rfl, ⟨_, hd, Dk.isIn hd.1, fun _ hb => hb⟩, hc⟩
theorem JP2.crashB (h : JP2 P (dB r s) w1 w ix) (hA : StandsA P w1) (hix : ix < w.heap.size) (hx : w1.heap.size ≤ w.heap.size) (hw : s.2.1.length ≤ 1000000000) :
    Calls Try.prog 22 #[.pointer (some ⟨r, 0, none⟩), .int .i64 keep] w fun e w' => e = .returned (.tuple #[]) ∧ JP2 P (dB r (crD s keep)) w1 w' ix ∧ KeepsJ ix w w' := by
  refine JP2.ref (P := fun e _ => e = .returned (.tuple #[])) h hix hx hA fun G hj hl hi => ?_
  refine (RkCrash G r s keep w hj hw).mono ?_
  rintro e w' ⟨rfl, hd, hc⟩
  exact ⟨rfl, ⟨G, hd, Rk.isIn hd, fun _ hb => .inl hb⟩, hc⟩
theorem JP2.openA (h : JP2 (dA w1 g s) R w1 w ix) (hB : StandsA R w1) (hix : ix < w.heap.size) (hx : w1.heap.size ≤ w.heap.size) (ho : JOpens N q f z k s L W c a pic) (hw : s.2.1.length ≤ 10000000) (hk : k + 1 ≤ 1000000) :
    Calls Try.prog 11 #[.pointer (some ⟨g, 0, none⟩)] w fun e w' => ∃ (j : Nat) (pv ov : Value), e = .returned (.tuple #[.pointer (some ⟨j, 0, none⟩), pv, ov, .int .i64 0]) ∧ JP2 (jAr w1 j g N q f z (k + 1) (opD s f z) L W c a pic pv ov) R w1 w' ix ∧ KeepsJ ix w w' := by
  obtain ⟨F, G, h1, h2, h3, ⟨h4, h5⟩, ⟨h6, h7⟩, h8, h9⟩ := h
  refine (DsW.jopenF h1 ho hw hk).mono ?_
  rintro e w' ⟨j, pv, ov, rfl, hd, hp, hov, hc⟩
  have fr : ∀ v xs, RdF (fun b => w.heap.size ≤ b) w' v xs → RdF (F.since w w') w' v xs := fun v xs ⟨A, c, e, q1, q2, q3⟩ => ⟨A, c, e, q1, q2, fun hn => by
    obtain ⟨b, o, x1, x2, x3, x4⟩ := q3 hn
    exact ⟨b, o, x1, x2, .inr ⟨x3, x2⟩, x4⟩⟩
  have frl : RdLF (F.since w w') w' ov W := by
    obtain ⟨vs, q1, q2, q3⟩ := hov
    exact ⟨vs, fr _ _ q1, q2, fun i u l hu hl => fr _ _ (q3 i u l hu hl)⟩
  refine ⟨j, pv, ov, rfl, ⟨_, G, ⟨hd, fr _ _ hp, frl⟩, hB w w' G F h2 hc h3.symm h6, fun b hb hg => ?_, ⟨hd.isIn, h5.chg hc⟩, ⟨since_lowJ h6 hx, h7⟩, fun hF => ?_, h9⟩, fun T cs hb => (hc.block ix hb.lt h8).trans hb, hc.size⟩
  · rcases hb with h | h
    · exact h3 b h hg
    · have := h5 b hg
      omega
  · rcases hF with h | h
    · exact h8 h
    · omega
/-- The reference's open: what was read of the code's stands. -/
theorem JP2.openB (h : JP2 P (dB r s) w1 w ix) (hA : StandsA P w1) (hix : ix < w.heap.size) (hx : w1.heap.size ≤ w.heap.size) (ho : JOpens N q f z k s L W c a pic) (hw : s.2.1.length ≤ 10000000) :
    Calls Try.prog 12 #[.pointer (some ⟨r, 0, none⟩)] w fun e w' => ∃ (m : Nat) (pv ov : Value), e = .returned (.tuple #[.pointer (some ⟨m, 0, none⟩), pv, ov, .bool true]) ∧ JP2 P (jB m r q f z (opD s f z) L c a) w1 w' ix ∧
      Rd w' pv (pic.map B) ∧ RdL w' ov W ∧ KeepsJ ix w w' := by
  obtain ⟨F, G, h1, h2, h3, ⟨h4, h5⟩, ⟨h6, h7⟩, h8, h9⟩ := h
  refine (RefJOpen G r N q f z k s L W c a pic w h2 ho hw).mono ?_
  rintro e w' ⟨m, ms, ml, pv, ov, rfl, hd, hp, hov, hc⟩
  refine ⟨m, pv, ov, rfl, ⟨F, _, hA w w' F G h1 hc h3 h7, ⟨ms, ml, hd⟩, fun b hb hg => ?_, ⟨h4.chg hc, hd.isIn⟩, ⟨h6, since_lowJ h7 hx⟩, h8, fun hF => ?_⟩, hp, hov, fun T cs hb => (hc.block ix hb.lt h9).trans hb, hc.size⟩
  · rcases hg with h | h
    · exact h3 b hb h
    · have := h4 b hb
      omega
  · rcases hF with h | h
    · exact h9 h
    · omega
theorem JS.refs (h : JS N q f z k t L W c a pic) : t.1.length ≤ 65536 ∧ f + z ≤ t.1.length ∧ (catF L).length ≤ z ∧ t.2.1 = [] ∧ L.length ≤ 1000000 ∧ c ≤ 1000000000 ∧ 0 ≤ t.2.2 ∧ t.2.2 ≤ 10000000 ∧ 2 * q ≤ t.1.length ∧ 1 ≤ q ∧ z ≤ 65536 := by
  have hs := h.geo.slots
  have hb := h.geo.big
  have hl := h.len
  have hz := h.hz
  have hsm := h.ji.is.small.2
  have hn := h.n1
  have hk := h.hk
  have hc := h.ck
  have hq : 2 * q ≤ N := by have := h.geo.hq; omega
  exact ⟨by omega, by omega, h.used, h.ji.still, by omega, by omega, h.n0, by omega, by omega, hs.2.1, by omega⟩
theorem JP2.appendB (h : JP2 P (jB m r q f z t L c a) w1 w ix) (js : JS N q f z k t L W c a pic) (hA : StandsA P w1) (hix : ix < w.heap.size) (hr : Rd w1 v (p.map B)) (hx : Ext w1 w) :
    Calls Try.prog 18 #[.pointer (some ⟨m, 0, none⟩), v] w fun e w' => e = .returned (.int .i64 (jE z (catF L).length c p)) ∧
      JP2 P (jB m r q f z (jaT t f z (catF L).length c p) (jL z (catF L).length L c p) (jC z (catF L).length c p) a) w1 w' ix ∧ KeepsJ ix w w' := by
  obtain ⟨b1, b2, b3, b4, b5, b6, b7, b8, b9, b10, b11⟩ := js.refs
  refine JP2.ref (P := fun e _ => e = .returned (.int .i64 (jE z (catF L).length c p))) h hix hx.size hA fun G ⟨ms, ml, hj⟩ hl hi => ?_
  refine (RefJAppend G m ms ml r t q f z L c a p v w hj (hr.ext hx) b1 b2 b3 (by rw [b4]; exact Nat.zero_le _) b5 b6 b7 (by omega)).mono ?_
  rintro e w' ⟨rfl, hd, hc⟩
  exact ⟨rfl, ⟨_, ⟨ms, ml, hd⟩, hd.isIn, fun _ hb => hb⟩, hc⟩
theorem JP2.compactB (h : JP2 P (jB m r q f z t L c a) w1 w ix) (js : JS N q f z k t L W c a pic) (hA : StandsA P w1) (hix : ix < w.heap.size) (hr : Rd w1 v (p.map B)) (hx : Ext w1 w) (hp : p.length ≤ 1000000) :
    Calls Try.prog 19 #[.pointer (some ⟨m, 0, none⟩), v] w fun e w' => e = .returned (.int .i64 (cpE t q p c a)) ∧
      JP2 P (jB m r q f z (cpS t q f z p c a) (cpL t q L p c a) c (cpA t q p c a)) w1 w' ix ∧ KeepsJ ix w w' := by
  obtain ⟨b1, b2, b3, b4, b5, b6, b7, b8, b9, b10, b11⟩ := js.refs
  refine JP2.ref (P := fun e _ => e = .returned (.int .i64 (cpE t q p c a))) h hix hx.size hA fun G ⟨ms, ml, hj⟩ hl hi => ?_
  refine (RefJCompact G m ms ml r t q f z L c a p v w hj (hr.ext hx) b1 b9 b10 b2 (by rw [b4]; exact Nat.zero_le _) b6 b7 b8 hp).mono ?_
  rintro e w' ⟨rfl, hd, hc⟩
  exact ⟨rfl, ⟨_, ⟨ms, ml, hd⟩, hd.isIn, fun _ hb => hb⟩, hc⟩
theorem JP2.startB (h : JP2 P (jB m r q f z t L c a) w1 w ix) (js : JS N q f z k t L W c a pic) (hA : StandsA P w1) (hix : ix < w.heap.size) (hr : Rd w1 v (p.map B)) (hx : Ext w1 w) :
    Calls Try.prog 20 #[.pointer (some ⟨m, 0, none⟩), v] w fun e w' => e = .returned (.int .i64 (jE z (catF L).length c p)) ∧
      JP2 P (dB r (jsS t f z (catF L).length c p)) w1 w' ix ∧ KeepsJ ix w w' := by
  obtain ⟨b1, b2, b3, b4, b5, b6, b7, b8, b9, b10, b11⟩ := js.refs
  refine JP2.ref (P := fun e _ => e = .returned (.int .i64 (jE z (catF L).length c p))) h hix hx.size hA fun G ⟨ms, ml, hj⟩ hl hi => ?_
  refine (RefJStart G m ms ml r t q f z L c a p v w hj (hr.ext hx) b1 b2 b3 (by rw [b4]; exact Nat.zero_le _) b5 b6).mono ?_
  rintro e w' ⟨rfl, hd, hc⟩
  exact ⟨rfl, ⟨_, hd.rk, hd.isIn, fun _ hb => hb⟩, hc⟩

theorem JP2.js (h : JP2 (jA w1 j g N q f z k t L W c a pic) R w1 w ix) : JS N q f z k t L W c a pic := by
  obtain ⟨F, G, h1, h2⟩ := h
  exact JW.js h1
theorem JP2.ext1 (h : JP2 (jA w1 j g N q f z k t L W c a pic) R w1 w ix) : Ext w1 w := by
  obtain ⟨F, G, h1, h2⟩ := h
  exact h1.2.2.2
theorem JP2.extD (h : JP2 (dA w1 g s) R w1 w ix) : Ext w1 w := by
  obtain ⟨F, G, h1, h2⟩ := h
  exact h1.2.2
theorem JP2.extR {pv ov : Value} (h : JP2 (jAr w1 j g N q f z k t L W c a pic pv ov) R w1 w ix) : Ext w1 w := by
  obtain ⟨F, G, h1, h2⟩ := h
  exact h1.1.2.2.2
theorem JP2.later (h : JP2 (jA w1 j g N q f z k t L W c a pic) R w1 w ix) {k' : Nat} (hk : k ≤ k') (hk' : k' ≤ 1000000) : JP2 (jA w1 j g N q f z k' t L W c a pic) R w1 w ix := by
  obtain ⟨F, G, h1, h2⟩ := h
  exact ⟨F, G, JW.later h1 hk hk', h2⟩

/-! What is looked at -/
section
variable (h : JP2 (jA w1 j g N q f z k t L W c a pic) (jB m r q f z t L c a) w1 w ix)
include h
theorem JP2.countA (w' : World) (hx : Ext w w') : Calls Try.prog 16 #[.pointer (some ⟨j, 0, none⟩)] w' fun e w'' => e = .returned (.int .i64 (c : Int)) ∧ Ext w' w'' := by
  obtain ⟨F, G, h1, h2⟩ := h
  exact (JW.count (JW.ext h1 hx)).mono fun _ _ ⟨he, _, hxx⟩ => ⟨he, hxx⟩
theorem JP2.roomA (n : Nat) (hn : n ≤ 1000000) (w' : World) (hx : Ext w w') : Calls Try.prog 17 #[.pointer (some ⟨j, 0, none⟩), .int .i64 (n : Int)] w' fun e w'' => e = .returned (.bool (jroom z (catF L).length c n)) ∧ Ext w' w'' := by
  obtain ⟨F, G, h1, h2⟩ := h
  exact (JW.room (JW.ext h1 hx) n (by omega)).mono fun _ _ ⟨he, _, hxx⟩ => ⟨he, hxx⟩
theorem JP2.roomB (n : Nat) (hn : n ≤ 1000000) (w' : World) (hx : Ext w w') : Calls Try.prog 27 #[.pointer (some ⟨m, 0, none⟩), .int .i64 (n : Int)] w' fun e w'' => e = .returned (.bool (jroom z (catF L).length c n)) ∧ Ext w' w'' := by
  obtain ⟨b1, b2, b3, b4, b5, b6, b7, b8, b9, b10, b11⟩ := h.js.refs
  obtain ⟨F, G, h1, ⟨ms, ml, h2⟩, h3⟩ := h
  exact RefJRoom G m ms ml r t q f z L c a n w' (h2.ext hx) b11 b3 b5 b6 hn
theorem JP2.bytesA (w' : World) (hx : Ext w w') : Calls Try.prog 25 #[.pointer (some ⟨g, 0, none⟩)] w' fun e w'' => ∃ A cp, e = .returned (.slice A N cp) ∧ Rd w'' (.slice A N cp) ((rdD t).map B) ∧ Ext w' w'' := by
  have hl := h.js.len
  have hst := h.js.ji.still
  obtain ⟨F, G, h1, h2⟩ := h
  refine (DkBytes F g t w' (Dk.ext (JW.dsW h1).1 hx) (by rw [hst]; exact Nat.zero_le _)).mono ?_
  rintro e w'' ⟨v, rfl, hg⟩
  obtain ⟨A, cp, rfl⟩ := hg.slice_ (n := N) (by rw [List.length_map, rdD_len, hl])
  exact ⟨A, cp, rfl, Rd.own hg.own, hg.ext⟩
theorem JP2.bytesB (w' : World) (hx : Ext w w') : Calls Try.prog 26 #[.pointer (some ⟨r, 0, none⟩)] w' fun e w'' => ∃ A cp, e = .returned (.slice A N cp) ∧ Rd w'' (.slice A N cp) ((rdD t).map B) ∧ Ext w' w'' := by
  have hl := h.js.len
  have hst := h.js.ji.still
  obtain ⟨b1, -⟩ := h.js.refs
  obtain ⟨F, G, h1, ⟨ms, ml, h2⟩, h3⟩ := h
  refine (RkBytes G r t w' (h2.rk.ext0 hx) b1 (by rw [hst]; exact Nat.zero_le _)).mono ?_
  rintro e w'' ⟨v, rfl, hg⟩
  obtain ⟨A, cp, rfl⟩ := hg.slice_ (n := N) (by rw [List.length_map, rdD_len, hl])
  exact ⟨A, cp, rfl, Rd.own hg.own, hg.ext⟩
theorem JP2.cellB (w' : World) (hx : Ext w w') : w'.cell? ⟨m, 2, none⟩ = some (.int .i64 (c : Int)) := by
  obtain ⟨F, G, h1, ⟨ms, ml, h2⟩, h3⟩ := h
  exact (h2.ext hx).c2
end

/-- Behind a Start, or none, and a crash. -/
theorem JS.opensJ (h : JS N q f z k t L W c a pic) (hk : k + 1 ≤ 1000000) (keep : Int) : ∃ L' W' c', JOpens N q f z (k + 1) (crD (jsS t f z (catF L).length c p) keep) L' W' c' a pic := by
  have later : ∀ {s L' W' c'}, JOpens N q f z k s L' W' c' a pic → JOpens N q f z (k + 1) s L' W' c' a pic := fun h => ⟨h.recs, h.gj, h.age, h.pic, h.len, h.geo, h.n0, by have := h.n1; omega, by have := h.ck; omega, hk, h.hz⟩
  by_cases he : jE z (catF L).length c p = 0
  · rw [jsS, if_pos he]
    by_cases hh : ((frameB (payB c p)).length : Int) ≤ keep
    · exact ⟨_, _, _, h.opens1 hk he keep hh⟩
    · exact ⟨_, _, _, later (h.opens2 he keep hh)⟩
  · rw [jsS, if_neg he]
    exact ⟨_, _, _, later (h.opens0 keep)⟩
theorem JS.jsS_waits (h : JS N q f z k t L W c a pic) : (jsS t f z (catF L).length c p).2.1.length ≤ 10000 := by
  by_cases he : jE z (catF L).length c p = 0
  · have hw := h.waits he
    have hy := jE_yes h.clt he
    have hz := h.hz
    rw [jsS, if_pos he]
    omega
  · rw [jsS, if_neg he, h.ji.still]
    exact Nat.zero_le _
end

/-- Without a block that is kept. -/
def JP1 (A B : World → Fp → Prop) (w1 w : World) : Prop :=
  ∃ F G : Fp, A w F ∧ B w G ∧ F.apart G ∧ (F.isIn w ∧ G.isIn w) ∧ ((∀ b, F b → w1.heap.size ≤ b) ∧ (∀ b, G b → w1.heap.size ≤ b))
theorem JP2.forget {A B : World → Fp → Prop} {w1 w : World} {ix : Nat} (h : JP2 A B w1 w ix) : JP1 A B w1 w := by
  obtain ⟨F, G, h1, h2, h3, h4, h5, h6⟩ := h
  exact ⟨F, G, h1, h2, h3, h4, h5⟩
theorem JP1.at_ {A B : World → Fp → Prop} {w1 w w' : World} (h : JP1 A B w1 w) (hA : StandsA A w1) (hB : StandsA B w1) (hx : Ext w w') : JP2 A B w1 w' w.heap.size := by
  obtain ⟨F, G, h1, h2, h3, ⟨h4, h5⟩, ⟨h6, h7⟩⟩ := h
  exact ⟨F, G, hA w w' F (fun _ => False) h1 (Chg.of_ext hx) (fun _ _ h => h) (fun _ h => h.elim), hB w w' G (fun _ => False) h2 (Chg.of_ext hx) (fun _ _ h => h) (fun _ h => h.elim), h3, ⟨h4.ext hx, h5.ext hx⟩, ⟨h6, h7⟩, (fun hF => by have := h4 _ hF; omega), (fun hG => by have := h5 _ hG; omega)⟩

theorem JP1.openA {w1 w : World} {g N q f z k : Nat} {s : DkS} {L W : List (List UInt8)} {c : Nat} {a : Int} {pic : List UInt8} {R : World → Fp → Prop} (h : JP1 (dA w1 g s) R w1 w) (hB : StandsA R w1) (hx : w1.heap.size ≤ w.heap.size) (ho : JOpens N q f z k s L W c a pic) (hw : s.2.1.length ≤ 10000000) (hk : k + 1 ≤ 1000000) :
    Calls Try.prog 11 #[.pointer (some ⟨g, 0, none⟩)] w fun e w' => ∃ (j : Nat) (pv ov : Value), e = .returned (.tuple #[.pointer (some ⟨j, 0, none⟩), pv, ov, .int .i64 0]) ∧ JP1 (jA w1 j g N q f z (k + 1) (opD s f z) L W c a pic) R w1 w' ∧ w.heap.size ≤ w'.heap.size := by
  obtain ⟨F, G, h1, h2, h3, ⟨h4, h5⟩, ⟨h6, h7⟩⟩ := h
  refine (DsW.jopen h1 ho hw hk).mono ?_
  rintro e w' ⟨j, pv, ov, rfl, hd, hp, hov, hc⟩
  refine ⟨j, pv, ov, rfl, ⟨_, G, hd, hB w w' G F h2 hc h3.symm h6, fun b hb hg => ?_, ⟨hd.isIn, h5.chg hc⟩, ⟨since_lowJ h6 hx, h7⟩⟩, hc.size⟩
  rcases hb with h | h
  · exact h3 b h hg
  · have := h5 b hg
    omega
theorem JP1.openB {w1 w : World} {r N q f z k : Nat} {s : DkS} {L W : List (List UInt8)} {c : Nat} {a : Int} {pic : List UInt8} {P : World → Fp → Prop} (h : JP1 P (dB r s) w1 w) (hA : StandsA P w1) (hx : w1.heap.size ≤ w.heap.size) (ho : JOpens N q f z k s L W c a pic) (hw : s.2.1.length ≤ 10000000) :
    Calls Try.prog 12 #[.pointer (some ⟨r, 0, none⟩)] w fun e w' => ∃ (m : Nat) (pv ov : Value), e = .returned (.tuple #[.pointer (some ⟨m, 0, none⟩), pv, ov, .bool true]) ∧ JP1 P (jB m r q f z (opD s f z) L c a) w1 w' := by
  obtain ⟨F, G, h1, h2, h3, ⟨h4, h5⟩, ⟨h6, h7⟩⟩ := h
  refine (RefJOpen G r N q f z k s L W c a pic w h2 ho hw).mono ?_
  rintro e w' ⟨m, ms, ml, pv, ov, rfl, hd, hp, hov, hc⟩
  refine ⟨m, pv, ov, rfl, ⟨F, _, hA w w' F G h1 hc h3 h7, ⟨ms, ml, hd⟩, fun b hb hg => ?_, ⟨h4.chg hc, hd.isIn⟩, ⟨h6, since_lowJ h7 hx⟩⟩⟩
  rcases hg with h | h
  · exact h3 b hb h
  · have := h4 b hb
    omega
theorem JP1.js {w1 w : World} {j g N q f z k : Nat} {t : DkS} {L W : List (List UInt8)} {c : Nat} {a : Int} {pic : List UInt8} {R : World → Fp → Prop} (h : JP1 (jA w1 j g N q f z k t L W c a pic) R w1 w) : JS N q f z k t L W c a pic ∧ Ext w1 w := by
  obtain ⟨F, G, h1, h2⟩ := h
  exact ⟨JW.js h1, h1.2.2.2⟩

end Go.Proofs.Ytdcmjmanalijfaa

/- JournalActs, where there is no journal: sizes and acts that are passed by, and disks that are too small. -/
namespace Go.Proofs.Ytdcmjmanalijfaa
open Go.RowKit

set_option maxRecDepth 100000 in
theorem JnOpen_no (F : Fp) (g : Nat) (s : DkS) (w : World) (hd : Dk F w g s) (h : s.1.length < 64) :
    Calls Try.prog 11 #[.pointer (some ⟨g, 0, none⟩)] w fun e w' => e = .returned (.tuple #[.pointer none, .slice none 0 0, .slice none 0 0, .int .i64 1]) ∧ Ext w w' := by
  have KS := DkSize F g s w hd
  obtain ⟨N, hN⟩ : ∃ N, s.1.length = N := ⟨_, rfl⟩
  rw [hN] at KS h
  have d1 : decide ((N : Int) < 64) = true := decide_eq_true (by omega)
  clear hd hN h
  go_enter Try.func11, Try.ntmps11
  go_wp2_with fail
  refine KS.mono ?_
  rintro e w1 ⟨rfl, hx⟩
  clear KS
  go_wp2
  refine bodyPost_ret (v := .tuple #[.pointer none, .slice none 0 0, .slice none 0 0, .int .i64 1]) (by simp [results, Try.results11, go_sem]) rfl ?_
  exact ⟨rfl, hx⟩

set_option maxRecDepth 100000 in
theorem JournalActs_out (N : Int) (l : List (Int × Int × List UInt8)) (v : Value) (w : World) (hr : RdActs w v l) (h : N < 1 ∨ (1 ≤ N ∧ 600 < N) ∨ (1 ≤ N ∧ N ≤ 600 ∧ fewJ l = false)) :
    Calls Try.prog 3 #[.int .i64 N, v] w fun e w' => e = .returned (.bool true) ∧ Ext w w' := by
  obtain ⟨A, c, rfl, hlc, hcm⟩ := hr.slice_
  rcases h with h | ⟨h0, h⟩ | ⟨h0, h1, h⟩
  · go_enter Try.func3, Try.ntmps3
    go_wp2_with fail
    refine (alive7_any w).mono ?_
    rintro e w1 ⟨rfl, hx1⟩
    go_wp2
    go_ret
    exact ⟨rfl, hx1⟩
  · go_enter Try.func3, Try.ntmps3
    go_wp2_with fail
    refine (alive7_any w).mono ?_
    rintro e w1 ⟨rfl, hx1⟩
    go_wp2
    go_ret
    exact ⟨rfl, hx1⟩
  · go_enter Try.func3, Try.ntmps3
    go_wp2_with fail
    refine (alive7_any w).mono ?_
    rintro e w1 ⟨rfl, hx1⟩
    go_wp2_with fail
    refine (fewJ_any l _ _ (hr.ext hx1)).mono ?_
    rintro e w1' ⟨rfl, rfl⟩
    rw [h]
    go_wp2
    go_ret
    exact ⟨rfl, hx1⟩

set_option maxRecDepth 100000 in
set_option maxHeartbeats 2000000 in
theorem JournalActs_no (N : Nat) (l : List (Int × Int × List UInt8)) (v : Value) (w : World) (hr : RdActs w v l) (hf : fewJ l = true) (hN1 : 1 ≤ N) (hN4 : N < 64) :
    Calls Try.prog 3 #[.int .i64 (N : Int), v] w fun e w' => e = .returned (.bool true) ∧ Ext w w' := by
  obtain ⟨A, c, rfl, hlc, hcm⟩ := hr.slice_
  have d1 : decide ((N : Int) < 1) = false := decide_eq_false (by omega)
  have d2 : decide (600 < (N : Int)) = false := decide_eq_false (by omega)
  go_enter Try.func3, Try.ntmps3
  go_wp2_with fail
  refine (alive7_any w).mono ?_
  rintro e w1 ⟨rfl, hx1⟩
  go_wp2_with fail
  refine (fewJ_any l _ _ (hr.ext hx1)).mono ?_
  rintro e w1' ⟨rfl, rfl⟩
  rw [hf]
  go_wp2_with fail
  refine (DkNew_yes N w1 hN1 (by omega)).mono ?_
  rintro e w2 ⟨g, rfl, hd2, hx2⟩
  go_wp2_with fail
  refine (RkNew N w2 (by omega)).mono ?_
  rintro e w3 ⟨r, rfl, hk3, hx3⟩
  have hd3 := Dk.ext hd2 hx3
  clear hd2
  go_wp2_with fail
  refine (JnOpen_no _ g _ w3 hd3 (by simp; omega)).mono ?_
  rintro e w4 ⟨rfl, hx4⟩
  have hk4 := hk3.ext0 hx4
  clear hd3 hk3
  go_wp2_with fail
  refine (RefJOpen_no _ r _ w4 hk4 (by simp; omega)).mono ?_
  rintro e w5 ⟨rfl, hx5⟩
  have hx := hx1.trans (((hx2.trans hx3).trans hx4).trans hx5)
  clear hk4 hx2 hx3 hx4 hx5
  have kc := fun (w : World) (C : Array Value) (n c : Nat) => Lib.run_convert_bytes_const (P := Try.prog) w 30 5 C n c Try.underlying30 Try.underlying5
  have lit : ∀ w : World, Rd (w.alloc (.cells #[.int .u8 97] 5 (1, 2))) (.slice (some ⟨w.heap.size, 0, none⟩) 1 1) (([97] : List UInt8).map B) := fun w => (RdF.litJ w [97] #[.int .u8 97] 5 1 w.heap.size (1, 2) (by decide) (lit1 97) rfl rfl).rd
  have HL := Lib.hid lit
  have exl : ∀ w : World, Ext w (w.alloc (.cells #[.int .u8 97] 5 (1, 2))) := fun w => (Below.refl _ _).alloc (Nat.le_refl _) _
  have HX := Lib.hid exl
  have HXX := Lib.hid hx
  clear lit exl hx
  go_wp2_with fail
  refine (JnAppend_nil [97] _ _ (HL.out _)).mono ?_
  rintro e w6 ⟨rfl, hx6⟩
  go_wp2_with fail
  refine (JnStart_nil [97] _ _ (HL.out _)).mono ?_
  rintro e w7 ⟨rfl, hx7⟩
  go_wp2_with fail
  refine (JnCompact_nil _ _).mono ?_
  rintro e w8 ⟨rfl, hx8⟩
  go_wp2_with fail
  refine (JnCount_nil _).mono ?_
  rintro e w9 ⟨rfl, hx9⟩
  go_wp2_with fail
  refine (JnRoom_nil _ _).mono ?_
  rintro e w10 ⟨rfl, hx10⟩
  clear kc
  go_wp2
  go_ret
  exact ⟨rfl, HXX.out.trans (((((HX.out _).trans hx6).trans ((HX.out _).trans hx7)).trans hx8).trans (hx9.trans hx10))⟩

end Go.Proofs.Ytdcmjmanalijfaa
