/- Texts that the proof of OpsW rests on, one behind the other. -/
import Derived.Test.YtngenbolpnckhaaDoorOpsWQ3
import Derived.Test.YtngenbolpnckhaaDoorRows
import Derived.Deep.QuietTactic
import Derived.BigQuiet
import Derived.Laws.ResultCell
import Derived.Laws.CopyOwn
import Derived.Handy

/- The reference's layer 1: the list at a place. -/
namespace Go.Proofs.YtngenbolpnckhaaDoor
open Go.RowKit

/-- The reference's GetList while it goes: i numbers have been taken, the next one stands at q. -/
def RGL (bs : List UInt8) (p0 c : Nat) (w : World) (v' q' i' : Value) (wr : World) : Prop :=
  ∃ (i q : Nat) (ns : List Nat), i' = .int .i64 i ∧ q' = .int .i64 q ∧ i ≤ c ∧ q ≤ bs.length ∧ i ≤ q ∧ ns.length = i ∧ readK c bs p0 = (readK (c - i) bs q).map (fun r => (ns ++ r.1, r.2)) ∧
    Grew w.heap.size 3 (.slice none 0 0) w (ns.map fun (n : Nat) => Value.int .i64 n) v' wr

set_option maxHeartbeats 2000000 in
theorem RefGetList_at (bs : List UInt8) (v : Value) (p c j : Nat) (most : Int) (w : World) (hr : Rd w v (bs.map B)) (hp63 : p < 9223372036854775808) (h : getN (bs.drop p) = some (c, j)) (hc : (c : Int) ≤ most) (hlen : bs.length ≤ 1099511627776) :
    Calls Tryd.prog 24 #[v, .int .i64 p, .int .i64 most] w (GLPost (readK c bs (p + j)) w) := by
  have hj := getN_le h
  rw [List.length_drop] at hj
  have H := Lib.hid h
  clear h
  go_enter Tryd.func24, Tryd.ntmps24
  go_wp2_with (first | (go_at_call 41; refine (RefGetNum_some bs _ p c j _ hr (by omega) H.out).mono ?_; rintro e w1 ⟨rfl, hx1⟩))
  go_loopw [12, 10, 13] (fun v' q' i' wr => RGL bs (p + j) c w1 v' q' i' wr) (fun _ _ i' _ => c - (intOf i').toNat)
  case atStart => exact ⟨0, p + j, [], rfl, by go_num, by omega, by omega, by omega, rfl, by simp, Grew.nil w1⟩
  case round =>
    obtain ⟨i, q, ns, rfl, rfl, hic, hq, hiq, hns, hrd, hg⟩ := hrel
    have hr1 := hr.ext (hx1.trans hg.ext)
    by_cases hlt : i < c
    · rw [show c - i = (c - (i + 1)) + 1 by omega, readK] at hrd
      rcases hgn : getN (bs.drop q) with _ | ⟨n, j2⟩
      · rw [hgn] at hrd
        have HG := Lib.hid hgn
        have HRD : Hid (readK c bs (p + j) = none) := by unfold Hid; simpa using hrd
        clear hgn hrd hns
        go_wp2_with (first | (go_at_call 41; refine (RefGetNum_none bs _ q _ hr1 (by omega) HG.out).mono ?_; rintro e w2 ⟨rfl, hx2⟩))
        go_ret3
        rw [HRD.out]
        exact ⟨rfl, (hx1.trans hg.ext).trans hx2⟩
      · rw [hgn] at hrd
        have hj2 := getN_le hgn
        rw [List.length_drop] at hj2
        have HG := Lib.hid hgn
        have HRD : Hid (readK c bs (p + j) = Option.map (fun r => ((ns ++ [n]) ++ r.1, r.2)) (readK (c - (i + 1)) bs (q + j2))) := by
          unfold Hid
          rw [hrd]
          rcases h : readK (c - (i + 1)) bs (q + j2) with _ | ⟨a, b⟩ <;> simp [h]
        have hns2 : Hid ((ns ++ [n]).length = i + 1) := by unfold Hid; simp [hns]
        have hll : (ns.map fun (n : Nat) => Value.int .i64 n).length < 17592186044416 := by rw [List.length_map, hns]; omega
        clear hgn hrd hns
        go_wp2_with (first | (go_at_call 41; refine (RefGetNum_some bs _ q n j2 _ hr1 (by omega) HG.out).mono ?_; rintro e w2 ⟨rfl, hx2⟩; have hg2 := hg.step hx2; have hb2 := hg2.size) | (at_builtin; refine push_int rfl _ _ rfl w1.heap.size _ _ rfl hg2.1 _ rfl rfl hll hb2 ?_; intro v' w' hg'))
        go_roundw
        case rel => exact ⟨i + 1, q + j2, ns ++ [n], by go_num, by go_num, by omega, by omega, by omega, hns2.out, HRD.out, by simpa using hg2.trans hg'⟩
        case measure => simp [intOf]; omega
    · obtain rfl : i = c := by omega
      have HRD := Lib.hid hrd
      have HNS := Lib.hid hns
      clear hrd hns
      go_wp2
      go_ret3
      rw [HRD.out, Nat.sub_self, readK]
      refine ⟨_, rfl, ?_, hx1.trans hg.ext⟩
      have := hg.rebase
      simp only [List.append_nil, List.length_map] at this ⊢
      refine ⟨this.1, ?_⟩
      rcases this.2 with h | ⟨g, cap, cur, hv, hgg, r⟩
      · exact .inl h
      · exact .inr ⟨g, cap, cur, hv, Nat.le_trans hx1.size hgg, r⟩

theorem RefGetList_first (bs : List UInt8) (v : Value) (p : Nat) (most : Int) (w : World) (hr : Rd w v (bs.map B)) (hp63 : p < 9223372036854775808) (h : getN (bs.drop p) = none) :
    Calls Tryd.prog 24 #[v, .int .i64 p, .int .i64 most] w fun e w' => e = .returned (.tuple #[.slice none 0 0, .int .i64 0, .bool false]) ∧ Ext w w' := by
  have H := Lib.hid h
  clear h
  go_enter Tryd.func24, Tryd.ntmps24
  go_wp2_with (first | (go_at_call 41; refine (RefGetNum_none bs _ p _ hr (by omega) H.out).mono ?_; rintro e w1 ⟨rfl, hx1⟩))
  go_ret3
  exact ⟨rfl, hx1⟩

theorem RefGetList_many (bs : List UInt8) (v : Value) (p c j : Nat) (most : Int) (w : World) (hr : Rd w v (bs.map B)) (hp63 : p < 9223372036854775808) (h : getN (bs.drop p) = some (c, j)) (hc : ¬ (c : Int) ≤ most) :
    Calls Tryd.prog 24 #[v, .int .i64 p, .int .i64 most] w fun e w' => e = .returned (.tuple #[.slice none 0 0, .int .i64 0, .bool false]) ∧ Ext w w' := by
  have H := Lib.hid h
  clear h
  go_enter Tryd.func24, Tryd.ntmps24
  go_wp2_with (first | (go_at_call 41; refine (RefGetNum_some bs _ p c j _ hr (by omega) H.out).mono ?_; rintro e w1 ⟨rfl, hx1⟩))
  go_ret3
  exact ⟨rfl, hx1⟩

theorem RefGetList_neg (bs : List UInt8) (v : Value) (p : Int) (most : Int) (w : World) (hr : Rd w v (bs.map B)) (hp : p < 0) :
    Calls Tryd.prog 24 #[v, .int .i64 p, .int .i64 most] w fun e w' => e = .returned (.tuple #[.slice none 0 0, .int .i64 0, .bool false]) ∧ Ext w w' := by
  have hR := Lib.hid hr
  clear hr
  go_enter Tryd.func24, Tryd.ntmps24
  go_wp2_with (first | (go_at_call 41; refine (RefGetNum_neg _ _ p _ hR.out hp).mono ?_; rintro e w1 ⟨rfl, rfl⟩))
  go_ret3
  exact ⟨rfl, Ext.refl _⟩

theorem RefGetList_any (bs : List UInt8) (v : Value) (p : Nat) (most : Int) (w : World) (hr : Rd w v (bs.map B)) (hp63 : p < 9223372036854775808) (hlen : bs.length ≤ 1099511627776) :
    Calls Tryd.prog 24 #[v, .int .i64 p, .int .i64 most] w (GLPost (listAt bs p most) w) := by
  unfold listAt
  rcases h : getN (bs.drop p) with _ | ⟨c, j⟩
  · exact RefGetList_first bs v p most w hr hp63 h
  · by_cases hc : (c : Int) ≤ most
    · simp only [hc, if_true]
      exact RefGetList_at bs v p c j most w hr hp63 h hc hlen
    · simp only [hc, if_false]
      exact RefGetList_many bs v p c j most w hr hp63 h hc

end Go.Proofs.YtngenbolpnckhaaDoor

/- The reference's words for 'the same bytes'. -/
namespace Go.Proofs.YtngenbolpnckhaaDoor
open Go.RowKit

set_option maxHeartbeats 1000000 in
theorem Bytes_any (xs ys : List UInt8) (u v : Value) (w : World) (hu : Rd w u (xs.map B)) (hv : Rd w v (ys.map B)) :
    Calls Tryd.prog 13 #[u, v] w fun e w' => e = .returned (.bool (decide (xs = ys))) ∧ ∃ n, w' = w.drewN n := by
  obtain ⟨A, c, rfl, hlc, hcm, hca⟩ := hu
  obtain ⟨A', c', rfl, hlc', hcm', hcb⟩ := hv
  simp only [List.length_map] at *
  unfold maxLen at hcm hcm'
  by_cases hl : xs.length = ys.length
  · have HL := Lib.hid hl
    rw [hl] at hlc hca ⊢
    clear hl
    go_enter Tryd.func13, Tryd.ntmps13
    go_wp2
    go_loopw [5] (fun i' wr => ∃ i k : Nat, i' = .int .i64 i ∧ i ≤ ys.length ∧ xs.take i = ys.take i ∧ wr = w.drewN k) (fun i' _ => ys.length - (intOf i').toNat)
    case atStart => exact ⟨0, 0, rfl, by omega, rfl, rfl⟩
    case round =>
      obtain ⟨i, k, rfl, hi, htk, rfl⟩ := hrel
      have HT := Lib.hid htk
      clear htk
      by_cases hlt : i < ys.length
      · have hlx : i < xs.length := by have := HL.out; omega
        obtain ⟨b, o, rfl, hb, hc1⟩ := hca (by omega)
        obtain ⟨b', o', rfl, hb', hc2⟩ := hcb (by omega)
        have e1 : w.cell? ⟨b, o + i, none⟩ = some (B xs[i]) := hc1 i _ (by simp [hlx])
        have e2 : w.cell? ⟨b', o' + i, none⟩ = some (B ys[i]) := hc2 i _ (by simp [hlt])
        clear hc1 hc2 hca hcb
        generalize hx : xs[i] = x at e1
        generalize hy : ys[i] = y at e2
        have HX := Lib.hid hx
        have HY := Lib.hid hy
        clear hx hy
        simp only [B] at e1 e2
        by_cases hxy : x = y
        · subst hxy
          go_wp2
          go_quiet (fail)
          go_wp2
          go_roundw
          case rel => exact ⟨i + 1, _, by go_num, by omega, by rw [take_snoc _ _ hlx, take_snoc _ _ hlt, HT.out, HX.out, HY.out], rfl⟩
          case measure => simp [intOf]; omega
        · have hne : ((x.toNat : Int) == (y.toNat : Int)) = false := by rw [beq_eq_false_iff_ne]; intro e; exact hxy (by first | exact UInt8.toNat_inj.1 (by omega) | omega)
          have hne2 : ((x.toNat : Int) != (y.toNat : Int)) = true := by rw [bne_iff_ne]; intro e; exact hxy (by first | exact UInt8.toNat_inj.1 (by omega) | omega)
          have HN := Lib.hid hxy
          clear hxy
          go_wp2
          go_quiet (fail)
          go_wp2
          go_ret
          refine ⟨?_, _, World.drewN_drewN _ _ _⟩
          rw [decide_eq_false (fun e => HN.out (by rw [← HX.out, ← HY.out]; simp only [e]))]
          rfl
      · obtain rfl : i = ys.length := by omega
        go_wp2
        go_ret
        refine ⟨?_, _, rfl⟩
        have := HT.out
        rw [List.take_length, ← HL.out, List.take_length] at this
        rw [decide_eq_true this]
        rfl
  · have hlb : ((xs.length : Int) == (ys.length : Int)) = false := by rw [beq_eq_false_iff_ne]; omega
    have H := Lib.hid hl
    clear hl
    go_enter Tryd.func13, Tryd.ntmps13
    go_wp2
    go_ret
    exact ⟨by rw [decide_eq_false (fun e => H.out (by rw [e]))]; rfl, 0, rfl⟩

end Go.Proofs.YtngenbolpnckhaaDoor

/- Layer 8, the reference: the op of bytes. -/
namespace Go.Proofs.YtngenbolpnckhaaDoor
open Go.RowKit

theorem rd_tail {w : World} {A : Option Addr} {N c : Nat} {x : Value} {xs : List Value} (h : Rd w (.slice A N c) (x :: xs)) : ∃ b o, A = some ⟨b, o, none⟩ ∧ N = xs.length + 1 ∧ xs.length + 1 ≤ c ∧ b < w.heap.size ∧ w.cell? ⟨b, o, none⟩ = some x ∧
    Rd w (.slice (if c = 1 then some ⟨b, o, none⟩ else some ⟨b, o + 1, none⟩) xs.length (c - 1)) xs := by
  have h0 := h
  obtain ⟨A', c', e, h1, h2, h3⟩ := h
  cases e
  obtain ⟨b, o, rfl, q2, q3⟩ := h3 (by simp)
  refine ⟨b, o, rfl, by simp, by simpa using h1, q2, by simpa using q3 0 x rfl, ?_⟩
  have := h0.cut 1 xs.length (by simp; omega)
  simpa [List.take_of_length_le, Addr.add_lit] using this

set_option maxRecDepth 100000 in
theorem run_get {fn : Func} (hf : fn.results = #[.cell 2 23, .tmp 3]) {tmps : Array Value} {w : World} {g : Nat} {cs : Array Value} (ha : tmps.getD 2 undef = .pointer (some ⟨g, 0, none⟩)) (hb : Blk w g 23 cs)
    (hi : (Tryd.prog.info? 23).map (·.size) = some cs.size) : (results fn tmps).run Tryd.prog w = .ok (.tuple #[.agg cs, tmps.getD 3 undef]) w := by
  rw [results_cell_tmp hf, ha]
  simp only [asAddr, Sem.run_pure, Result.andThen_ok, run_loadVar_row w g 23 23 cs (0, 0) _ hb rfl rfl hi]
theorem info7 : (Tryd.prog.info? 23).map (·.size) = some 7 := by kernel_rfl
theorem set7 {w2 : World} {g : Nat} {t : TypeId} {z0 z1 z2 z3 z4 z5 z6 : Value} (h : Blk w2 g t #[z0, z1, z2, z3, z4, z5, z6]) (v0 v1 v2 v3 v4 v5 v6 : Value) : Blk (((((((w2.setCell ⟨g, 0, none⟩ v0).setCell ⟨g, 1, none⟩ v1).setCell ⟨g, 2, none⟩ v2).setCell ⟨g, 3, none⟩ v3).setCell ⟨g, 4, none⟩ v4).setCell ⟨g, 5, none⟩ v5).setCell ⟨g, 6, none⟩ v6) g t #[v0, v1, v2, v3, v4, v5, v6] := by
  have b0 : Blk _ g t #[v0, z1, z2, z3, z4, z5, z6] := h.set_ 0 v0
  have b1 : Blk _ g t #[v0, v1, z2, z3, z4, z5, z6] := b0.set_ 1 v1
  have b2 : Blk _ g t #[v0, v1, v2, z3, z4, z5, z6] := b1.set_ 2 v2
  have b3 : Blk _ g t #[v0, v1, v2, v3, z4, z5, z6] := b2.set_ 3 v3
  have b4 : Blk _ g t #[v0, v1, v2, v3, v4, z5, z6] := b3.set_ 4 v4
  have b5 : Blk _ g t #[v0, v1, v2, v3, v4, v5, z6] := b4.set_ 5 v5
  have b6 : Blk _ g t #[v0, v1, v2, v3, v4, v5, v6] := b5.set_ 6 v6
  exact b6
theorem far1 {w : World} {b o g i : Nat} {u : Value} (h : w.cell? ⟨b, o, none⟩ = some u) (hn : b ≠ g) (v : Value) : (w.setCell ⟨g, i, none⟩ v).cell? ⟨b, o, none⟩ = some u :=
  (World.cell?_of_block (w := w) (Below.heap_setCell w ⟨g, i, none⟩ v b hn)).trans h
theorem far7 {w : World} {b o g : Nat} {u : Value} (h : w.cell? ⟨b, o, none⟩ = some u) (hn : b ≠ g) (v0 v1 v2 v3 v4 v5 v6 : Value) : (((((((w.setCell ⟨g, 0, none⟩ v0).setCell ⟨g, 1, none⟩ v1).setCell ⟨g, 2, none⟩ v2).setCell ⟨g, 3, none⟩ v3).setCell ⟨g, 4, none⟩ v4).setCell ⟨g, 5, none⟩ v5).setCell ⟨g, 6, none⟩ v6).cell? ⟨b, o, none⟩ = some u :=
  far1 (far1 (far1 (far1 (far1 (far1 (far1 h hn v0) hn v1) hn v2) hn v3) hn v4) hn v5) hn v6
theorem ext_drew {B : Nat} {a w : World} (h : Below B a w) : Below B a w.drew := Below.drewN' h 1
theorem ext7 {w w2 : World} {g : Nat} (h : Below w.heap.size w w2) (hg : w.heap.size ≤ g) (v0 v1 v2 v3 v4 v5 v6 : Value) : Below w.heap.size w (((((((w2.setCell ⟨g, 0, none⟩ v0).setCell ⟨g, 1, none⟩ v1).setCell ⟨g, 2, none⟩ v2).setCell ⟨g, 3, none⟩ v3).setCell ⟨g, 4, none⟩ v4).setCell ⟨g, 5, none⟩ v5).setCell ⟨g, 6, none⟩ v6) :=
  ((((((h.setCell hg v0).setCell hg v1).setCell hg v2).setCell hg v3).setCell hg v4).setCell hg v5).setCell hg v6
set_option maxRecDepth 100000 in
theorem end7' {fn : Func} (hf : fn.results = #[.cell 2 23, .tmp 3]) {w9 : World} {g : Nat} {v0 v1 v2 v3 v4 v5 v6 : Value} (h : Blk w9 g 23 #[v0, v1, v2, v3, v4, v5, v6]) (a : Act)
    (ha : a.tmps.getD 2 undef = .pointer (some ⟨g, 0, none⟩)) (hd : a.defers = []) {R : Ending → World → Prop} (hR : R (.returned (.tuple #[.agg #[v0, v1, v2, v3, v4, v5, v6], a.tmps.getD 3 undef])) w9) :
    bodyPost Tryd.prog fn R Exit.ret a w9 := by
  have hrun := run_get hf ha h info7
  exact bodyPost_ret hrun hd hR
set_option maxRecDepth 100000 in
theorem end7 {fn : Func} (hf : fn.results = #[.cell 2 23, .tmp 3]) {w w2 : World} {z0 z1 z2 z3 z4 z5 z6 : Value} (h : Blk w2 w.heap.size 23 #[z0, z1, z2, z3, z4, z5, z6]) (hx : Ext w w2) (a : Act)
    (ha : a.tmps.getD 2 undef = .pointer (some ⟨w.heap.size, 0, none⟩)) (hd : a.defers = []) (v0 v1 v2 v3 v4 v5 v6 : Value) {R : Ending → World → Prop} (hR : ∀ w9, Ext w w9 → R (.returned (.tuple #[.agg #[v0, v1, v2, v3, v4, v5, v6], a.tmps.getD 3 undef])) w9) :
    bodyPost Tryd.prog fn R Exit.ret a (((((((w2.setCell ⟨w.heap.size, 0, none⟩ v0).setCell ⟨w.heap.size, 1, none⟩ v1).setCell ⟨w.heap.size, 2, none⟩ v2).setCell ⟨w.heap.size, 3, none⟩ v3).setCell ⟨w.heap.size, 4, none⟩ v4).setCell ⟨w.heap.size, 5, none⟩ v5).setCell ⟨w.heap.size, 6, none⟩ v6) :=
  end7' hf (set7 h v0 v1 v2 v3 v4 v5 v6) a ha hd (hR _ (ext7 hx (Nat.le_refl _) v0 v1 v2 v3 v4 v5 v6))

end Go.Proofs.YtngenbolpnckhaaDoor

/- Layer 8, the reference: the op of bytes. -/
namespace Go.Proofs.YtngenbolpnckhaaDoor
open Go.RowKit

theorem blk7 {w : World} {g h : Nat} {t : TypeId} {cs : Array Value} (hb : Blk w g t cs) (hn : g ≠ h) (v0 v1 v2 v3 v4 v5 v6 : Value) : Blk (((((((w.setCell ⟨h, 0, none⟩ v0).setCell ⟨h, 1, none⟩ v1).setCell ⟨h, 2, none⟩ v2).setCell ⟨h, 3, none⟩ v3).setCell ⟨h, 4, none⟩ v4).setCell ⟨h, 5, none⟩ v5).setCell ⟨h, 6, none⟩ v6) g t cs :=
  ((((((hb.far (p := ⟨h, 0, none⟩) hn v0).far (p := ⟨h, 1, none⟩) hn v1).far (p := ⟨h, 2, none⟩) hn v2).far (p := ⟨h, 3, none⟩) hn v3).far (p := ⟨h, 4, none⟩) hn v4).far (p := ⟨h, 5, none⟩) hn v5).far (p := ⟨h, 6, none⟩) hn v6

set_option maxRecDepth 100000 in
set_option maxHeartbeats 4000000 in
theorem RefGet08 (bs : List UInt8) (v : Value) (w : World) (hr : Rd w v (bs.map B)) (hlen : bs.length ≤ 1099511627776) :
    Calls Tryd.prog 10 #[v] w fun e w' => ∃ o ok, e = .returned (.tuple #[opV o, .bool ok]) ∧ GetO bs o ok ∧ Ext w w' := by
  have HR := Lib.hid hr
  have HLN := Lib.hid hlen
  obtain ⟨A, c, rfl, hlc, hcm⟩ := hr.sliceN (n := bs.length) (List.length_map _)
  have hE : Ext w (w.alloc (.cells #[.int .i64 0, .int .i64 0, .int .i64 0, .int .i64 0, .int .i64 0, .int .i64 0, .int .i64 0] 23)) := (Below.refl _ _).alloc (Nat.le_refl _) _
  have HE := Lib.hid hE
  have HBK := Lib.hid (Blk.new w 23 #[.int .i64 0, .int .i64 0, .int .i64 0, .int .i64 0, .int .i64 0, .int .i64 0, .int .i64 0])
  clear hr hlen hE
  go_enter Tryd.func10, Tryd.ntmps10
  go_wp2_with fail
  refine (RefGetList_any bs _ 0 7 _ (HR.out.ext HE.out) (by decide) HLN.out).mono ?_
  intro e w2 hgl
  rcases hL : listAt bs 0 7 with _ | ⟨l, q⟩
  · rw [hL] at hgl
    obtain ⟨rfl, hx2⟩ := hgl
    have HG := Lib.hid (get_none hL)
    have HB2 := Lib.hid (HBK.out.ext hx2)
    have HX := Lib.hid (HE.out.trans hx2)
    clear hL hx2
    obtain ⟨c0, c1, c2, c3, c4, c5, c6⟩ := box_cells HB2.out
    have f0 := HB2.out.frozen 0
    have f1 := HB2.out.frozen 1
    have f2 := HB2.out.frozen 2
    have f3 := HB2.out.frozen 3
    have f4 := HB2.out.frozen 4
    have f5 := HB2.out.frozen 5
    have f6 := HB2.out.frozen 6
    go_wp2_with fail
    refine end7 rfl HB2.out HX.out _ rfl ?_ _ _ _ _ _ _ _ ?_
    · rfl
    · intro w9 hx9
      exact ⟨zeroO, false, rfl, HG.out, hx9⟩
  · rw [hL] at hgl
    obtain ⟨v2, rfl, hown, hx2⟩ := hgl
    have hrd := Rd.own hown
    have HB2 := Lib.hid (HBK.out.ext hx2)
    have HX := Lib.hid (HE.out.trans hx2)
    rcases l with _ | ⟨k, l⟩
    · have HG := Lib.hid (get_nil hL)
      obtain ⟨A2, c2, rfl, -, -⟩ := hrd.sliceN (n := 0) rfl
      clear hL hx2 hown hrd
      obtain ⟨c0, c1, c2', c3, c4, c5, c6⟩ := box_cells HB2.out
      have f0 := HB2.out.frozen 0
      have f1 := HB2.out.frozen 1
      have f2 := HB2.out.frozen 2
      have f3 := HB2.out.frozen 3
      have f4 := HB2.out.frozen 4
      have f5 := HB2.out.frozen 5
      have f6 := HB2.out.frozen 6
      go_wp2_with fail
      refine end7 rfl HB2.out HX.out _ rfl ?_ _ _ _ _ _ _ _ ?_
      · rfl
      · intro w9 hx9
        exact ⟨zeroO, false, rfl, HG.out, hx9⟩
    · have hm : ((k :: l).map fun (n : Nat) => Value.int .i64 n) = Value.int .i64 (k : Int) :: ((l.map fun (n : Nat) => (n : Int)).map I) := by
        rw [List.map_cons, List.map_map]
        rfl
      rw [hm] at hrd
      obtain ⟨A2, c2, rfl, -, -⟩ := hrd.sliceN (n := l.length + 1) (by simp)
      obtain ⟨b2, o2, rfl, -, hcc, hb2, hc2, hrt⟩ := rd_tail hrd
      simp only [List.length_map] at hcc hrt
      have HL := Lib.hid hL
      have HRT := Lib.hid hrt
      have hq0 : ((0 : Int) ≤ (l.length : Int) + 1) := by omega
      have hq1 : ((1 : Int) ≤ (l.length : Int) + 1) := by omega
      have hq2 : (((l.length : Int) + 1) == 0) = false := by rw [beq_eq_false_iff_ne]; omega
      have hq3 : ((l.length : Int) + 1) ≤ (c2 : Int) := by omega
      have HC2 := Lib.hid hc2
      clear hL hx2 hown hrd hrt hm
      have HKO : Hid (∀ W, Ext w2 W → Calls Tryd.prog 25 #[.int .i64 (k : Int), .slice (if c2 = 1 then some ⟨b2, o2, none⟩ else some ⟨b2, o2 + 1, none⟩) l.length (c2 - 1)] W fun e w' => e = .returned (opV (opOf (k : Int) (l.map fun (n : Nat) => (n : Int)))) ∧ Ext w2 w' ∧ Ext W w') := Lib.hid fun W hW =>
        (RefOf08 (k : Int) (l.map fun (n : Nat) => (n : Int)) _ W (HRT.out.ext hW)).mono (by rintro e w' ⟨rfl, h⟩; exact ⟨rfl, hW.trans h, h⟩)
      generalize ho : opOf (k : Int) (l.map fun (n : Nat) => (n : Int)) = o at *
      obtain ⟨a0, a1, a2, a3, a4, a5, a6⟩ := o
      have HO := Lib.hid ho
      clear ho
      rw [show opV (a0, a1, a2, a3, a4, a5, a6) = .agg #[.int .i64 a0, .int .i64 a1, .int .i64 a2, .int .i64 a3, .int .i64 a4, .int .i64 a5, .int .i64 a6] from rfl] at HKO
      by_cases hc1 : c2 = 1
      · subst hc1
        rw [if_pos rfl, show l.length = 0 by omega, Nat.sub_self] at HKO
        go_wp2_with fail
        have c0 := HC2.out
        go_region_with (first | (go_at_call 25; (first | (with_reducible refine (HKO.out _ (Ext.refl _)).mono ?_) | (with_reducible refine (HKO.out _ (ext_drew (Ext.refl w2))).mono ?_) | (with_reducible refine (HKO.out _ (ext_drew (Below.alloc (Ext.refl w2) (Nat.le_refl _) _))).mono ?_) | (with_reducible refine (HKO.out _ (Below.alloc (ext_drew (Ext.refl w2)) (Nat.le_refl _) _)).mono ?_)); rintro e3 w3 ⟨rfl, hx3, hy3⟩; have d0 := (Ext.cellOf hx3 HC2.out hb2); (first | (have HN3 : Blk w3 w2.heap.size 23 #[.int .i64 0, .int .i64 0, .int .i64 0, .int .i64 0, .int .i64 0, .int .i64 0, .int .i64 0] := Blk.ext (Blk.drew_ (Blk.new w2 23 _)) hy3; obtain ⟨n0, n1, n2, n3, n4, n5, n6⟩ := box_cells HN3; have g0 := HN3.frozen 0; have g1 := HN3.frozen 1; have g2 := HN3.frozen 2; have g3 := HN3.frozen 3; have g4 := HN3.frozen 4; have g5 := HN3.frozen 5; have g6 := HN3.frozen 6; have HN := Lib.hid HN3; clear HN3) | skip); have HB3 := Lib.hid (HB2.out.ext hx3); have HX3 := Lib.hid (HX.out.trans hx3)))
        all_goals
          rename_i K Q' hK
          refine hK _ _ ?_
          clear hK
          first
            | (have hb9 := set7 HN.out (.int .i64 a0) (.int .i64 a1) (.int .i64 a2) (.int .i64 a3) (.int .i64 a4) (.int .i64 a5) (.int .i64 a6); have hne := Nat.ne_of_lt HB2.out.lt; have HB9 := Lib.hid (blk7 HB3.out hne (.int .i64 a0) (.int .i64 a1) (.int .i64 a2) (.int .i64 a3) (.int .i64 a4) (.int .i64 a5) (.int .i64 a6)); have HX9 := Lib.hid (ext7 HX3.out (Nat.le_of_lt HB2.out.lt) (.int .i64 a0) (.int .i64 a1) (.int .i64 a2) (.int .i64 a3) (.int .i64 a4) (.int .i64 a5) (.int .i64 a6)); generalize (((((((w3.setCell ⟨w2.heap.size, 0, none⟩ (.int .i64 a0)).setCell ⟨w2.heap.size, 1, none⟩ (.int .i64 a1)).setCell ⟨w2.heap.size, 2, none⟩ (.int .i64 a2)).setCell ⟨w2.heap.size, 3, none⟩ (.int .i64 a3)).setCell ⟨w2.heap.size, 4, none⟩ (.int .i64 a4)).setCell ⟨w2.heap.size, 5, none⟩ (.int .i64 a5)).setCell ⟨w2.heap.size, 6, none⟩ (.int .i64 a6)) = w9 at hb9 HB9 HX9 ⊢; clear hne; generalize w2.heap.size = g at hb9 ⊢)
            | (have hb9 := Blk.new w3 23 #[.int .i64 a0, .int .i64 a1, .int .i64 a2, .int .i64 a3, .int .i64 a4, .int .i64 a5, .int .i64 a6]; have hx9 : Ext w3 (w3.alloc (.cells #[.int .i64 a0, .int .i64 a1, .int .i64 a2, .int .i64 a3, .int .i64 a4, .int .i64 a5, .int .i64 a6] 23)) := (Below.refl _ _).alloc (Nat.le_refl _) _; have HB9 := Lib.hid (HB3.out.ext hx9); have HX9 := Lib.hid (HX3.out.trans hx9); clear hx9; generalize w3.alloc (.cells #[.int .i64 a0, .int .i64 a1, .int .i64 a2, .int .i64 a3, .int .i64 a4, .int .i64 a5, .int .i64 a6] 23) = w9 at hb9 HB9 HX9 ⊢; generalize w3.heap.size = g at hb9 ⊢)
          clear hx3 hy3 d0
          obtain ⟨m0, m1, m2, m3, m4, m5, m6⟩ := box_cells hb9
          have hlt9 := hb9.lt
          go_wp2_with fail
          refine (RefPut08 (a0, a1, a2, a3, a4, a5, a6) w9).mono ?_
          rintro e w10 ⟨v10, rfl, hr10, hx10⟩
          have HB10 := Lib.hid (HB9.out.ext hx10)
          have HX10 := Lib.hid (show Ext w w10 from Ext.trans HX9.out hx10)
          have hb10 := hb9.ext hx10
          clear hb9 HB9 HX9 m0 m1 m2 m3 m4 m5 m6 hlt9
          obtain ⟨pn, hpn⟩ : ∃ n, (putO (a0, a1, a2, a3, a4, a5, a6)).length = n := ⟨_, rfl⟩
          have HR10 := Lib.hid hr10
          obtain ⟨A10, c10, rfl, -, -⟩ := hr10.sliceN (n := pn) (by rw [List.length_map, hpn])
          clear hr10 hx10
          by_cases hp : putO (a0, a1, a2, a3, a4, a5, a6) = []
          · obtain rfl : pn = 0 := by rw [← hpn, hp]; rfl
            have HG : Hid (GetO bs zeroO false) := Lib.hid (get_empty HL.out (by rw [HO.out]; exact hp))
            clear hp hpn
            obtain ⟨c0, c1, c2', c3, c4, c5, c6⟩ := box_cells HB10.out
            have f0 := HB10.out.frozen 0
            have f1 := HB10.out.frozen 1
            have f2 := HB10.out.frozen 2
            have f3 := HB10.out.frozen 3
            have f4 := HB10.out.frozen 4
            have f5 := HB10.out.frozen 5
            have f6 := HB10.out.frozen 6
            go_wp2_with fail
            refine end7 rfl HB10.out HX10.out _ rfl ?_ _ _ _ _ _ _ _ ?_
            · rfl
            · intro w9 hx9
              exact ⟨zeroO, false, rfl, HG.out, hx9⟩
          · have hq : ((pn : Int) == 0) = false := by
              rw [beq_eq_false_iff_ne]
              intro e0
              have : pn = 0 := by omega
              rw [this] at hpn
              exact hp (List.length_eq_zero_iff.1 hpn)
            have HP := Lib.hid hp
            have HPN := Lib.hid hpn
            clear hp hpn
            go_wp2_with fail
            refine (Bytes_any (putO (a0, a1, a2, a3, a4, a5, a6)) bs _ _ w10 HR10.out (HR.out.ext HX10.out)).mono ?_
            rintro e w11 ⟨rfl, nd, hw11⟩
            have hx11 : Ext w10 w11 := by
              rw [hw11]
              exact Below.drewN' (Ext.refl _) nd
            have HB11 := Lib.hid (HB10.out.ext hx11)
            have HX11 := Lib.hid (HX10.out.trans hx11)
            have hb11 := hb10.ext hx11
            clear hw11 hx11 hb10 HB10 HX10
            obtain ⟨m0, m1, m2, m3, m4, m5, m6⟩ := box_cells hb11
            obtain ⟨c0, c1, c2', c3, c4, c5, c6⟩ := box_cells HB11.out
            have f0 := HB11.out.frozen 0
            have f1 := HB11.out.frozen 1
            have f2 := HB11.out.frozen 2
            have f3 := HB11.out.frozen 3
            have f4 := HB11.out.frozen 4
            have f5 := HB11.out.frozen 5
            have f6 := HB11.out.frozen 6
            clear hb11
            by_cases he : putO (a0, a1, a2, a3, a4, a5, a6) = bs
            · have HG : Hid (GetO bs (a0, a1, a2, a3, a4, a5, a6) true) := Lib.hid (get_same HP.out he)
              rw [decide_eq_true he]
              clear he
              go_wp2_with fail
              refine end7 rfl HB11.out HX11.out _ rfl ?_ _ _ _ _ _ _ _ ?_
              · rfl
              · intro w9 hx9
                exact ⟨(a0, a1, a2, a3, a4, a5, a6), true, rfl, HG.out, hx9⟩
            · have HG : Hid (GetO bs zeroO false) := Lib.hid (get_other HL.out (by rw [HO.out]; exact he))
              rw [decide_eq_false he]
              clear he
              go_wp2_with fail
              refine end7 rfl HB11.out HX11.out _ rfl ?_ _ _ _ _ _ _ _ ?_
              · rfl
              · intro w9 hx9
                exact ⟨zeroO, false, rfl, HG.out, hx9⟩
      · rw [if_neg hc1] at HKO
        go_wp2_with fail
        have c0 := HC2.out
        go_region_with (first | (go_at_call 25; (first | (with_reducible refine (HKO.out _ (Ext.refl _)).mono ?_) | (with_reducible refine (HKO.out _ (ext_drew (Ext.refl w2))).mono ?_) | (with_reducible refine (HKO.out _ (ext_drew (Below.alloc (Ext.refl w2) (Nat.le_refl _) _))).mono ?_) | (with_reducible refine (HKO.out _ (Below.alloc (ext_drew (Ext.refl w2)) (Nat.le_refl _) _)).mono ?_)); rintro e3 w3 ⟨rfl, hx3, hy3⟩; have d0 := (Ext.cellOf hx3 HC2.out hb2); (first | (have HN3 : Blk w3 w2.heap.size 23 #[.int .i64 0, .int .i64 0, .int .i64 0, .int .i64 0, .int .i64 0, .int .i64 0, .int .i64 0] := Blk.ext (Blk.drew_ (Blk.new w2 23 _)) hy3; obtain ⟨n0, n1, n2, n3, n4, n5, n6⟩ := box_cells HN3; have g0 := HN3.frozen 0; have g1 := HN3.frozen 1; have g2 := HN3.frozen 2; have g3 := HN3.frozen 3; have g4 := HN3.frozen 4; have g5 := HN3.frozen 5; have g6 := HN3.frozen 6; have HN := Lib.hid HN3; clear HN3) | skip); have HB3 := Lib.hid (HB2.out.ext hx3); have HX3 := Lib.hid (HX.out.trans hx3)))
        all_goals
          rename_i K Q' hK
          refine hK _ _ ?_
          clear hK
          first
            | (have hb9 := set7 HN.out (.int .i64 a0) (.int .i64 a1) (.int .i64 a2) (.int .i64 a3) (.int .i64 a4) (.int .i64 a5) (.int .i64 a6); have hne := Nat.ne_of_lt HB2.out.lt; have HB9 := Lib.hid (blk7 HB3.out hne (.int .i64 a0) (.int .i64 a1) (.int .i64 a2) (.int .i64 a3) (.int .i64 a4) (.int .i64 a5) (.int .i64 a6)); have HX9 := Lib.hid (ext7 HX3.out (Nat.le_of_lt HB2.out.lt) (.int .i64 a0) (.int .i64 a1) (.int .i64 a2) (.int .i64 a3) (.int .i64 a4) (.int .i64 a5) (.int .i64 a6)); generalize (((((((w3.setCell ⟨w2.heap.size, 0, none⟩ (.int .i64 a0)).setCell ⟨w2.heap.size, 1, none⟩ (.int .i64 a1)).setCell ⟨w2.heap.size, 2, none⟩ (.int .i64 a2)).setCell ⟨w2.heap.size, 3, none⟩ (.int .i64 a3)).setCell ⟨w2.heap.size, 4, none⟩ (.int .i64 a4)).setCell ⟨w2.heap.size, 5, none⟩ (.int .i64 a5)).setCell ⟨w2.heap.size, 6, none⟩ (.int .i64 a6)) = w9 at hb9 HB9 HX9 ⊢; clear hne; generalize w2.heap.size = g at hb9 ⊢)
            | (have hb9 := Blk.new w3 23 #[.int .i64 a0, .int .i64 a1, .int .i64 a2, .int .i64 a3, .int .i64 a4, .int .i64 a5, .int .i64 a6]; have hx9 : Ext w3 (w3.alloc (.cells #[.int .i64 a0, .int .i64 a1, .int .i64 a2, .int .i64 a3, .int .i64 a4, .int .i64 a5, .int .i64 a6] 23)) := (Below.refl _ _).alloc (Nat.le_refl _) _; have HB9 := Lib.hid (HB3.out.ext hx9); have HX9 := Lib.hid (HX3.out.trans hx9); clear hx9; generalize w3.alloc (.cells #[.int .i64 a0, .int .i64 a1, .int .i64 a2, .int .i64 a3, .int .i64 a4, .int .i64 a5, .int .i64 a6] 23) = w9 at hb9 HB9 HX9 ⊢; generalize w3.heap.size = g at hb9 ⊢)
          clear hx3 hy3 d0
          obtain ⟨m0, m1, m2, m3, m4, m5, m6⟩ := box_cells hb9
          have hlt9 := hb9.lt
          go_wp2_with fail
          refine (RefPut08 (a0, a1, a2, a3, a4, a5, a6) w9).mono ?_
          rintro e w10 ⟨v10, rfl, hr10, hx10⟩
          have HB10 := Lib.hid (HB9.out.ext hx10)
          have HX10 := Lib.hid (show Ext w w10 from Ext.trans HX9.out hx10)
          have hb10 := hb9.ext hx10
          clear hb9 HB9 HX9 m0 m1 m2 m3 m4 m5 m6 hlt9
          obtain ⟨pn, hpn⟩ : ∃ n, (putO (a0, a1, a2, a3, a4, a5, a6)).length = n := ⟨_, rfl⟩
          have HR10 := Lib.hid hr10
          obtain ⟨A10, c10, rfl, -, -⟩ := hr10.sliceN (n := pn) (by rw [List.length_map, hpn])
          clear hr10 hx10
          by_cases hp : putO (a0, a1, a2, a3, a4, a5, a6) = []
          · obtain rfl : pn = 0 := by rw [← hpn, hp]; rfl
            have HG : Hid (GetO bs zeroO false) := Lib.hid (get_empty HL.out (by rw [HO.out]; exact hp))
            clear hp hpn
            obtain ⟨c0, c1, c2', c3, c4, c5, c6⟩ := box_cells HB10.out
            have f0 := HB10.out.frozen 0
            have f1 := HB10.out.frozen 1
            have f2 := HB10.out.frozen 2
            have f3 := HB10.out.frozen 3
            have f4 := HB10.out.frozen 4
            have f5 := HB10.out.frozen 5
            have f6 := HB10.out.frozen 6
            go_wp2_with fail
            refine end7 rfl HB10.out HX10.out _ rfl ?_ _ _ _ _ _ _ _ ?_
            · rfl
            · intro w9 hx9
              exact ⟨zeroO, false, rfl, HG.out, hx9⟩
          · have hq : ((pn : Int) == 0) = false := by
              rw [beq_eq_false_iff_ne]
              intro e0
              have : pn = 0 := by omega
              rw [this] at hpn
              exact hp (List.length_eq_zero_iff.1 hpn)
            have HP := Lib.hid hp
            have HPN := Lib.hid hpn
            clear hp hpn
            go_wp2_with fail
            refine (Bytes_any (putO (a0, a1, a2, a3, a4, a5, a6)) bs _ _ w10 HR10.out (HR.out.ext HX10.out)).mono ?_
            rintro e w11 ⟨rfl, nd, hw11⟩
            have hx11 : Ext w10 w11 := by
              rw [hw11]
              exact Below.drewN' (Ext.refl _) nd
            have HB11 := Lib.hid (HB10.out.ext hx11)
            have HX11 := Lib.hid (HX10.out.trans hx11)
            have hb11 := hb10.ext hx11
            clear hw11 hx11 hb10 HB10 HX10
            obtain ⟨m0, m1, m2, m3, m4, m5, m6⟩ := box_cells hb11
            obtain ⟨c0, c1, c2', c3, c4, c5, c6⟩ := box_cells HB11.out
            have f0 := HB11.out.frozen 0
            have f1 := HB11.out.frozen 1
            have f2 := HB11.out.frozen 2
            have f3 := HB11.out.frozen 3
            have f4 := HB11.out.frozen 4
            have f5 := HB11.out.frozen 5
            have f6 := HB11.out.frozen 6
            clear hb11
            by_cases he : putO (a0, a1, a2, a3, a4, a5, a6) = bs
            · have HG : Hid (GetO bs (a0, a1, a2, a3, a4, a5, a6) true) := Lib.hid (get_same HP.out he)
              rw [decide_eq_true he]
              clear he
              go_wp2_with fail
              refine end7 rfl HB11.out HX11.out _ rfl ?_ _ _ _ _ _ _ _ ?_
              · rfl
              · intro w9 hx9
                exact ⟨(a0, a1, a2, a3, a4, a5, a6), true, rfl, HG.out, hx9⟩
            · have HG : Hid (GetO bs zeroO false) := Lib.hid (get_other HL.out (by rw [HO.out]; exact he))
              rw [decide_eq_false he]
              clear he
              go_wp2_with fail
              refine end7 rfl HB11.out HX11.out _ rfl ?_ _ _ _ _ _ _ _ ?_
              · rfl
              · intro w9 hx9
                exact ⟨zeroO, false, rfl, HG.out, hx9⟩

end Go.Proofs.YtngenbolpnckhaaDoor

/- Package ops: the op that is made of a kind and numbers. -/
namespace Go.Proofs.YtngenbolpnckhaaDoor
open Go.RowKit

set_option maxRecDepth 100000 in
theorem end_ct {fn : Func} {p q : Nat} (hf : fn.results = #[.cell p 23, .tmp q]) {w9 : World} {g : Nat} {v0 v1 v2 v3 v4 v5 v6 : Value} (h : Blk w9 g 23 #[v0, v1, v2, v3, v4, v5, v6]) (a : Act)
    (ha : a.tmps.getD p undef = .pointer (some ⟨g, 0, none⟩)) (hd : a.defers = []) {R : Ending → World → Prop} (hR : R (.returned (.tuple #[.agg #[v0, v1, v2, v3, v4, v5, v6], a.tmps.getD q undef])) w9) :
    bodyPost Tryd.prog fn R Exit.ret a w9 := by
  have hrun : (results fn a.tmps).run Tryd.prog w9 = .ok (.tuple #[.agg #[v0, v1, v2, v3, v4, v5, v6], a.tmps.getD q undef]) w9 := by
    rw [results_cell_tmp hf, ha]
    simp only [asAddr, Sem.run_pure, Result.andThen_ok, run_loadVar_row w9 g 23 23 _ (0, 0) _ h rfl rfl info7]
  exact bodyPost_ret hrun hd hR

def zeros6 : List Value := [.int .i64 0, .int .i64 0, .int .i64 0, .int .i64 0, .int .i64 0, .int .i64 0]
theorem splice6 (k : Int) : ∀ (l : List Int), l.length ≤ 6 → splice zeros6 0 (l.map I) = (arrO (opOf k l)).toList
  | [], _ => rfl
  | [_], _ => rfl
  | [_, _], _ => rfl
  | [_, _, _], _ => rfl
  | [_, _, _, _], _ => rfl
  | [_, _, _, _, _], _ => rfl
  | [_, _, _, _, _, _], _ => rfl
  | _ :: _ :: _ :: _ :: _ :: _ :: _ :: _, h => absurd h (by simp)
theorem rd_src {w : World} {A : Option Addr} {N c : Nat} {xs : List Value} (h : Rd w (.slice A N c) xs) : 0 < xs.length → ∃ ad, A = some ad ∧ ∀ j v, xs[j]? = some v → w.cell? (ad.add j) = some v := by
  intro hp
  obtain ⟨b, o, rfl, -, hc⟩ := h.get hp
  exact ⟨_, rfl, fun j v hv => by rw [Addr.add_lit]; exact hc j v hv⟩
theorem Blk.belowS {w w' : World} {B g : Nat} {t : TypeId} {cs : Array Value} (h : Blk w g t cs) (hb : Below B w w') (hg : g < B) : Blk w' g t cs := h.below hb hg

set_option maxRecDepth 100000 in
set_option maxHeartbeats 4000000 in
theorem made_any (k : Int) (l : List Int) (v : Value) (w : World) (hr : Rd w v (l.map I)) (hlen : l.length ≤ 1000000) (hL : Laid w) :
    Calls Tryd.prog 23 #[.int .i64 k, v] w fun e w' => e = .returned (.tuple #[opV (madeO k l), .bool (madeOk k l)]) ∧ Ext w w' := by
  have HKK := Lib.hid fun w' => isKind_any k w'
  have HR := Lib.hid hr
  have HLD := Lib.hid hL
  obtain ⟨A, c, rfl, hlc, hcm⟩ := hr.sliceN (n := l.length) (List.length_map _)
  have hE : Ext w (w.alloc (.cells #[.int .i64 0, .int .i64 0, .int .i64 0, .int .i64 0, .int .i64 0, .int .i64 0, .int .i64 0] 23)) := (Below.refl _ _).alloc (Nat.le_refl _) _
  have hbk := Blk.new w 23 #[.int .i64 0, .int .i64 0, .int .i64 0, .int .i64 0, .int .i64 0, .int .i64 0, .int .i64 0]
  have HE := Lib.hid hE
  have HBK := Lib.hid hbk
  clear hr hL hE hbk
  by_cases h : 1 ≤ k ∧ k ≤ 21
  · obtain ⟨kn, rfl⟩ : ∃ n : Nat, k = (n : Int) := ⟨k.toNat, by omega⟩
    have hk1 : 1 ≤ kn := by omega
    have hk2 : kn < 22 := by omega
    rw [decide_eq_true h] at HKK
    have HM6 := Lib.hid (manyK_le (kn : Int))
    have cc : w.cell? ⟨0, kn, none⟩ = some (.int .i64 (manyK (kn : Int) : Int)) := by
      rw [← cntK_pos hk1]
      exact HLD.out.count kn hk2
    have hltc := HLD.out.ltc
    have hok : madeOk (kn : Int) l = (decide (l.length = manyK (kn : Int)) && rightO (opOf (kn : Int) l)) := by
      unfold madeOk
      by_cases he : l.length = manyK (kn : Int)
      · rw [decide_eq_true ⟨h, he⟩, decide_eq_true he]
      · rw [decide_eq_false (fun x => he x.2), decide_eq_false he]
    have HOK := Lib.hid hok
    clear hok h
    generalize manyK (kn : Int) = mk at *
    obtain ⟨mi, hmi⟩ : ∃ mi : Int, mi = (mk : Int) := ⟨_, rfl⟩
    rw [← hmi] at cc
    have HMI := Lib.hid hmi
    clear hmi
    by_cases he : l.length = mk
    · have d1 : ((l.length : Int) != mi) = false := by
        rw [HMI.out, he]
        simp
      have hm0 := HM6.out
      rw [decide_eq_true he, Bool.true_and] at HOK
      have HSP := Lib.hid (splice6 (kn : Int) l (by omega))
      have HL6 : Hid (l.length ≤ 6) := Lib.hid (by omega)
      have HKR := Lib.hid fun w' h => Right_any (opOf (kn : Int) l) w' h
      have hmade : madeO (kn : Int) l = if rightO (opOf (kn : Int) l) = true then opOf (kn : Int) l else zeroO := by rw [madeO, HOK.out]
      have HMADE := Lib.hid hmade
      have hk' : (opOf (kn : Int) l).1 = (kn : Int) := rfl
      generalize opOf (kn : Int) l = o at *
      obtain ⟨k', a, b, c', d, e, f⟩ := o
      simp only at hk'
      subst hk'
      rw [show opV ((kn : Int), a, b, c', d, e, f) = .agg #[.int .i64 (kn : Int), .int .i64 a, .int .i64 b, .int .i64 c', .int .i64 d, .int .i64 e, .int .i64 f] from rfl] at HKR
      rw [show (arrO ((kn : Int), a, b, c', d, e, f)).toList = [.int .i64 a, .int .i64 b, .int .i64 c', .int .i64 d, .int .i64 e, .int .i64 f] from rfl] at HSP
      have HLN := Lib.hid hlen
      have HLC := Lib.hid hlc
      clear he hm0 hlen hmade hlc hcm
      generalize hln : l.length = ln at *
      have HLNE := Lib.hid hln
      clear hln
      go_enter Tryd.func23, Tryd.ntmps23
      go_wp2_with fail
      refine (HKK.out _).mono ?_
      rintro e1 w1 ⟨rfl, rfl⟩
      have hx1 : Ext (w.alloc (.cells #[.int .i64 0, .int .i64 0, .int .i64 0, .int .i64 0, .int .i64 0, .int .i64 0, .int .i64 0] 23)) ((w.alloc (.cells #[.int .i64 0, .int .i64 0, .int .i64 0, .int .i64 0, .int .i64 0, .int .i64 0, .int .i64 0] 23)).alloc (.cells #[.int .i64 0, .int .i64 0, .int .i64 0, .int .i64 0, .int .i64 0, .int .i64 0] 44)) := (Below.refl _ _).alloc (Nat.le_refl _) _
      have hz : Blk ((w.alloc (.cells #[.int .i64 0, .int .i64 0, .int .i64 0, .int .i64 0, .int .i64 0, .int .i64 0, .int .i64 0] 23)).alloc (.cells #[.int .i64 0, .int .i64 0, .int .i64 0, .int .i64 0, .int .i64 0, .int .i64 0] 44)) (w.heap.size + 1) 44 zeros6.toArray := by
        have := Blk.new (w.alloc (.cells #[.int .i64 0, .int .i64 0, .int .i64 0, .int .i64 0, .int .i64 0, .int .i64 0, .int .i64 0] 23)) 44 #[.int .i64 0, .int .i64 0, .int .i64 0, .int .i64 0, .int .i64 0, .int .i64 0]
        rwa [show (w.alloc (.cells #[.int .i64 0, .int .i64 0, .int .i64 0, .int .i64 0, .int .i64 0, .int .i64 0, .int .i64 0] 23)).heap.size = w.heap.size + 1 by simp] at this
      have HX1 := Lib.hid (HE.out.trans hx1)
      have HB1 := Lib.hid (HBK.out.ext hx1)
      have HZ := Lib.hid hz
      have hsrc := rd_src ((HR.out.ext HX1.out))
      rw [List.length_map] at hsrc
      have HSRC := Lib.hid hsrc
      clear hx1 hz hsrc
      go_wp2_with (refine wpList_copy_splice rfl (.tmp 20) (.tmp 21) 38 38 rfl 3 Tryd.underlying38 (by kernel_rfl) _ _ 6 6 ln c rfl rfl (w.heap.size + 1) 0 zeros6 44 HZ.out (l.map I) (by rw [List.length_map, HLNE.out]; have := HL6.out; simp [Nat.min_def]; omega) (fun hp => ⟨rfl, HSRC.out (by rw [List.length_map] at hp; exact hp)⟩) (by rw [List.length_map, HLNE.out]; have := HL6.out; show 0 + ln ≤ 6; omega) (fun u hu => by obtain ⟨n, -, rfl⟩ := List.mem_map.1 hu; rfl) (w.heap.size + 1) _ (Below.refl _ _) (Nat.le_refl _) ?_; intro w4 hg4 hb4; have hb5 : Blk w4 (w.heap.size + 1) 44 #[.int .i64 a, .int .i64 b, .int .i64 c', .int .i64 d, .int .i64 e, .int .i64 f] := (by have h9 := hg4.out; rw [HSP.out] at h9; exact h9); have q0 : w4.cell? ⟨w.heap.size + 1, 0, none⟩ = some (.int .i64 a) := hb5.cell 0; have q1 : w4.cell? ⟨w.heap.size + 1, 1, none⟩ = some (.int .i64 b) := hb5.cell 1; have q2 : w4.cell? ⟨w.heap.size + 1, 2, none⟩ = some (.int .i64 c') := hb5.cell 2; have q3 : w4.cell? ⟨w.heap.size + 1, 3, none⟩ = some (.int .i64 d) := hb5.cell 3; have q4 : w4.cell? ⟨w.heap.size + 1, 4, none⟩ = some (.int .i64 e) := hb5.cell 4; have q5 : w4.cell? ⟨w.heap.size + 1, 5, none⟩ = some (.int .i64 f) := hb5.cell 5; have HB4 := Lib.hid (HB1.out.belowS hb4 (Nat.lt_succ_self _)); have HX4 : Hid (Ext w w4) := Lib.hid (Below.trans HX1.out (hb4.mono (Nat.le_succ _))))
      have hx5 : Ext w4 (w4.alloc (.cells #[.int .i64 (kn : Int), .int .i64 a, .int .i64 b, .int .i64 c', .int .i64 d, .int .i64 e, .int .i64 f] 23)) := (Below.refl _ _).alloc (Nat.le_refl _) _
      have HO5 := Lib.hid (Blk.new w4 23 #[.int .i64 (kn : Int), .int .i64 a, .int .i64 b, .int .i64 c', .int .i64 d, .int .i64 e, .int .i64 f])
      have HB5 := Lib.hid (HB4.out.ext hx5)
      have HX5 := Lib.hid (HX4.out.trans hx5)
      have HLT := Lib.hid HB4.out.lt
      clear hx5 HB4 HX4 hb4 hg4 hb5 q0 q1 q2 q3 q4 q5
      refine (HKR.out _ (HLD.out.ext HX5.out)).mono ?_
      rintro e6 w6 ⟨rfl, hx6⟩
      have HO6 := HO5.out.ext hx6
      have HB6 := Lib.hid (HB5.out.ext hx6)
      have HX6 := Lib.hid (HX5.out.trans hx6)
      clear HB5 HX5 HO5 hx6
      generalize w4.heap.size = g at *
      obtain ⟨m0, m1, m2, m3, m4, m5, m6⟩ := box_cells HO6
      obtain ⟨c0, c1, c2, c3, c4, c5, c6⟩ := box_cells HB6.out
      have f0 := HB6.out.frozen 0
      have f1 := HB6.out.frozen 1
      have f2 := HB6.out.frozen 2
      have f3 := HB6.out.frozen 3
      have f4 := HB6.out.frozen 4
      have f5 := HB6.out.frozen 5
      have f6 := HB6.out.frozen 6
      clear HO6
      cases hR : rightO ((kn : Int), a, b, c', d, e, f) with
      | true =>
        rw [hR] at HMADE HOK
        have HM := Lib.hid (HMADE.out.trans (if_pos rfl))
        clear hR HMADE
        go_wp2_with fail
        refine end_ct rfl (set7 HB6.out _ _ _ _ _ _ _) _ rfl ?_ ?_
        · rfl
        · refine ⟨?_, ext7 HX6.out (Nat.le_refl _) _ _ _ _ _ _ _⟩
          rw [HM.out, HOK.out]
          rfl
      | false =>
        rw [hR] at HMADE HOK
        have HM := Lib.hid (HMADE.out.trans (if_neg (by decide)))
        clear hR HMADE
        go_wp2_with fail
        refine end_ct rfl (set7 HB6.out _ _ _ _ _ _ _) _ rfl ?_ ?_
        · rfl
        · refine ⟨?_, ext7 HX6.out (Nat.le_refl _) _ _ _ _ _ _ _⟩
          rw [HM.out, HOK.out]
          rfl
    · have d1 : ((l.length : Int) != mi) = true := by
        rw [HMI.out, bne_iff_ne]
        omega
      rw [decide_eq_false he, Bool.false_and] at HOK
      have HM : Hid (madeO (kn : Int) l = zeroO) := Lib.hid (by rw [madeO, HOK.out, if_neg (by decide)])
      have HLN := Lib.hid hlen
      clear he hlen hlc hcm
      generalize hln : l.length = ln at *
      clear hln
      go_enter Tryd.func23, Tryd.ntmps23
      go_wp2_with fail
      refine (HKK.out _).mono ?_
      rintro e1 w1 ⟨rfl, rfl⟩
      go_wp2_with fail
      refine end_ct rfl HBK.out _ rfl ?_ ?_
      · rfl
      · refine ⟨?_, HE.out⟩
        rw [HM.out, HOK.out]
        rfl
  · have HOK : Hid (madeOk k l = false) := Lib.hid (by rw [madeOk, decide_eq_false (fun x => h x.1), Bool.false_and])
    have HM : Hid (madeO k l = zeroO) := Lib.hid (by rw [madeO, HOK.out, if_neg (by decide)])
    rw [decide_eq_false h] at HKK
    clear h hlen hlc hcm
    generalize hln : l.length = ln at *
    clear hln
    go_enter Tryd.func23, Tryd.ntmps23
    go_wp2_with fail
    refine (HKK.out _).mono ?_
    rintro e1 w1 ⟨rfl, rfl⟩
    go_wp2_with fail
    refine end_ct rfl HBK.out _ rfl ?_ ?_
    · rfl
    · refine ⟨?_, HE.out⟩
      rw [HM.out, HOK.out]
      rfl

end Go.Proofs.YtngenbolpnckhaaDoor

/- Layer 1, package code: a number's bytes. -/
namespace Go.Proofs.YtngenbolpnckhaaDoor
open Go.RowKit

theorem isNum_yes (n : Int) (w : World) (h0 : 0 ≤ n) (h1 : n < 9007199254740992) :
    Calls Tryd.prog 43 #[.int .i64 n] w fun e w' => e = .returned (.bool true) ∧ w = w' := by
  go_enter Tryd.func43, Tryd.ntmps43
  go_wp2
  go_ret
  exact ⟨rfl, rfl⟩

theorem isNum_no (n : Int) (w : World) (h : ¬ (0 ≤ n ∧ n < 9007199254740992)) :
    Calls Tryd.prog 43 #[.int .i64 n] w fun e w' => e = .returned (.bool false) ∧ w = w' := by
  by_cases h0 : 0 ≤ n
  · have h1 : 9007199254740992 ≤ n := by omega
    have h2 : decide (n < 9007199254740992) = false := by simp; omega
    clear h
    go_enter Tryd.func43, Tryd.ntmps43
    go_wp2
    go_ret
    exact ⟨rfl, rfl⟩
  · clear h
    go_enter Tryd.func43, Tryd.ntmps43
    go_wp2
    go_ret
    exact ⟨rfl, rfl⟩

set_option maxRecDepth 100000 in
set_option maxHeartbeats 1000000 in
theorem addNum_any (base : Nat) (v : Value) (l : List UInt8) (n : Nat) (w : World) (hown : w.ownsRow base 5 1 v (l.map B).length (l.map B)) (hb : base ≤ w.heap.size)
    (hn : n < 9223372036854775808) (hl : l.length ≤ 140737488355318) :
    Calls Tryd.prog 42 #[v, .int .i64 n] w fun e w' => ∃ v', e = .returned v' ∧ Grew base 5 v w ((l ++ numB n).map B) v' w' := by
  obtain ⟨i0, hi, hz0, hz1, hz2⟩ := info_parts Tryd.infoU8
  have hlen := numB_len10 hn
  go_enter Tryd.func42, Tryd.ntmps42
  go_wp2
  go_loopw [0, 1] (fun v' n' wr => ∃ (m : Nat) (l' : List UInt8), n' = .int .i64 m ∧ m ≤ n ∧ l' ++ numB m = l ++ numB n ∧ Grew base 5 v w (l'.map B) v' wr) (fun _ n' _ => (intOf n').toNat)
  case atStart => exact ⟨n, l, rfl, Nat.le_refl _, rfl, Grew.start hown⟩
  case round =>
    obtain ⟨m, l', rfl, hmn, hmm, hg⟩ := hrel
    have hlt : (List.map B l').length < 140737488355328 := by
      have := congrArg List.length hmm
      have := numB_pos m
      simp only [List.length_append, List.length_map] at *
      omega
    have hbw : base ≤ wr.heap.size := Nat.le_trans hb hg.size
    have hML := Lib.hid hmm
    clear hmm
    by_cases h128 : m < 128
    · go_wp2_with (at_builtin; refine push_u8 rfl _ _ rfl base _ _ rfl hg.1 _ rfl rfl hlt hbw ?_; intro v' w' hg')
      go_ret
      refine ⟨_, rfl, ?_⟩
      have hgg := hg.trans hg'
      rw [← hML.out, numB_lo h128, List.map_append]
      rw [B_eq (n := (m : Int)) (u := UInt8.ofNat m) (by rw [u8_toNat]; omega)] at hgg
      exact hgg
    · have ho := or128 m
      have hO := Lib.hid ho
      clear ho
      go_wp2_with (at_builtin; refine push_u8 rfl _ _ rfl base _ _ rfl hg.1 _ rfl rfl hlt hbw ?_; intro v' w' hg')
      go_roundw
      case rel =>
        have hgg := hg.trans hg'
        rw [B_eq hO.out] at hgg
        refine ⟨m / 128, l' ++ [UInt8.ofNat (m % 128 + 128)], by go_num, by omega, ?_, by simpa using hgg⟩
        rw [← hML.out, numB_hi h128]
        simp
      case measure => simp [intOf]; omega



end Go.Proofs.YtngenbolpnckhaaDoor

/- Layer 1, package code: a list's bytes. -/
namespace Go.Proofs.YtngenbolpnckhaaDoor
open Go.RowKit

set_option maxRecDepth 100000 in
set_option maxHeartbeats 2000000 in
theorem List_any (l : List Int) (v : Value) (w : World) (hr : Rd w v (l.map I)) (hl : l.length * 8 ≤ 140737488351232) :
    Calls Tryd.prog 30 #[v] w (ListPost l w) := by
  obtain ⟨A, c, rfl, hlc, hcm, hcell⟩ := hr
  simp only [List.length_map] at *
  unfold maxLen at hcm
  have hlen := numB_len8 (n := l.length) (by omega)
  go_enter Tryd.func30, Tryd.ntmps30
  go_wp2_with (go_at_call 42; refine (addNum_any w.heap.size _ [] _ _ (World.ownsRow_nil _ _ _ _) (Nat.le_refl _) (by omega) (by simp)).mono ?_; rintro e w' ⟨v', rfl, hg0⟩)
  go_loopw [3, 11] (fun v' i' wr => ∃ (k : Nat), i' = .int .i64 k ∧ k ≤ l.length ∧ (l.take k).all isNumB = true ∧ Grew w.heap.size 5 (.slice none 0 0) w ((numB l.length ++ numsB (l.take k)).map B) v' wr) (fun _ i' _ => l.length - (intOf i').toNat)
  case atStart => exact ⟨0, rfl, by omega, rfl, by simpa [numsB] using hg0⟩
  case round =>
    obtain ⟨k, rfl, hk, hall, hg⟩ := hrel
    have hbnd := numsB_len _ hall
    rw [List.length_take, Nat.min_eq_left hk] at hbnd
    have hlt : (numB l.length ++ numsB (l.take k)).length ≤ 140737488355318 := by simp only [List.length_append]; omega
    have HA := Lib.hid hall
    clear hall
    by_cases hlt2 : k < l.length
    · obtain ⟨b, o, rfl, hbl, hce⟩ := hcell (by omega)
      have hc1 : wr.cell? ⟨b, o + k, none⟩ = some (I l[k]) := (hg.ext.cell (p := ⟨b, o + k, none⟩) hbl).trans (hce k _ (by simp [hlt2]))
      clear hce hcell
      by_cases hn : isNumB l[k] = true
      · have H := Lib.hid (isNumB_iff.1 hn)
        obtain ⟨m, hm, hm2⟩ := isNum_some H.out
        have HL := Lib.hid hm
        rw [hm] at hc1
        unfold I at hc1
        clear hm hn
        go_wp2_with (first | (go_at_call 43; refine (isNum_yes _ _ (by omega) (by omega)).mono ?_; rintro e w' ⟨rfl, rfl⟩) | (go_at_call 42; refine (addNum_any w.heap.size _ _ _ _ hg.1 hg.size (by omega) hlt).mono ?_; rintro e w' ⟨v', rfl, hg2⟩))
        go_roundw
        case rel =>
          refine ⟨k + 1, by go_num, by omega, all_take_snoc hlt2 HA.out (isNumB_iff.2 H.out), ?_⟩
          rw [take_snoc l k hlt2, numsB_snoc, HL.out, Int.toNat_natCast, ← List.append_assoc]
          exact hg.trans hg2
        case measure => simp [intOf]; omega
      · have H := Lib.hid (isNumB_not (Bool.eq_false_iff.2 hn))
        unfold I at hc1
        clear hn
        go_wp2_with (first | (go_at_call 43; refine (isNum_no _ _ H.out).mono ?_; rintro e w' ⟨rfl, rfl⟩))
        go_ret
        exact .inr ⟨rfl, all_false_at hlt2 (Bool.eq_false_iff.2 fun h => H.out (isNumB_iff.1 h)), hg.ext⟩
    · have hkl : k = l.length := by omega
      subst hkl
      go_wp2
      go_ret
      rw [List.take_length] at hg HA
      exact .inl ⟨_, rfl, HA.out, hg⟩

end Go.Proofs.YtngenbolpnckhaaDoor

/- Layer 1, package code: the number at a place. -/
namespace Go.Proofs.YtngenbolpnckhaaDoor
open Go.RowKit

set_option maxRecDepth 100000 in
set_option maxHeartbeats 2000000 in
theorem GetNum_at (bs : List UInt8) (v : Value) (p : Nat) (w : World) (hr : Rd w v (bs.map B)) (hp63 : p < 9223372036854775808) :
    Calls Tryd.prog 39 #[v, .int .i64 p] w fun e w' => e = .returned (numAt bs p) ∧ w = w' := by
  obtain ⟨A, c, rfl, hlc, hcm, hcell⟩ := hr
  simp only [List.length_map] at *
  unfold maxLen at hcm
  go_enter Tryd.func39, Tryd.ntmps39
  go_wp2
  go_loop [7, 8] (fun n' i' => ∃ (i acc : Nat), i' = .int .i64 i ∧ n' = .int .i64 acc ∧ i ≤ 8 ∧ acc < 128 ^ i ∧ (p + i < 9223372036854775808) ∧ scanN (8 - i) (bs.drop (p + i)) i acc = getN (bs.drop p)) (fun _ i' => 8 - (intOf i').toNat)
  case atStart => exact ⟨0, 0, rfl, rfl, by omega, by omega, by omega, rfl⟩
  case round =>
    obtain ⟨i, acc, rfl, rfl, hi, hacc, hp6, hsc⟩ := hrel
    by_cases h8 : i < 8
    · by_cases hp : p + i < bs.length
      · obtain ⟨b, o, rfl, hbl, hce⟩ := hcell (by omega)
        have hc1 : w.cell? ⟨b, o + (p + i), none⟩ = some (B bs[p + i]) := hce (p + i) _ (by simp [hp])
        clear hce hcell
        rw [show 8 - i = (7 - i) + 1 by omega, scanN_step i acc (drop_cons hp)] at hsc
        have hcl := bs[p + i].toNat_lt
        unfold B at hc1
        generalize bs[p + i].toNat = c at hc1 hsc hcl
        have hor := or_group i acc c h8 hacc
        have hlt := group_lt i acc c h8 hacc
        have hl8 := pow128_le (show i + 1 ≤ 8 by omega)
        generalize hN : acc + 128 ^ i * (c % 128) = N at hor hsc hlt
        have HN := Lib.hid hN
        clear hN
        by_cases hc : 128 ≤ c
        · rw [if_pos hc] at hsc
          have hSC := Lib.hid hsc
          clear hsc
          go_wp2
          go_roundw
          case rel => exact ⟨i + 1, N, by go_num, rfl, by omega, hlt, by omega, by rw [← hSC.out, show 8 - (i + 1) = 7 - i by omega]; rfl⟩
          case measure => simp [intOf]; omega
        · rw [if_neg hc] at hsc
          by_cases hn : 9007199254740992 ≤ N
          · rw [if_pos (.inl hn)] at hsc
            have hF : Hid (numAt bs p = .tuple #[.int .i64 0, .int .i64 0, .bool false]) := by unfold Hid; rw [numAt, ← hsc]
            have hni : (9007199254740992 : Int) ≤ (N : Int) := by omega
            clear hsc hn
            go_wp2
            go_ret3
            exact ⟨by rw [hF.out]; rfl, rfl⟩
          · have hni : decide ((9007199254740992 : Int) ≤ (N : Int)) = false := by simp; omega
            by_cases hc0 : c = 0
            · subst hc0
              have hor0 : bits .or .i64 (acc : Int) (wrap64 0) = (N : Int) := by simpa using hor
              have hor1 : bits .or .i64 (acc : Int) 0 = (N : Int) := by simpa [wrap64] using hor
              by_cases hi0 : 0 < i
              · rw [if_pos (.inr ⟨rfl, hi0⟩)] at hsc
                have hF : Hid (numAt bs p = .tuple #[.int .i64 0, .int .i64 0, .bool false]) := by unfold Hid; rw [numAt, ← hsc]
                clear hsc hn
                go_wp2
                go_ret3
                exact ⟨by rw [hF.out]; rfl, rfl⟩
              · rw [if_neg (by omega)] at hsc
                have hF : Hid (numAt bs p = .tuple #[.int .i64 (N : Int), .int .i64 ((p + (i + 1) : Nat) : Int), .bool true]) := by unfold Hid; rw [numAt, ← hsc]
                clear hsc hn
                go_wp2
                go_ret3
                exact ⟨by rw [hF.out]; simp; omega, rfl⟩
            · rw [if_neg (by omega)] at hsc
              have hF : Hid (numAt bs p = .tuple #[.int .i64 (N : Int), .int .i64 ((p + (i + 1) : Nat) : Int), .bool true]) := by unfold Hid; rw [numAt, ← hsc]
              have hcb : ((c : Int) == 0) = false := by simpa using hc0
              clear hsc hn
              go_wp2
              go_ret3
              exact ⟨by rw [hF.out]; simp; omega, rfl⟩
      · rw [List.drop_eq_nil_of_le (by omega), show 8 - i = (7 - i) + 1 by omega, scanN] at hsc
        have hF : Hid (numAt bs p = .tuple #[.int .i64 0, .int .i64 0, .bool false]) := by unfold Hid; rw [numAt, ← hsc]
        clear hsc
        go_wp2
        go_ret3
        exact ⟨by rw [hF.out]; rfl, rfl⟩
    · rw [show 8 - i = 0 by omega, scanN] at hsc
      have hF : Hid (numAt bs p = .tuple #[.int .i64 0, .int .i64 0, .bool false]) := by unfold Hid; rw [numAt, ← hsc]
      clear hsc
      go_wp2
      go_ret3
      exact ⟨by rw [hF.out]; rfl, rfl⟩

theorem GetNum_neg (v : Value) (p : Int) (w : World) (hp : p < 0) :
    Calls Tryd.prog 39 #[v, .int .i64 p] w fun e w' => e = .returned (.tuple #[.int .i64 0, .int .i64 0, .bool false]) ∧ w = w' := by
  go_enter Tryd.func39, Tryd.ntmps39
  go_wp2
  go_ret3
  exact ⟨rfl, rfl⟩

theorem GetNum_some (bs : List UInt8) (v : Value) (p n j : Nat) (w : World) (hr : Rd w v (bs.map B)) (hp63 : p < 9223372036854775808) (h : getN (bs.drop p) = some (n, j)) :
    Calls Tryd.prog 39 #[v, .int .i64 p] w fun e w' => e = .returned (.tuple #[.int .i64 n, .int .i64 ((p + j : Nat) : Int), .bool true]) ∧ w = w' := by
  have e : numAt bs p = .tuple #[.int .i64 n, .int .i64 ((p + j : Nat) : Int), .bool true] := by rw [numAt, h]
  rw [← e]
  exact GetNum_at bs v p w hr hp63

theorem GetNum_none (bs : List UInt8) (v : Value) (p : Nat) (w : World) (hr : Rd w v (bs.map B)) (hp63 : p < 9223372036854775808) (h : getN (bs.drop p) = none) :
    Calls Tryd.prog 39 #[v, .int .i64 p] w fun e w' => e = .returned (.tuple #[.int .i64 0, .int .i64 0, .bool false]) ∧ w = w' := by
  have e : numAt bs p = .tuple #[.int .i64 0, .int .i64 0, .bool false] := by rw [numAt, h]
  rw [← e]
  exact GetNum_at bs v p w hr hp63

end Go.Proofs.YtngenbolpnckhaaDoor

/- Layer 1, package code: the list at a place. -/
namespace Go.Proofs.YtngenbolpnckhaaDoor
open Go.RowKit

set_option maxRecDepth 100000 in
theorem take_some (bs : List UInt8) (v : Value) (b1 b2 b3 p n j : Nat) (ok : Bool) (w : World) (h1 : Blk w b1 24 #[v]) (h2 : Blk w b2 3 #[.int .i64 p]) (h3 : Blk w b3 4 #[.bool ok]) (h23 : b2 ≠ b3)
    (hr : Rd w v (bs.map B)) (hp63 : p < 9223372036854775808) (h : getN (bs.drop p) = some (n, j)) :
    Calls Tryd.prog 40 #[.pointer (some ⟨b1, 0, none⟩), .pointer (some ⟨b2, 0, none⟩), .pointer (some ⟨b3, 0, none⟩)] w fun e w' => e = .returned (.int .i64 n) ∧
      w' = (w.setCell ⟨b2, 0, none⟩ (.int .i64 ((p + j : Nat) : Int))).setCell ⟨b3, 0, none⟩ (.bool true) := by
  have H := Lib.hid h
  clear h
  have c1 := h1.cell1
  have c2 := h2.cell1
  have c3 := h3.cell1
  have f2 := h2.frozen 0
  have f3 := h3.frozen 0
  have c3' : (w.setCell ⟨b2, 0, none⟩ (.int .i64 ((p : Int) + (j : Int)))).cell? ⟨b3, 0, none⟩ = some (.bool ok) := (h3.far (p := ⟨b2, 0, none⟩) (fun e => h23 e.symm) _).cell1
  go_enter Tryd.func40, Tryd.ntmps40
  go_wp2_with (first | (go_at_call 39; refine (GetNum_some bs _ p n j _ hr (by omega) H.out).mono ?_; rintro e w' ⟨rfl, rfl⟩))
  go_ret
  exact ⟨rfl, rfl⟩

set_option maxRecDepth 100000 in
theorem take_none (bs : List UInt8) (v : Value) (b1 b2 b3 p : Nat) (ok : Bool) (w : World) (h1 : Blk w b1 24 #[v]) (h2 : Blk w b2 3 #[.int .i64 p]) (h3 : Blk w b3 4 #[.bool ok]) (h23 : b2 ≠ b3)
    (hr : Rd w v (bs.map B)) (hp63 : p < 9223372036854775808) (h : getN (bs.drop p) = none) :
    Calls Tryd.prog 40 #[.pointer (some ⟨b1, 0, none⟩), .pointer (some ⟨b2, 0, none⟩), .pointer (some ⟨b3, 0, none⟩)] w fun e w' => e = .returned (.int .i64 0) ∧
      w' = (w.setCell ⟨b2, 0, none⟩ (.int .i64 0)).setCell ⟨b3, 0, none⟩ (.bool false) := by
  have H := Lib.hid h
  clear h
  have c1 := h1.cell1
  have c2 := h2.cell1
  have c3 := h3.cell1
  have f2 := h2.frozen 0
  have f3 := h3.frozen 0
  have c3' : (w.setCell ⟨b2, 0, none⟩ (.int .i64 0)).cell? ⟨b3, 0, none⟩ = some (.bool ok) := (h3.far (p := ⟨b2, 0, none⟩) (fun e => h23 e.symm) _).cell1
  go_enter Tryd.func40, Tryd.ntmps40
  go_wp2_with (first | (go_at_call 39; refine (GetNum_none bs _ p _ hr (by omega) H.out).mono ?_; rintro e w' ⟨rfl, rfl⟩))
  go_ret
  exact ⟨rfl, rfl⟩

set_option maxRecDepth 100000 in
set_option maxHeartbeats 2000000 in
theorem GetList_first (bs : List UInt8) (v : Value) (p : Nat) (most : Int) (w : World) (hr : Rd w v (bs.map B)) (hp63 : p < 9223372036854775808) (h : getN (bs.drop p) = none) :
    Calls Tryd.prog 22 #[v, .int .i64 p, .int .i64 most] w fun e w' => e = .returned (.tuple #[.slice none 0 0, .int .i64 0, .bool false]) ∧ Ext w w' := by
  have H := Lib.hid h
  clear h
  have hlv : ∃ A cp, v = .slice A bs.length cp := by
    obtain ⟨A, cp, h, _⟩ := hr
    exact ⟨A, cp, by simpa using h⟩
  have hR := Lib.hid hr
  clear hr
  obtain ⟨A, cp, rfl⟩ := hlv
  go_enter Tryd.func22, Tryd.ntmps22
  go_wp2_with (first | (go_at_call 39; refine (GetNum_none bs _ p _ (hR.out.ext ((Below.refl _ _).alloc (Nat.le_refl _) _)) (by omega) H.out).mono ?_; rintro e w' ⟨rfl, rfl⟩))
  exact bodyPost_ret (v := .tuple #[.slice none 0 0, .int .i64 0, .bool false]) (by simp [results, Tryd.results22, go_sem]) rfl ⟨rfl, ((((Below.refl _ _).alloc (Nat.le_refl _) _).alloc (by simp) _).alloc (by simp; omega) _)⟩

/-- GetList's loop: the numbers taken so far lie in the list; the place, whether all went well, and the bytes, lie in blocks of their own. -/
structure LR (w wr : World) (V : Value) (c i q : Nat) (ns : List Nat) : Prop where
  own : wr.ownsRow w.heap.size 3 1 (.slice (some ⟨w.heap.size + 1 + 1 + 1, 0, none⟩) c c) c ((ns.map fun (n : Nat) => Value.int .i64 n) ++ List.replicate (c - i) (.int .i64 0))
  len : ns.length = i
  b1 : Blk wr w.heap.size 24 #[V]
  b2 : Blk wr (w.heap.size + 1) 3 #[.int .i64 q]
  b3 : Blk wr (w.heap.size + 1 + 1) 4 #[.bool true]
  ext : Ext w wr

theorem LR.start {w w1 : World} {V : Value} {c q : Nat} (hg : (((w.alloc (Obj.cells #[V] 24)).alloc (Obj.cells #[Value.int IntKind.i64 q] 3)).alloc (Obj.cells #[Value.bool true] 4)).grownBy w1 none)
    (hown : w1.ownsRow w.heap.size 3 1 (.slice (some ⟨w.heap.size + 1 + 1 + 1, 0, none⟩) c c) c (madeCells (Value.int IntKind.i64 0).cells (c * 1)).toList) : LR w w1 V c 0 q [] := by
  refine ⟨?_, rfl, ?_, ?_, ?_, ?_⟩
  · have e : (madeCells (Value.int IntKind.i64 0).cells (c * 1)).toList = List.replicate c (.int .i64 0) := by
      rw [show (Value.int IntKind.i64 0).cells = #[Value.int IntKind.i64 0] from rfl, toList_madeCells_one]
      simp
    rw [e] at hown
    simpa using hown
  · exact (((Blk.new w _ _).alloc _).alloc _).grown hg (by simp)
  · have := (((Blk.new (w.alloc (Obj.cells #[V] 24)) 3 #[.int .i64 q]).alloc (Obj.cells #[Value.bool true] 4))).grown hg (by simp)
    simpa using this
  · have := (Blk.new ((w.alloc (Obj.cells #[V] 24)).alloc (Obj.cells #[Value.int IntKind.i64 q] 3)) 4 #[.bool true]).grown hg (by simp)
    simpa using this
  · exact ((((Below.refl _ _).alloc (Nat.le_refl _) _).alloc (by simp) _).alloc (by simp; omega) _).grown hg (by simp; omega) (by simp)

theorem LR.take {w wr w2 : World} {V : Value} {c i q q' : Nat} {ns : List Nat} {b : Bool} (h : LR w wr V c i q ns) (hi : i < c)
    (h2 : w2 = (wr.setCell ⟨w.heap.size + 1, 0, none⟩ (.int .i64 q')).setCell ⟨w.heap.size + 1 + 1, 0, none⟩ (.bool b)) (n : Nat) :
    w2.cell? ⟨w.heap.size + 1 + 1 + 1, i, none⟩ = some (.int .i64 0) ∧ w2.frozen? ⟨w.heap.size + 1 + 1 + 1, i, none⟩ = false ∧
      (w2.setCell ⟨w.heap.size + 1 + 1 + 1, i, none⟩ (.int .i64 n)).cell? ⟨w.heap.size + 1 + 1, 0, none⟩ = some (.bool b) ∧ Ext w (w2.setCell ⟨w.heap.size + 1 + 1 + 1, i, none⟩ (.int .i64 n)) ∧
      (b = true → LR w (w2.setCell ⟨w.heap.size + 1 + 1 + 1, i, none⟩ (.int .i64 n)) V c (i + 1) q' (ns ++ [n])) := by
  obtain ⟨own, len, b1, b2, b3, ext⟩ := h
  have o2 : w2.ownsRow w.heap.size 3 1 (.slice (some ⟨w.heap.size + 1 + 1 + 1, 0, none⟩) c c) c ((ns.map fun (n : Nat) => Value.int .i64 n) ++ List.replicate (c - i) (.int .i64 0)) := by
    subst h2
    exact ownsRow_setCell_other (ownsRow_setCell_other own (by intro e; simp only [Value.ownBlock, Option.some.injEq] at e; omega) _) (by intro e; simp only [Value.ownBlock, Option.some.injEq] at e; omega) _
  have k2 : Blk w2 (w.heap.size + 1) 3 #[.int .i64 q'] := by
    subst h2
    exact (b2.set_ 0 _).far (by simp) _
  have k3 : Blk w2 (w.heap.size + 1 + 1) 4 #[.bool b] := by
    subst h2
    exact (b3.far (by simp) _).set_ 0 _
  have k1 : Blk w2 w.heap.size 24 #[V] := by
    subst h2
    exact (b1.far (by show w.heap.size ≠ w.heap.size + 1; omega) _).far (by show w.heap.size ≠ w.heap.size + 1 + 1; omega) _
  have e2 : Ext w w2 := by
    subst h2
    exact (ext.setCell (by simp) _).setCell (by simp; omega) _
  have hx : ((ns.map fun (n : Nat) => Value.int .i64 n) ++ List.replicate (c - i) (.int .i64 0))[i]? = some (.int .i64 0) := by
    rw [List.getElem?_append_right (by simp [len]), List.length_map, len, Nat.sub_self, List.getElem?_replicate, if_pos (by omega)]
  refine ⟨(o2.cellAt i (by omega)).trans hx, o2.frozenAt i, (k3.far (by show w.heap.size + 1 + 1 ≠ w.heap.size + 1 + 1 + 1; omega) _).cell1, e2.setCell (by show w.heap.size ≤ w.heap.size + 1 + 1 + 1; omega) _, fun hb => ?_⟩
  subst hb
  refine ⟨?_, by simp [len], k1.far (by show w.heap.size ≠ w.heap.size + 1 + 1 + 1; omega) _, k2.far (by show w.heap.size + 1 ≠ w.heap.size + 1 + 1 + 1; omega) _, k3.far (by show w.heap.size + 1 + 1 ≠ w.heap.size + 1 + 1 + 1; omega) _, e2.setCell (by show w.heap.size ≤ w.heap.size + 1 + 1 + 1; omega) _⟩
  have := (o2.stored i (.int .i64 n)).1
  have e : (((ns.map fun (n : Nat) => Value.int .i64 n) ++ List.replicate (c - i) (Value.int .i64 0)).set i (Value.int .i64 n)) = ((ns ++ [n]).map fun (n : Nat) => Value.int .i64 n) ++ List.replicate (c - (i + 1)) (Value.int .i64 0) := by
    rw [List.set_append_right _ _ (by simp [len])]
    simp only [List.length_map, len, Nat.sub_self, List.map_append, List.map_cons, List.map_nil, List.append_assoc]
    rw [show c - i = (c - (i + 1)) + 1 by omega, List.replicate_succ]
    rfl
  rw [e] at this
  exact this

set_option maxRecDepth 100000 in
set_option maxHeartbeats 4000000 in
theorem GetList_at (bs : List UInt8) (v : Value) (p c j : Nat) (most : Int) (w : World) (hr : Rd w v (bs.map B)) (hp63 : p < 9223372036854775808) (h : getN (bs.drop p) = some (c, j)) (hc : (c : Int) ≤ most) (hcl : c ≤ bs.length - (p + j)) (hlen : bs.length ≤ 1099511627776) :
    Calls Tryd.prog 22 #[v, .int .i64 p, .int .i64 most] w (GLPost (readK c bs (p + j)) w) := by
  have hj := getN_le h
  rw [List.length_drop] at hj
  have H := Lib.hid h
  clear h
  have hmf : ∀ (fn : Fn) (first cap : Array Value) (w : World), (Instr.makeFunc fn first cap).run Tryd.prog w = .ok (.func fn first cap) w := fun _ _ _ _ => rfl
  have hlv : ∃ A cp, v = .slice A bs.length cp := by
    obtain ⟨A, cp, h, _⟩ := hr
    exact ⟨A, cp, by simpa using h⟩
  have hR := Lib.hid hr
  clear hr
  obtain ⟨A, cp, rfl⟩ := hlv
  obtain ⟨i0, hi, hz0, hz1, hz2⟩ := info_parts Tryd.infoInt
  go_enter Tryd.func22, Tryd.ntmps22
  go_wp2_with (first | (go_at_call 39; refine (GetNum_some bs _ p c j _ (hR.out.ext ((Below.refl _ _).alloc (Nat.le_refl _) _)) (by omega) H.out).mono ?_; rintro e w' ⟨rfl, rfl⟩) | (at_make; refine wpList_make_full _ rfl _ _ 38 rfl w.heap.size 3 i0 (.int .i64 0) 1 Tryd.underlying38 hi hz0 hz1 _ _ _ _ c rfl rfl rfl rfl (by rw [hz2]; omega) (by unfold maxLen; omega) (by simp; omega) ?_; intro w1 hown hgrow))
  have hL : LR w w1 (.slice A bs.length cp) c 0 (p + j) [] := LR.start (by simpa using hgrow) (by simpa using hown)
  clear hown hgrow hi hz0 hz1 hz2
  go_loopw [42] (fun i' wr => ∃ (i q : Nat) (ns : List Nat), i' = .int .i64 i ∧ i ≤ c ∧ q ≤ bs.length ∧ readK c bs (p + j) = (readK (c - i) bs q).map (fun r => (ns ++ r.1, r.2)) ∧ LR w wr (.slice A bs.length cp) c i q ns) (fun i' _ => c - (intOf i').toNat)
  case atStart => exact ⟨0, p + j, [], rfl, by omega, by omega, by simp, hL⟩
  case round =>
    obtain ⟨i, q, ns, rfl, hic, hq, hrd, hL⟩ := hrel
    have hR2 := hR.out.ext hL.ext
    by_cases hlt : i < c
    · rw [show c - i = (c - (i + 1)) + 1 by omega, readK] at hrd
      rcases hg : getN (bs.drop q) with _ | ⟨n, j2⟩
      · rw [hg] at hrd
        have HG := Lib.hid hg
        have HRD : Hid (readK c bs (p + j) = none) := by unfold Hid; simpa using hrd
        clear hg hrd
        go_wp2_with (first | (go_at_call 40; refine (take_none bs _ _ _ _ q true _ hL.b1 hL.b2 hL.b3 (by omega) hR2 (by omega) HG.out).mono ?_; rintro e w2 ⟨rfl, hw2⟩; obtain ⟨f1, f2, f3, f4, _⟩ := hL.take (q' := 0) hlt hw2 0; rw [show ((0 : Nat) : Int) = 0 from rfl] at f3 f4; clear hw2))
        refine bodyPost_ret (v := .tuple #[.slice none 0 0, .int .i64 0, .bool false]) (by simp [results, Tryd.results22, go_sem]) rfl ?_
        rw [HRD.out]
        exact ⟨rfl, f4⟩
      · rw [hg] at hrd
        have hj2 := getN_le hg
        rw [List.length_drop] at hj2
        have HG := Lib.hid hg
        have HRD : Hid (readK c bs (p + j) = Option.map (fun r => ((ns ++ [n]) ++ r.1, r.2)) (readK (c - (i + 1)) bs (q + j2))) := by
          unfold Hid
          rw [hrd]
          rcases h : readK (c - (i + 1)) bs (q + j2) with _ | ⟨a, b⟩ <;> simp [h]
        clear hg hrd
        go_wp2_with (first | (go_at_call 40; refine (take_some bs _ _ _ _ q n j2 true _ hL.b1 hL.b2 hL.b3 (by omega) hR2 (by omega) HG.out).mono ?_; rintro e w2 ⟨rfl, hw2⟩; obtain ⟨f1, f2, f3, f4, f5⟩ := hL.take (q' := q + j2) hlt hw2 n; have F5 := Lib.hid (f5 rfl); clear hw2 f5))
        go_roundw
        case rel => exact ⟨i + 1, q + j2, ns ++ [n], by go_num, by omega, by omega, HRD.out, F5.out⟩
        case measure => simp [intOf]; omega
    · obtain rfl : i = c := by omega
      have HRD := Lib.hid hrd
      have c2 := hL.b2.cell1
      clear hrd
      go_wp2
      go_quiet (fail)
      go_wp2
      refine bodyPost_ret (v := .tuple #[.slice (some ⟨w.heap.size + 1 + 1 + 1, 0, none⟩) i i, .int .i64 q, .bool true]) (by simp [results, Tryd.results22, go_sem]) rfl ?_
      rw [HRD.out, Nat.sub_self, readK]
      have hown := hL.own
      rw [Nat.sub_self, List.replicate_zero, List.append_nil] at hown
      refine ⟨_, rfl, ?_, Below.drewN' hL.ext _⟩
      simp only [List.append_nil, hL.len]
      exact hown

set_option maxRecDepth 100000 in
set_option maxHeartbeats 2000000 in
theorem GetList_long (bs : List UInt8) (v : Value) (p c j : Nat) (most : Int) (w : World) (hr : Rd w v (bs.map B)) (hp63 : p < 9223372036854775808) (h : getN (bs.drop p) = some (c, j)) (hc : (c : Int) ≤ most) (hcl : ¬ c ≤ bs.length - (p + j)) :
    Calls Tryd.prog 22 #[v, .int .i64 p, .int .i64 most] w fun e w' => e = .returned (.tuple #[.slice none 0 0, .int .i64 0, .bool false]) ∧ Ext w w' := by
  have hj := getN_le h
  rw [List.length_drop] at hj
  have H := Lib.hid h
  clear h
  have hlv : ∃ A cp, v = .slice A bs.length cp ∧ bs.length ≤ cp ∧ cp ≤ maxLen := by
    obtain ⟨A, cp, h, h2, h3, _⟩ := hr
    exact ⟨A, cp, by simpa using h, by simpa using h2, h3⟩
  have hR := Lib.hid hr
  clear hr
  obtain ⟨A, cp, rfl, h1, h2⟩ := hlv
  unfold maxLen at h2
  go_enter Tryd.func22, Tryd.ntmps22
  go_wp2_with (first | (go_at_call 39; refine (GetNum_some bs _ p c j _ (hR.out.ext ((Below.refl _ _).alloc (Nat.le_refl _) _)) (by omega) H.out).mono ?_; rintro e w' ⟨rfl, rfl⟩))
  exact bodyPost_ret (v := .tuple #[.slice none 0 0, .int .i64 0, .bool false]) (by simp [results, Tryd.results22, go_sem]) rfl ⟨rfl, ((((Below.refl _ _).alloc (Nat.le_refl _) _).alloc (by simp) _).alloc (by simp; omega) _)⟩

set_option maxRecDepth 100000 in
set_option maxHeartbeats 2000000 in
theorem GetList_many (bs : List UInt8) (v : Value) (p c j : Nat) (most : Int) (w : World) (hr : Rd w v (bs.map B)) (hp63 : p < 9223372036854775808) (h : getN (bs.drop p) = some (c, j)) (hc : ¬ (c : Int) ≤ most) :
    Calls Tryd.prog 22 #[v, .int .i64 p, .int .i64 most] w fun e w' => e = .returned (.tuple #[.slice none 0 0, .int .i64 0, .bool false]) ∧ Ext w w' := by
  have hj := getN_le h
  rw [List.length_drop] at hj
  have H := Lib.hid h
  clear h
  have hlv : ∃ A cp, v = .slice A bs.length cp ∧ bs.length ≤ cp ∧ cp ≤ maxLen := by
    obtain ⟨A, cp, h, h2, h3, _⟩ := hr
    exact ⟨A, cp, by simpa using h, by simpa using h2, h3⟩
  have hR := Lib.hid hr
  clear hr
  obtain ⟨A, cp, rfl, h1, h2⟩ := hlv
  unfold maxLen at h2
  go_enter Tryd.func22, Tryd.ntmps22
  go_wp2_with (first | (go_at_call 39; refine (GetNum_some bs _ p c j _ (hR.out.ext ((Below.refl _ _).alloc (Nat.le_refl _) _)) (by omega) H.out).mono ?_; rintro e w' ⟨rfl, rfl⟩))
  exact bodyPost_ret (v := .tuple #[.slice none 0 0, .int .i64 0, .bool false]) (by simp [results, Tryd.results22, go_sem]) rfl ⟨rfl, ((((Below.refl _ _).alloc (Nat.le_refl _) _).alloc (by simp) _).alloc (by simp; omega) _)⟩

set_option maxRecDepth 100000 in
set_option maxHeartbeats 2000000 in
theorem GetList_neg (bs : List UInt8) (v : Value) (p : Int) (most : Int) (w : World) (hr : Rd w v (bs.map B)) (hp : p < 0) :
    Calls Tryd.prog 22 #[v, .int .i64 p, .int .i64 most] w fun e w' => e = .returned (.tuple #[.slice none 0 0, .int .i64 0, .bool false]) ∧ Ext w w' := by
  have hlv : ∃ A cp, v = .slice A bs.length cp ∧ bs.length ≤ cp ∧ cp ≤ maxLen := by
    obtain ⟨A, cp, h, h2, h3, _⟩ := hr
    exact ⟨A, cp, by simpa using h, by simpa using h2, h3⟩
  clear hr
  obtain ⟨A, cp, rfl, h1, h2⟩ := hlv
  unfold maxLen at h2
  go_enter Tryd.func22, Tryd.ntmps22
  go_wp2_with (first | (go_at_call 39; refine (GetNum_neg _ p _ hp).mono ?_; rintro e w' ⟨rfl, rfl⟩))
  exact bodyPost_ret (v := .tuple #[.slice none 0 0, .int .i64 0, .bool false]) (by simp [results, Tryd.results22, go_sem]) rfl ⟨rfl, ((((Below.refl _ _).alloc (Nat.le_refl _) _).alloc (by simp) _).alloc (by simp; omega) _)⟩

theorem GetList_any (bs : List UInt8) (v : Value) (p : Nat) (most : Int) (w : World) (hr : Rd w v (bs.map B)) (hp63 : p < 9223372036854775808) (hlen : bs.length ≤ 1099511627776) :
    Calls Tryd.prog 22 #[v, .int .i64 p, .int .i64 most] w (GLPost (listAt bs p most) w) := by
  unfold listAt
  rcases h : getN (bs.drop p) with _ | ⟨c, j⟩
  · exact GetList_first bs v p most w hr hp63 h
  · by_cases hc : (c : Int) ≤ most
    · simp only [hc, if_true]
      by_cases hcl : c ≤ bs.length - (p + j)
      · exact GetList_at bs v p c j most w hr hp63 h hc hcl hlen
      · have hj := getN_le h
        rw [List.length_drop] at hj
        rcases hk : readK c bs (p + j) with _ | ⟨l, q⟩
        · exact GetList_long bs v p c j most w hr hp63 h hc hcl
        · have := readK_le c bs (p + j) l q (by omega) hk
          omega
    · simp only [hc, if_false]
      exact GetList_many bs v p c j most w hr hp63 h hc

end Go.Proofs.YtngenbolpnckhaaDoor

/- Package ops: an op's bytes, and the op of bytes. -/
namespace Go.Proofs.YtngenbolpnckhaaDoor
open Go.RowKit

set_option maxRecDepth 100000 in
set_option maxHeartbeats 4000000 in
theorem Put_any (o : OpN) (w : World) (hL : Laid w) :
    Calls Tryd.prog 14 #[opV o] w fun e w' => ∃ v, e = .returned v ∧ Rd w' v ((putO o).map B) ∧ Ext w w' := by
  have HLD := Lib.hid hL
  have HKR := Lib.hid fun w' h => Right_any o w' h
  have HNO : Hid (rightO o = false → putO o = []) := Lib.hid fun h => by rw [putO, if_neg (by rw [h]; decide)]
  have HYES : Hid (rightO o = true → ∀ v W, Rd W v ((o.1 :: argsO o).map I) → Calls Tryd.prog 30 #[v] W fun e w' => ∃ v', e = .returned v' ∧ Rd w' v' ((putO o).map B) ∧ Ext W w') := Lib.hid fun h v W hv => by
    have hal := argsO_len o
    have hm := manyK_le o.1
    refine (List_any _ v W hv (by rw [List.length_cons]; omega)).mono ?_
    rintro e w' (⟨v', rfl, -, hg⟩ | ⟨-, hf, -⟩)
    · refine ⟨v', rfl, ?_, hg.ext⟩
      rw [putO, if_pos h]
      exact Rd.own hg.own
    · rw [args_isNum h] at hf
      cases hf
  have HKT : Hid (rightO o = true → ∀ W, Laid W → Calls Tryd.prog 31 #[opV o] W fun e w' => ∃ b, e = .returned (.slice (some ⟨b, 0, none⟩) (manyK o.1) 6) ∧ W.heap.size ≤ b ∧ Rd w' (.slice (some ⟨b, 0, none⟩) (manyK o.1) 6) ((argsO o).map I) ∧ Ext W w') := Lib.hid fun h W hW => itsNumbers_any o W hW (rightO_iff.1 h).1
  have HAL := Lib.hid (argsO_len o)
  have HM6 := Lib.hid (manyK_le o.1)
  clear hL
  obtain ⟨k, a, b, c, d, e, f⟩ := o
  generalize ho : ((k, a, b, c, d, e, f) : OpN) = o at *
  have hk : o.1 = k := by rw [← ho]
  have hv : opV o = .agg #[.int .i64 k, .int .i64 a, .int .i64 b, .int .i64 c, .int .i64 d, .int .i64 e, .int .i64 f] := by rw [← ho]; rfl
  rw [hk] at HYES HKT HAL HM6
  rw [hv] at HKT HKR ⊢
  clear ho hv hk
  generalize manyK k = mk at *
  have hE : Ext w (w.alloc (.cells #[.int .i64 k, .int .i64 a, .int .i64 b, .int .i64 c, .int .i64 d, .int .i64 e, .int .i64 f] 23)) := (Below.refl _ _).alloc (Nat.le_refl _) _
  cases hR : rightO o with
  | false =>
    have hz := HNO.out hR
    rw [hR] at HKR
    rw [hz]
    have KR := HKR.out _ (HLD.out.ext hE)
    have HKR' := Lib.hid KR
    clear HNO HYES hz hR HKT KR HKR
    go_enter Tryd.func14, Tryd.ntmps14
    go_wp2_with fail
    refine HKR'.out.mono ?_
    rintro e2 w2 ⟨rfl, hx2⟩
    have hx := hE.trans hx2
    go_wp2
    go_ret
    exact ⟨_, rfl, Rd.nil _, hx⟩
  | true =>
    rw [hR] at HKR
    have HKL := Lib.hid (HYES.out hR)
    have HKT' := Lib.hid (HKT.out hR)
    have KR := HKR.out _ (HLD.out.ext hE)
    have HKR' := Lib.hid KR
    clear HNO hR HYES HKT KR HKR
    generalize putO o = P at *
    generalize argsO o = ar at *
    go_enter Tryd.func14, Tryd.ntmps14
    have HBK := Lib.hid (Blk.new w 23 #[.int .i64 k, .int .i64 a, .int .i64 b, .int .i64 c, .int .i64 d, .int .i64 e, .int .i64 f])
    have HE := Lib.hid hE
    clear hE
    go_wp2_with fail
    refine HKR'.out.mono ?_
    rintro e2 w2 ⟨rfl, hx2⟩
    have HB2 := Lib.hid (HBK.out.ext hx2)
    have HX2 := Lib.hid (HE.out.trans hx2)
    have hw2 : w.heap.size < w2.heap.size := HB2.out.lt
    obtain ⟨c0, c1, c2, c3, c4, c5, c6⟩ := box_cells HB2.out
    have HTL : Hid (ar.length ≤ 1000000) := Lib.hid (by have := HAL.out; have := HM6.out; omega)
    have HKI : Hid (∀ W, Ext w2 W → Calls Tryd.prog 31 #[.agg #[.int .i64 k, .int .i64 a, .int .i64 b, .int .i64 c, .int .i64 d, .int .i64 e, .int .i64 f]] W fun e w' => ∃ b, e = .returned (.slice (some ⟨b, 0, none⟩) mk 6) ∧ W.heap.size ≤ b ∧ Rd w' (.slice (some ⟨b, 0, none⟩) mk 6) (ar.map I) ∧ Ext W w') :=
      Lib.hid fun W hW => HKT'.out W ((HLD.out.ext HX2.out).ext hW)
    clear hx2 HBK HE HKT' HKR'
    go_wp2_with fail
    go_region_held3 (fun w' => w'.cell? ⟨w.heap.size, 0, none⟩ = some (.int .i64 k) ∧ w'.cell? ⟨w.heap.size, 1, none⟩ = some (.int .i64 a) ∧ w'.cell? ⟨w.heap.size, 2, none⟩ = some (.int .i64 b) ∧ w'.cell? ⟨w.heap.size, 3, none⟩ = some (.int .i64 c) ∧ w'.cell? ⟨w.heap.size, 4, none⟩ = some (.int .i64 d) ∧ w'.cell? ⟨w.heap.size, 5, none⟩ = some (.int .i64 e) ∧ w'.cell? ⟨w.heap.size, 6, none⟩ = some (.int .i64 f)) (first | go_keep | (exact box_cells HB4.out) | (exact box_cells HB9.out) | (exact box_cells HB10.out)) (first | (go_at_call 31; (first | (with_reducible refine (HKI.out _ (Ext.refl w2)).mono ?_) | (with_reducible refine (HKI.out _ (ext_drew (Ext.refl w2))).mono ?_) | (with_reducible refine (HKI.out _ (Below.alloc (Ext.refl w2) (Nat.le_refl _) _)).mono ?_) | (with_reducible refine (HKI.out _ (ext_drew (Below.alloc (Ext.refl w2) (Nat.le_refl _) _))).mono ?_) | (with_reducible refine (HKI.out _ (Below.alloc (ext_drew (Ext.refl w2)) (Nat.le_refl _) _)).mono ?_)); rintro e4 w4 ⟨b4, rfl, hb4, hr4, hx4⟩; (first | (have hy4 : Ext w2 w4 := hx4) | (have hy4 : Ext w2 w4 := Ext.trans (Below.drewN' (Ext.refl w2) 1) hx4) | (have hy4 : Ext w2 w4 := Ext.trans (Below.alloc (Ext.refl w2) (Nat.le_refl _) _) hx4) | (have hy4 : Ext w2 w4 := Ext.trans (Below.drewN' (Below.alloc (Ext.refl w2) (Nat.le_refl _) _) 1) hx4) | (have hy4 : Ext w2 w4 := Ext.trans (Below.alloc (Below.drewN' (Ext.refl w2) 1) (Nat.le_refl _) _) hx4) | (fail "hy4")); have HB4 := Lib.hid (HB2.out.ext hy4); have HT4 := Lib.hid hr4) | (go_at_call 30; (with_reducible refine (HKL.out _ _ hr9).mono ?_); rintro e10 w10 ⟨v10, rfl, hr10, hx10⟩; have HB10 := Lib.hid (HB9.out.ext hx10)) | (refine stepApp1 (.tmp 8) (.tmp 10) rfl rfl w2.heap.size _ k ?_ ?_ rfl _ ar rfl ?_ HTL.out ?_; (first | (exact Blk.ext (Blk.new w2 _ _) hx4) | (exact Blk.ext (Blk.drew_ (Blk.new w2 _ _)) hx4) | (exact Blk.new w4 _ _) | (exact Blk.drew_ (Blk.new w4 _ _)) | (exact Blk.new w4.drew _ _) | (fail "hb")); (first | (exact Nat.le_refl _) | (exact Below.size hy4) | (fail "hg")); (first | (exact HT4.out) | (exact (Rd.ext HT4.out (Below.alloc (Ext.refl w4) (Nat.le_refl _) _))) | (exact (Rd.ext HT4.out (Below.drewN' (Below.alloc (Ext.refl w4) (Nat.le_refl _) _) 1))) | (exact (Rd.ext HT4.out (Below.alloc (Below.drewN' (Ext.refl w4) 1) (Nat.le_refl _) _))) | (exact (Rd.ext HT4.out (Below.drewN' (Ext.refl w4) 1))) | (fail "hr")); intro v9 w9 hr9 hb9; (first | (have hx9 : Ext w2 w9 := Below.trans hy4 hb9) | (have hx9 : Ext w2 w9 := Below.trans (Below.alloc hy4 (Below.size hy4) _) hb9) | (have hx9 : Ext w2 w9 := Below.trans (Below.drewN' (Below.alloc hy4 (Below.size hy4) _) 1) hb9) | (have hx9 : Ext w2 w9 := Below.trans (Below.alloc (Below.drewN' hy4 1) (Below.size hy4) _) hb9) | (have hx9 : Ext w2 w9 := Below.trans (Below.drewN' hy4 1) hb9) | (fail "hx9")); have HB9 := Lib.hid (HB2.out.ext hx9)))
    all_goals
      have hx := (HX2.out.trans hx9).trans hx10
      clear HB4 HB9 HB10 HT4 HTL HB2 hb4 hr4 hb9 hr9 hx4 hy4 hx9
      go_wp2
      go_ret
      exact ⟨_, rfl, hr10, hx⟩

end Go.Proofs.YtngenbolpnckhaaDoor

/- Package ops: the op of bytes. -/
namespace Go.Proofs.YtngenbolpnckhaaDoor
open Go.RowKit

set_option maxRecDepth 100000 in
set_option maxHeartbeats 4000000 in
theorem Get_any (bs : List UInt8) (v : Value) (w : World) (hr : Rd w v (bs.map B)) (hlen : bs.length ≤ 1000000) (hL : Laid w) :
    Calls Tryd.prog 9 #[v] w fun e w' => ∃ o ok, e = .returned (.tuple #[opV o, .bool ok]) ∧ GetO bs o ok ∧ Ext w w' := by
  have HR := Lib.hid hr
  have HLN := Lib.hid hlen
  have HLD := Lib.hid hL
  obtain ⟨A, c, rfl, hlc, hcm⟩ := hr.sliceN (n := bs.length) (List.length_map _)
  have hE : Ext w (w.alloc (.cells #[.int .i64 0, .int .i64 0, .int .i64 0, .int .i64 0, .int .i64 0, .int .i64 0, .int .i64 0] 23)) := (Below.refl _ _).alloc (Nat.le_refl _) _
  have HE := Lib.hid hE
  have HBK := Lib.hid (Blk.new w 23 #[.int .i64 0, .int .i64 0, .int .i64 0, .int .i64 0, .int .i64 0, .int .i64 0, .int .i64 0])
  clear hr hlen hE hL
  go_enter Tryd.func9, Tryd.ntmps9
  go_wp2_with fail
  refine (GetList_any bs _ 0 7 _ (HR.out.ext HE.out) (by decide) (by have := HLN.out; omega)).mono ?_
  intro e w2 hgl
  rcases hL : listAt bs 0 7 with _ | ⟨l, q⟩
  · rw [hL] at hgl
    obtain ⟨rfl, hx2⟩ := hgl
    have HG := Lib.hid (get_none hL)
    have HB2 := Lib.hid (HBK.out.ext hx2)
    have HX := Lib.hid (HE.out.trans hx2)
    clear hL hx2
    obtain ⟨c0, c1, c2, c3, c4, c5, c6⟩ := box_cells HB2.out
    have f0 := HB2.out.frozen 0
    have f1 := HB2.out.frozen 1
    have f2 := HB2.out.frozen 2
    have f3 := HB2.out.frozen 3
    have f4 := HB2.out.frozen 4
    have f5 := HB2.out.frozen 5
    have f6 := HB2.out.frozen 6
    go_wp2_with fail
    refine end7 rfl HB2.out HX.out _ rfl ?_ _ _ _ _ _ _ _ ?_
    · rfl
    · intro w9 hx9
      exact ⟨zeroO, false, rfl, HG.out, hx9⟩
  · rw [hL] at hgl
    obtain ⟨v2, rfl, hown, hx2⟩ := hgl
    have hrd := Rd.own hown
    have HB2 := Lib.hid (HBK.out.ext hx2)
    have HX := Lib.hid (HE.out.trans hx2)
    obtain ⟨A2, c2, rfl, -, -⟩ := hrd.sliceN (n := l.length) (List.length_map _)
    by_cases hq : q = bs.length
    · subst hq
      rcases l with _ | ⟨k, l⟩
      · have HG := Lib.hid (get_nil hL)
        clear hL hx2 hown hrd
        obtain ⟨c0, c1, c2', c3, c4, c5, c6⟩ := box_cells HB2.out
        have f0 := HB2.out.frozen 0
        have f1 := HB2.out.frozen 1
        have f2 := HB2.out.frozen 2
        have f3 := HB2.out.frozen 3
        have f4 := HB2.out.frozen 4
        have f5 := HB2.out.frozen 5
        have f6 := HB2.out.frozen 6
        go_wp2_with fail
        refine end7 rfl HB2.out HX.out _ rfl ?_ _ _ _ _ _ _ _ ?_
        · rfl
        · intro w9 hx9
          exact ⟨zeroO, false, rfl, HG.out, hx9⟩
      · have hm : ((k :: l).map fun (n : Nat) => Value.int .i64 n) = Value.int .i64 (k : Int) :: ((l.map fun (n : Nat) => (n : Int)).map I) := by
          rw [List.map_cons, List.map_map]
          rfl
        rw [hm, List.length_cons] at hrd
        obtain ⟨b2, o2, rfl, -, hcc, hb2, hc2, hrt⟩ := rd_tail hrd
        simp only [List.length_map] at hcc hrt
        have hll : (l.map fun (n : Nat) => (n : Int)).length ≤ 1000000 := by
          have h1 := HLN.out
          have h2 := (listAt_get hL).2
          have h3 := listB_len_ge ((k :: l).map fun (n : Nat) => (n : Int))
          rw [h2, List.length_take, List.length_map, List.length_cons] at h3
          rw [List.length_map]
          omega
        have HG := Lib.hid (get_made hL)
        have HRT := Lib.hid hrt
        have hq0 : ((0 : Int) ≤ (l.length : Int) + 1) := by omega
        have hq1 : ((1 : Int) ≤ (l.length : Int) + 1) := by omega
        have hq2 : (((l.length : Int) + 1) == 0) = false := by rw [beq_eq_false_iff_ne]; omega
        have hq3 : ((l.length : Int) + 1) ≤ (c2 : Int) := by omega
        have HC2 := Lib.hid hc2
        have HKO : Hid (∀ W, Ext w2 W → Calls Tryd.prog 23 #[.int .i64 (k : Int), .slice (if c2 = 1 then some ⟨b2, o2, none⟩ else some ⟨b2, o2 + 1, none⟩) l.length (c2 - 1)] W fun e w' => e = .returned (.tuple #[opV (madeO (k : Int) (l.map fun (n : Nat) => (n : Int))), .bool (madeOk (k : Int) (l.map fun (n : Nat) => (n : Int)))]) ∧ Ext w2 w') := Lib.hid fun W hW =>
          (made_any (k : Int) (l.map fun (n : Nat) => (n : Int)) _ W (HRT.out.ext hW) hll ((HLD.out.ext HX.out).ext hW)).mono (by rintro e w' ⟨rfl, h⟩; exact ⟨rfl, hW.trans h⟩)
        clear hL hx2 hown hrd hrt hm hll
        generalize madeOk (k : Int) (l.map fun (n : Nat) => (n : Int)) = ok at *
        generalize madeO (k : Int) (l.map fun (n : Nat) => (n : Int)) = o at *
        obtain ⟨a0, a1, a2, a3, a4, a5, a6⟩ := o
        rw [show opV (a0, a1, a2, a3, a4, a5, a6) = .agg #[.int .i64 a0, .int .i64 a1, .int .i64 a2, .int .i64 a3, .int .i64 a4, .int .i64 a5, .int .i64 a6] from rfl] at HKO
        by_cases hc1 : c2 = 1
        · subst hc1
          rw [if_pos rfl, show l.length = 0 by omega, Nat.sub_self] at HKO
          go_wp2_with fail
          have c0 := HC2.out
          go_region_with (first | (go_at_call 23; (first | (with_reducible refine (HKO.out _ (Ext.refl _)).mono ?_) | (with_reducible refine (HKO.out _ (ext_drew (Ext.refl w2))).mono ?_)); rintro e3 w3 ⟨rfl, hx3⟩; have HB3 := Lib.hid (HB2.out.ext hx3); have HX3 := Lib.hid (HX.out.trans hx3); obtain ⟨n0, n1, n2, n3, n4, n5, n6⟩ := box_cells HB3.out; have f0 := HB3.out.frozen 0; have f1 := HB3.out.frozen 1; have f2 := HB3.out.frozen 2; have f3 := HB3.out.frozen 3; have f4 := HB3.out.frozen 4; have f5 := HB3.out.frozen 5; have f6 := HB3.out.frozen 6))
          all_goals
            rename_i K Q' hK
            refine hK _ _ ?_
            clear hK
            go_wp2_with fail
            refine end7 rfl HB3.out HX3.out _ rfl ?_ _ _ _ _ _ _ _ ?_
            · rfl
            · intro w9 hx9
              exact ⟨(a0, a1, a2, a3, a4, a5, a6), ok, rfl, HG.out, hx9⟩
        · rw [if_neg hc1] at HKO
          go_wp2_with fail
          have c0 := HC2.out
          go_region_with (first | (go_at_call 23; (first | (with_reducible refine (HKO.out _ (Ext.refl _)).mono ?_) | (with_reducible refine (HKO.out _ (ext_drew (Ext.refl w2))).mono ?_)); rintro e3 w3 ⟨rfl, hx3⟩; have HB3 := Lib.hid (HB2.out.ext hx3); have HX3 := Lib.hid (HX.out.trans hx3); obtain ⟨n0, n1, n2, n3, n4, n5, n6⟩ := box_cells HB3.out; have f0 := HB3.out.frozen 0; have f1 := HB3.out.frozen 1; have f2 := HB3.out.frozen 2; have f3 := HB3.out.frozen 3; have f4 := HB3.out.frozen 4; have f5 := HB3.out.frozen 5; have f6 := HB3.out.frozen 6))
          all_goals
            rename_i K Q' hK
            refine hK _ _ ?_
            clear hK
            go_wp2_with fail
            refine end7 rfl HB3.out HX3.out _ rfl ?_ _ _ _ _ _ _ _ ?_
            · rfl
            · intro w9 hx9
              exact ⟨(a0, a1, a2, a3, a4, a5, a6), ok, rfl, HG.out, hx9⟩
    · have HG := Lib.hid (get_part hL hq)
      have hq' : ((q : Int) != (bs.length : Int)) = true := by rw [bne_iff_ne]; omega
      clear hL hx2 hown hrd hq
      obtain ⟨c0, c1, c2', c3, c4, c5, c6⟩ := box_cells HB2.out
      have f0 := HB2.out.frozen 0
      have f1 := HB2.out.frozen 1
      have f2 := HB2.out.frozen 2
      have f3 := HB2.out.frozen 3
      have f4 := HB2.out.frozen 4
      have f5 := HB2.out.frozen 5
      have f6 := HB2.out.frozen 6
      go_wp2_with fail
      refine end7 rfl HB2.out HX.out _ rfl ?_ _ _ _ _ _ _ _ ?_
      · rfl
      · intro w9 hx9
        exact ⟨zeroO, false, rfl, HG.out, hx9⟩

end Go.Proofs.YtngenbolpnckhaaDoor
