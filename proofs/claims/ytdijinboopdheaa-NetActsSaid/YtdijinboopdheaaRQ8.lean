/- Texts that the proof of R rests on, one behind the other. -/
import Derived.Test.YtdijinboopdheaaRQ7
import Derived.Deep.LoopGhost
import Derived.Deep.CutBlock
import Derived.Deep.DeepCutAuto
import Derived.BigQuiet
import Derived.Test.YtdijinboopdheaaRows

/- Layer 12's statement NetOrder, walked. -/
namespace Go.Proofs.Ytdijinboopdheaa
open Go.RowKit

def ordN (L : List Ms) (s : Nat) : NtP := ⟨L.map fun m => (m, none), s⟩
theorem ord_len (L : List Ms) (s : Nat) : (ordN L s).way.length = L.length := by simp [ordN]
theorem ord_send {L : List Ms} {s : Nat} {m : Ms} (hl : L.length < 40) : sendN (ordN L s) m = (rightM m, if rightM m = true then ordN (L ++ [m]) (s + 1) else ordN L s) := by
  unfold sendN
  cases h : rightM m with
  | false => simp
  | true =>
    rw [if_pos ⟨by unfold roomN; rw [ord_len]; exact decide_eq_true hl, rfl⟩]
    simp [ordN]
theorem map_eraseIdx_ : ∀ (L : List Ms) (k : Nat), (L.map fun m => ((m, none) : PcP)).eraseIdx k = (L.eraseIdx k).map fun m => (m, none)
  | [], _ => rfl
  | _ :: _, 0 => rfl
  | x :: L, k + 1 => by simp [map_eraseIdx_ L k]
theorem ord_drop {L : List Ms} {s k : Nat} (hk : k < L.length) : dropN (ordN L s) (k : Int) = (true, ordN (L.eraseIdx k) s) := by
  unfold dropN
  rw [if_pos (hasN_iff.2 ⟨by omega, by rw [ord_len]; omega⟩)]
  simp only [ordN, map_eraseIdx_, Int.toNat_natCast]
theorem ord_first {L : List Ms} {s p : Nat} {m : Ms} (h : L[p]? = some m) : delivN (ordN (L.drop p) s) 0 = some m ∧ (dropN (ordN (L.drop p) s) 0).2 = ordN (L.drop (p + 1)) s := by
  have hlt : p < L.length := (List.getElem?_eq_some_iff.1 h).1
  have e : L.drop p = m :: L.drop (p + 1) := by
    rw [List.drop_eq_getElem_cons hlt]
    congr 1
    rw [List.getElem?_eq_getElem hlt] at h
    exact Option.some.inj h
  rw [e]
  have h0 : hasN (ordN (m :: L.drop (p + 1)) s) 0 = true := hasN_iff.2 ⟨by omega, by rw [ord_len, List.length_cons]; omega⟩
  constructor
  · unfold delivN; rw [if_pos h0]; rfl
  · unfold dropN; rw [if_pos h0]; rfl
theorem flatMs_drop : ∀ (L : List Ms) (k : Nat), k < L.length → (L.flatMap msC).take (k * 11) ++ (L.flatMap msC).drop ((k + 1) * 11) = (L.eraseIdx k).flatMap msC
  | [], k, h => by simp at h
  | y :: L, 0, h => by
    rw [List.flatMap_cons, Nat.zero_mul, List.take_zero, List.nil_append, show (0 + 1) * 11 = (msC y).length by rw [msC_len], List.drop_left]
    rfl
  | y :: L, k + 1, h => by
    have ih := flatMs_drop L k (by simpa using h)
    have t1 : (msC y ++ L.flatMap msC).take ((k + 1) * 11) = msC y ++ (L.flatMap msC).take (k * 11) := by rw [show (k + 1) * 11 = (msC y).length + k * 11 by rw [msC_len]; omega, List.take_length_add_append]
    have t2 : (msC y ++ L.flatMap msC).drop ((k + 1 + 1) * 11) = (L.flatMap msC).drop ((k + 1) * 11) := by rw [show (k + 1 + 1) * 11 = (msC y).length + (k + 1) * 11 by rw [msC_len]; omega, List.drop_length_add_append]
    rw [List.eraseIdx_cons_succ, List.flatMap_cons, List.flatMap_cons, t1, t2, List.append_assoc, ih]
/-- The net and what is wanted, alike. -/
def OrdR (W1 : World) (g k : Nat) (L : List Ms) (v : Value) (w : World) : Prop := ∃ (G : Fp) (s : Nat), NX G W1 w g (ordN L s) k ∧ LsF G w v L
def OrdT (W1 : World) (g : Nat) (v : Value) (w : World) : Prop := ∃ L : List Ms, L.length ≤ 40 ∧ OrdR W1 g 40 L v w
theorem OrdT.drop {W1 w w4 : World} {g s k : Nat} {G : Fp} {L : List Ms} {v4 : Value} (h : NX G W1 w g (ordN (L.eraseIdx k) s) 40) (hk : k < L.length) (hl : L.length ≤ 40)
    (hp : WayF (G.since w.drew w4) w4 49 11 v4 (L.length - 1) ((L.flatMap msC).take (k * 11) ++ (L.flatMap msC).drop ((k + 1) * 11))) (hg : w.drew.grownBy w4 none) : OrdT W1 g v4 w4 := by
  have hle : (L.eraseIdx k).length = L.length - 1 := List.length_eraseIdx_of_lt hk
  refine ⟨L.eraseIdx k, by omega, G.since w.drew w4, s, (h.more (Below.drewN' (Ext.refl w) 1)).other (Chg.of_grown hg (fun q hq => by cases hq)), ?_⟩
  unfold LsF
  rw [← flatMs_drop L k hk, hle]
  exact hp
/-- The rest of it, and all of what is wanted. -/
def OrdD (W1 : World) (g p : Nat) (L : List Ms) (v : Value) (w : World) : Prop := ∃ (G : Fp) (s : Nat), NX G W1 w g (ordN (L.drop p) s) 40 ∧ LsF G w v L

set_option maxRecDepth 100000 in
set_option maxHeartbeats 4000000 in
theorem NetOrder_calls (l : List Ms) (lost : Nat) (hlost : lost ≤ 255) (v : Value) (w : World) (h : RdI 11 w v (l.map msL)) : Calls Try.prog 7 #[v, .int .u8 (lost : Int)] w fun e w' => e = .returned (.bool true) ∧ Ext w w' := by
  obtain ⟨A, c, rfl, hlc, hcm⟩ := h.slice_
  rw [List.length_map] at hlc h ⊢
  have HR := Lib.hid h
  clear h
  have HLC := Lib.hid (And.intro hlc hcm)
  clear hlc hcm
  go_enter Try.func7, Try.ntmps7
  go_wp2_with fail
  refine (alive12_any w).mono ?_
  rintro e0 w0 ⟨rfl, hx0⟩
  have HX0 := Lib.hid hx0
  clear hx0
  by_cases h40 : l.length ≤ 40
  rotate_left
  · have d40 : decide ((40 : Int) < (l.length : Int)) = true := decide_eq_true (by omega)
    have d40' : decide (40 < l.length) = true := decide_eq_true (by omega)
    clear h40
    go_wp2
    go_ret
    exact ⟨rfl, HX0.out⟩
  have d40 : decide ((40 : Int) < (l.length : Int)) = false := decide_eq_false (by omega)
  have d40' : decide (40 < l.length) = false := decide_eq_false (by omega)
  have H40 := Lib.hid h40
  clear h40
  obtain ⟨W1, hW1⟩ : ∃ W, W = w0.alloc (.cells #[.slice none 0 0, .int .i64 0] 69) := ⟨_, rfl⟩
  have HN1 := Lib.hid (NX.new (show Blk W1 w0.heap.size 69 #[.slice none 0 0, .int .i64 0] by rw [hW1]; exact Blk.new _ _ _))
  have HX1 := Lib.hid (HX0.out.trans (show Ext w0 W1 by rw [hW1]; exact Ext.alloc_ _ _))
  go_upto_region 6 with (fail)
  rw [← hW1]
  clear hW1
  obtain ⟨g, hg⟩ : ∃ q, q = w0.heap.size := ⟨_, rfl⟩
  rw [← hg]
  rw [← hg] at HN1
  have HGL : Hid (w.heap.size ≤ g) := Lib.hid (by rw [hg]; exact HX0.out.size)
  clear hg HX0
  have HK0 : Hid (OrdR W1 g 0 [] (.slice none 0 0) W1) := Lib.hid ⟨_, _, HN1.out, LsF.nil _ _⟩
  clear HN1
  go_wp2_with fail
  go_loopg [6, 7] l.length (fun gg v i wr => ∃ q : Nat, i = .int .i64 q ∧ q ≤ l.length ∧ gg = l.length - q ∧ Hid (∃ L, L.length ≤ q ∧ OrdR W1 g q L v wr))
  case atStart => exact ⟨0, rfl, Nat.zero_le _, rfl, Lib.hid ⟨[], Nat.le_refl _, HK0.out⟩⟩
  case round =>
    obtain ⟨q, rfl, hq, rfl, HK⟩ := hrel
    clear HK0
    obtain ⟨L, hL, G, s, hn, hls⟩ := HK.out
    clear HK
    obtain ⟨Al, cl, rfl, -, -, -⟩ := hls.slice_
    have HN := Lib.hid hn
    have HS := Lib.hid hls
    have HLQ := Lib.hid hL
    clear hn hls hL
    by_cases hlt : q < l.length
    · have e1 : decide ((q : Int) < (l.length : Int)) = true := decide_eq_true (by omega)
      have e1' : decide (q < l.length) = true := decide_eq_true hlt
      have HLT := Lib.hid hlt
      obtain ⟨m, hm⟩ : ∃ m, l[q]? = some m := ⟨_, List.getElem?_eq_getElem hlt⟩
      have HGET : Hid (∃ b o, A = some ⟨b, o, none⟩ ∧ ∀ W, Ext w W → ∀ i z, (msL m)[i]? = some z → W.cell? ⟨b, o + q * 11 + i, none⟩ = some (.int .i64 z)) := Lib.hid (by obtain ⟨b, o, rfl, hb, hcl⟩ := HR.out.get (by rw [List.length_map]; have := HLT.out; omega); exact ⟨b, o, rfl, fun W hx i z hz => (hx.cell (p := ⟨b, o + q * 11 + i, none⟩) hb).trans (hcl q (msL m) i z (by rw [List.getElem?_map, hm]; rfl) hz)⟩)
      obtain ⟨b, o, rfl, hcl⟩ := HGET.out
      have HCL := Lib.hid hcl
      clear hcl hm hlt HGET
      have hcw := HCL.out wr (HN.out.ext_ HX1.out HGL.out)
      have m0 := hcw 0 m.node rfl
      have m1 := hcw 1 m.kind rfl
      have m2 := hcw 2 m.term rfl
      have m3 := hcw 3 m.gen rfl
      have m4 := hcw 4 m.job rfl
      have m5 := hcw 5 m.inc rfl
      have m6 := hcw 6 m.ver rfl
      have m7 := hcw 7 m.epoch rfl
      have m8 := hcw 8 m.til rfl
      have m9 := hcw 9 m.mode rfl
      have m10 := hcw 10 m.work rfl
      rw [Nat.add_zero] at m0
      clear hcw
      have x1 : (0 : Int) ≤ (q : Int) ∧ (q : Int) < (l.length : Int) := by have := HLT.out; omega
      have hwq : wrap64 ((q : Int) + 1) = (q : Int) + 1 := IntWalk.wrap64_in _ (by have := HLT.out; have := H40.out; omega)
      have HC := Lib.hid (HN.out.send (by have := HLT.out; have := H40.out; omega) m)
      rw [ord_send (by have := HLT.out; have := H40.out; have := HLQ.out; omega)] at HC
      unfold msV at HC
      cases hr : rightM m with
      | false =>
        rw [hr] at HC
        rw [if_neg (by simp)] at HC
        clear hr
        go_wp2_with fail
        refine HC.out.mono ?_
        rintro e3 w3 ⟨rfl, hn3, hc3⟩
        have HK3 : Hid (OrdR W1 g (q + 1) L (.slice Al L.length cl) w3) := Lib.hid ⟨G, s, hn3, HS.out.keep hc3 (fun _ h => h)⟩
        clear HC hn3 hc3
        clear m0 m1 m2 m3 m4 m5 m6 m7 m8 m9 m10
        go_wp2
        go_roundg (l.length - (q + 1))
        case measure => have := HLT.out; omega
        case rel => exact ⟨q + 1, by go_num, HLT.out, rfl, Lib.hid ⟨L, by have := HLQ.out; omega, HK3.out⟩⟩
      | true =>
        rw [hr] at HC
        rw [if_pos rfl] at HC
        clear hr
        go_wp2_with fail
        refine HC.out.mono ?_
        rintro e3 w3 ⟨rfl, hn3, hc3⟩
        have HN3 := Lib.hid hn3
        have HS3 := Lib.hid (HS.out.keep hc3 (fun _ h => h))
        clear HC hn3 hc3
        clear m0 m1 m2 m3 m4 m5 m6 m7 m8 m9 m10
        have hcw := HCL.out w3 (HN3.out.ext_ HX1.out HGL.out)
        have m0 := hcw 0 m.node rfl
        have m1 := hcw 1 m.kind rfl
        have m2 := hcw 2 m.term rfl
        have m3 := hcw 3 m.gen rfl
        have m4 := hcw 4 m.job rfl
        have m5 := hcw 5 m.inc rfl
        have m6 := hcw 6 m.ver rfl
        have m7 := hcw 7 m.epoch rfl
        have m8 := hcw 8 m.til rfl
        have m9 := hcw 9 m.mode rfl
        have m10 := hcw 10 m.work rfl
        rw [Nat.add_zero] at m0
        clear hcw
        have hl40 : L.length + 1 ≤ 41 := by have := HLQ.out; have := HLT.out; have := H40.out; omega
        go_wp2_with (at_builtin; refine wpList_pushW (F := G) rfl _ _ 60 rfl 49 (.agg #[.int .i64 0, .int .i64 0, .int .i64 0, .int .i64 0, .int .i64 0, .int .i64 0, .int .i64 0, .int .i64 0, .int .i64 0, .int .i64 0, .int .i64 0]) 11 88 Try.underlying60 (by kernel_rfl) (by simp [Value.cells]) (by omega) _ _ _ HS3.out rfl #[.int .i64 m.node, .int .i64 m.kind, .int .i64 m.term, .int .i64 m.gen, .int .i64 m.job, .int .i64 m.inc, .int .i64 m.ver, .int .i64 m.epoch, .int .i64 m.til, .int .i64 m.mode, .int .i64 m.work] rfl (by simp [Value.oneCell']) rfl rfl (by unfold maxLen; omega) (by omega) ?_; intro v6 w6 hg6)
        have hp6 := HS3.out.push (m := m) hg6
        have HK6 : Hid (OrdR W1 g (q + 1) (L ++ [m]) v6 w6) := Lib.hid ⟨_, _, HN3.out.other hp6.2, hp6.1⟩
        clear hp6 hg6
        go_roundg (l.length - (q + 1))
        case measure => have := HLT.out; omega
        case rel => exact ⟨q + 1, by go_num, HLT.out, rfl, Lib.hid ⟨L ++ [m], by rw [List.length_append, List.length_singleton]; have := HLQ.out; omega, HK6.out⟩⟩
    · obtain rfl : q = l.length := by omega
      have e1 : decide ((l.length : Int) < (l.length : Int)) = false := decide_eq_false (by omega)
      have e1' : decide (l.length < l.length) = false := decide_eq_false (by omega)
      have HL40 : Hid (L.length ≤ 40) := Lib.hid (by have := HLQ.out; have := H40.out; omega)
      have HN40 := Lib.hid (HN.out.le H40.out)
      clear hlt hq HN HLQ
      obtain ⟨n, hn⟩ : ∃ n, n = L.length := ⟨_, rfl⟩
      rw [← hn]
      have HNL := Lib.hid hn
      have HS := Lib.hid (show LsF G wr (.slice Al n cl) L by rw [hn]; exact HS.out)
      clear hn
      go_upto_if 37 with (fail)
      go_cut [6] (fun v wx => Hid (OrdT W1 g v wx))
      case first =>
        by_cases h0 : n = 0
        · have d0 : decide ((0 : Int) < (n : Int)) = false := decide_eq_false (by omega)
          have d0' : decide (0 < n) = false := decide_eq_false (by omega)
          have HT : Hid (OrdT W1 g (.slice Al n cl) wr) := Lib.hid ⟨L, HL40.out, G, s, HN40.out, HS.out⟩
          clear h0
          rw [d0']
          go_wp2_with fail
          go_meet
          exact HT
        · have d0 : decide ((0 : Int) < (n : Int)) = true := decide_eq_true (by omega)
          have d0' : decide (0 < n) = true := decide_eq_true (by omega)
          obtain ⟨k, hk⟩ : ∃ k, lost % n = k := ⟨_, rfl⟩
          have hkn : k < n := by rw [← hk]; exact Nat.mod_lt _ (by omega)
          have hk2 : (lost : Int) % (n : Int) = (k : Int) := by rw [← hk]; exact (Int.natCast_emod lost n).symm
          have HKN := Lib.hid hkn
          clear hk hkn
          rw [d0']
          have HC := Lib.hid (HN40.out.drop (k : Int))
          rw [ord_drop (by rw [← HNL.out]; exact HKN.out)] at HC
          have n0 : ¬ (n : Int) = 0 := by omega
          go_upto_region 14 with (fail)
          rw [hk2]
          clear hk2 n0 h0
          go_wp2_with fail
          refine HC.out.mono ?_
          rintro e3 w3 ⟨rfl, hn3, hc3⟩
          have HN3 := Lib.hid hn3
          have HS3 := Lib.hid (HS.out.keep hc3 (fun _ h => h))
          clear HC hn3 hc3
          obtain ⟨bl, rfl⟩ : ∃ b, Al = some ⟨b, 0, none⟩ := by obtain ⟨m, hm⟩ : ∃ m, L[0]? = some m := ⟨_, List.getElem?_eq_getElem (by have := HKN.out; have := HNL.out; omega)⟩; obtain ⟨b, e, -⟩ := HS3.out.at_ hm; exact ⟨b, e⟩
          obtain ⟨hnc, hcm⟩ : n ≤ cl ∧ cl ≤ maxLen := by obtain ⟨A', c', e', h1, h2, -⟩ := HS3.out.slice_; cases e'; rw [HNL.out]; exact ⟨h1, h2⟩
          have HCC := Lib.hid (And.intro hnc hcm)
          have hwq : wrap64 ((k : Int) + 1) = (k : Int) + 1 := IntWalk.wrap64_in _ (by have := HKN.out; have := HNL.out; have := HL40.out; omega)
          have hwi : IntKind.i64.wrap ((k : Int) + 1) = (k : Int) + 1 := IntWalk.i64_in _ (by have := HKN.out; have := HNL.out; have := HL40.out; omega)
          have x1 : k ≤ cl := by have := HKN.out; omega
          have x2 : k + 1 ≤ n := HKN.out
          have x3 : (k : Int) + 1 ≤ (n : Int) := by omega
          have x4 : (k : Int) ≤ (cl : Int) := by omega
          have x5 : (0 : Int) ≤ (k : Int) + 1 := by omega
          clear hnc hcm
          go_upto_region 16 with (fail)
          have HSD : Hid (WayF G w3.drew 49 11 (.slice (some ⟨bl, 0, none⟩) n cl) n (L.flatMap msC)) := Lib.hid (by have h := HS3.out.ext (Below.drewN' (Ext.refl w3) 1); unfold LsF at h; rw [← HNL.out] at h; exact h)
          refine held_begin (by kernel_rfl) ?_
          refine held_take (i := 0) (v := ?_) rfl (by kernel_rfl) (by kernel_rfl) (by kernel_rfl) (by rfl) (by first | assumption | exact True.intro) ?_ ?_
          rotate_left
          · (intro w hSw; go_simp; (try with_reducible rfl))
          try simp only [Act.put, List.setIfInBounds_toArray, List.set_cons_zero, List.set_cons_succ]
          refine held_take (i := 1) (v := ?_) rfl (by kernel_rfl) (by kernel_rfl) (by kernel_rfl) (by rfl) (by first | assumption | exact True.intro) ?_ ?_
          rotate_left
          · (intro w hSw; go_simp; (try with_reducible rfl))
          try simp only [Act.put, List.setIfInBounds_toArray, List.set_cons_zero, List.set_cons_succ]
          refine held_take (i := 2) (v := ?_) rfl (by kernel_rfl) (by kernel_rfl) (by kernel_rfl) (by rfl) (by first | assumption | exact True.intro) ?_ ?_
          rotate_left
          · (intro w hSw; go_simp; (try with_reducible rfl))
          try simp only [Act.put, List.setIfInBounds_toArray, List.set_cons_zero, List.set_cons_succ]
          refine held_take (i := 4) (v := ?_) rfl (by kernel_rfl) (by kernel_rfl) (by kernel_rfl) (by rfl) (by first | assumption | exact True.intro) ?_ ?_
          rotate_left
          · (intro w hSw; go_simp; (try with_reducible rfl))
          try simp only [Act.put, List.setIfInBounds_toArray, List.set_cons_zero, List.set_cons_succ]
          refine held_take (i := 5) (v := ?_) rfl (by kernel_rfl) (by kernel_rfl) (by kernel_rfl) (by rfl) (by first | assumption | exact True.intro) ?_ ?_
          rotate_left
          · (intro w hSw; go_simp; (try with_reducible rfl))
          try simp only [Act.put, List.setIfInBounds_toArray, List.set_cons_zero, List.set_cons_succ]
          refine held_take (i := 6) (v := ?_) rfl (by kernel_rfl) (by kernel_rfl) (by kernel_rfl) (by rfl) (by first | assumption | exact True.intro) ?_ ?_
          rotate_left
          · (intro w hSw; go_simp; (try with_reducible rfl))
          try simp only [Act.put, List.setIfInBounds_toArray, List.set_cons_zero, List.set_cons_succ]
          refine held_two (i := 3) (j := 7) (by kernel_rfl) rfl rfl (fun K hK => ?_) (fun K hK => ?_)
          · go_simp
            refine hK _ _ True.intro (fun _ => ?_)
            clear hK K
            try simp only [Act.put, List.setIfInBounds_toArray, List.set_cons_zero, List.set_cons_succ]
            refine held_op (i := 7) (by kernel_rfl) rfl (fun K hK => ?_)
            go_simp
            refine hK _ _ True.intro (fun _ => ?_)
            clear hK K
            try simp only [Act.put, List.setIfInBounds_toArray, List.set_cons_zero, List.set_cons_succ]
            refine held_op (i := 8) (by kernel_rfl) rfl (fun K hK => ?_)
            refine step_dropW (F := G) _ _ 60 rfl (by rfl) 49 (.agg #[.int .i64 0, .int .i64 0, .int .i64 0, .int .i64 0, .int .i64 0, .int .i64 0, .int .i64 0, .int .i64 0, .int .i64 0, .int .i64 0, .int .i64 0]) 11 88 Try.underlying60 (by kernel_rfl) (by simp [Value.cells]) (by omega) bl n cl (L.flatMap msC) HSD.out k HKN.out rfl _ _ _ rfl rfl (by by_cases hc : cl = k + 1; (· left; have := HCC.out; omega); (· right; rw [if_neg hc])) (by intro h; split at h <;> cases h) (by have := HCC.out; omega) (by have := HNL.out; have := HL40.out; omega) ?_
            intro v4 w4 hp4 hg4 hv4
            have HT : Hid (OrdT W1 g v4 w4) := Lib.hid (OrdT.drop HN3.out (by rw [← HNL.out]; exact HKN.out) HL40.out (by rw [← HNL.out]; exact hp4) hg4)
            clear hp4 hg4 hv4
            refine hK _ _ True.intro (fun _ => ?_)
            clear hK K
            try simp only [Act.put, List.setIfInBounds_toArray, List.set_cons_zero, List.set_cons_succ]
            refine held_take (i := 9) (v := ?_) rfl (by kernel_rfl) (by kernel_rfl) (by kernel_rfl) (by rfl) (by first | assumption | exact True.intro) ?_ ?_
            rotate_left
            · (intro w hSw; go_simp; (try with_reducible rfl))
            try simp only [Act.put, List.setIfInBounds_toArray, List.set_cons_zero, List.set_cons_succ]
            refine wpAnyH_done (by kernel_rfl) ?_ _
            refine NoPanic.normal ?_
            go_wp2_with fail
            all_goals (go_meet; exact HT)
          · go_simp
            refine hK _ _ True.intro (fun _ => ?_)
            clear hK K
            try simp only [Act.put, List.setIfInBounds_toArray, List.set_cons_zero, List.set_cons_succ]
            refine held_op (i := 3) (by kernel_rfl) rfl (fun K hK => ?_)
            go_simp
            refine hK _ _ True.intro (fun _ => ?_)
            clear hK K
            try simp only [Act.put, List.setIfInBounds_toArray, List.set_cons_zero, List.set_cons_succ]
            refine held_op (i := 8) (by kernel_rfl) rfl (fun K hK => ?_)
            refine step_dropW (F := G) _ _ 60 rfl (by rfl) 49 (.agg #[.int .i64 0, .int .i64 0, .int .i64 0, .int .i64 0, .int .i64 0, .int .i64 0, .int .i64 0, .int .i64 0, .int .i64 0, .int .i64 0, .int .i64 0]) 11 88 Try.underlying60 (by kernel_rfl) (by simp [Value.cells]) (by omega) bl n cl (L.flatMap msC) HSD.out k HKN.out rfl _ _ _ rfl rfl (by by_cases hc : cl = k + 1; (· left; have := HCC.out; omega); (· right; rw [if_neg hc])) (by intro h; split at h <;> cases h) (by have := HCC.out; omega) (by have := HNL.out; have := HL40.out; omega) ?_
            intro v4 w4 hp4 hg4 hv4
            have HT : Hid (OrdT W1 g v4 w4) := Lib.hid (OrdT.drop HN3.out (by rw [← HNL.out]; exact HKN.out) HL40.out (by rw [← HNL.out]; exact hp4) hg4)
            clear hp4 hg4 hv4
            refine hK _ _ True.intro (fun _ => ?_)
            clear hK K
            try simp only [Act.put, List.setIfInBounds_toArray, List.set_cons_zero, List.set_cons_succ]
            refine held_take (i := 9) (v := ?_) rfl (by kernel_rfl) (by kernel_rfl) (by kernel_rfl) (by rfl) (by first | assumption | exact True.intro) ?_ ?_
            rotate_left
            · (intro w hSw; go_simp; (try with_reducible rfl))
            try simp only [Act.put, List.setIfInBounds_toArray, List.set_cons_zero, List.set_cons_succ]
            refine wpAnyH_done (by kernel_rfl) ?_ _
            refine NoPanic.normal ?_
            go_wp2_with fail
            all_goals (go_meet; exact HT)
      case rest =>
        obtain ⟨L, hL, G, s, hn, hls⟩ := hcut.out
        clear hcut HS HN40 HL40 HNL
        obtain ⟨Al, cl, rfl, -, -, -⟩ := hls.slice_
        have HL := Lib.hid hL
        have HD0 : Hid (OrdD W1 g 0 L (.slice Al L.length cl) wc) := Lib.hid ⟨G, s, hn, hls⟩
        clear hL hn hls
        obtain ⟨n, hn⟩ : ∃ n, n = L.length := ⟨_, rfl⟩
        rw [← hn] at HD0 ⊢
        have HNL := Lib.hid hn
        clear hn
        go_wp2_with fail
        go_loopg [9] n (fun gg i wr => ∃ p : Nat, i = .int .i64 p ∧ p ≤ n ∧ gg = n - p ∧ Hid (OrdD W1 g p L (.slice Al n cl) wr))
        case atStart => exact ⟨0, rfl, Nat.zero_le _, rfl, HD0⟩
        case round =>
          obtain ⟨p, rfl, hp, rfl, HK⟩ := hrel
          clear HD0
          obtain ⟨G, s, hn, hls⟩ := HK.out
          clear HK
          have HN := Lib.hid hn
          have HS := Lib.hid hls
          clear hn hls
          by_cases hlt : p < n
          · have e1 : decide ((p : Int) < (n : Int)) = true := decide_eq_true (by omega)
            have e1' : decide (p < n) = true := decide_eq_true hlt
            obtain ⟨m, hm⟩ : ∃ m, L[p]? = some m := ⟨_, List.getElem?_eq_getElem (by rw [← HNL.out]; exact hlt)⟩
            have HM := Lib.hid hm
            have HLT := Lib.hid hlt
            have x1 : (0 : Int) ≤ (p : Int) ∧ (p : Int) < (n : Int) := by omega
            have hwq : wrap64 ((p : Int) + 1) = (p : Int) + 1 := IntWalk.wrap64_in _ (by have := HL.out; have := HNL.out; omega)
            have HC := Lib.hid (HN.out.deliver 0)
            rw [(ord_first hm).1, (ord_first hm).2] at HC
            unfold getA msV at HC
            clear hm hlt
            go_wp2_with fail
            refine HC.out.mono ?_
            rintro e4 w4 ⟨rfl, hn4, hc4⟩
            obtain ⟨W4, hW4⟩ : ∃ W, W = w4.alloc (.cells #[.int .i64 m.node, .int .i64 m.kind, .int .i64 m.term, .int .i64 m.gen, .int .i64 m.job, .int .i64 m.inc, .int .i64 m.ver, .int .i64 m.epoch, .int .i64 m.til, .int .i64 m.mode, .int .i64 m.work] 49) := ⟨_, rfl⟩
            have HU4 := Lib.hid (show MsAt W4 w4.heap.size m by rw [hW4]; exact ⟨Blk.new _ _ _⟩)
            have HX4 := Lib.hid (show Ext w4 W4 by rw [hW4]; exact Ext.alloc_ _ _)
            have HN4 := Lib.hid (hn4.more HX4.out)
            have HS4 := Lib.hid ((HS.out.keep hc4 (fun _ h => h)).ext HX4.out)
            clear hn4 hc4 HC
            go_upto_region 21 with (fail)
            rw [← hW4]
            clear hW4
            obtain ⟨bl, rfl, -, -, hcl⟩ := HS4.out.at_ HM.out
            obtain ⟨m0, m1, m2, m3, m4, m5, m6, m7, m8, m9, m10⟩ := HU4.out.cells
            have u0 := hcl 0 m.node rfl
            have u1 := hcl 1 m.kind rfl
            have u2 := hcl 2 m.term rfl
            have u3 := hcl 3 m.gen rfl
            have u4 := hcl 4 m.job rfl
            have u5 := hcl 5 m.inc rfl
            have u6 := hcl 6 m.ver rfl
            have u7 := hcl 7 m.epoch rfl
            have u8 := hcl 8 m.til rfl
            have u9 := hcl 9 m.mode rfl
            have u10 := hcl 10 m.work rfl
            rw [Nat.add_zero] at u0
            clear hcl
            have HK4 : Hid (∀ nn, OrdD W1 g (p + 1) L (.slice (some ⟨bl, 0, none⟩) n cl) (W4.drewN nn)) := Lib.hid (fun nn => ⟨G, s, HN4.out.more (Below.drewN' (Ext.refl W4) nn), HS4.out.ext (Below.drewN' (Ext.refl W4) nn)⟩)
            go_quiet (fail)
            go_wp2_with fail
            go_roundg (n - (p + 1))
            case measure => have := HLT.out; omega
            case rel => exact ⟨p + 1, by go_num, HLT.out, rfl, Lib.hid (HK4.out _)⟩
          · obtain rfl : p = n := by omega
            have e1 : decide ((p : Int) < (p : Int)) = false := decide_eq_false (by omega)
            have e1' : decide (p < p) = false := decide_eq_false (by omega)
            have HC := Lib.hid HN.out.len
            rw [ord_len, List.drop_of_length_le (by rw [HNL.out]; exact Nat.le_refl _)] at HC
            clear hlt hp
            go_wp2_with fail
            refine HC.out.mono ?_
            rintro e5 w5 ⟨rfl, hx5⟩
            have HXF := Lib.hid ((HN.out.more hx5).ext_ HX1.out HGL.out)
            clear hx5 HC
            go_wp2
            go_ret
            exact ⟨rfl, HXF.out⟩

end Go.Proofs.Ytdijinboopdheaa

/- Two closed facts on the program that every row asks. -/
namespace Go.Proofs.Ytdijinboopdheaa
open Go.RowKit

theorem Try.ownKnob : ownKnob Try.prog.godebug = none := by kernel_rfl

theorem Try.laidOut : laidOutB Try.prog = true := by kernel_rfl

end Go.Proofs.Ytdijinboopdheaa

/- Layer 13: agents and messages as arguments. -/
namespace Go.Proofs.Ytdijinboopdheaa
open Go.ChangeShapes Go.WideShapes Go.ChangeAt Go.RowKit Go.Deep

section
variable {H : Type} {enc : TypeId × Value → H} {P : Program}
theorem dec_nums13 {w : World} {base : Nat} {held : Bool} {r : Reach} {b0 : Nat} {t : TypeId} {fs : Array Field} {v : Value} {d : DataW H} {p : List MemPlace} (hs : P.underlying t = some (.struct fs)) (hone : oneCellFields P fs = true) (hC : P.cellsOf t = fs.size)
    {ti : TypeId} (hta : (fs.all fun f => f.type == ti) = true) (hi : P.underlying ti = some (.int .i64)) (hv : Value.okWide P w r b0 t v) (h : DataW.Trod enc P w base (fun _ => true) held t v d p) : ∃ l : List Int, l.length = fs.size ∧ v = .agg (l.map (Value.int .i64)).toArray := by
  obtain ⟨cs, rfl, hsz⟩ := okWide_struct hs hv
  obtain ⟨fuel, hf⟩ := h
  have hti : ∀ f ∈ fs, P.underlying f.type = some (.int .i64) := fun f hf => by
    obtain ⟨i, hlt, rfl⟩ := Array.getElem_of_mem hf
    have := Array.all_eq_true.1 hta i hlt
    rw [beq_iff_eq] at this
    rw [this]
    exact hi
  obtain ⟨hl, hp⟩ := struct_parts hs hone hC hf
  have hl' : cs.size = fs.size := hsz.trans hC
  refine ⟨cs.toList.map intOf, by simpa using hl', ?_⟩
  congr 1
  apply Array.ext'
  apply List.ext_getElem?
  intro i
  by_cases hi : i < fs.size
  · obtain ⟨u, n, y, hu, hy⟩ := hp i fs[i] (Array.getElem?_eq_getElem hi)
    obtain ⟨z, hz, _, _⟩ := DataW.trod_int (hti _ (Array.getElem_mem hi)) hy
    simp only [List.cons.injEq, and_true] at hz
    subst hz
    have hu' : cs.toList[i]? = some (.int .i64 z) := hu
    simp only [List.getElem?_map, hu', Option.map_some, intOf]
  · rw [List.getElem?_eq_none (by simp; omega), List.getElem?_eq_none (by simp; omega)]

/-! ### Slices of structs -/


end

section
variable {H : Type} {enc : TypeId × Value → H} {w : World} {base : Nat} {held : Bool} {r : Reach} {b0 : Nat}
set_option maxRecDepth 100000 in
theorem dec_msg {v : Value} {d : DataW H} {p : List MemPlace} (hv : Value.okWide Try.prog w r b0 49 v) (h : DataW.Trod enc Try.prog w base (fun _ => true) held 49 v d p) : ∃ m : Ms, v = msV m := by
  obtain ⟨l, hl, rfl⟩ := dec_nums13 Try.underlying49 (by kernel_rfl) (by kernel_rfl) (ti := 3) (by kernel_rfl) Try.underlying3 hv h
  match l, hl with
  | [a, b, c, d, e, f, g, h, i, j, k], _ => exact ⟨⟨a, b, c, d, e, f, g, h, i, j, k⟩, rfl⟩
theorem tr_int13 {m : Nat} {u : Value} {y : DataW H × List MemPlace} (h : DataW.trod enc Try.prog w base (fun _ => true) held m 3 [u] = some y) : ∃ z : Int, u = .int .i64 z := by
  obtain ⟨z, hz, _, _⟩ := DataW.trod_int Try.underlying3 h
  simp only [List.cons.injEq, and_true] at hz
  exact ⟨z, hz⟩
theorem tr_bool13 {m : Nat} {u : Value} {y : DataW H × List MemPlace} (h : DataW.trod enc Try.prog w base (fun _ => true) held m 4 [u] = some y) : ∃ z : Bool, u = .bool z := by
  obtain ⟨z, hz, _⟩ := DataW.trod_bool Try.underlying4 h
  simp only [List.cons.injEq, and_true] at hz
  exact ⟨z, hz⟩
set_option maxRecDepth 100000 in
theorem dec_agent {v : Value} {d : DataW H} {p : List MemPlace} (hv : Value.okWide Try.prog w r b0 80 v) (h : DataW.Trod enc Try.prog w base (fun _ => true) held 80 v d p) : ∃ a : Ag, v = agV a := by
  obtain ⟨cs, rfl, hsz⟩ := okWide_struct Try.underlying80 hv
  obtain ⟨fuel, hf⟩ := h
  obtain ⟨hl, hp⟩ := struct_parts Try.underlying80 (by kernel_rfl) (by kernel_rfl) hf
  obtain ⟨u0, k0, y0, c0, t0⟩ := hp 0 _ rfl
  obtain ⟨u1, k1, y1, c1, t1⟩ := hp 1 _ rfl
  obtain ⟨u2, k2, y2, c2, t2⟩ := hp 2 _ rfl
  obtain ⟨u3, k3, y3, c3, t3⟩ := hp 3 _ rfl
  obtain ⟨u4, k4, y4, c4, t4⟩ := hp 4 _ rfl
  obtain ⟨u5, k5, y5, c5, t5⟩ := hp 5 _ rfl
  obtain ⟨u6, k6, y6, c6, t6⟩ := hp 6 _ rfl
  obtain ⟨u7, k7, y7, c7, t7⟩ := hp 7 _ rfl
  obtain ⟨u8, k8, y8, c8, t8⟩ := hp 8 _ rfl
  obtain ⟨u9, k9, y9, c9, t9⟩ := hp 9 _ rfl
  obtain ⟨z0, rfl⟩ := tr_bool13 t0
  obtain ⟨z1, rfl⟩ := tr_int13 t1
  obtain ⟨z2, rfl⟩ := tr_int13 t2
  obtain ⟨z3, rfl⟩ := tr_int13 t3
  obtain ⟨z4, rfl⟩ := tr_int13 t4
  obtain ⟨z5, rfl⟩ := tr_int13 t5
  obtain ⟨z6, rfl⟩ := tr_int13 t6
  obtain ⟨z7, rfl⟩ := tr_int13 t7
  obtain ⟨z8, rfl⟩ := tr_int13 t8
  obtain ⟨z9, rfl⟩ := tr_int13 t9
  refine ⟨⟨z0, z1, z2, z3, z4, z5, z6, z7, z8, z9⟩, ?_⟩
  have hsz' : cs.toList.length = 10 := hl
  obtain ⟨l⟩ := cs
  match l, hsz' with
  | [a, b, c, d, e, f, g, h, i, j], _ =>
    simp only [Value.cells, List.getElem?_cons_zero, List.getElem?_cons_succ, Option.some.injEq] at c0 c1 c2 c3 c4 c5 c6 c7 c8 c9
    subst c0 c1 c2 c3 c4 c5 c6 c7 c8 c9
    rfl
end

end Go.Proofs.Ytdijinboopdheaa

/- Layer 12: messages, and what is done to a net, as arguments. -/
namespace Go.Proofs.Ytdijinboopdheaa
open Go.ChangeShapes Go.WideShapes Go.ChangeAt Go.RowKit Go.Deep

/-- What is done to a net: a kind, a number, a bit, a message. -/
structure A12 where
  kind : Int
  i : Int
  bit : Int
  m : Ms
def a12L (a : A12) : List Int := [a.kind, a.i, a.bit, a.m.node, a.m.kind, a.m.term, a.m.gen, a.m.job, a.m.inc, a.m.ver, a.m.epoch, a.m.til, a.m.mode, a.m.work]
def a12Of (x : List Int) : A12 := ⟨x.getD 0 0, x.getD 1 0, x.getD 2 0, ofL (x.drop 3)⟩
theorem a12L_of {x : List Int} (h : x.length = 14) : a12L (a12Of x) = x := by
  match x, h with
  | [a, b, c, d, e, f, g, h, i, j, k, l, m, n], _ => rfl

section
variable {H : Type} {enc : TypeId × Value → H} {w : World} {base : Nat} {held : Bool} {r : Reach} {b0 : Nat}
set_option maxRecDepth 100000 in
theorem dec_msgs {v : Value} {d : DataW H} {p : List MemPlace} (hv : Value.okWide Try.prog w r b0 60 v) (h : DataW.Trod enc Try.prog w base (fun _ => true) held 60 v d p) : ∃ l : List Ms, RdI 11 w v (l.map msL) := by
  obtain ⟨l, hl, hr⟩ := dec_rdI Try.underlying60 11 (by decide) (by kernel_rfl) (fun m cs x hx j hj => by
    obtain ⟨-, hp⟩ := struct_parts Try.underlying49 (by kernel_rfl) (by kernel_rfl) hx
    match j, hj with
    | 0, _ =>
      obtain ⟨u, k, y, hu, hy⟩ := hp 0 _ rfl
      obtain ⟨z, rfl⟩ := tr_int13 hy
      exact ⟨z, hu⟩
    | 1, _ =>
      obtain ⟨u, k, y, hu, hy⟩ := hp 1 _ rfl
      obtain ⟨z, rfl⟩ := tr_int13 hy
      exact ⟨z, hu⟩
    | 2, _ =>
      obtain ⟨u, k, y, hu, hy⟩ := hp 2 _ rfl
      obtain ⟨z, rfl⟩ := tr_int13 hy
      exact ⟨z, hu⟩
    | 3, _ =>
      obtain ⟨u, k, y, hu, hy⟩ := hp 3 _ rfl
      obtain ⟨z, rfl⟩ := tr_int13 hy
      exact ⟨z, hu⟩
    | 4, _ =>
      obtain ⟨u, k, y, hu, hy⟩ := hp 4 _ rfl
      obtain ⟨z, rfl⟩ := tr_int13 hy
      exact ⟨z, hu⟩
    | 5, _ =>
      obtain ⟨u, k, y, hu, hy⟩ := hp 5 _ rfl
      obtain ⟨z, rfl⟩ := tr_int13 hy
      exact ⟨z, hu⟩
    | 6, _ =>
      obtain ⟨u, k, y, hu, hy⟩ := hp 6 _ rfl
      obtain ⟨z, rfl⟩ := tr_int13 hy
      exact ⟨z, hu⟩
    | 7, _ =>
      obtain ⟨u, k, y, hu, hy⟩ := hp 7 _ rfl
      obtain ⟨z, rfl⟩ := tr_int13 hy
      exact ⟨z, hu⟩
    | 8, _ =>
      obtain ⟨u, k, y, hu, hy⟩ := hp 8 _ rfl
      obtain ⟨z, rfl⟩ := tr_int13 hy
      exact ⟨z, hu⟩
    | 9, _ =>
      obtain ⟨u, k, y, hu, hy⟩ := hp 9 _ rfl
      obtain ⟨z, rfl⟩ := tr_int13 hy
      exact ⟨z, hu⟩
    | 10, _ =>
      obtain ⟨u, k, y, hu, hy⟩ := hp 10 _ rfl
      obtain ⟨z, rfl⟩ := tr_int13 hy
      exact ⟨z, hu⟩) hv h
  refine ⟨l.map ofL, ?_⟩
  have e : (l.map ofL).map msL = l := by
    rw [List.map_map]
    conv => rhs; rw [← List.map_id l]
    exact List.map_congr_left fun x hx => msL_ofL (hl x hx)
  rw [e]
  exact hr
set_option maxRecDepth 100000 in
theorem dec_acts12 {v : Value} {d : DataW H} {p : List MemPlace} (hv : Value.okWide Try.prog w r b0 55 v) (h : DataW.Trod enc Try.prog w base (fun _ => true) held 55 v d p) : ∃ l : List A12, RdI 14 w v (l.map a12L) := by
  obtain ⟨l, hl, hr⟩ := dec_rdI Try.underlying55 14 (by decide) (by kernel_rfl) (fun m cs x hx j hj => by
    refine nest_ints Try.underlying74 3 11 (by kernel_rfl) (fun i hi => ?_) ⟨_, rfl, rfl, rfl⟩ Try.underlying49 (by kernel_rfl) (by kernel_rfl) rfl ?_ hx j hj
    · match i, hi with
      | 0, _ => exact ⟨_, rfl, rfl, by kernel_rfl, Try.underlying3⟩
      | 1, _ => exact ⟨_, rfl, rfl, by kernel_rfl, Try.underlying3⟩
      | 2, _ => exact ⟨_, rfl, rfl, by kernel_rfl, Try.underlying3⟩
    · intro f hf
      simp only [List.mem_toArray, List.mem_cons, List.not_mem_nil, or_false] at hf
      rcases hf with rfl | rfl | rfl | rfl | rfl | rfl | rfl | rfl | rfl | rfl | rfl <;> exact Try.underlying3) hv h
  refine ⟨l.map a12Of, ?_⟩
  have e : (l.map a12Of).map a12L = l := by
    rw [List.map_map]
    conv => rhs; rw [← List.map_id l]
    exact List.map_congr_left fun x hx => a12L_of (hl x hx)
  rw [e]
  exact hr
end

end Go.Proofs.Ytdijinboopdheaa

/- Layer 12's statement NetSent, walked. -/
namespace Go.Proofs.Ytdijinboopdheaa
open Go.RowKit

theorem ms_cases (n m : Ms) : n = m ∨ (¬ n.node = m.node) ∨ (n.node = m.node ∧ ¬ n.kind = m.kind) ∨ (n.node = m.node ∧ n.kind = m.kind ∧ ¬ n.term = m.term) ∨ (n.node = m.node ∧ n.kind = m.kind ∧ n.term = m.term ∧ ¬ n.gen = m.gen) ∨ (n.node = m.node ∧ n.kind = m.kind ∧ n.term = m.term ∧ n.gen = m.gen ∧ ¬ n.job = m.job) ∨ (n.node = m.node ∧ n.kind = m.kind ∧ n.term = m.term ∧ n.gen = m.gen ∧ n.job = m.job ∧ ¬ n.inc = m.inc) ∨ (n.node = m.node ∧ n.kind = m.kind ∧ n.term = m.term ∧ n.gen = m.gen ∧ n.job = m.job ∧ n.inc = m.inc ∧ ¬ n.ver = m.ver) ∨ (n.node = m.node ∧ n.kind = m.kind ∧ n.term = m.term ∧ n.gen = m.gen ∧ n.job = m.job ∧ n.inc = m.inc ∧ n.ver = m.ver ∧ ¬ n.epoch = m.epoch) ∨ (n.node = m.node ∧ n.kind = m.kind ∧ n.term = m.term ∧ n.gen = m.gen ∧ n.job = m.job ∧ n.inc = m.inc ∧ n.ver = m.ver ∧ n.epoch = m.epoch ∧ ¬ n.til = m.til) ∨ (n.node = m.node ∧ n.kind = m.kind ∧ n.term = m.term ∧ n.gen = m.gen ∧ n.job = m.job ∧ n.inc = m.inc ∧ n.ver = m.ver ∧ n.epoch = m.epoch ∧ n.til = m.til ∧ ¬ n.mode = m.mode) ∨ (n.node = m.node ∧ n.kind = m.kind ∧ n.term = m.term ∧ n.gen = m.gen ∧ n.job = m.job ∧ n.inc = m.inc ∧ n.ver = m.ver ∧ n.epoch = m.epoch ∧ n.til = m.til ∧ n.mode = m.mode ∧ ¬ n.work = m.work) := by
  obtain ⟨a0, a1, a2, a3, a4, a5, a6, a7, a8, a9, a10⟩ := n
  obtain ⟨b0, b1, b2, b3, b4, b5, b6, b7, b8, b9, b10⟩ := m
  simp only [Ms.mk.injEq]
  by_cases h0 : a0 = b0
  rotate_left
  · right; left; exact h0
  by_cases h1 : a1 = b1
  rotate_left
  · right; right; left; exact ⟨h0, h1⟩
  by_cases h2 : a2 = b2
  rotate_left
  · right; right; right; left; exact ⟨h0, h1, h2⟩
  by_cases h3 : a3 = b3
  rotate_left
  · right; right; right; right; left; exact ⟨h0, h1, h2, h3⟩
  by_cases h4 : a4 = b4
  rotate_left
  · right; right; right; right; right; left; exact ⟨h0, h1, h2, h3, h4⟩
  by_cases h5 : a5 = b5
  rotate_left
  · right; right; right; right; right; right; left; exact ⟨h0, h1, h2, h3, h4, h5⟩
  by_cases h6 : a6 = b6
  rotate_left
  · right; right; right; right; right; right; right; left; exact ⟨h0, h1, h2, h3, h4, h5, h6⟩
  by_cases h7 : a7 = b7
  rotate_left
  · right; right; right; right; right; right; right; right; left; exact ⟨h0, h1, h2, h3, h4, h5, h6, h7⟩
  by_cases h8 : a8 = b8
  rotate_left
  · right; right; right; right; right; right; right; right; right; left; exact ⟨h0, h1, h2, h3, h4, h5, h6, h7, h8⟩
  by_cases h9 : a9 = b9
  rotate_left
  · right; right; right; right; right; right; right; right; right; right; left; exact ⟨h0, h1, h2, h3, h4, h5, h6, h7, h8, h9⟩
  by_cases h10 : a10 = b10
  rotate_left
  · right; right; right; right; right; right; right; right; right; right; right; exact ⟨h0, h1, h2, h3, h4, h5, h6, h7, h8, h9, h10⟩
  exact .inl ⟨h0, h1, h2, h3, h4, h5, h6, h7, h8, h9, h10⟩
/-- What was sent, what came, how often was doubled. -/
structure SentP (S : NtP) (L M : List Ms) (d : Nat) : Prop where
  few : S.way.length + M.length ≤ L.length + d
  way : ∀ p ∈ S.way, p.1 ∈ L
  got : ∀ m ∈ M, m ∈ L
theorem SentP.new : SentP newN12 [] [] 0 := ⟨Nat.le_refl _, fun p hp => (by cases hp), fun m hm => (by cases hm)⟩
section
variable {S : NtP} {L M : List Ms} {d : Nat}
theorem SentP.send (h : SentP S L M d) (m : Ms) : SentP (sendN S m).2 (if (sendN S m).1 = true then L ++ [m] else L) M d := by
  unfold sendN
  split
  · refine ⟨by have := h.few; simp only [if_true, List.length_append, List.length_singleton]; omega, fun p hp => ?_, fun x hx => List.mem_append_left _ (h.got x hx)⟩
    rcases List.mem_append.1 hp with hp | hp
    · exact List.mem_append_left _ (h.way p hp)
    · obtain rfl : p = (m, none) := by simpa using hp
      exact List.mem_append_right _ (List.mem_singleton.2 rfl)
  · exact h
theorem SentP.drop (h : SentP S L M d) (i : Int) : SentP (dropN S i).2 L M d := by
  unfold dropN
  split
  · refine ⟨?_, fun p hp => h.way p (List.mem_of_mem_eraseIdx hp), h.got⟩
    have h1 := h.few
    have h2 := List.length_eraseIdx_le S.way i.toNat
    show (S.way.eraseIdx i.toNat).length + _ ≤ _
    omega
  · exact h
theorem SentP.deliver (h : SentP S L M d) (i : Int) : SentP (dropN S i).2 L (M ++ (delivN S i).toList) d := by
  cases hd : delivN S i with
  | none => simpa using h.drop i
  | some x =>
    unfold delivN at hd
    split at hd
    · rename_i hi
      have hx : x = (atN S i).1 := by
        unfold gotOf at hd
        split at hd
        · cases hd
        · exact (Option.some.inj hd).symm
      have hl := hasN_iff.1 hi
      refine ⟨?_, (h.drop i).way, fun m hm => ?_⟩
      · have h1 := h.few
        unfold dropN
        rw [if_pos hi]
        show (S.way.eraseIdx i.toNat).length + _ ≤ _
        rw [List.length_eraseIdx_of_lt (by omega)]
        simp only [Option.toList_some, List.length_append, List.length_singleton]
        omega
      · rcases List.mem_append.1 hm with hm | hm
        · exact h.got m hm
        · obtain rfl : m = x := by simpa using hm
          rw [hx]
          exact h.way _ (atN_mem hi)
    · cases hd
theorem SentP.twice (h : SentP S L M d) (i : Int) : SentP (twiceN S i).2 L M (if (twiceN S i).1 = true then d + 1 else d) := by
  unfold twiceN
  split
  · rename_i hc
    refine ⟨by have := h.few; simp only [if_true, List.length_append, List.length_singleton]; omega, fun p hp => ?_, h.got⟩
    rcases List.mem_append.1 hp with hp | hp
    · exact h.way p hp
    · obtain rfl : p = atN S i := by simpa using hp
      exact h.way _ (atN_mem hc.1)
  · exact h
theorem SentP.flip (h : SentP S L M d) (i b : Int) : SentP (flipN S i b).2 L M d := by
  unfold flipN
  split
  · rename_i hc
    refine ⟨by simpa using h.few, fun p hp => ?_, h.got⟩
    rcases List.mem_or_eq_of_mem_set hp with hp | rfl
    · exact h.way p hp
    · show (atN S i).1 ∈ L
      exact h.way (atN S i) (atN_mem hc.1)
  · exact h
end
/-- The net, what was sent, what came, how often was doubled: behind k of what is done. -/
def SentR (W1 : World) (g k : Nat) (v1 v2 d : Value) (w : World) : Prop := ∃ (G G1 G2 : Fp) (S : NtP) (L M : List Ms) (dn : Nat), NX G W1 w g S k ∧ LsF G1 w v1 L ∧ LsF G2 w v2 M ∧ (∀ q, G1 q → G q ∧ ¬ G2 q) ∧ (∀ q, G2 q → G q) ∧ SentP S L M dn ∧ L.length ≤ k ∧ M.length ≤ k ∧ dn ≤ k ∧ d = .int .i64 (dn : Int)
theorem NX.push1 {G G1 G2 : Fp} {W1 w w' : World} {g k : Nat} {S : NtP} {L M : List Ms} {v1 v1' v2 : Value} {m : Ms} (hn : NX G W1 w g S k) (h1 : LsF G1 w v1 L) (h2 : LsF G2 w v2 M) (ha : ∀ q, G1 q → G q ∧ ¬ G2 q) (hb : ∀ q, G2 q → G q) (hg : WayG v1 w 49 11 (L.length + 1) (L.flatMap msC ++ msC m) v1' w') :
    NX (G.since w w') W1 w' g S k ∧ LsF (G1.since w w') w' v1' (L ++ [m]) ∧ LsF G2 w' v2 M ∧ (∀ q, (G1.since w w') q → (G.since w w') q ∧ ¬ G2 q) ∧ (∀ q, G2 q → (G.since w w') q) := by
  obtain ⟨p1, p2⟩ := h1.push hg
  refine ⟨hn.other (p2.mono (fun q _ hq => (ha q hq).1)), p1, h2.chg p2 (fun q hq hq1 => (ha q hq1).2 hq), fun q hq => ?_, fun q hq => .inl (hb q hq)⟩
  rcases hq with hq | hq
  · exact ⟨.inl (ha q hq).1, (ha q hq).2⟩
  · exact ⟨.inr hq, fun h => by have := (hn.gin q (hb q h)).2; omega⟩
theorem NX.push2 {G G1 G2 : Fp} {W1 w w' : World} {g k : Nat} {S : NtP} {L M : List Ms} {v1 v2' v2 : Value} {m : Ms} (hn : NX G W1 w g S k) (h1 : LsF G1 w v1 L) (h2 : LsF G2 w v2 M) (ha : ∀ q, G1 q → G q ∧ ¬ G2 q) (hb : ∀ q, G2 q → G q) (hg : WayG v2 w 49 11 (M.length + 1) (M.flatMap msC ++ msC m) v2' w') :
    NX (G.since w w') W1 w' g S k ∧ LsF G1 w' v1 L ∧ LsF (G2.since w w') w' v2' (M ++ [m]) ∧ (∀ q, G1 q → (G.since w w') q ∧ ¬ (G2.since w w') q) ∧ (∀ q, (G2.since w w') q → (G.since w w') q) := by
  obtain ⟨p1, p2⟩ := h2.push hg
  refine ⟨hn.other (p2.mono (fun q _ hq => hb q hq)), h1.chg p2 (fun q hq hq1 => (ha q hq).2 hq1), p1, fun q hq => ⟨.inl (ha q hq).1, fun h => ?_⟩, fun q hq => ?_⟩
  · rcases h with h | h
    · exact (ha q hq).2 h
    · have := (hn.gin q (ha q hq).1).2; omega
  · rcases hq with hq | hq
    · exact .inl (hb q hq)
    · exact .inr hq
theorem SentR.made {W1 w : World} {g k k' : Nat} {v1 v2 : Value} {G G1 G2 : Fp} {S : NtP} {L M : List Ms} {dn : Nat} (hn : NX G W1 w g S k) (h1 : LsF G1 w v1 L) (h2 : LsF G2 w v2 M) (ha : ∀ q, G1 q → G q ∧ ¬ G2 q) (hb : ∀ q, G2 q → G q) (hp : SentP S L M dn) (hl : L.length ≤ k' ∧ M.length ≤ k' ∧ dn ≤ k') (hk : k ≤ k') : SentR W1 g k' v1 v2 (.int .i64 (dn : Int)) w :=
  ⟨G, G1, G2, S, L, M, dn, hn.le hk, h1, h2, ha, hb, hp, hl.1, hl.2.1, hl.2.2, rfl⟩

set_option maxRecDepth 100000 in
set_option maxHeartbeats 4000000 in
theorem NetSent_calls (l : List A12) (v : Value) (w : World) (h : RdI 14 w v (l.map a12L)) : Calls Try.prog 6 #[v] w fun e w' => e = .returned (.bool true) ∧ Ext w w' := by
  obtain ⟨A, c, rfl, hlc, hcm⟩ := h.slice_
  rw [List.length_map] at hlc h ⊢
  have HR := Lib.hid h
  clear h hlc hcm
  go_enter Try.func6, Try.ntmps6
  go_wp2_with fail
  refine (alive12_any w).mono ?_
  rintro e0 w0 ⟨rfl, hx0⟩
  have HX0 := Lib.hid hx0
  clear hx0
  by_cases h40 : l.length ≤ 100
  rotate_left
  · have d40 : decide ((100 : Int) < (l.length : Int)) = true := decide_eq_true (by omega)
    have d40' : decide (100 < l.length) = true := decide_eq_true (by omega)
    clear h40
    go_wp2
    go_ret
    exact ⟨rfl, HX0.out⟩
  have d40 : decide ((100 : Int) < (l.length : Int)) = false := decide_eq_false (by omega)
  have d40' : decide (100 < l.length) = false := decide_eq_false (by omega)
  have H40 := Lib.hid h40
  clear h40
  obtain ⟨W1, hW1⟩ : ∃ W, W = w0.alloc (.cells #[.slice none 0 0, .int .i64 0] 69) := ⟨_, rfl⟩
  have HN1 := Lib.hid (NX.new (show Blk W1 w0.heap.size 69 #[.slice none 0 0, .int .i64 0] by rw [hW1]; exact Blk.new _ _ _))
  have HX1 := Lib.hid (HX0.out.trans (show Ext w0 W1 by rw [hW1]; exact Ext.alloc_ _ _))
  go_upto_region 6 with (fail)
  rw [← hW1]
  clear hW1
  obtain ⟨g, hg⟩ : ∃ q, q = w0.heap.size := ⟨_, rfl⟩
  rw [← hg]
  rw [← hg] at HN1
  have HGL : Hid (w.heap.size ≤ g) := Lib.hid (by rw [hg]; exact HX0.out.size)
  clear hg HX0
  have HK0 : Hid (SentR W1 g 0 (.slice none 0 0) (.slice none 0 0) (.int .i64 0) W1) := Lib.hid (SentR.made (dn := 0) (G1 := fun _ => False) (G2 := fun _ => False) HN1.out (LsF.nil _ _) (LsF.nil _ _) (fun _ h => h.elim) (fun _ h => h) SentP.new ⟨Nat.le_refl _, Nat.le_refl _, Nat.le_refl _⟩ (Nat.le_refl _))
  clear HN1
  go_wp2_with fail
  go_loopg [4, 5, 6, 7] l.length (fun gg v1 v2 d i wr => ∃ q : Nat, i = .int .i64 q ∧ q ≤ l.length ∧ gg = l.length - q ∧ Hid (SentR W1 g q v1 v2 d wr))
  case atStart => exact ⟨0, rfl, Nat.zero_le _, rfl, HK0⟩
  case round =>
    obtain ⟨q, rfl, hq, rfl, HK⟩ := hrel
    clear HK0
    obtain ⟨G, G1, G2, S, L, M, dn, hn, h1, h2, ha, hb, hsp, hl1, hl2, hl3, rfl⟩ := HK.out
    clear HK
    have HN := Lib.hid hn
    have H1 := Lib.hid h1
    have H2 := Lib.hid h2
    have HAB := Lib.hid (And.intro ha hb)
    have HSP := Lib.hid hsp
    have HLL := Lib.hid (And.intro hl1 (And.intro hl2 hl3))
    obtain ⟨A1, c1, rfl, -, -, -⟩ := h1.slice_
    obtain ⟨A2, c2, rfl, -, -, -⟩ := h2.slice_
    clear hn h1 h2 ha hb hsp hl1 hl2 hl3
    obtain ⟨n1, hn1⟩ : ∃ n, n = L.length := ⟨_, rfl⟩
    obtain ⟨n2, hn2⟩ : ∃ n, n = M.length := ⟨_, rfl⟩
    rw [← hn1] at H1 ⊢
    rw [← hn2] at H2 ⊢
    have HNL := Lib.hid (And.intro hn1 hn2)
    clear hn1 hn2
    by_cases hlt : q < l.length
    · have e1 : decide ((q : Int) < (l.length : Int)) = true := decide_eq_true (by omega)
      have e1' : decide (q < l.length) = true := decide_eq_true hlt
      have HLT := Lib.hid hlt
      obtain ⟨a, hm⟩ : ∃ m, l[q]? = some m := ⟨_, List.getElem?_eq_getElem hlt⟩
      have HGET : Hid (∃ b o, A = some ⟨b, o, none⟩ ∧ ∀ W, Ext w W → ∀ i z, (a12L a)[i]? = some z → W.cell? ⟨b, o + q * 14 + i, none⟩ = some (.int .i64 z)) := Lib.hid (by obtain ⟨b, o, rfl, hb, hcl⟩ := HR.out.get (by rw [List.length_map]; have := HLT.out; omega); exact ⟨b, o, rfl, fun W hx i z hz => (hx.cell (p := ⟨b, o + q * 14 + i, none⟩) hb).trans (hcl q (a12L a) i z (by rw [List.getElem?_map, hm]; rfl) hz)⟩)
      obtain ⟨b, o, rfl, hcl⟩ := HGET.out
      have hcw := hcl wr (HN.out.ext_ HX1.out HGL.out)
      clear hcl hm hlt HGET
      have k0 := hcw 0 (a.kind) rfl
      have k1 := hcw 1 (a.i) rfl
      have k2 := hcw 2 (a.bit) rfl
      have k3 := hcw 3 (a.m.node) rfl
      have k4 := hcw 4 (a.m.kind) rfl
      have k5 := hcw 5 (a.m.term) rfl
      have k6 := hcw 6 (a.m.gen) rfl
      have k7 := hcw 7 (a.m.job) rfl
      have k8 := hcw 8 (a.m.inc) rfl
      have k9 := hcw 9 (a.m.ver) rfl
      have k10 := hcw 10 (a.m.epoch) rfl
      have k11 := hcw 11 (a.m.til) rfl
      have k12 := hcw 12 (a.m.mode) rfl
      have k13 := hcw 13 (a.m.work) rfl
      rw [Nat.add_zero] at k0
      clear hcw
      have x1 : (0 : Int) ≤ (q : Int) ∧ (q : Int) < (l.length : Int) := by have := HLT.out; omega
      obtain ⟨gb, hgb⟩ : ∃ q, q = wr.heap.size := ⟨_, rfl⟩
      obtain ⟨wb, hwb⟩ : ∃ W, W = wr.alloc (.cells #[.int .i64 a.kind, .int .i64 a.i, .int .i64 a.bit, .int .i64 a.m.node, .int .i64 a.m.kind, .int .i64 a.m.term, .int .i64 a.m.gen, .int .i64 a.m.job, .int .i64 a.m.inc, .int .i64 a.m.ver, .int .i64 a.m.epoch, .int .i64 a.m.til, .int .i64 a.m.mode, .int .i64 a.m.work] 74) := ⟨_, rfl⟩
      have HB : Hid (Blk wb gb 74 #[.int .i64 a.kind, .int .i64 a.i, .int .i64 a.bit, .int .i64 a.m.node, .int .i64 a.m.kind, .int .i64 a.m.term, .int .i64 a.m.gen, .int .i64 a.m.job, .int .i64 a.m.inc, .int .i64 a.m.ver, .int .i64 a.m.epoch, .int .i64 a.m.til, .int .i64 a.m.mode, .int .i64 a.m.work]) := Lib.hid (by rw [hgb, hwb]; exact Blk.new _ _ _)
      have HXB := Lib.hid (show Ext wr wb by rw [hwb]; exact Ext.alloc_ _ _)
      have HNB := Lib.hid (HN.out.since HXB.out)
      have H1B := Lib.hid (H1.out.ext HXB.out)
      have H2B := Lib.hid (H2.out.ext HXB.out)
      have HABB : Hid ((∀ q, G1 q → (G.since wr wb) q ∧ ¬ G2 q) ∧ (∀ q, G2 q → (G.since wr wb) q)) := Lib.hid ⟨fun q h => ⟨.inl (HAB.out.1 q h).1, (HAB.out.1 q h).2⟩, fun q h => .inl (HAB.out.2 q h)⟩
      have HGB : Hid ((G.since wr wb) gb) := Lib.hid (.inr ⟨by omega, HB.out.lt⟩)
      generalize G.since wr wb = GB at HNB HABB HGB
      clear HAB
      go_upto_region 12 with (fail)
      rw [← hwb, ← hgb]
      clear hwb hgb HN H1 H2 HXB
      clear k0 k1 k2 k3 k4 k5 k6 k7 k8 k9 k10 k11 k12 k13
      have k0 := HB.out.cell 0
      go_upto_block 2 with (fail)
      clear k0
      go_cut [4, 5, 6] (fun v1 v2 d wx => Hid (SentR W1 g (q + 1) v1 v2 d wx))
      case first =>
        by_cases h0 : a.kind = 0
        · have g0 : (a.kind == 0) = true := by rw [h0]; rfl
          have k0 := HB.out.cell 0
          have k3 := HB.out.cell 3
          have k4 := HB.out.cell 4
          have k5 := HB.out.cell 5
          have k6 := HB.out.cell 6
          have k7 := HB.out.cell 7
          have k8 := HB.out.cell 8
          have k9 := HB.out.cell 9
          have k10 := HB.out.cell 10
          have k11 := HB.out.cell 11
          have k12 := HB.out.cell 12
          have k13 := HB.out.cell 13
          have HC := Lib.hid (HNB.out.send (by have := HLT.out; have := H40.out; omega) a.m)
          have HSQ := Lib.hid (HSP.out.send a.m)
          unfold msV at HC
          clear h0
          cases hs : (sendN S a.m).1 with
          | false =>
            rw [hs] at HC HSQ
            rw [if_neg (by simp)] at HSQ
            clear hs
            go_wp2_with fail
            refine HC.out.mono ?_
            rintro e3 w3 ⟨rfl, hn3, hc3⟩
            have HN3 := Lib.hid hn3
            have HC3 := Lib.hid hc3
            clear HC hn3 hc3
            have H13 := Lib.hid (show LsF G1 w3 (.slice A1 n1 c1) L from H1B.out.keep HC3.out (fun q h => (HABB.out.1 q h).1))
            have H23 := Lib.hid (show LsF G2 w3 (.slice A2 n2 c2) M from H2B.out.keep HC3.out HABB.out.2)
            clear k0 k3 k4 k5 k6 k7 k8 k9 k10 k11 k12 k13
            have HT := Lib.hid (SentR.made HN3.out H13.out H23.out HABB.out.1 HABB.out.2 HSQ.out (k' := q + 1) (by have := HLL.out; (try simp only [List.length_append, List.length_singleton]); omega) (by omega))
            go_wp2_with fail
            go_meet
            exact HT
          | true =>
            rw [hs] at HC HSQ
            rw [if_pos rfl] at HSQ
            clear hs
            go_wp2_with fail
            refine HC.out.mono ?_
            rintro e3 w3 ⟨rfl, hn3, hc3⟩
            have HN3 := Lib.hid hn3
            have HC3 := Lib.hid hc3
            clear HC hn3 hc3
            have H13 := Lib.hid (show LsF G1 w3 (.slice A1 n1 c1) L from H1B.out.keep HC3.out (fun q h => (HABB.out.1 q h).1))
            have H23 := Lib.hid (show LsF G2 w3 (.slice A2 n2 c2) M from H2B.out.keep HC3.out HABB.out.2)
            have HBW := Lib.hid (show Blk w3 gb 74 #[.int .i64 a.kind, .int .i64 a.i, .int .i64 a.bit, .int .i64 a.m.node, .int .i64 a.m.kind, .int .i64 a.m.term, .int .i64 a.m.gen, .int .i64 a.m.job, .int .i64 a.m.inc, .int .i64 a.m.ver, .int .i64 a.m.epoch, .int .i64 a.m.til, .int .i64 a.m.mode, .int .i64 a.m.work] from (HC3.out.block gb HB.out.lt (fun h => h HGB.out)).trans HB.out)
            clear k0 k3 k4 k5 k6 k7 k8 k9 k10 k11 k12 k13
            have k3 := HBW.out.cell 3
            have k4 := HBW.out.cell 4
            have k5 := HBW.out.cell 5
            have k6 := HBW.out.cell 6
            have k7 := HBW.out.cell 7
            have k8 := HBW.out.cell 8
            have k9 := HBW.out.cell 9
            have k10 := HBW.out.cell 10
            have k11 := HBW.out.cell 11
            have k12 := HBW.out.cell 12
            have k13 := HBW.out.cell 13
            have hl40 : n1 + 1 ≤ 102 := by have := HLL.out; have := HNL.out; have := HLT.out; have := H40.out; omega
            have HWY : Hid (WayF G1 w3 49 11 (.slice A1 n1 c1) n1 (L.flatMap msC)) := Lib.hid (by have h := H13.out; unfold LsF at h; rw [← HNL.out.1] at h; exact h)
            go_wp2_with (at_builtin; refine wpList_pushW (F := G1) rfl _ _ 60 rfl 49 (.agg #[.int .i64 0, .int .i64 0, .int .i64 0, .int .i64 0, .int .i64 0, .int .i64 0, .int .i64 0, .int .i64 0, .int .i64 0, .int .i64 0, .int .i64 0]) 11 88 Try.underlying60 (by kernel_rfl) (by simp [Value.cells]) (by omega) _ _ _ HWY.out rfl #[.int .i64 a.m.node, .int .i64 a.m.kind, .int .i64 a.m.term, .int .i64 a.m.gen, .int .i64 a.m.job, .int .i64 a.m.inc, .int .i64 a.m.ver, .int .i64 a.m.epoch, .int .i64 a.m.til, .int .i64 a.m.mode, .int .i64 a.m.work] rfl (by simp [Value.oneCell']) rfl rfl (by unfold maxLen; omega) (by omega) ?_; intro v6 w6 hg6)
            rw [HNL.out.1] at hg6
            obtain ⟨p1, p2, p3, p4, p5⟩ := HN3.out.push1 (m := a.m) (by have h := H13.out; rw [HNL.out.1] at h; exact h) H23.out HABB.out.1 HABB.out.2 hg6
            have HT := Lib.hid (SentR.made p1 p2 p3 p4 p5 HSQ.out (k' := q + 1) (by have := HLL.out; (try simp only [List.length_append, List.length_singleton]); omega) (by omega))
            clear p1 p2 p3 p4 p5
            go_meet
            exact HT
        by_cases h1 : a.kind = 1
        · have g0 : (a.kind == 0) = false := by simpa using h0
          have g1 : (a.kind == 1) = true := by rw [h1]; rfl
          have k0 := HB.out.cell 0
          have k1 := HB.out.cell 1
          have HC := Lib.hid (HNB.out.deliver a.i)
          have HSQ := Lib.hid (HSP.out.deliver a.i)
          clear h0 h1
          cases hs : delivN S a.i with
          | none =>
            rw [hs] at HC HSQ
            rw [Option.toList_none, List.append_nil] at HSQ
            clear hs
            have e0 : getA none = .tuple #[.agg #[.int .i64 0, .int .i64 0, .int .i64 0, .int .i64 0, .int .i64 0, .int .i64 0, .int .i64 0, .int .i64 0, .int .i64 0, .int .i64 0, .int .i64 0], .bool false] := rfl
            rw [e0] at HC
            clear e0
            go_wp2_with fail
            refine HC.out.mono ?_
            rintro e3 w3 ⟨rfl, hn3, hc3⟩
            have HN3 := Lib.hid hn3
            have HC3 := Lib.hid hc3
            clear HC hn3 hc3
            have H13 := Lib.hid (show LsF G1 w3 (.slice A1 n1 c1) L from H1B.out.keep HC3.out (fun q h => (HABB.out.1 q h).1))
            have H23 := Lib.hid (show LsF G2 w3 (.slice A2 n2 c2) M from H2B.out.keep HC3.out HABB.out.2)
            clear k0 k1
            obtain ⟨W4, hW4⟩ : ∃ W, W = w3.alloc (.cells #[.int .i64 0, .int .i64 0, .int .i64 0, .int .i64 0, .int .i64 0, .int .i64 0, .int .i64 0, .int .i64 0, .int .i64 0, .int .i64 0, .int .i64 0] 49) := ⟨_, rfl⟩
            have HX4 := Lib.hid (show Ext w3 W4 by rw [hW4]; exact Ext.alloc_ _ _)
            have HT := Lib.hid (SentR.made (HN3.out.more HX4.out) (H13.out.ext HX4.out) (H23.out.ext HX4.out) HABB.out.1 HABB.out.2 HSQ.out (k' := q + 1) (by have := HLL.out; (try simp only [List.length_append, List.length_singleton]); omega) (by omega))
            go_upto_region 18 with (fail)
            rw [← hW4]
            clear hW4
            go_wp2_with fail
            go_meet
            exact HT
          | some x =>
            rw [hs] at HC HSQ
            rw [Option.toList_some] at HSQ
            clear hs
            unfold getA msV at HC
            go_wp2_with fail
            refine HC.out.mono ?_
            rintro e3 w3 ⟨rfl, hn3, hc3⟩
            have HN3 := Lib.hid hn3
            have HC3 := Lib.hid hc3
            clear HC hn3 hc3
            have H13 := Lib.hid (show LsF G1 w3 (.slice A1 n1 c1) L from H1B.out.keep HC3.out (fun q h => (HABB.out.1 q h).1))
            have H23 := Lib.hid (show LsF G2 w3 (.slice A2 n2 c2) M from H2B.out.keep HC3.out HABB.out.2)
            clear k0 k1
            obtain ⟨W4, hW4⟩ : ∃ W, W = w3.alloc (.cells #[.int .i64 x.node, .int .i64 x.kind, .int .i64 x.term, .int .i64 x.gen, .int .i64 x.job, .int .i64 x.inc, .int .i64 x.ver, .int .i64 x.epoch, .int .i64 x.til, .int .i64 x.mode, .int .i64 x.work] 49) := ⟨_, rfl⟩
            have HX4 := Lib.hid (show Ext w3 W4 by rw [hW4]; exact Ext.alloc_ _ _)
            have HU4 := Lib.hid (show MsAt W4 w3.heap.size x by rw [hW4]; exact ⟨Blk.new _ _ _⟩)
            replace HN3 := Lib.hid (HN3.out.more HX4.out)
            replace H13 := Lib.hid (H13.out.ext HX4.out)
            replace H23 := Lib.hid (H23.out.ext HX4.out)
            go_upto_region 19 with (fail)
            rw [← hW4]
            clear hW4
            obtain ⟨m0, m1, m2, m3, m4, m5, m6, m7, m8, m9, m10⟩ := HU4.out.cells
            have hl40 : n2 + 1 ≤ 102 := by have := HLL.out; have := HNL.out; have := HLT.out; have := H40.out; omega
            have HWY : Hid (WayF G2 W4 49 11 (.slice A2 n2 c2) n2 (M.flatMap msC)) := Lib.hid (by have h := H23.out; unfold LsF at h; rw [← HNL.out.2] at h; exact h)
            go_wp2_with (at_builtin; refine wpList_pushW (F := G2) rfl _ _ 60 rfl 49 (.agg #[.int .i64 0, .int .i64 0, .int .i64 0, .int .i64 0, .int .i64 0, .int .i64 0, .int .i64 0, .int .i64 0, .int .i64 0, .int .i64 0, .int .i64 0]) 11 88 Try.underlying60 (by kernel_rfl) (by simp [Value.cells]) (by omega) _ _ _ HWY.out rfl #[.int .i64 x.node, .int .i64 x.kind, .int .i64 x.term, .int .i64 x.gen, .int .i64 x.job, .int .i64 x.inc, .int .i64 x.ver, .int .i64 x.epoch, .int .i64 x.til, .int .i64 x.mode, .int .i64 x.work] rfl (by simp [Value.oneCell']) rfl rfl (by unfold maxLen; omega) (by omega) ?_; intro v6 w6 hg6)
            rw [HNL.out.2] at hg6
            obtain ⟨p1, p2, p3, p4, p5⟩ := HN3.out.push2 (m := x) H13.out (by have h := H23.out; rw [HNL.out.2] at h; exact h) HABB.out.1 HABB.out.2 hg6
            have HT := Lib.hid (SentR.made p1 p2 p3 p4 p5 HSQ.out (k' := q + 1) (by have := HLL.out; (try simp only [List.length_append, List.length_singleton]); omega) (by omega))
            clear p1 p2 p3 p4 p5
            go_meet
            exact HT
        by_cases h2 : a.kind = 2
        · have g0 : (a.kind == 0) = false := by simpa using h0
          have g1 : (a.kind == 1) = false := by simpa using h1
          have g2 : (a.kind == 2) = true := by rw [h2]; rfl
          have k0 := HB.out.cell 0
          have k1 := HB.out.cell 1
          have HC := Lib.hid (HNB.out.drop a.i)
          have HSQ := Lib.hid (HSP.out.drop a.i)
          clear h0 h1 h2
          go_wp2_with fail
          refine HC.out.mono ?_
          rintro e3 w3 ⟨rfl, hn3, hc3⟩
          have HN3 := Lib.hid hn3
          have HC3 := Lib.hid hc3
          clear HC hn3 hc3
          have H13 := Lib.hid (show LsF G1 w3 (.slice A1 n1 c1) L from H1B.out.keep HC3.out (fun q h => (HABB.out.1 q h).1))
          have H23 := Lib.hid (show LsF G2 w3 (.slice A2 n2 c2) M from H2B.out.keep HC3.out HABB.out.2)
          clear k0 k1
          have HT := Lib.hid (SentR.made HN3.out H13.out H23.out HABB.out.1 HABB.out.2 HSQ.out (k' := q + 1) (by have := HLL.out; (try simp only [List.length_append, List.length_singleton]); omega) (by omega))
          go_wp2_with fail
          go_meet
          exact HT
        by_cases h3 : a.kind = 3
        · have g0 : (a.kind == 0) = false := by simpa using h0
          have g1 : (a.kind == 1) = false := by simpa using h1
          have g2 : (a.kind == 2) = false := by simpa using h2
          have g3 : (a.kind == 3) = true := by rw [h3]; rfl
          have k0 := HB.out.cell 0
          have k1 := HB.out.cell 1
          have HC := Lib.hid (HNB.out.twice a.i)
          have HSQ := Lib.hid (HSP.out.twice a.i)
          have hwd : wrap64 ((dn : Int) + 1) = ((dn + 1 : Nat) : Int) := by rw [IntWalk.wrap64_in _ (by have := HLL.out; have := HLT.out; have := H40.out; omega)]; rfl
          clear h0 h1 h2 h3
          cases hs : (twiceN S a.i).1 with
          | false =>
            rw [hs] at HC HSQ
            rw [if_neg (by simp)] at HSQ
            clear hs hwd
            go_wp2_with fail
            refine HC.out.mono ?_
            rintro e3 w3 ⟨rfl, hn3, hc3⟩
            have HN3 := Lib.hid hn3
            have HC3 := Lib.hid hc3
            clear HC hn3 hc3
            have H13 := Lib.hid (show LsF G1 w3 (.slice A1 n1 c1) L from H1B.out.keep HC3.out (fun q h => (HABB.out.1 q h).1))
            have H23 := Lib.hid (show LsF G2 w3 (.slice A2 n2 c2) M from H2B.out.keep HC3.out HABB.out.2)
            clear k0 k1
            have HT := Lib.hid (SentR.made HN3.out H13.out H23.out HABB.out.1 HABB.out.2 HSQ.out (k' := q + 1) (by have := HLL.out; (try simp only [List.length_append, List.length_singleton]); omega) (by omega))
            go_wp2_with fail
            go_meet
            exact HT
          | true =>
            rw [hs] at HC HSQ
            rw [if_pos rfl] at HSQ
            clear hs
            have HWD := Lib.hid hwd
            clear hwd
            go_wp2_with fail
            refine HC.out.mono ?_
            rintro e3 w3 ⟨rfl, hn3, hc3⟩
            have HN3 := Lib.hid hn3
            have HC3 := Lib.hid hc3
            clear HC hn3 hc3
            have H13 := Lib.hid (show LsF G1 w3 (.slice A1 n1 c1) L from H1B.out.keep HC3.out (fun q h => (HABB.out.1 q h).1))
            have H23 := Lib.hid (show LsF G2 w3 (.slice A2 n2 c2) M from H2B.out.keep HC3.out HABB.out.2)
            clear k0 k1
            have HT := Lib.hid (SentR.made HN3.out H13.out H23.out HABB.out.1 HABB.out.2 HSQ.out (k' := q + 1) (by have := HLL.out; (try simp only [List.length_append, List.length_singleton]); omega) (by omega))
            go_wp2_with fail
            go_meet
            rw [HWD.out]
            exact HT
        by_cases h4 : a.kind = 4
        · have g0 : (a.kind == 0) = false := by simpa using h0
          have g1 : (a.kind == 1) = false := by simpa using h1
          have g2 : (a.kind == 2) = false := by simpa using h2
          have g3 : (a.kind == 3) = false := by simpa using h3
          have g4 : (a.kind == 4) = true := by rw [h4]; rfl
          have k0 := HB.out.cell 0
          have k1 := HB.out.cell 1
          have k2 := HB.out.cell 2
          have HC := Lib.hid (HNB.out.flip a.i a.bit)
          have HSQ := Lib.hid (HSP.out.flip a.i a.bit)
          clear h0 h1 h2 h3 h4
          go_wp2_with fail
          refine HC.out.mono ?_
          rintro e3 w3 ⟨rfl, hn3, hc3⟩
          have HN3 := Lib.hid hn3
          have HC3 := Lib.hid hc3
          clear HC hn3 hc3
          have H13 := Lib.hid (show LsF G1 w3 (.slice A1 n1 c1) L from H1B.out.keep HC3.out (fun q h => (HABB.out.1 q h).1))
          have H23 := Lib.hid (show LsF G2 w3 (.slice A2 n2 c2) M from H2B.out.keep HC3.out HABB.out.2)
          clear k0 k1 k2
          have HT := Lib.hid (SentR.made HN3.out H13.out H23.out HABB.out.1 HABB.out.2 HSQ.out (k' := q + 1) (by have := HLL.out; (try simp only [List.length_append, List.length_singleton]); omega) (by omega))
          go_wp2_with fail
          go_meet
          exact HT
        have g0 : (a.kind == 0) = false := by simpa using h0
        have g1 : (a.kind == 1) = false := by simpa using h1
        have g2 : (a.kind == 2) = false := by simpa using h2
        have g3 : (a.kind == 3) = false := by simpa using h3
        have g4 : (a.kind == 4) = false := by simpa using h4
        have k0 := HB.out.cell 0
        clear h0 h1 h2 h3 h4
        have HT := Lib.hid (SentR.made HNB.out H1B.out H2B.out HABB.out.1 HABB.out.2 HSP.out (k' := q + 1) (by have := HLL.out; (try simp only [List.length_append, List.length_singleton]); omega) (by omega))
        go_wp2_with fail
        go_meet
        exact HT
      case rest =>
        have HK := hcut
        clear hcut
        obtain ⟨G, G1, G2, S, L, M, dn, hn, h1, h2, ha, hb, hsp, hl1, hl2, hl3, rfl⟩ := HK.out
        clear HK
        have HN := Lib.hid hn
        have H1 := Lib.hid h1
        have H2 := Lib.hid h2
        have HAB := Lib.hid (And.intro ha hb)
        have HSP := Lib.hid hsp
        have HLL := Lib.hid (And.intro hl1 (And.intro hl2 hl3))
        obtain ⟨A1, c1, rfl, -, -, -⟩ := h1.slice_
        obtain ⟨A2, c2, rfl, -, -, -⟩ := h2.slice_
        clear hn h1 h2 ha hb hsp hl1 hl2 hl3
        obtain ⟨n1, hn1⟩ : ∃ n, n = L.length := ⟨_, rfl⟩
        obtain ⟨n2, hn2⟩ : ∃ n, n = M.length := ⟨_, rfl⟩
        rw [← hn1] at H1 ⊢
        rw [← hn2] at H2 ⊢
        have HNL := Lib.hid (And.intro hn1 hn2)
        clear hn1 hn2
        obtain ⟨N, hN⟩ : ∃ N, N = S.way.length := ⟨_, rfl⟩
        have HNN : Hid (N ≤ 40 ∧ N ≤ n1 + dn ∧ n1 + dn ≤ 300) := Lib.hid (by have h1 := HN.out.ok.most; have h2 := HSP.out.few; have h3 := HNL.out; have h4 := HLL.out; have h5 := HLT.out; have h6 := H40.out; omega)
        have HC := Lib.hid HN.out.len
        rw [← hN] at HC
        have d1 : decide ((40 : Int) < (N : Int)) = false := decide_eq_false (by have := HNN.out; omega)
        have d1' : decide (40 < N) = false := decide_eq_false (by have := HNN.out; omega)
        go_wp2_with fail
        refine HC.out.mono ?_
        rintro e7 w7 ⟨rfl, hx7⟩
        have HX7 := Lib.hid hx7
        clear HC hx7
        have HC := Lib.hid (HN.out.more HX7.out).len
        rw [← hN] at HC
        have hws : wrap64 ((n1 : Int) + (dn : Int)) = ((n1 + dn : Nat) : Int) := by rw [IntWalk.wrap64_in _ (by have := HNN.out; omega)]; rfl
        have hws2 : IntKind.i64.wrap ((n1 : Int) + (dn : Int)) = ((n1 + dn : Nat) : Int) := by rw [IntWalk.i64_in _ (by have := HNN.out; omega)]; rfl
        obtain ⟨t, ht⟩ : ∃ t, t = n1 + dn := ⟨_, rfl⟩
        rw [← ht] at hws hws2 HNN
        clear ht
        have d2 : decide ((t : Int) < (N : Int)) = false := decide_eq_false (by have := HNN.out; omega)
        have d2' : decide (t < N) = false := decide_eq_false (by have := HNN.out; omega)
        clear hN
        go_wp2_with fail
        refine HC.out.mono ?_
        rintro e8 w8 ⟨rfl, hx8⟩
        have HX8 := Lib.hid (HX7.out.trans hx8)
        clear HC hx8 d1 d1'
        have hwq : wrap64 ((q : Int) + 1) = (q : Int) + 1 := IntWalk.wrap64_in _ (by have := HLT.out; have := H40.out; omega)
        have HT : Hid (SentR W1 g (q + 1) (.slice A1 n1 c1) (.slice A2 n2 c2) (.int .i64 (dn : Int)) w8) := Lib.hid (SentR.made (HN.out.more HX8.out) (H1.out.ext HX8.out) (H2.out.ext HX8.out) HAB.out.1 HAB.out.2 HSP.out HLL.out (Nat.le_refl _))
        go_wp2
        go_roundg (l.length - (q + 1))
        case measure => have := HLT.out; omega
        case rel => exact ⟨q + 1, by go_num, HLT.out, rfl, HT⟩
    · obtain rfl : q = l.length := by omega
      have e1 : decide ((l.length : Int) < (l.length : Int)) = false := decide_eq_false (by omega)
      have e1' : decide (l.length < l.length) = false := decide_eq_false (by omega)
      clear hlt hq
      obtain ⟨W9, hW9⟩ : ∃ W, W = wr := ⟨_, rfl⟩
      rw [← hW9] at HN H1 H2 ⊢
      clear hW9
      go_wp2_with fail
      go_loopg [11] n2 (fun gg i wr => ∃ p : Nat, i = .int .i64 p ∧ p ≤ n2 ∧ gg = n2 - p ∧ Hid (∃ z, wr = W9.drewN z))
      case atStart => exact ⟨0, rfl, Nat.zero_le _, rfl, Lib.hid ⟨0, rfl⟩⟩
      case round =>
        obtain ⟨p, rfl, hp, rfl, HZ⟩ := hrel
        by_cases hlt : p < n2
        · have e1 : decide ((p : Int) < (n2 : Int)) = true := decide_eq_true (by omega)
          have e1' : decide (p < n2) = true := decide_eq_true hlt
          have HLT := Lib.hid hlt
          obtain ⟨x, hx⟩ : ∃ x, M[p]? = some x := ⟨_, List.getElem?_eq_getElem (by rw [← HNL.out.2]; exact hlt)⟩
          have HXM := Lib.hid hx
          have HIN := Lib.hid (HSP.out.got x (List.mem_of_getElem? hx))
          have x1 : (0 : Int) ≤ (p : Int) ∧ (p : Int) < (n2 : Int) := by omega
          clear hlt hx
          go_wp2_with fail
          go_loopg [12, 13] n1 (fun gg u i wr => ∃ (r cn : Nat), i = .int .i64 r ∧ u = .int .i64 cn ∧ r ≤ n1 ∧ gg = n1 - r ∧ Hid (cn ≤ r ∧ (x ∈ L.take r → 0 < cn) ∧ ∃ z, wr = W9.drewN z))
          case atStart => exact ⟨0, 0, rfl, rfl, Nat.zero_le _, rfl, Lib.hid ⟨Nat.le_refl _, fun h => by simp at h, HZ.out⟩⟩
          case round =>
            obtain ⟨r, cn, rfl, rfl, hr, rfl, HI⟩ := hrel
            by_cases hlt : r < n1
            · have e1 : decide ((r : Int) < (n1 : Int)) = true := decide_eq_true (by omega)
              have e1' : decide (r < n1) = true := decide_eq_true hlt
              obtain ⟨y, hy⟩ : ∃ y, L[r]? = some y := ⟨_, List.getElem?_eq_getElem (by rw [← HNL.out.1]; exact hlt)⟩
              have HYL := Lib.hid hy
              have HLR := Lib.hid hlt
              have x2 : (0 : Int) ≤ (r : Int) ∧ (r : Int) < (n1 : Int) := by omega
              obtain ⟨hcr, hin, z, rfl⟩ := HI.out
              have HI2 := Lib.hid (And.intro hcr hin)
              obtain ⟨b1, rfl, -, -, hcl1⟩ := H1.out.at_ hy
              obtain ⟨b2, rfl, -, -, hcl2⟩ := H2.out.at_ HXM.out
              have u0 := hcl1 0 y.node rfl
              have u1 := hcl1 1 y.kind rfl
              have u2 := hcl1 2 y.term rfl
              have u3 := hcl1 3 y.gen rfl
              have u4 := hcl1 4 y.job rfl
              have u5 := hcl1 5 y.inc rfl
              have u6 := hcl1 6 y.ver rfl
              have u7 := hcl1 7 y.epoch rfl
              have u8 := hcl1 8 y.til rfl
              have u9 := hcl1 9 y.mode rfl
              have u10 := hcl1 10 y.work rfl
              have t0 := hcl2 0 x.node rfl
              have t1 := hcl2 1 x.kind rfl
              have t2 := hcl2 2 x.term rfl
              have t3 := hcl2 3 x.gen rfl
              have t4 := hcl2 4 x.job rfl
              have t5 := hcl2 5 x.inc rfl
              have t6 := hcl2 6 x.ver rfl
              have t7 := hcl2 7 x.epoch rfl
              have t8 := hcl2 8 x.til rfl
              have t9 := hcl2 9 x.mode rfl
              have t10 := hcl2 10 x.work rfl
              rw [Nat.add_zero] at u0 t0
              clear hcl1 hcl2 hcr hin HI hy hlt hr
              have hwr : wrap64 ((r : Int) + 1) = (r : Int) + 1 := IntWalk.wrap64_in _ (by have := HLR.out; have := HLL.out; have := HNL.out; have := H40.out; omega)
              have hwc : wrap64 ((cn : Int) + 1) = (cn : Int) + 1 := IntWalk.wrap64_in _ (by have := HI2.out.1; have := HLR.out; have := HLL.out; have := HNL.out; have := H40.out; omega)
              have HTK := Lib.hid (show L.take (r + 1) = L.take r ++ [y] by rw [List.take_add_one, HYL.out]; rfl)
              rcases ms_cases y x with rfl | hz | ⟨e0, hz⟩ | ⟨e0, e1, hz⟩ | ⟨e0, e1, e2, hz⟩ | ⟨e0, e1, e2, e3, hz⟩ | ⟨e0, e1, e2, e3, e4, hz⟩ | ⟨e0, e1, e2, e3, e4, e5, hz⟩ | ⟨e0, e1, e2, e3, e4, e5, e6, hz⟩ | ⟨e0, e1, e2, e3, e4, e5, e6, e7, hz⟩ | ⟨e0, e1, e2, e3, e4, e5, e6, e7, e8, hz⟩ | ⟨e0, e1, e2, e3, e4, e5, e6, e7, e8, e9, hz⟩
              · have HI3 : Hid (cn + 1 ≤ r + 1 ∧ (y ∈ L.take (r + 1) → 0 < cn + 1)) := Lib.hid ⟨by have := HI2.out.1; omega, fun _ => by omega⟩
                go_wp2_with fail
                go_quiet (fail)
                go_wp2_with fail
                go_roundg (n1 - (r + 1))
                case measure => have := HLR.out; omega
                case rel => exact ⟨r + 1, cn + 1, by go_num, by go_num, HLR.out, rfl, Lib.hid ⟨HI3.out.1, HI3.out.2, _, rfl⟩⟩
              · have HI3 : Hid (cn ≤ r + 1 ∧ (x ∈ L.take (r + 1) → 0 < cn)) := Lib.hid ⟨by have := HI2.out.1; omega, fun h => by rw [HTK.out] at h; rcases List.mem_append.1 h with h | h; exact HI2.out.2 h; (have h : x = y := by simpa using h); exact absurd (by rw [h]) hz⟩
                go_wp2_with fail
                go_quiet (fail)
                go_wp2_with fail
                go_roundg (n1 - (r + 1))
                case measure => have := HLR.out; omega
                case rel => exact ⟨r + 1, cn, by go_num, rfl, HLR.out, rfl, Lib.hid ⟨HI3.out.1, HI3.out.2, _, rfl⟩⟩
              · have HI3 : Hid (cn ≤ r + 1 ∧ (x ∈ L.take (r + 1) → 0 < cn)) := Lib.hid ⟨by have := HI2.out.1; omega, fun h => by rw [HTK.out] at h; rcases List.mem_append.1 h with h | h; exact HI2.out.2 h; (have h : x = y := by simpa using h); exact absurd (by rw [h]) hz⟩
                go_wp2_with fail
                go_quiet (fail)
                go_wp2_with fail
                go_roundg (n1 - (r + 1))
                case measure => have := HLR.out; omega
                case rel => exact ⟨r + 1, cn, by go_num, rfl, HLR.out, rfl, Lib.hid ⟨HI3.out.1, HI3.out.2, _, rfl⟩⟩
              · have HI3 : Hid (cn ≤ r + 1 ∧ (x ∈ L.take (r + 1) → 0 < cn)) := Lib.hid ⟨by have := HI2.out.1; omega, fun h => by rw [HTK.out] at h; rcases List.mem_append.1 h with h | h; exact HI2.out.2 h; (have h : x = y := by simpa using h); exact absurd (by rw [h]) hz⟩
                go_wp2_with fail
                go_quiet (fail)
                go_wp2_with fail
                go_roundg (n1 - (r + 1))
                case measure => have := HLR.out; omega
                case rel => exact ⟨r + 1, cn, by go_num, rfl, HLR.out, rfl, Lib.hid ⟨HI3.out.1, HI3.out.2, _, rfl⟩⟩
              · have HI3 : Hid (cn ≤ r + 1 ∧ (x ∈ L.take (r + 1) → 0 < cn)) := Lib.hid ⟨by have := HI2.out.1; omega, fun h => by rw [HTK.out] at h; rcases List.mem_append.1 h with h | h; exact HI2.out.2 h; (have h : x = y := by simpa using h); exact absurd (by rw [h]) hz⟩
                go_wp2_with fail
                go_quiet (fail)
                go_wp2_with fail
                go_roundg (n1 - (r + 1))
                case measure => have := HLR.out; omega
                case rel => exact ⟨r + 1, cn, by go_num, rfl, HLR.out, rfl, Lib.hid ⟨HI3.out.1, HI3.out.2, _, rfl⟩⟩
              · have HI3 : Hid (cn ≤ r + 1 ∧ (x ∈ L.take (r + 1) → 0 < cn)) := Lib.hid ⟨by have := HI2.out.1; omega, fun h => by rw [HTK.out] at h; rcases List.mem_append.1 h with h | h; exact HI2.out.2 h; (have h : x = y := by simpa using h); exact absurd (by rw [h]) hz⟩
                go_wp2_with fail
                go_quiet (fail)
                go_wp2_with fail
                go_roundg (n1 - (r + 1))
                case measure => have := HLR.out; omega
                case rel => exact ⟨r + 1, cn, by go_num, rfl, HLR.out, rfl, Lib.hid ⟨HI3.out.1, HI3.out.2, _, rfl⟩⟩
              · have HI3 : Hid (cn ≤ r + 1 ∧ (x ∈ L.take (r + 1) → 0 < cn)) := Lib.hid ⟨by have := HI2.out.1; omega, fun h => by rw [HTK.out] at h; rcases List.mem_append.1 h with h | h; exact HI2.out.2 h; (have h : x = y := by simpa using h); exact absurd (by rw [h]) hz⟩
                go_wp2_with fail
                go_quiet (fail)
                go_wp2_with fail
                go_roundg (n1 - (r + 1))
                case measure => have := HLR.out; omega
                case rel => exact ⟨r + 1, cn, by go_num, rfl, HLR.out, rfl, Lib.hid ⟨HI3.out.1, HI3.out.2, _, rfl⟩⟩
              · have HI3 : Hid (cn ≤ r + 1 ∧ (x ∈ L.take (r + 1) → 0 < cn)) := Lib.hid ⟨by have := HI2.out.1; omega, fun h => by rw [HTK.out] at h; rcases List.mem_append.1 h with h | h; exact HI2.out.2 h; (have h : x = y := by simpa using h); exact absurd (by rw [h]) hz⟩
                go_wp2_with fail
                go_quiet (fail)
                go_wp2_with fail
                go_roundg (n1 - (r + 1))
                case measure => have := HLR.out; omega
                case rel => exact ⟨r + 1, cn, by go_num, rfl, HLR.out, rfl, Lib.hid ⟨HI3.out.1, HI3.out.2, _, rfl⟩⟩
              · have HI3 : Hid (cn ≤ r + 1 ∧ (x ∈ L.take (r + 1) → 0 < cn)) := Lib.hid ⟨by have := HI2.out.1; omega, fun h => by rw [HTK.out] at h; rcases List.mem_append.1 h with h | h; exact HI2.out.2 h; (have h : x = y := by simpa using h); exact absurd (by rw [h]) hz⟩
                go_wp2_with fail
                go_quiet (fail)
                go_wp2_with fail
                go_roundg (n1 - (r + 1))
                case measure => have := HLR.out; omega
                case rel => exact ⟨r + 1, cn, by go_num, rfl, HLR.out, rfl, Lib.hid ⟨HI3.out.1, HI3.out.2, _, rfl⟩⟩
              · have HI3 : Hid (cn ≤ r + 1 ∧ (x ∈ L.take (r + 1) → 0 < cn)) := Lib.hid ⟨by have := HI2.out.1; omega, fun h => by rw [HTK.out] at h; rcases List.mem_append.1 h with h | h; exact HI2.out.2 h; (have h : x = y := by simpa using h); exact absurd (by rw [h]) hz⟩
                go_wp2_with fail
                go_quiet (fail)
                go_wp2_with fail
                go_roundg (n1 - (r + 1))
                case measure => have := HLR.out; omega
                case rel => exact ⟨r + 1, cn, by go_num, rfl, HLR.out, rfl, Lib.hid ⟨HI3.out.1, HI3.out.2, _, rfl⟩⟩
              · have HI3 : Hid (cn ≤ r + 1 ∧ (x ∈ L.take (r + 1) → 0 < cn)) := Lib.hid ⟨by have := HI2.out.1; omega, fun h => by rw [HTK.out] at h; rcases List.mem_append.1 h with h | h; exact HI2.out.2 h; (have h : x = y := by simpa using h); exact absurd (by rw [h]) hz⟩
                go_wp2_with fail
                go_quiet (fail)
                go_wp2_with fail
                go_roundg (n1 - (r + 1))
                case measure => have := HLR.out; omega
                case rel => exact ⟨r + 1, cn, by go_num, rfl, HLR.out, rfl, Lib.hid ⟨HI3.out.1, HI3.out.2, _, rfl⟩⟩
              · have HI3 : Hid (cn ≤ r + 1 ∧ (x ∈ L.take (r + 1) → 0 < cn)) := Lib.hid ⟨by have := HI2.out.1; omega, fun h => by rw [HTK.out] at h; rcases List.mem_append.1 h with h | h; exact HI2.out.2 h; (have h : x = y := by simpa using h); exact absurd (by rw [h]) hz⟩
                go_wp2_with fail
                go_quiet (fail)
                go_wp2_with fail
                go_roundg (n1 - (r + 1))
                case measure => have := HLR.out; omega
                case rel => exact ⟨r + 1, cn, by go_num, rfl, HLR.out, rfl, Lib.hid ⟨HI3.out.1, HI3.out.2, _, rfl⟩⟩
            · obtain rfl : r = n1 := by omega
              have e1 : decide ((r : Int) < (r : Int)) = false := decide_eq_false (by omega)
              have e1' : decide (r < r) = false := decide_eq_false (by omega)
              have hcn : ((cn : Int) == 0) = false := by have h := HI.out.2.1 (by rw [HNL.out.1, List.take_length]; exact HIN.out); simp only [beq_eq_false_iff_ne, ne_eq]; omega
              have HZ2 := Lib.hid HI.out.2.2
              have hwq : wrap64 ((p : Int) + 1) = (p : Int) + 1 := IntWalk.wrap64_in _ (by have := HLT.out; have := HLL.out; have := HNL.out; have := H40.out; omega)
              clear hlt hr HI
              go_wp2_with fail
              go_roundg (n2 - (p + 1))
              case measure => have := HLT.out; omega
              case rel => exact ⟨p + 1, by go_num, HLT.out, rfl, HZ2⟩
        · obtain rfl : p = n2 := by omega
          have e1 : decide ((p : Int) < (p : Int)) = false := decide_eq_false (by omega)
          have e1' : decide (p < p) = false := decide_eq_false (by omega)
          obtain ⟨z, rfl⟩ := HZ.out
          have hxz : Ext W9 (W9.drewN z) := Below.drewN' (Ext.refl W9) z
          have HNZ := Lib.hid (HN.out.more hxz)
          clear hxz hlt hp HZ
          obtain ⟨N, hN⟩ : ∃ N, N = S.way.length := ⟨_, rfl⟩
          have HNN : Hid (p + N ≤ n1 + dn ∧ n1 + dn ≤ 300) := Lib.hid (by have h2 := HSP.out.few; have h3 := HNL.out; have h4 := HLL.out; have h6 := H40.out; omega)
          have HC := Lib.hid HNZ.out.len
          rw [← hN] at HC
          clear hN
          have hw1 : wrap64 ((p : Int) + (N : Int)) = ((p + N : Nat) : Int) := by rw [IntWalk.wrap64_in _ (by have := HNN.out; omega)]; rfl
          have hw2 : wrap64 ((n1 : Int) + (dn : Int)) = ((n1 + dn : Nat) : Int) := by rw [IntWalk.wrap64_in _ (by have := HNN.out; omega)]; rfl
          have HW1 := Lib.hid hw1
          have HW2 := Lib.hid hw2
          clear hw1 hw2
          go_wp2_with fail
          refine HC.out.mono ?_
          rintro e7 w7 ⟨rfl, hx7⟩
          have HXF := Lib.hid (((HNZ.out.more hx7)).ext_ HX1.out HGL.out)
          clear HC hx7
          go_wp2
          go_ret
          rw [HW1.out, HW2.out]
          exact ⟨by rw [decide_eq_true (show ((p + N : Nat) : Int) ≤ ((n1 + dn : Nat) : Int) by have := HNN.out; omega)]; rfl, HXF.out⟩

end Go.Proofs.Ytdijinboopdheaa

/- The reference's layer 1: a list's bytes. -/
namespace Go.Proofs.Ytdijinboopdheaa
open Go.RowKit

theorem Rd.open_ {w : World} {A : Option Addr} {n c : Nat} {xs : List Value} (h : Rd w (.slice A n c) xs) : n = xs.length ∧ xs.length ≤ c ∧ c ≤ maxLen ∧ (0 < xs.length → ∃ b o, A = some ⟨b, o, none⟩ ∧ b < w.heap.size ∧ ∀ j u, xs[j]? = some u → w.cell? ⟨b, o + j, none⟩ = some u) := by
  obtain ⟨A', c', e, h1, h2, h3⟩ := h
  injection e with e1 e2 e3
  subst e1 e2 e3
  exact ⟨rfl, h1, h2, h3⟩

set_option maxRecDepth 100000 in
set_option maxHeartbeats 4000000 in
theorem RefList_any (l : List Int) (v : Value) (w : World) (hr : Rd w v (l.map I)) (hl : l.length ≤ 1000000) :
    Calls Try.prog 76 #[v] w (ListPost l w) := by
  obtain ⟨A, c, rfl, hlc, hcm, hcell⟩ := hr
  simp only [List.length_map] at *
  unfold maxLen at hcm
  have hlen := numB_len8 (n := l.length) (by omega)
  go_enter Try.func76, Try.ntmps76
  go_wp2_with (first | (go_at_call 90; refine (RefNum_yes l.length _ (by omega)).mono ?_; rintro e w' ⟨v', rfl, hg0⟩))
  go_loopw [3, 4] (fun v' i' wr => ∃ (k : Nat), i' = .int .i64 k ∧ k ≤ l.length ∧ (l.take k).all isNumB = true ∧ Grew w.heap.size 5 (.slice none 0 0) w ((numB l.length ++ numsB (l.take k)).map B) v' wr) (fun _ i' _ => l.length - (intOf i').toNat)
  case atStart => exact ⟨0, rfl, by omega, rfl, by simpa [numsB] using hg0⟩
  case round =>
    obtain ⟨k, rfl, hk, hall, hg⟩ := hrel
    have hbnd := numsB_len _ hall
    rw [List.length_take, Nat.min_eq_left hk] at hbnd
    have hlt : (numB l.length ++ numsB (l.take k)).length ≤ 8 + 8 * l.length := by simp only [List.length_append]; omega
    have HA := Lib.hid hall
    clear hall
    by_cases hlt2 : k < l.length
    · obtain ⟨b, o, rfl, hbl, hce⟩ := hcell (by omega)
      have hc1 : wr.cell? ⟨b, o + k, none⟩ = some (I l[k]) := (hg.ext.cell (p := ⟨b, o + k, none⟩) hbl).trans (hce k _ (by simp [hlt2]))
      clear hce hcell
      by_cases hn : isNumB l[k] = true
      · have H := Lib.hid (isNumB_iff.1 hn)
        obtain ⟨m, hm, hm2⟩ := isNum_some H.out
        have HL := Lib.hid hm
        rw [hm] at hc1
        unfold I at hc1
        clear hm hn
        have lm := numB_len8 hm2
        go_wp2_with (first | (go_at_call 106; refine (RefIs_yes _ _ (by omega) (by omega)).mono ?_; rintro e w' ⟨rfl, rfl⟩) | (go_at_call 90; refine (RefNum_yes m _ (by omega)).mono ?_; rintro e w2 ⟨v2, rfl, hg2⟩; obtain ⟨A2, c2, rfl⟩ := hg2.slice_ (n := (numB m).length) (List.length_map _)))
        have hg3 := hg.step hg2.ext
        have hr2 := Rd.own hg2.own
        have hne : Hid (∀ b2 o2, A2 = some ⟨b2, o2, none⟩ → u3.ownBlock ≠ some b2) := by
          intro b2 o2 e h
          subst e
          have h1 := (hg.own.lt b2 h).2
          have h2 := (hg2.own.lt b2 rfl).1
          omega
        obtain ⟨-, -, hc2m, hcell2⟩ := hr2.open_
        simp only [List.length_map] at hcell2
        unfold maxLen at hc2m
        generalize hw2 : w2 = w3 at *
        clear hg2 hw2 hc1 hr2
        obtain ⟨wo, rfl⟩ : ∃ wo : World, wo = wr := ⟨_, rfl⟩
        obtain ⟨vo, rfl⟩ : ∃ vo : Value, vo = u3 := ⟨_, rfl⟩
        go_loopw [3, 6] (fun v' i' wq => ∃ (q : Nat), i' = .int .i64 q ∧ q ≤ (numB m).length ∧ Grew w.heap.size 5 vo w3 (((numB l.length ++ numsB (l.take k)) ++ (numB m).take q).map B) v' wq) (fun _ i' _ => (numB m).length - (intOf i').toNat)
        case atStart => exact ⟨0, rfl, by omega, by simpa using Grew.start hg3.1⟩
        case round =>
          obtain ⟨q, rfl, hq, hgq⟩ := hrel
          have hlq : (((numB l.length ++ numsB (l.take k)) ++ (numB m).take q).map B).length < 140737488355328 := by
            rw [List.length_map, List.length_append, List.length_take]
            omega
          have hbq := Nat.le_trans hg3.size hgq.size
          by_cases hq2 : q < (numB m).length
          · obtain ⟨b2, o2, rfl, hb2, hce2⟩ := hcell2 (by omega)
            have hc2 : wr.cell? ⟨b2, o2 + q, none⟩ = some (B (numB m)[q]) := hgq.2.1.cell (hce2 q _ (by simp [hq2])) (fun e => hne.out b2 o2 rfl e.symm)
            clear hce2 hcell2
            have htk := Lib.hid (take_snoc (numB m) q hq2)
            generalize (numB m)[q] = bq at hc2 htk
            unfold B at hc2
            go_wp2_with (first | (at_builtin; refine push_u8 rfl _ _ rfl w.heap.size _ _ rfl hgq.1 _ rfl rfl hlq hbq ?_; intro v' w' hg'))
            go_roundw
            case rel =>
              have hgg := hgq.trans hg'
              refine ⟨q + 1, by go_num, by omega, ?_⟩
              rw [htk.out, ← List.append_assoc, List.map_append]
              exact hgg
            case measure => simp [intOf]; omega
          · obtain rfl : q = (numB m).length := by omega
            rw [List.take_length] at hgq
            clear hcell2
            go_wp2
            go_roundw
            case rel =>
              refine ⟨k + 1, by go_num, by omega, all_take_snoc hlt2 HA.out (isNumB_iff.2 H.out), ?_⟩
              rw [take_snoc l k hlt2, numsB_snoc, HL.out, Int.toNat_natCast, ← List.append_assoc]
              exact hg3.trans hgq
            case measure => simp [intOf]; omega
      · have H := Lib.hid (isNumB_not (Bool.eq_false_iff.2 hn))
        unfold I at hc1
        clear hn
        go_wp2_with (first | (go_at_call 106; refine (RefIs_no _ _ H.out).mono ?_; rintro e w' ⟨rfl, rfl⟩))
        go_ret
        exact .inr ⟨rfl, all_false_at hlt2 (Bool.eq_false_iff.2 fun h => H.out (isNumB_iff.1 h)), hg.ext⟩
    · have hkl : k = l.length := by omega
      subst hkl
      go_wp2
      go_ret
      rw [List.take_length] at hg HA
      exact .inl ⟨_, rfl, HA.out, hg⟩

end Go.Proofs.Ytdijinboopdheaa
