/- Texts that the proof of X rests on, one behind the other. -/
import Derived.Test.YtgjidkhfnnghiaaXQ1
import Derived.Test.YtgjidkhfnnghiaaXQ2
import Derived.Test.YtgjidkhfnnghiaaXQ3
import Derived.Test.YtgjidkhfnnghiaaXQ5
import Derived.Maps.Own
import Derived.Maps.OwnOps
import Derived.Maps.OwnSet
import Derived.Maps.Range
import Derived.Maps.Views
import Derived.Lib.SlKeysI
import Derived.Deep.CutBlock
import Derived.Deep.DeepCutAuto
import Derived.Maps.RangeWalk
import Derived.Sort.Grow
import Derived.Test.YtgjidkhfnnghiaaRows

/- Package ahead: which nodes come back at each end, as a map. -/
namespace Go.Proofs.Ytgjidkhfnnghiaa
open Go.RowKit Go.Maps

/-- The map behind the first jobs. -/
def dB (s : St) (now : Int) : Nat → DataW Unit
  | 0 => (DataW.map []).put (.int .i64 now) (.lit (.int .i64 0))
  | k + 1 => if endS s ((k : Int) + 1) now = -1 then dB s now k else (dB s now k).put (.int .i64 (endS s ((k : Int) + 1) now)) (.lit (.int .i64 ((orTo s now (endS s ((k : Int) + 1) now) k ||| nodesN s k : Nat) : Int)))
theorem dB_map (s : St) (now : Int) : ∀ k, IsMap (dB s now k)
  | 0 => IsMap.put isMap_empty _ _
  | k + 1 => by
    unfold dB
    split
    · exact dB_map s now k
    · exact (dB_map s now k).put _ _
theorem i64_ne {a b : Int} (h : a ≠ b) : (Lit.int .i64 a) ≠ (Lit.int .i64 b) := fun e => by cases e; exact h rfl
theorem orTo_succ (s : St) (now t : Int) (k : Nat) : orTo s now t (k + 1) = if endS s ((k : Int) + 1) now = t then orTo s now t k ||| nodesN s k else orTo s now t k := rfl
theorem dB_at (s : St) (now t : Int) (ht : 0 ≤ t) : ∀ k, (dB s now k).atKey (.int .i64 t) (.lit (.int .i64 0)) = .lit (.int .i64 (orTo s now t k : Int))
  | 0 => by
    unfold dB orTo
    by_cases h : t = now
    · rw [h, atKey_put_same isMap_empty (by trivial)]
      rfl
    · rw [atKey_put_other (i64_ne h)]
      rfl
  | k + 1 => by
    unfold dB
    by_cases h1 : endS s ((k : Int) + 1) now = -1
    · rw [if_pos h1, dB_at s now t ht k, orTo_succ, if_neg (by omega)]
    · rw [if_neg h1]
      by_cases h : t = endS s ((k : Int) + 1) now
      · rw [← h, atKey_put_same (dB_map s now k) (by trivial), orTo_succ, if_pos h.symm]
      · rw [atKey_put_other (i64_ne h), dB_at s now t ht k, orTo_succ, if_neg (fun e => h e.symm)]
theorem dB_has (s : St) (now t : Int) : ∀ k, Maps.has (dB s now k) (.int .i64 t) = true ↔ (t = now ∨ ∃ r : Nat, r < k ∧ endS s ((r : Int) + 1) now = t ∧ t ≠ -1)
  | 0 => by
    unfold dB
    by_cases h : t = now
    · rw [h, has_put_same isMap_empty (by trivial)]
      simp
    · rw [has_put_other (i64_ne h)]
      simp [Maps.has, h]
  | k + 1 => by
    have ih := dB_has s now t k
    have hstep : ∀ r : Nat, r < k + 1 ↔ (r < k ∨ r = k) := fun r => by omega
    unfold dB
    by_cases h1 : endS s ((k : Int) + 1) now = -1
    · rw [if_pos h1, ih]
      constructor
      · rintro (h | ⟨r, a, b, c⟩)
        · exact .inl h
        · exact .inr ⟨r, by omega, b, c⟩
      · rintro (h | ⟨r, a, b, c⟩)
        · exact .inl h
        · rcases (hstep r).1 a with a | rfl
          · exact .inr ⟨r, a, b, c⟩
          · exact absurd (b.symm.trans h1) c
    · rw [if_neg h1]
      by_cases h : t = endS s ((k : Int) + 1) now
      · rw [← h, has_put_same (dB_map s now k) (by trivial)]
        simp only [true_iff]
        exact .inr ⟨k, by omega, h.symm, by rw [h]; exact h1⟩
      · rw [has_put_other (i64_ne h), ih]
        constructor
        · rintro (h | ⟨r, a, b, c⟩)
          · exact .inl h
          · exact .inr ⟨r, by omega, b, c⟩
        · rintro (h' | ⟨r, a, b, c⟩)
          · exact .inl h'
          · rcases (hstep r).1 a with a | rfl
            · exact .inr ⟨r, a, b, c⟩
            · exact absurd b.symm h
theorem dB_step {s : St} {now : Int} {k : Nat} (h : endS s ((k : Int) + 1) now ≠ -1) : dB s now (k + 1) = (dB s now k).put (.int .i64 (endS s ((k : Int) + 1) now)) (.lit (.int .i64 ((orTo s now (endS s ((k : Int) + 1) now) k ||| nodesN s k : Nat) : Int))) := by
  show (if _ then _ else _) = _
  rw [if_neg h]
theorem dB_skip {s : St} {now : Int} {k : Nat} (h : endS s ((k : Int) + 1) now = -1) : dB s now (k + 1) = dB s now k := by
  show (if _ then _ else _) = _
  rw [if_pos h]
theorem orTo_lt {s : St} (hs : OwnS s) (now t : Int) : ∀ k, k ≤ s.jobs.length → orTo s now t k < 64
  | 0, _ => by unfold orTo; decide
  | k + 1, hk => by
    have ih := orTo_lt hs now t k (by omega)
    rw [orTo_succ]
    split
    · obtain ⟨x, hx⟩ : ∃ x, s.jobs[k]? = some x := ⟨_, List.getElem?_eq_getElem (by omega)⟩
      rw [nodesN_at hx]
      exact Nat.or_lt_two_pow (n := 6) ih (hs k x hx).1
    · exact ih
theorem endS_in {s : St} (hA : OkA s) {now : Int} (hn0 : 0 ≤ now) (hn1 : now ≤ 1000000) (job : Int) : endS s job now = -1 ∨ (now ≤ endS s job now ∧ endS s job now ≤ 2000000) := by
  unfold endS
  split
  · rename_i x hx
    obtain ⟨a1, a2, a3, a4⟩ := hA.ok.jobs _ x hx
    obtain ⟨-, b1, b2, b3, -, -⟩ := hA.jobs _ x hx
    split
    · unfold endJ endE
      by_cases p1 : x.phase = 1
      · simp only [if_pos p1]
        split <;> omega
      · simp only [if_neg p1]
        by_cases p2 : x.phase = 2
        · simp only [if_pos p2]
          split <;> omega
        · simp only [if_neg p2]
          by_cases p3 : x.phase = 3
          · simp only [if_pos p3]
            split <;> omega
          · simp only [if_neg p3]
            split <;> omega
    · exact .inl rfl
  · exact .inl rfl
/-- A map's keys. -/
theorem keys_spec {H : Type} {P : Program} {k : TypeId} {R : Value → Option (DataW H × List MemPlace)} {w : World} {b n : Nat} {D : DataW H} (hown : w.ownsMap P k R b n D) (K : Keyed P k) (hk : P.underlying k = some (.int .i64)) : (intKeys D).Nodup ∧ (∀ x, x ∈ intKeys D ↔ Maps.has D (.int .i64 x) = true) ∧ Maps.size D ≤ n := by
  have hsz : Maps.size D ≤ n := by
    obtain ⟨es, clock, _, _, hs, rfl⟩ := hown
    show ((es.toList.map _).foldr DataW.insert []).length ≤ n
    rw [length_sorted]
    simpa using hs
  obtain ⟨es, hD, hpw, _⟩ := hown.entries K
  obtain ⟨es', hD', hko⟩ := hown.keysOf
  obtain rfl : es = es' := by rw [hD] at hD'; simpa using hD'
  subst hD
  have hkk : ∀ p ∈ es, ∃ x, p.1 = .int .i64 x := fun p hp => by
    obtain ⟨v, hv⟩ := hko p hp
    obtain ⟨x, _, hx, _⟩ := Maps.keyOf_i64 hk hv
    exact ⟨x, hx⟩
  refine ⟨?_, fun x => ?_, hsz⟩
  · show (es.map fun p => Go.intOf p.1).Nodup
    refine List.pairwise_map.2 (hpw.imp_of_mem fun {p q} hp' hq' hne e => hne ?_)
    obtain ⟨a, ha⟩ := hkk p hp'
    obtain ⟨b, hb⟩ := hkk q hq'
    rw [ha, hb] at e ⊢
    exact congrArg _ e
  · rw [has_eq, List.any_eq_true]
    show x ∈ es.map (fun p => Go.intOf p.1) ↔ _
    rw [List.mem_map]
    constructor
    · rintro ⟨p, hp', rfl⟩
      obtain ⟨a, ha⟩ := hkk p hp'
      exact ⟨p, hp', by rw [ha]; simp [Lit.sameKey, Go.intOf]⟩
    · rintro ⟨p, hp', hs⟩
      obtain ⟨a, ha⟩ := hkk p hp'
      rw [ha] at hs
      exact ⟨p, hp', by rw [ha]; simpa [Lit.sameKey, Go.intOf] using hs⟩

/-- A map's literal: an entry is laid. -/
theorem wpList_insertI {H : Type} {P : Program} (w : World) {ops : Array Oper} {rest : List Oper} {o : Oper} {a : Act} {Q : Exit → Act → World → Prop}
    (hg : o.guard = none) (m x v : Operand) (t : TypeId) (hop : o.op = Op.insert t m x v)
    (k e : TypeId) (K : Keyed P k) (ht : P.underlying t = some (.map k e)) (R : Value → Option (DataW H × List MemPlace)) (b n : Nat) (D : DataW H)
    (hm : a.eval m = .map (some b)) (hown : w.ownsMap P k R b n D) (hn : n < maxLen) (key val : Value) (kl : Lit) (hx : a.eval x = key) (hv : a.eval v = val) (hkey : keyOf P k key = some kl)
    (d : DataW H) (ps : List MemPlace) (hval : R val = some (d, ps))
    (hK : ∀ w', w'.ownsMap P k R b (n + 1) (D.put kl d) → w.grownBy w' (some b) → wpList P ops Q rest (a.put o.dst undef) w') :
    wpList P ops Q (o :: rest) a w := by
  refine wpList_plain hg fun K' hK' => ?_
  obtain ⟨w', hrun, r1, r2⟩ := hown.update K ht hn hkey hval
  unfold Oper.wp
  simp [execOp, hop, hm, hx, hv, hrun, Result.andThen]
  exact hK' _ _ (hK w' r1 r2)
theorem map_ext {H : Type} {P : Program} {k : TypeId} {R : Value → Option (DataW H × List MemPlace)} {w w' : World} {b n : Nat} {D : DataW H} (h : w.ownsMap P k R b n D) (hx : Ext w w') : w'.ownsMap P k R b n D :=
  h.kept (row := none) ⟨hx.os, hx.tape, hx.output, hx.size, fun i hi _ => hx.block i hi⟩ (by simp)
theorem Try.zeroInt (w : World) : (zeroValue 3).run Try.prog w = .ok (.int .i64 0) w := by kernel_rfl

end Go.Proofs.Ytgjidkhfnnghiaa

/- Package ahead: which nodes come back at each end, walked. -/
namespace Go.Proofs.Ytgjidkhfnnghiaa
open Go.RowKit Go.Maps

set_option maxRecDepth 100000 in
set_option maxHeartbeats 8000000 in
theorem backAt_any (vn vj : Value) (s : St) (now : Int) (w : World) (hr : RdJb w vj s.jobs) (hA : OkA s) (hn0 : 0 ≤ now) (hn1 : now ≤ 1000000) :
    Calls Try.prog 32 #[stV vn vj s, .int .i64 now] w fun e w' => ∃ B : Nat, e = .returned (.map (some B)) ∧ w.heap.size ≤ B ∧ w'.ownsMap Try.prog 3 (plainElem (H := Unit) Try.prog 3) B 25 (dB s now s.jobs.length) ∧ Ext w w' := by
  have hJ := hA.ok.nj
  have HRJ := Lib.hid hr
  have HEN : Hid (∀ job W, Ext w W → Calls Try.prog 12 #[stV vn vj s, .int .i64 job, .int .i64 now] W fun e w' => e = .returned (.int .i64 (endS s job now)) ∧ Ext W w') := Lib.hid fun job W hW => End_any vn vj s job now W (HRJ.out.ext hW) hA hn0 hn1
  obtain ⟨hx, hb⟩ := boxSt vn vj s w 27
  unfold stV at HEN
  unfold stV
  unfold stC at hx hb
  obtain ⟨A, c, rfl, hnc, hcm, hcell⟩ := jobs_cells hr
  have HC := Lib.hid hcell
  have HX := Lib.hid hx
  have HB := Lib.hid hb
  have hmm := @run_makeMap Try.prog
  have hkn : keyOf Try.prog 3 (.int .i64 now) = some (.int .i64 now) := keyOf_int_mk Try.underlying3 (WalkArith.wf_i64 (by omega))
  have hlaw : Keyed Try.prog 3 := int_keyed Try.underlying3
  have HLAW := Lib.hid hlaw
  clear hx hb hr hcell
  go_enter Try.func32, Try.ntmps32
  go_upto_region 1 with (fail)
  obtain ⟨W0, hW0⟩ : ∃ W0, W0 = w.alloc (.cells #[vn, .slice A s.jobs.length c, .int .i64 s.goal, .int .i64 s.prior, .int .i64 s.mode, .int .i64 s.term] 27) := ⟨_, rfl⟩
  rw [← hW0] at HX HB ⊢
  have hS0 : w.heap.size ≤ W0.heap.size := HX.out.size
  clear hW0
  have hm0 : (W0.alloc (.map #[] 0)).ownsMap Try.prog 3 (plainElem (H := Unit) Try.prog 3) W0.heap.size 0 (.map []) := World.ownsMap_made _ _ _ _
  go_upto_region 2 with (first
    | (refine wpList_insertI _ rfl _ _ _ 55 rfl 3 3 hlaw Try.underlying55 _ W0.heap.size 0 _ rfl hm0 (by decide) _ _ _ rfl rfl hkn _ [] (plainElem_int Try.underlying3 (by decide)) ?_; intro w1 hown1 hgr1))
  have HX1 : Hid (Ext W0 w1) := Lib.hid (Below.grown ((Below.refl _ W0).alloc (Nat.le_refl _) _) hgr1 (by simp) (fun k hk => by cases hk; exact Nat.le_refl _))
  have HM1 : Hid (w1.ownsMap Try.prog 3 (plainElem (H := Unit) Try.prog 3) W0.heap.size (0 + 1) (dB s now 0)) := Lib.hid hown1
  obtain ⟨B, hB⟩ : ∃ B, B = W0.heap.size := ⟨_, rfl⟩
  rw [← hB] at HM1 ⊢
  have HBL : Hid (B = W0.heap.size ∧ w.heap.size ≤ B) := Lib.hid ⟨hB, by rw [hB]; exact hS0⟩
  clear hown1 hgr1 hm0 hkn hlaw hB hS0 hmm
  have g1 := (HB.out.ext HX1.out).cell 1
  go_wp2_with fail
  go_loopw [15] (fun i wr => ∃ q : Nat, i = .int .i64 (q : Int) ∧ q ≤ s.jobs.length ∧ Hid (wr.ownsMap Try.prog 3 (plainElem (H := Unit) Try.prog 3) B (q + 1) (dB s now q)) ∧ Hid (Ext W0 wr)) (fun i _ => s.jobs.length - (Go.RowKit.intOf i).toNat)
  case atStart => exact ⟨0, rfl, Nat.zero_le _, HM1, HX1⟩
  case round =>
    obtain ⟨q, rfl, hq, HM, HXR⟩ := hrel
    have HXW : Hid (Ext w wr) := Lib.hid (Ext.trans HX.out HXR.out)
    by_cases hlt : q < s.jobs.length
    · have d1 : decide ((q : Int) < (s.jobs.length : Int)) = true := decide_eq_true (by omega)
      have d1' : decide (q < s.jobs.length) = true := decide_eq_true hlt
      obtain ⟨x, hx⟩ : ∃ x, s.jobs[q]? = some x := ⟨_, List.getElem?_eq_getElem hlt⟩
      obtain ⟨b, o, rfl, hlt', hat⟩ := HC.out q x hx
      obtain ⟨q0, q1, q2, q3, q4, q5, q6, q7, q8, q9, q10, q11⟩ := hat.ext HXW.out hlt'
      have wq : wrap64 ((q : Int) + 1) = (q : Int) + 1 := IntWalk.wrap64_in _ (by omega)
      have HLT := Lib.hid hlt
      go_upto_region 5 with (fail)
      obtain ⟨wn, hwn⟩ : ∃ wn, wn = wr.alloc (.cells #[.int .i64 x.queue, .int .i64 x.prio, .int .i64 x.least, .int .i64 x.most, .int .i64 x.work, .int .i64 x.pin, .int .i64 x.phase, .int .i64 x.inc, .int .i64 x.nodes, .int .i64 x.since, .int .i64 x.til, .int .i64 x.epoch] 39) := ⟨_, rfl⟩
      have HXN : Hid (Ext wr wn) := Lib.hid (by rw [hwn]; exact (Below.refl _ _).alloc (Nat.le_refl _) _)
      have HBN : Hid (Blk wn wr.heap.size 39 #[.int .i64 x.queue, .int .i64 x.prio, .int .i64 x.least, .int .i64 x.most, .int .i64 x.work, .int .i64 x.pin, .int .i64 x.phase, .int .i64 x.inc, .int .i64 x.nodes, .int .i64 x.since, .int .i64 x.til, .int .i64 x.epoch]) := Lib.hid (by rw [hwn]; exact Blk.new _ _ _)
      rw [← hwn]
      obtain ⟨gx, hgx⟩ : ∃ g, g = wr.heap.size := ⟨_, rfl⟩
      rw [← hgx] at HBN ⊢
      have HGX : Hid (B < gx) := Lib.hid (by rw [hgx]; exact HM.out.lt)
      have HX0 : Hid (Ext W0 wn) := Lib.hid (Ext.trans HXR.out HXN.out)
      have HMN := Lib.hid (map_ext HM.out HXN.out)
      have HNX : Hid (nodesN s q = x.nodes.toNat) := Lib.hid (nodesN_at hx)
      have HJX := Lib.hid (hA.jobs q x hx)
      clear hwn hgx hat hx hlt q0 q1 q2 q3 q4 q5 q6 q7 q8 q9 q10 q11 hq g1
      obtain ⟨g0, g1, g2, g3, g4, g5⟩ := Blk.six (HB.out.ext HX0.out)
      have HEC := Lib.hid (HEN.out ((q : Int) + 1) wn (Ext.trans HX.out HX0.out))
      obtain ⟨E, hE⟩ : ∃ E, E = endS s ((q : Int) + 1) now := ⟨_, rfl⟩
      rw [← hE] at HEC
      have HE := Lib.hid hE
      clear hE
      go_wp2_with fail
      refine HEC.out.mono ?_
      rintro e2 w2 ⟨rfl, hx2⟩
      have HX2 : Hid (Ext wn w2) := Lib.hid hx2
      have HX02 : Hid (Ext W0 w2) := Lib.hid (Ext.trans HX0.out hx2)
      have HM2 := Lib.hid (map_ext HMN.out hx2)
      have c8 := (HBN.out.ext hx2).cell 8
      clear hx2 HEC g0 g1 g2 g3 g4 g5
      by_cases he : E = -1
      · have f1 : (E != -1) = false := by rw [he]; rfl
        have HS : Hid (dB s now (q + 1) = dB s now q) := Lib.hid (dB_skip (by rw [← HE.out]; exact he))
        clear he
        repeat (first | go_values | go_skip | go_guarded | go_step | go_upon | (simp only []))
        go_roundw
        case rel => exact ⟨q + 1, by first | (rw [wq]; rfl) | rfl, HLT.out, Lib.hid (by rw [HS.out]; exact HM2.out.mono (by omega)), HX02⟩
        case measure => first | (rw [wq]; exact measQ HLT.out) | exact measQ HLT.out
      · have f1 : (E != -1) = true := by simpa using he
        have hE0 : 0 ≤ E ∧ E ≤ 2000000 := by
          rcases endS_in hA hn0 hn1 ((q : Int) + 1) with h | h
          · exact absurd (HE.out.trans h) he
          · rw [← HE.out] at h
            omega
        obtain ⟨O, hO⟩ : ∃ O, O = orTo s now E q := ⟨_, rfl⟩
        have hO64 : O < 64 := by rw [hO]; exact orTo_lt hA.own now E q (Nat.le_of_lt HLT.out)
        obtain ⟨m, hm⟩ : ∃ m : Nat, x.nodes = (m : Int) := ⟨x.nodes.toNat, by have := HJX.out.2.2.2.2.1; omega⟩
        have hm64 : m < 64 := by have := HJX.out.2.2.2.2.2; omega
        have hke : keyOf Try.prog 3 (.int .i64 E) = some (.int .i64 E) := keyOf_int_mk Try.underlying3 (WalkArith.wf_i64 (by omega))
        have hlk : (Instr.lookup 55 (.map (some B)) (.int .i64 E) false).run Try.prog w2 = .ok (.int .i64 (O : Int)) w2 := by
          obtain ⟨c, h1, h2, -⟩ := HM2.out.lookup_int HLAW.out Try.underlying55 Try.underlying3 (Try.zeroInt _) hke
          rw [dB_at s now E hE0.1, ← hO] at h2
          rw [h1]
          congr 2
          cases h2
          rfl
        obtain ⟨N, hN⟩ : ∃ N, N = O ||| m := ⟨_, rfl⟩
        have hbo : bits .or .i64 (O : Int) x.nodes = (N : Int) := by rw [hm, or_nat O hO64 m hm64, hN]
        have hN64 : N < 64 := by rw [hN]; exact Nat.or_lt_two_pow (n := 6) hO64 hm64
        have hwf : (Lit.int .i64 (N : Int)).wf = true := WalkArith.wf_i64 (by omega)
        have HS : Hid (dB s now (q + 1) = (dB s now q).put (.int .i64 E) (.lit (.int .i64 (N : Int)))) := Lib.hid (by
          rw [dB_step (by rw [← HE.out]; exact he), ← HE.out, ← hO, HNX.out, hN, show x.nodes.toNat = m by omega])
        have hql : q + 1 < maxLen := by have := HLT.out; unfold maxLen; omega
        have hlaw := HLAW.out
        have hmm2 := HM2.out
        have HKE := Lib.hid hke
        have HWF := Lib.hid hwf
        have HQL := Lib.hid hql
        clear he hO hO64 hm hm64 hN hN64 hE0 hke hwf hql
        go_wp2_with (first
          | (at_mapUpdate; refine wpList_mapUpdate_own _ rfl _ _ _ 55 rfl 3 3 hlaw Try.underlying55 _ B (q + 1) _ rfl hmm2 HQL.out _ _ _ rfl rfl HKE.out _ [] (plainElem_int Try.underlying3 HWF.out) ?_; intro w3 hown3 hgr3))
        go_roundw
        case rel => exact ⟨q + 1, by first | (rw [wq]; rfl) | rfl, HLT.out, Lib.hid (by rw [HS.out]; exact hown3), Lib.hid (HX02.out.grown hgr3 HX02.out.size (fun k hk => by cases hk; exact Nat.le_of_eq HBL.out.1.symm))⟩
        case measure => first | (rw [wq]; exact measQ HLT.out) | exact measQ HLT.out
    · have d1 : decide ((q : Int) < (s.jobs.length : Int)) = false := decide_eq_false (by omega)
      have d1' : decide (q < s.jobs.length) = false := decide_eq_false hlt
      obtain rfl : q = s.jobs.length := by omega
      go_wp2
      go_ret
      exact ⟨B, rfl, HBL.out.2, HM.out.mono (by omega), HXW.out⟩

end Go.Proofs.Ytgjidkhfnnghiaa

/- Package ahead: the nodes at a time. -/
namespace Go.Proofs.Ytgjidkhfnnghiaa
open Go.RowKit Go.Maps

/-- Has such an end been gone through, and is it not behind the time? -/
def doneF (D : DataW Unit) (left : Lit → Bool) (time e : Int) : Bool := Maps.has D (.int .i64 e) && !left (.int .i64 e) && decide (e ≤ time)
theorem done_start (s : St) (now time : Int) (D : DataW Unit) : gN s now (doneF D (Maps.has D) time) = openN s := by
  rw [openN_g s now]
  apply gN_congr
  intro i n _
  unfold doneF
  cases Maps.has D (.int .i64 (endS s n.job now)) <;> rfl
theorem done_end {s : St} (hA : OkA s) {now time : Int} (hn0 : 0 ≤ now) (hn1 : now ≤ 1000000) {left : Lit → Bool} (hl : ∀ kl, left kl = false) : gN s now (doneF (dB s now s.jobs.length) left time) = atN s now time := by
  rw [atN_g]
  apply gN_congr
  intro i n _
  unfold doneF
  rw [hl, Bool.not_false, Bool.and_true]
  congr 1
  rw [Bool.eq_iff_iff, dB_has, decide_eq_true_iff]
  constructor
  · rintro (h | ⟨r, h1, h2, h3⟩)
    · omega
    · rcases endS_in hA hn0 hn1 n.job with h | h
      · exact absurd h h3
      · omega
  · intro h
    obtain ⟨k, x, h1, h2⟩ := endS_pos h
    exact .inr ⟨k, (List.getElem?_eq_some_iff.1 h2).1, by rw [← h1], by omega⟩
theorem same_i64 (a b : Int) : (Lit.int .i64 a).sameKey (Lit.int .i64 b) = decide (a = b) := by
  by_cases h : a = b
  · subst h
    simp [Lit.sameKey]
  · rw [decide_eq_false h]
    exact sameKey_ne (i64_ne h)
theorem done_late {s : St} {now time x : Int} {D : DataW Unit} {left : Lit → Bool} (h : ¬ x ≤ time) : gN s now (doneF D (fun z => left z && !z.sameKey (.int .i64 x)) time) = gN s now (doneF D left time) := by
  apply gN_congr
  intro i n _
  generalize endS s n.job now = e
  unfold doneF
  simp only [same_i64]
  by_cases he : e = x
  · rw [decide_eq_false (show ¬ e ≤ time by rw [he]; exact h), Bool.and_false, Bool.and_false]
  · rw [decide_eq_false he, Bool.not_false, Bool.and_true]
theorem done_step {s : St} (hs : OwnS s) {now time x : Int} {D : DataW Unit} {left : Lit → Bool} (h0 : 0 ≤ x) (h : x ≤ time) (hh : Maps.has D (.int .i64 x) = true) : gN s now (doneF D left time) ||| orTo s now x s.jobs.length = gN s now (doneF D (fun z => left z && !z.sameKey (.int .i64 x)) time) := by
  rw [g_or hs now x h0]
  apply gN_congr
  intro i n _
  generalize endS s n.job now = e
  unfold doneF
  simp only [same_i64]
  by_cases he : e = x
  · rw [he, hh, decide_eq_true h, decide_eq_true rfl]
    cases left (.int .i64 x) <;> rfl
  · rw [decide_eq_false he, Bool.not_false, Bool.and_true, Bool.or_false]

set_option maxRecDepth 100000 in
set_option maxHeartbeats 8000000 in
theorem At_any (vn vj : Value) (s : St) (now time : Int) (w : World) (hrn : RdNd w vn s.nodes) (hr : RdJb w vj s.jobs) (hA : OkA s) (hn0 : 0 ≤ now) (hn1 : now ≤ 1000000) :
    Calls Try.prog 13 #[stV vn vj s, .int .i64 now, .int .i64 time] w fun e w' => e = .returned (.int .i64 (atN s now time : Int)) ∧ Ext w w' := by
  have hN := hA.ok.nn
  have HRJ := Lib.hid hr
  have HRN := Lib.hid hrn
  obtain ⟨hx, hb⟩ := boxSt vn vj s w 27
  have HOP : Hid (∀ W, Ext w W → Calls Try.prog 31 #[stV vn vj s] W fun e w' => e = .returned (.int .i64 (openN s : Int)) ∧ Ext W w') := Lib.hid fun W hW => Open_any vn vj s W (HRN.out.ext hW) hN
  have HBA : Hid (∀ W, Ext w W → Calls Try.prog 32 #[stV vn vj s, .int .i64 now] W fun e w' => ∃ B : Nat, e = .returned (.map (some B)) ∧ W.heap.size ≤ B ∧ w'.ownsMap Try.prog 3 (plainElem (H := Unit) Try.prog 3) B 25 (dB s now s.jobs.length) ∧ Ext W w') := Lib.hid fun W hW => backAt_any vn vj s now W (HRJ.out.ext hW) hA hn0 hn1
  unfold stV at HOP HBA
  unfold stV
  unfold stC at hx hb
  have HX := Lib.hid hx
  have HB := Lib.hid hb
  have hlaw : Keyed Try.prog 3 := int_keyed Try.underlying3
  have HLAW := Lib.hid hlaw
  obtain ⟨T, hT⟩ : ∃ T, T = atN s now time := ⟨_, rfl⟩
  rw [← hT]
  have HT := Lib.hid hT
  obtain ⟨D, hD⟩ : ∃ D, D = dB s now s.jobs.length := ⟨_, rfl⟩
  rw [← hD] at HBA
  have HD := Lib.hid hD
  clear hx hb hr hrn HRJ HRN hT hD
  go_enter Try.func13, Try.ntmps13
  go_upto_region 1 with (fail)
  obtain ⟨W0, hW0⟩ : ∃ W0, W0 = w.alloc (.cells #[vn, vj, .int .i64 s.goal, .int .i64 s.prior, .int .i64 s.mode, .int .i64 s.term] 27) := ⟨_, rfl⟩
  rw [← hW0] at HX HB ⊢
  clear hW0
  obtain ⟨g0, g1, g2, g3, g4, g5⟩ := Blk.six HB.out
  have HOC := Lib.hid (HOP.out W0 HX.out)
  go_wp2_with fail
  refine HOC.out.mono ?_
  rintro e1 w1 ⟨rfl, hx1⟩
  have HX1 : Hid (Ext w w1) := Lib.hid (Ext.trans HX.out hx1)
  have HB1 := Lib.hid (HB.out.ext hx1)
  clear hx1 HOC g0 g1 g2 g3 g4 g5
  obtain ⟨g0, g1, g2, g3, g4, g5⟩ := Blk.six HB1.out
  have HBC := Lib.hid (HBA.out w1 HX1.out)
  simp only []
  go_wp2_with fail
  refine HBC.out.mono ?_
  rintro e2 w2 ⟨B, rfl, hB, hm2, hx2⟩
  have HX2 : Hid (Ext w w2) := Lib.hid (Ext.trans HX1.out hx2)
  have HBL : Hid (w.heap.size ≤ B) := Lib.hid (Nat.le_trans HX1.out.size hB)
  clear hx2 HBC g0 g1 g2 g3 g4 g5 hB
  simp only []
  go_wp2_with (first
    | (at_range; refine wpList_range_own _ rfl _ 55 rfl 3 3 hlaw Try.underlying55 _ B 25 _ rfl hm2 ?_; intro w3 hrg3 hg3 hs3))
  go_frame
  have HX3 : Hid (Ext w w3) := Lib.hid (HX2.out.grown hg3 HX2.out.size (fun k hk => by cases hk))
  have HRL : Hid (w.heap.size ≤ w2.heap.size) := Lib.hid HX2.out.size
  obtain ⟨r, hr⟩ : ∃ r, r = w2.heap.size := ⟨_, rfl⟩
  rw [← hr] at hrg3 HRL ⊢
  have HR3 := Lib.hid hrg3
  clear hg3 hs3 hr hrg3 hm2
  go_loopw [7, 8] (fun o _ wr => ∃ (left : Lit → Bool) (cnt : Nat), o = .int .i64 (gN s now (doneF D left time) : Int) ∧ Hid (wr.ranges Try.prog 3 (plainElem (H := Unit) Try.prog 3) B r 25 D left cnt) ∧ Hid (Ext w wr)) (fun _ _ wr => wr.rangeLeft B r)
  case atStart => exact ⟨_, _, by rw [done_start], HR3, HX3⟩
  case round =>
    obtain ⟨left, cnt, rfl, HR, HXR⟩ := hrel
    have hrg := HR.out
    go_wp2_with (first
      | (at_next; refine wpList_next_ranges_ii _ rfl _ rfl 3 3 .i64 .i64 hlaw Try.underlying3 Try.underlying3 B r 25 _ _ _ rfl hrg ?_ ?_))
    · intro hc0 hl0
      have HZ : Hid (gN s now (doneF D left time) = T) := Lib.hid (by rw [HT.out, HD.out]; exact done_end hA hn0 hn1 hl0)
      clear hrg hl0
      go_wp2
      go_ret
      exact ⟨by rw [HZ.out]; rfl, HXR.out⟩
    · intro x c w4 cnt1 hwx hwc hlx hat hrg1 hlt hg1 hs1 hen
      have hh : Maps.has D (.int .i64 x) = true := has_true_of_atKey hat
      have hx0 : 0 ≤ x ∧ x ≤ 2000000 := by
        rw [HD.out] at hh
        rcases (dB_has s now x _).1 hh with h | ⟨k, h1, h2, h3⟩
        · omega
        · rcases endS_in hA hn0 hn1 ((k : Int) + 1) with h | h
          · exact absurd (h2.symm.trans h) h3
          · omega
      have hc : c = (orTo s now x s.jobs.length : Int) := by
        have h := hat (.lit (.int .i64 0))
        rw [HD.out, dB_at s now x hx0.1] at h
        cases h
        rfl
      have hO64 := orTo_lt hA.own now x s.jobs.length (Nat.le_refl _)
      have hP64 : gN s now (doneF D left time) < 64 := Nat.lt_of_lt_of_le (gN_lt _ _ _) (Nat.pow_le_pow_right (by decide) hN)
      have hbo : bits .or .i64 (gN s now (doneF D left time) : Int) c = ((gN s now (doneF D left time) ||| orTo s now x s.jobs.length : Nat) : Int) := by rw [hc, or_nat _ hP64 _ hO64]
      have HR4 := Lib.hid hrg1
      have HX4 : Hid (Ext w w4) := Lib.hid (HXR.out.grown hg1 HXR.out.size (fun k hk => by cases hk; exact HRL.out))
      have HLE : Hid (w4.rangeLeft B r < wr.rangeLeft B r) := Lib.hid (by rw [hrg1.left_eq, hrg.left_eq]; exact hlt)
      have HST : Hid (x ≤ time → gN s now (doneF D left time) ||| orTo s now x s.jobs.length = gN s now (doneF D (fun z => left z && !z.sameKey (.int .i64 x)) time)) := Lib.hid fun h => done_step hA.own hx0.1 h hh
      have HLT : Hid (¬ x ≤ time → gN s now (doneF D (fun z => left z && !z.sameKey (.int .i64 x)) time) = gN s now (doneF D left time)) := Lib.hid fun h => done_late h
      obtain ⟨P, hP⟩ : ∃ P, P = gN s now (doneF D left time) := ⟨_, rfl⟩
      obtain ⟨P', hP'⟩ : ∃ P', P' = gN s now (doneF D (fun z => left z && !z.sameKey (.int .i64 x)) time) := ⟨_, rfl⟩
      obtain ⟨O, hO⟩ : ∃ O, O = orTo s now x s.jobs.length := ⟨_, rfl⟩
      rw [← hP, ← hO] at hbo HST
      rw [← hP'] at HST HLT
      rw [← hP] at HLT ⊢
      have HP' := Lib.hid hP'
      clear hP hO hO64 hP64 hc hh hx0 hat hlt hg1 hs1 hrg hrg1 hwx hwc hlx hP'
      by_cases hxt : x ≤ time
      · have d1 : decide (x ≤ time) = true := decide_eq_true hxt
        have HZ : Hid (P ||| O = P') := Lib.hid (HST.out hxt)
        clear hxt
        go_wp2
        go_roundw
        case rel => exact ⟨_, cnt1, by rw [← HP'.out, ← HZ.out], HR4, HX4⟩
        case measure => exact HLE.out
      · have d1 : decide (x ≤ time) = false := decide_eq_false hxt
        have HZ : Hid (P' = P) := Lib.hid (HLT.out hxt)
        clear hxt
        go_wp2
        go_roundw
        case rel => exact ⟨_, cnt1, by rw [← HP'.out, HZ.out], HR4, HX4⟩
        case measure => exact HLE.out

end Go.Proofs.Ytgjidkhfnnghiaa

/- Comparing numbers; package rank: which of two jobs comes first. -/
namespace Go.Proofs.Ytgjidkhfnnghiaa
open Go.RowKit Go.Sort

/-- A world that drew, and that made blocks; nothing else turned. -/
def Gr (w w' : World) : Prop := ∃ (q : Nat) (os : Array Obj), w' = grow (w.drewN q) os
section
variable {w w' w'' : World}
theorem Gr.refl (w : World) : Gr w w := ⟨0, #[], by rw [grow_empty]; rfl⟩
theorem Gr.alloc (w : World) (x : Obj) : Gr w (w.alloc x) := ⟨0, #[x], by unfold grow World.alloc World.drewN; simp⟩
theorem Gr.drew (w : World) : Gr w w.drew := ⟨1, #[], by rw [grow_empty]; rfl⟩
theorem Gr.trans (h : Gr w w') (k : Gr w' w'') : Gr w w'' := by
  obtain ⟨q, os, rfl⟩ := h
  obtain ⟨q', os', rfl⟩ := k
  refine ⟨q + q', os ++ os', ?_⟩
  rw [← grow_grow]
  unfold grow World.drewN
  simp [Nat.add_assoc]
theorem Gr.ext (h : Gr w w') : Ext w w' := by
  obtain ⟨q, os, rfl⟩ := h
  refine ⟨rfl, rfl, rfl, by unfold grow World.drewN; simp, fun j hj => ?_⟩
  unfold grow World.drewN
  exact Array.getElem?_append_left hj
end
def cmpI (x y : Int) : Int := if x < y then -1 else if y < x then 1 else 0
/-- What compare answers of two jobs. -/
def cmpL (x y : Jb) (a b : Int) : Int := if cmpI y.prio x.prio = 0 then cmpI a b else cmpI y.prio x.prio

set_option maxRecDepth 100000 in
theorem isNaN_any (x : Int) (w : World) : Calls Try.prog 82 #[.int .i64 x] w fun e w' => e = .returned (.bool false) ∧ w = w' := by
  have e1 : (x != x) = false := by simp
  go_enter Try.func82, Try.ntmps82
  go_wp2
  go_ret
  exact ⟨rfl, rfl⟩

set_option maxRecDepth 100000 in
theorem Compare_any (x y : Int) (w : World) : Calls Try.prog 65 #[.int .i64 x, .int .i64 y] w fun e w' => e = .returned (.int .i64 (cmpI x y)) ∧ w = w' := by
  have HN := Lib.hid fun z w => isNaN_any z w
  have go : ∀ c : Int, cmpI x y = c → (decide (x < y) = true ∧ c = -1 ∨ decide (x < y) = false ∧ decide (y < x) = true ∧ c = 1 ∨ decide (x < y) = false ∧ decide (y < x) = false ∧ c = 0) := by
    intro c hc
    unfold cmpI at hc
    by_cases h1 : x < y
    · rw [if_pos h1] at hc; exact .inl ⟨decide_eq_true h1, hc.symm⟩
    · rw [if_neg h1] at hc
      by_cases h2 : y < x
      · rw [if_pos h2] at hc; exact .inr (.inl ⟨decide_eq_false h1, decide_eq_true h2, hc.symm⟩)
      · rw [if_neg h2] at hc; exact .inr (.inr ⟨decide_eq_false h1, decide_eq_false h2, hc.symm⟩)
  obtain ⟨c, hc⟩ : ∃ c, cmpI x y = c := ⟨_, rfl⟩
  rw [hc]
  rcases go c hc with ⟨d1, rfl⟩ | ⟨d1, d2, rfl⟩ | ⟨d1, d2, rfl⟩
  all_goals
    clear go hc
    go_enter Try.func65, Try.ntmps65
    go_wp2_with fail
    refine (HN.out _ _).mono ?_
    rintro e1 w1 ⟨rfl, rfl⟩
    go_wp2_with fail
    refine (HN.out _ _).mono ?_
    rintro e2 w2 ⟨rfl, rfl⟩
    go_wp2
    go_ret
    exact ⟨rfl, rfl⟩

set_option maxRecDepth 100000 in
set_option maxHeartbeats 2000000 in
theorem Or_any (b : Nat) (x y : Int) (w : World) (h0 : w.cell? ⟨b, 0, none⟩ = some (.int .i64 x)) (h1 : w.cell? ⟨b, 1, none⟩ = some (.int .i64 y)) :
    Calls Try.prog 64 #[.slice (some ⟨b, 0, none⟩) 2 2] w fun e w' => e = .returned (.int .i64 (if x = 0 then y else x)) ∧ w = w' := by
  have HC : Hid (∀ q : Nat, q < 2 → w.cell? ⟨b, q, none⟩ = some (.int .i64 (if q = 0 then x else y))) := Lib.hid (fun q hq => by match q, hq with | 0, _ => exact h0 | 1, _ => exact h1)
  obtain ⟨R, hR⟩ : ∃ R, R = if x = 0 then y else x := ⟨_, rfl⟩
  rw [← hR]
  have HR := Lib.hid hR
  clear h0 h1 hR
  go_enter Try.func64, Try.ntmps64
  go_wp2_with fail
  go_loop [8] (fun i => ∃ q : Nat, i = .int .i64 (q : Int) ∧ q ≤ 2 ∧ (1 ≤ q → x = 0) ∧ (2 ≤ q → y = 0)) (fun i => 2 - (intOf i).toNat)
  case atStart => exact ⟨0, rfl, by decide, fun h => absurd h (by decide), fun h => absurd h (by decide)⟩
  case round =>
    obtain ⟨q, rfl, hq, hx, hy⟩ := hrel
    by_cases hlt : q < 2
    · have d1 : decide ((q : Int) < 2) = true := decide_eq_true (by omega)
      have d1' : decide (q < 2) = true := decide_eq_true hlt
      have hc := HC.out q hlt
      have HLT := Lib.hid hlt
      obtain ⟨z, hz⟩ : ∃ z : Int, z = if q = 0 then x else y := ⟨_, rfl⟩
      rw [← hz] at hc
      by_cases hz0 : z = 0
      · have e1 : (z != 0) = false := by rw [hz0]; rfl
        have HN : Hid ((1 ≤ q + 1 → x = 0) ∧ (2 ≤ q + 1 → y = 0)) := Lib.hid (by
          by_cases h : q = 0
          · subst h; rw [if_pos rfl] at hz; exact ⟨fun _ => by rw [← hz]; exact hz0, fun h => absurd h (by decide)⟩
          · rw [if_neg h] at hz; exact ⟨fun _ => hx (by omega), fun _ => by rw [← hz]; exact hz0⟩)
        have d6 : (q : Int) < 2 := by have := HLT.out; omega
        have wq : wrap64 ((q : Int) + 1) = (q : Int) + 1 := IntWalk.wrap64_in _ (by omega)
        clear hz hz0 hx hy hq
        go_wp2
        go_round
        case rel => exact ⟨q + 1, by first | (rw [wq]; rfl) | rfl, HLT.out, HN.out.1, HN.out.2⟩
        case measure => first | (rw [wq]; exact measQ HLT.out) | exact measQ HLT.out
      · have e1 : (z != 0) = true := by simp only [bne_iff_ne, ne_eq]; exact hz0
        have HZ : Hid (R = z) := Lib.hid (by
          rw [HR.out, hz]
          by_cases h : q = 0
          · subst h; rw [if_pos rfl]; rw [if_pos rfl] at hz; rw [if_neg (by rw [← hz]; exact hz0)]
          · rw [if_neg h, if_pos (hx (by omega))])
        have d6 : (q : Int) < 2 := by have := HLT.out; omega
        clear hz hz0 hx hy hq
        go_wp2
        go_ret
        exact ⟨by rw [HZ.out]; rfl, rfl⟩
    · have d1 : decide ((q : Int) < 2) = false := decide_eq_false (by omega)
      have d1' : decide (q < 2) = false := decide_eq_false hlt
      have HZ : Hid (R = 0) := Lib.hid (by rw [HR.out, if_pos (hx (by omega)), hy (by omega)])
      go_wp2
      go_ret
      exact ⟨by rw [HZ.out]; rfl, rfl⟩

set_option maxRecDepth 100000 in
set_option maxHeartbeats 8000000 in
theorem compare_any (vn vj : Value) (s : St) (i k : Nat) (x y : Jb) (a b : Int) (w : World) (hr : RdJb w vj s.jobs) (hi : s.jobs[i]? = some x) (hk : s.jobs[k]? = some y) (ha : a = (i : Int) + 1) (hb : b = (k : Int) + 1) (hN : s.jobs.length ≤ 1000) :
    Calls Try.prog 43 #[stV vn vj s, .int .i64 a, .int .i64 b] w fun e w' => e = .returned (.int .i64 (cmpL x y a b)) ∧ Gr w w' := by
  obtain ⟨hx, hbk⟩ := boxSt vn vj s w 27
  unfold stV
  unfold stC at hx hbk
  have li := (List.getElem?_eq_some_iff.1 hi).1
  have lk := (List.getElem?_eq_some_iff.1 hk).1
  obtain ⟨A, c, rfl, hnc, hcm, hcell⟩ := jobs_cells hr
  obtain ⟨g, o, rfl, hlt, hati⟩ := hcell i x hi
  obtain ⟨g', o', e, -, hatk⟩ := hcell k y hk
  cases e
  have HX := Lib.hid hx
  have HB := Lib.hid hbk
  have HI := Lib.hid (hati.ext hx hlt)
  have HK := Lib.hid (hatk.ext hx hlt)
  have HLT : Hid (g < (w.alloc (.cells #[vn, .slice (some ⟨g, o, none⟩) s.jobs.length c, .int .i64 s.goal, .int .i64 s.prior, .int .i64 s.mode, .int .i64 s.term] 27)).heap.size) := Lib.hid (Nat.lt_of_lt_of_le hlt hx.size)
  have d6 : (i : Int) < (s.jobs.length : Int) := by omega
  have d7 : (k : Int) < (s.jobs.length : Int) := by omega
  have d8 : (0 : Int) ≤ (i : Int) := by omega
  have d9 : (0 : Int) ≤ (k : Int) := by omega
  have HG0 : Hid (Gr w (w.alloc (.cells #[vn, .slice (some ⟨g, o, none⟩) s.jobs.length c, .int .i64 s.goal, .int .i64 s.prior, .int .i64 s.mode, .int .i64 s.term] 27))) := Lib.hid (Gr.alloc _ _)
  have wa : IntKind.i64.wrap (a - 1) = (i : Int) := (IntWalk.i64_left _).trans (by rw [IntWalk.wrap64_in _ (by omega)]; omega)
  have wb : IntKind.i64.wrap (b - 1) = (k : Int) := (IntWalk.i64_left _).trans (by rw [IntWalk.wrap64_in _ (by omega)]; omega)
  have HC1 : Hid (∀ W, Calls Try.prog 65 #[.int .i64 y.prio, .int .i64 x.prio] W fun e w' => e = .returned (.int .i64 (cmpI y.prio x.prio)) ∧ W = w') := Lib.hid fun W => Compare_any _ _ W
  have HC2 : Hid (∀ W, Calls Try.prog 65 #[.int .i64 a, .int .i64 b] W fun e w' => e = .returned (.int .i64 (cmpI a b)) ∧ W = w') := Lib.hid fun W => Compare_any _ _ W
  have HCL : Hid (cmpL x y a b = if cmpI y.prio x.prio = 0 then cmpI a b else cmpI y.prio x.prio) := Lib.hid rfl
  obtain ⟨p, hp⟩ : ∃ p, p = cmpI y.prio x.prio := ⟨_, rfl⟩
  obtain ⟨r, hr2⟩ : ∃ r, r = cmpI a b := ⟨_, rfl⟩
  rw [← hp] at HC1 HCL
  rw [← hr2] at HC2 HCL
  rw [HCL.out]
  obtain ⟨R, hR⟩ : ∃ R, R = if p = 0 then r else p := ⟨_, rfl⟩
  have HOR : Hid (∀ (bb : Nat) (W : World), W.cell? ⟨bb, 0, none⟩ = some (.int .i64 p) → W.cell? ⟨bb, 1, none⟩ = some (.int .i64 r) → Calls Try.prog 64 #[.slice (some ⟨bb, 0, none⟩) 2 2] W fun e w' => e = .returned (.int .i64 R) ∧ W = w') := Lib.hid (fun bb W h0 h1 => by rw [hR]; exact Or_any bb p r W h0 h1)
  rw [← hR]
  clear HCL hR
  clear hx hbk hr hcell hati hatk hlt hi hk hp hr2 ha hb
  go_enter Try.func43, Try.ntmps43
  go_upto_region 1 with (fail)
  obtain ⟨W0, hW0⟩ : ∃ W0, W0 = w.alloc (.cells #[vn, .slice (some ⟨g, o, none⟩) s.jobs.length c, .int .i64 s.goal, .int .i64 s.prior, .int .i64 s.mode, .int .i64 s.term] 27) := ⟨_, rfl⟩
  rw [← hW0] at HX HB HI HK HLT HG0 ⊢
  clear hW0
  refine held_begin (by kernel_rfl) ?_
  refine held_more (S' := fun W' : World => Ext W0 W') (fun _ _ => True.intro) ?_
  have hSx : (fun W' : World => Ext W0 W') W0.drew := Below.drewN' (Ext.refl W0) 1
  refine held_take (i := 0) (v := ?_) rfl (by kernel_rfl) (by kernel_rfl) (by kernel_rfl) (by rfl) (by first | assumption | exact True.intro) ?_ ?_
  rotate_left
  · (intro W hSw; have g1 := (HB.out.ext hSw).cell 1; have q1 := (HI.out.ext hSw HLT.out).c1; have r1 := (HK.out.ext hSw HLT.out).c1; go_simp; (try with_reducible rfl))
  try simp only [Act.put, List.setIfInBounds_toArray, List.set_cons_zero, List.set_cons_succ]
  refine held_take (i := 1) (v := ?_) rfl (by kernel_rfl) (by kernel_rfl) (by kernel_rfl) (by rfl) (by first | assumption | exact True.intro) ?_ ?_
  rotate_left
  · (intro W hSw; have g1 := (HB.out.ext hSw).cell 1; have q1 := (HI.out.ext hSw HLT.out).c1; have r1 := (HK.out.ext hSw HLT.out).c1; go_simp; (try with_reducible rfl))
  try simp only [Act.put, List.setIfInBounds_toArray, List.set_cons_zero, List.set_cons_succ]
  refine held_take (i := 2) (v := ?_) rfl (by kernel_rfl) (by kernel_rfl) (by kernel_rfl) (by rfl) (by first | assumption | exact True.intro) ?_ ?_
  rotate_left
  · (intro W hSw; have g1 := (HB.out.ext hSw).cell 1; have q1 := (HI.out.ext hSw HLT.out).c1; have r1 := (HK.out.ext hSw HLT.out).c1; go_simp; (try with_reducible rfl))
  try simp only [Act.put, List.setIfInBounds_toArray, List.set_cons_zero, List.set_cons_succ]
  refine held_take (i := 3) (v := ?_) rfl (by kernel_rfl) (by kernel_rfl) (by kernel_rfl) (by rfl) (by first | assumption | exact True.intro) ?_ ?_
  rotate_left
  · (intro W hSw; have g1 := (HB.out.ext hSw).cell 1; have q1 := (HI.out.ext hSw HLT.out).c1; have r1 := (HK.out.ext hSw HLT.out).c1; go_simp; (try with_reducible rfl))
  try simp only [Act.put, List.setIfInBounds_toArray, List.set_cons_zero, List.set_cons_succ]
  refine held_take (i := 4) (v := ?_) rfl (by kernel_rfl) (by kernel_rfl) (by kernel_rfl) (by rfl) (by first | assumption | exact True.intro) ?_ ?_
  rotate_left
  · (intro W hSw; have g1 := (HB.out.ext hSw).cell 1; have q1 := (HI.out.ext hSw HLT.out).c1; have r1 := (HK.out.ext hSw HLT.out).c1; go_simp; (try with_reducible rfl))
  try simp only [Act.put, List.setIfInBounds_toArray, List.set_cons_zero, List.set_cons_succ]
  refine held_take (i := 5) (v := ?_) rfl (by kernel_rfl) (by kernel_rfl) (by kernel_rfl) (by rfl) (by first | assumption | exact True.intro) ?_ ?_
  rotate_left
  · (intro W hSw; have g1 := (HB.out.ext hSw).cell 1; have q1 := (HI.out.ext hSw HLT.out).c1; have r1 := (HK.out.ext hSw HLT.out).c1; go_simp; (try with_reducible rfl))
  try simp only [Act.put, List.setIfInBounds_toArray, List.set_cons_zero, List.set_cons_succ]
  refine held_take (i := 6) (v := ?_) rfl (by kernel_rfl) (by kernel_rfl) (by kernel_rfl) (by rfl) (by first | assumption | exact True.intro) ?_ ?_
  rotate_left
  · (intro W hSw; have g1 := (HB.out.ext hSw).cell 1; have q1 := (HI.out.ext hSw HLT.out).c1; have r1 := (HK.out.ext hSw HLT.out).c1; go_simp; (try with_reducible rfl))
  try simp only [Act.put, List.setIfInBounds_toArray, List.set_cons_zero, List.set_cons_succ]
  refine held_take (i := 7) (v := ?_) rfl (by kernel_rfl) (by kernel_rfl) (by kernel_rfl) (by rfl) (by first | assumption | exact True.intro) ?_ ?_
  rotate_left
  · (intro W hSw; have g1 := (HB.out.ext hSw).cell 1; have q1 := (HI.out.ext hSw HLT.out).c1; have r1 := (HK.out.ext hSw HLT.out).c1; go_simp; (try with_reducible rfl))
  try simp only [Act.put, List.setIfInBounds_toArray, List.set_cons_zero, List.set_cons_succ]
  refine held_take (i := 8) (v := ?_) rfl (by kernel_rfl) (by kernel_rfl) (by kernel_rfl) (by rfl) (by first | assumption | exact True.intro) ?_ ?_
  rotate_left
  · (intro W hSw; have g1 := (HB.out.ext hSw).cell 1; have q1 := (HI.out.ext hSw HLT.out).c1; have r1 := (HK.out.ext hSw HLT.out).c1; go_simp; (try with_reducible rfl))
  try simp only [Act.put, List.setIfInBounds_toArray, List.set_cons_zero, List.set_cons_succ]
  refine held_take (i := 9) (v := ?_) rfl (by kernel_rfl) (by kernel_rfl) (by kernel_rfl) (by rfl) (by first | assumption | exact True.intro) ?_ ?_
  rotate_left
  · (intro W hSw; have g1 := (HB.out.ext hSw).cell 1; have q1 := (HI.out.ext hSw HLT.out).c1; have r1 := (HK.out.ext hSw HLT.out).c1; go_simp; (try with_reducible rfl))
  try simp only [Act.put, List.setIfInBounds_toArray, List.set_cons_zero, List.set_cons_succ]
  refine held_take (i := 10) (v := ?_) rfl (by kernel_rfl) (by kernel_rfl) (by kernel_rfl) (by rfl) (by first | assumption | exact True.intro) ?_ ?_
  rotate_left
  · (intro W hSw; have g1 := (HB.out.ext hSw).cell 1; have q1 := (HI.out.ext hSw HLT.out).c1; have r1 := (HK.out.ext hSw HLT.out).c1; go_simp; (try with_reducible rfl))
  try simp only [Act.put, List.setIfInBounds_toArray, List.set_cons_zero, List.set_cons_succ]
  refine held_take (i := 11) (v := ?_) rfl (by kernel_rfl) (by kernel_rfl) (by kernel_rfl) (by rfl) (by first | assumption | exact True.intro) ?_ ?_
  rotate_left
  · (intro W hSw; have g1 := (HB.out.ext hSw).cell 1; have q1 := (HI.out.ext hSw HLT.out).c1; have r1 := (HK.out.ext hSw HLT.out).c1; go_simp; (try with_reducible rfl))
  try simp only [Act.put, List.setIfInBounds_toArray, List.set_cons_zero, List.set_cons_succ]
  refine held_take (i := 12) (v := ?_) rfl (by kernel_rfl) (by kernel_rfl) (by kernel_rfl) (by rfl) (by first | assumption | exact True.intro) ?_ ?_
  rotate_left
  · (intro W hSw; have g1 := (HB.out.ext hSw).cell 1; have q1 := (HI.out.ext hSw HLT.out).c1; have r1 := (HK.out.ext hSw HLT.out).c1; go_simp; (try with_reducible rfl))
  try simp only [Act.put, List.setIfInBounds_toArray, List.set_cons_zero, List.set_cons_succ]
  refine held_take (i := 13) (v := ?_) rfl (by kernel_rfl) (by kernel_rfl) (by kernel_rfl) (by rfl) (by first | assumption | exact True.intro) ?_ ?_
  rotate_left
  · (intro W hSw; have g1 := (HB.out.ext hSw).cell 1; have q1 := (HI.out.ext hSw HLT.out).c1; have r1 := (HK.out.ext hSw HLT.out).c1; go_simp; (try with_reducible rfl))
  try simp only [Act.put, List.setIfInBounds_toArray, List.set_cons_zero, List.set_cons_succ]
  refine held_take (i := 15) (v := ?_) rfl (by kernel_rfl) (by kernel_rfl) (by kernel_rfl) (by rfl) (by first | assumption | exact True.intro) ?_ ?_
  rotate_left
  · (intro W hSw; have g1 := (HB.out.ext hSw).cell 1; have q1 := (HI.out.ext hSw HLT.out).c1; have r1 := (HK.out.ext hSw HLT.out).c1; go_simp; (try with_reducible rfl))
  try simp only [Act.put, List.setIfInBounds_toArray, List.set_cons_zero, List.set_cons_succ]
  refine held_take (i := 16) (v := ?_) rfl (by kernel_rfl) (by kernel_rfl) (by kernel_rfl) (by rfl) (by first | assumption | exact True.intro) ?_ ?_
  rotate_left
  · (intro W hSw; have g1 := (HB.out.ext hSw).cell 1; have q1 := (HI.out.ext hSw HLT.out).c1; have r1 := (HK.out.ext hSw HLT.out).c1; go_simp; (try with_reducible rfl))
  try simp only [Act.put, List.setIfInBounds_toArray, List.set_cons_zero, List.set_cons_succ]
  clear hSx
  have hD : Ext W0 W0.drew := Below.drewN' (Ext.refl W0) 1
  have HD := Lib.hid hD
  clear hD
  refine held_op (i := 14) (by kernel_rfl) rfl (fun K hK => ?_)
  go_simp
  go_at_call 65
  refine (HC1.out _).mono ?_
  rintro e1 w1 ⟨rfl, rfl⟩
  refine hK _ _ HD.out (fun hSx => ?_)
  clear hK K
  try simp only [Act.put, List.setIfInBounds_toArray, List.set_cons_zero, List.set_cons_succ]
  clear hSx
  refine held_op (i := 17) (by kernel_rfl) rfl (fun K hK => ?_)
  go_simp
  go_at_call 65
  refine (HC2.out _).mono ?_
  rintro e1 w1 ⟨rfl, rfl⟩
  refine hK _ _ HD.out (fun hSx => ?_)
  clear hK K
  try simp only [Act.put, List.setIfInBounds_toArray, List.set_cons_zero, List.set_cons_succ]
  clear hSx
  refine held_op (i := 18) (by kernel_rfl) rfl (fun K hK => ?_)
  go_simp
  have HBN := Lib.hid (Blk.new W0.drew 3 #[.int .i64 p, .int .i64 r])
  have HXN : Hid (Ext W0 (W0.drew.alloc (.cells #[.int .i64 p, .int .i64 r] 3))) := Lib.hid (Ext.trans HD.out ((Below.refl _ _).alloc (Nat.le_refl _) _))
  refine hK _ _ HXN.out (fun hSx => ?_)
  clear hK K
  try simp only [Act.put, List.setIfInBounds_toArray, List.set_cons_zero, List.set_cons_succ]
  clear hSx
  refine held_op (i := 19) (by kernel_rfl) rfl (fun K hK => ?_)
  go_simp
  go_at_call 64
  refine (HOR.out _ _ (HBN.out.cell 0) (HBN.out.cell 1)).mono ?_
  rintro e2 w2 ⟨rfl, rfl⟩
  refine hK _ _ HXN.out (fun hSx => ?_)
  clear hK K
  try simp only [Act.put, List.setIfInBounds_toArray, List.set_cons_zero, List.set_cons_succ]
  refine held_take (i := 20) (v := ?_) rfl (by kernel_rfl) (by kernel_rfl) (by kernel_rfl) (by rfl) (by first | assumption | exact True.intro) ?_ ?_
  rotate_left
  · (intro W hSw; go_simp; (try with_reducible rfl))
  try simp only [Act.put, List.setIfInBounds_toArray, List.set_cons_zero, List.set_cons_succ]
  clear hSx
  refine wpAnyH_done (by kernel_rfl) ?_ _
  refine NoPanic.normal ?_
  go_wp2
  go_ret
  exact ⟨rfl, HG0.out.trans ((Gr.drew W0).trans (Gr.alloc _ _))⟩

end Go.Proofs.Ytgjidkhfnnghiaa

/- The reference of layer 14: which job comes ahead; a job's place. -/
namespace Go.Proofs.Ytgjidkhfnnghiaa
open Go.RowKit

set_option maxRecDepth 100000 in
theorem RefAhead_any (vn vj : Value) (s : St) (i k : Nat) (x y : Jb) (p r : Int) (w : World) (hr : RdJb w vj s.jobs) (hi : s.jobs[i]? = some x) (hk : s.jobs[k]? = some y) (hp : p = (i : Int) + 1) (hq : r = (k : Int) + 1) (hN : s.jobs.length ≤ 1000) :
    Calls Try.prog 44 #[stV vn vj s, .int .i64 p, .int .i64 r] w fun e w' => e = .returned (.bool (aheadL s.jobs i k)) ∧ Ext w w' := by
  rw [aheadL_at hi hk]
  obtain ⟨hx, hb⟩ := boxSt vn vj s w 27
  unfold stV
  unfold stC at hx hb
  have li := (List.getElem?_eq_some_iff.1 hi).1
  have lk := (List.getElem?_eq_some_iff.1 hk).1
  obtain ⟨A, c, rfl, hnc, hcm, hcell⟩ := jobs_cells hr
  obtain ⟨b, o, rfl, hlt, hati⟩ := hcell i x hi
  obtain ⟨b', o', e, -, hatk⟩ := hcell k y hk
  cases e
  have q1 := (hati.ext hx hlt).c1
  have q1' := (hatk.ext hx hlt).c1
  have h1 := hb.cell 1
  have HX := Lib.hid hx
  clear hx hb hr hcell hati hatk hlt hi hk
  generalize s.jobs.length = N at *
  have wp : wrap64 (p - 1) = (i : Int) := by rw [IntWalk.wrap64_in _ (by omega)]; omega
  have wr : wrap64 (r - 1) = (k : Int) := by rw [IntWalk.wrap64_in _ (by omega)]; omega
  have d1 : decide (p < 1) = false := decide_eq_false (by omega)
  have d2 : decide (r < 1) = false := decide_eq_false (by omega)
  have d3 : decide ((N : Int) < p) = false := decide_eq_false (by omega)
  have d4 : decide ((N : Int) < r) = false := decide_eq_false (by omega)
  have d5 : decide (i < N) = true := decide_eq_true li
  have d6 : decide (k < N) = true := decide_eq_true lk
  have hIK : decide (p < r) = decide (i < k) := by rw [hp, hq]; congr 1; exact propext (by omega)
  have HIK := Lib.hid hIK
  clear hIK hp hq hN
  by_cases e1 : y.prio < x.prio
  · have HZ : Hid (decide (y.prio < x.prio ∨ x.prio = y.prio ∧ i < k) = true) := Lib.hid (decide_eq_true (.inl e1))
    have f1 : decide (y.prio < x.prio) = true := decide_eq_true e1
    rw [HZ.out]
    clear e1
    go_enter Try.func44, Try.ntmps44
    go_wp2_with fail
    go_quiet (fail)
    go_wp2
    go_ret
    exact ⟨rfl, HX.out.trans (Below.drewN' (Ext.refl _) _)⟩
  · have f1 : decide (y.prio < x.prio) = false := decide_eq_false e1
    by_cases e2 : x.prio = y.prio
    · have HZ : Hid (decide (y.prio < x.prio ∨ x.prio = y.prio ∧ i < k) = decide (i < k)) := Lib.hid (by congr 1; exact propext ⟨fun h => h.elim (fun h => absurd h e1) (·.2), fun h => .inr ⟨e2, h⟩⟩)
      have f2 : (x.prio == y.prio) = true := by rw [e2]; simp
      rw [HZ.out]
      clear e1 e2
      go_enter Try.func44, Try.ntmps44
      go_wp2_with fail
      go_quiet (fail)
      go_wp2
      go_ret
      exact ⟨by rw [← HIK.out]; rfl, HX.out.trans (Below.drewN' (Ext.refl _) _)⟩
    · have HZ : Hid (decide (y.prio < x.prio ∨ x.prio = y.prio ∧ i < k) = false) := Lib.hid (decide_eq_false fun h => h.elim e1 fun h => e2 h.1)
      have f2 : (x.prio == y.prio) = false := by simpa using e2
      rw [HZ.out]
      clear e1 e2
      go_enter Try.func44, Try.ntmps44
      go_wp2_with fail
      go_quiet (fail)
      go_wp2
      go_ret
      exact ⟨rfl, HX.out.trans (Below.drewN' (Ext.refl _) _)⟩

set_option maxRecDepth 100000 in
set_option maxHeartbeats 2000000 in
theorem RefPlace_any (vn vj : Value) (s : St) (job : Int) (w : World) (hr : RdJb w vj s.jobs) (hN : s.jobs.length ≤ 1000) :
    Calls Try.prog 23 #[stV vn vj s, .int .i64 job] w fun e w' => e = .returned (.int .i64 (placeI s.jobs job)) ∧ Ext w w' := by
  have HJ := Lib.hid hr
  obtain ⟨hx, hb⟩ := boxSt vn vj s w 27
  have HAH : Hid (∀ (i k : Nat) (x y : Jb) (p r : Int) (W : World), Ext w W → s.jobs[i]? = some x → s.jobs[k]? = some y → p = (i : Int) + 1 → r = (k : Int) + 1 → Calls Try.prog 44 #[stV vn vj s, .int .i64 p, .int .i64 r] W fun e w' => e = .returned (.bool (aheadL s.jobs i k)) ∧ Ext W w') := Lib.hid fun i k x y p r W hW h1 h2 h3 h4 => RefAhead_any vn vj s i k x y p r W (HJ.out.ext hW) h1 h2 h3 h4 hN
  unfold stV at HAH
  unfold stV
  unfold stC at hx hb
  obtain ⟨A, c, rfl, hnc, hcm, hcell⟩ := jobs_cells hr
  have HC := Lib.hid hcell
  have h1 := hb.cell 1
  obtain ⟨PL, hPL⟩ : ∃ z, z = placeI s.jobs job := ⟨_, rfl⟩
  rw [← hPL]
  have HP := Lib.hid hPL
  have HX := Lib.hid hx
  have HB := Lib.hid hb
  clear hx hb hr hcell hPL
  generalize s.jobs = l at *
  by_cases j1 : job < 1
  · have HZ : Hid (PL = -1) := Lib.hid (by rw [HP.out]; unfold placeI; rw [if_neg (by omega)])
    have d1 : decide (job < 1) = true := decide_eq_true j1
    clear j1
    go_enter Try.func23, Try.ntmps23
    go_wp2
    go_ret
    exact ⟨by rw [HZ.out]; rfl, HX.out⟩
  · have d1 : decide (job < 1) = false := decide_eq_false j1
    by_cases j2 : (l.length : Int) < job
    · have HZ : Hid (PL = -1) := Lib.hid (by rw [HP.out]; unfold placeI; rw [if_neg (fun h => by have := queuedL_lt h.2; omega)])
      have d2 : decide ((l.length : Int) < job) = true := decide_eq_true j2
      clear j1 j2
      go_enter Try.func23, Try.ntmps23
      go_wp2
      go_ret
      exact ⟨by rw [HZ.out]; rfl, HX.out⟩
    · have d2 : decide ((l.length : Int) < job) = false := decide_eq_false j2
      obtain ⟨i, hi⟩ : ∃ i : Nat, job = (i : Int) + 1 := ⟨(job - 1).toNat, by omega⟩
      have hil : i < l.length := by omega
      obtain ⟨x, hxi⟩ : ∃ x, l[i]? = some x := ⟨_, List.getElem?_eq_getElem hil⟩
      obtain ⟨b, o, rfl, hlt, hat⟩ := HC.out i x hxi
      have q6 := (hat.ext HX.out hlt).c6
      have HTN : Hid ((job - 1).toNat = i ∧ 1 ≤ job) := Lib.hid (by omega)
      have wp : wrap64 (job - 1) = (i : Int) := by rw [IntWalk.wrap64_in _ (by omega)]; omega
      have d5 : decide (i < l.length) = true := decide_eq_true hil
      clear hat
      by_cases hph : x.phase = 0
      · have HZ : Hid (PL = (placeTo l i l.length : Int)) := Lib.hid (by rw [HP.out]; unfold placeI; rw [HTN.out.1, if_pos ⟨HTN.out.2, by rw [queuedL_at hxi, hph]; rfl⟩]; rfl)
        have e6 : (x.phase != 0) = false := by rw [hph]; rfl
        have HJI := Lib.hid hi
        have HXI := Lib.hid hxi
        clear hph j1 j2 hi hxi
        go_enter Try.func23, Try.ntmps23
        go_wp2_with fail
        clear q6 h1 wp d1 d2 d5 e6
        obtain ⟨W0, hW0⟩ : ∃ W0, W0 = w.alloc (.cells #[vn, .slice (some ⟨b, o, none⟩) l.length c, .int .i64 s.goal, .int .i64 s.prior, .int .i64 s.mode, .int .i64 s.term] 27) := ⟨_, rfl⟩
        rw [← hW0] at HX HB ⊢
        clear hW0
        go_loopw [5, 6] (fun n k wr => ∃ (q : Nat) (z : Int), k = .int .i64 z ∧ n = .int .i64 (placeTo l i q : Int) ∧ z = (q : Int) + 1 ∧ q ≤ l.length ∧ Ext W0 wr) (fun _ k _ => l.length + 1 - (intOf k).toNat)
        case atStart => exact ⟨0, 1, rfl, rfl, rfl, Nat.zero_le _, Ext.refl _⟩
        case round =>
          obtain ⟨q, z, rfl, rfl, hz, hq, hxr⟩ := hrel
          have HXR := Lib.hid hxr
          have HBR := Lib.hid (HB.out.ext hxr)
          have HXW := Lib.hid (HX.out.trans hxr)
          have g0 := HBR.out.cell 0
          have g1 := HBR.out.cell 1
          have g2 := HBR.out.cell 2
          have g3 := HBR.out.cell 3
          have g4 := HBR.out.cell 4
          have g5 := HBR.out.cell 5
          have HST := Lib.hid (placeTo_step l i q)
          have hpl := placeTo_le l i q
          generalize hP : placeTo l i q = P at *
          have HPQ := Lib.hid hP
          clear hxr hP
          by_cases hlt2 : q < l.length
          · have f1 : decide (z ≤ (l.length : Int)) = true := decide_eq_true (by omega)
            have f2 : decide (q < l.length) = true := decide_eq_true hlt2
            have HWP : Hid (wrap64 ((P : Int) + 1) = ((P + 1 : Nat) : Int)) := Lib.hid (IntWalk.wrap64_in _ (by omega))
            have HZ1 : Hid (z + 1 = ((q + 1 : Nat) : Int) + 1 ∧ 0 ≤ z ∧ z < ((l.length + 1 : Nat) : Int)) := Lib.hid (by omega)
            have wz : wrap64 (z - 1) = (q : Int) := by rw [IntWalk.wrap64_in _ (by omega)]; omega
            have wz1 : wrap64 (z + 1) = z + 1 := IntWalk.wrap64_in _ (by omega)
            obtain ⟨y, hy⟩ : ∃ y, l[q]? = some y := ⟨_, List.getElem?_eq_getElem hlt2⟩
            obtain ⟨b', o', e, hlt', haty⟩ := HC.out q y hy
            cases e
            have r6 := (haty.ext HXW.out hlt').c6
            have HY := Lib.hid hy
            have HQ := Lib.hid (queuedL_at hy)
            have HLT := Lib.hid hlt2
            have HZQ := Lib.hid hz
            clear haty hy hz
            by_cases hy0 : y.phase = 0
            · have e7 : (y.phase == 0) = true := by rw [hy0]; rfl
              have HAC := Lib.hid (HAH.out q i y x z job wr HXW.out HY.out HXI.out HZQ.out HJI.out)
              have HQ1 : Hid (queuedL l q = true) := Lib.hid (by rw [HQ.out, hy0]; rfl)
              clear hy0
              go_wp2_with fail
              refine HAC.out.mono ?_
              rintro e9 w9 ⟨rfl, hx9⟩
              have HX9 := Lib.hid (HXR.out.trans hx9)
              clear hx9
              cases ha : aheadL l q i
              · have HS : Hid (placeTo l i (q + 1) = P) := Lib.hid (by rw [HST.out, ha, Bool.and_false, if_neg (by simp), Nat.add_zero])
                repeat (first | go_values | go_skip | go_guarded | go_step | go_upon | (simp only []))
                go_roundw
                case rel => exact ⟨q + 1, z + 1, by first | rfl | rw [wz1], by rw [HS.out], HZ1.out.1, HLT.out, HX9.out⟩
                case measure => first | (rw [wz1]; exact measZ HZ1.out.2.1 HZ1.out.2.2) | exact measZ HZ1.out.2.1 HZ1.out.2.2
              · have HS : Hid (placeTo l i (q + 1) = P + 1) := Lib.hid (by rw [HST.out, ha, HQ1.out]; rfl)
                have wP := HWP.out
                repeat (first | go_values | go_skip | go_guarded | go_step | go_upon | (simp only []))
                go_roundw
                case rel => exact ⟨q + 1, z + 1, by first | rfl | rw [wz1], by rw [HS.out]; first | rfl | rw [wP], HZ1.out.1, HLT.out, HX9.out⟩
                case measure => first | (rw [wz1]; exact measZ HZ1.out.2.1 HZ1.out.2.2) | exact measZ HZ1.out.2.1 HZ1.out.2.2
            · have e7 : (y.phase == 0) = false := by simpa using hy0
              have HS : Hid (placeTo l i (q + 1) = P) := Lib.hid (by rw [HST.out, HQ.out, decide_eq_false hy0, Bool.false_and, if_neg (by simp), Nat.add_zero])
              clear hy0
              go_wp2
              go_roundw
              case rel => exact ⟨q + 1, z + 1, by first | rfl | rw [wz1], by rw [HS.out], HZ1.out.1, HLT.out, HXR.out⟩
              case measure => first | (rw [wz1]; exact measZ HZ1.out.2.1 HZ1.out.2.2) | exact measZ HZ1.out.2.1 HZ1.out.2.2
          · have f1 : decide (z ≤ (l.length : Int)) = false := decide_eq_false (by omega)
            have HE : Hid (PL = (P : Int)) := Lib.hid (by rw [HZ.out, ← HPQ.out, show q = l.length by omega])
            go_wp2
            go_ret
            exact ⟨by rw [HE.out]; rfl, HXW.out⟩
      · have HZ : Hid (PL = -1) := Lib.hid (by rw [HP.out]; unfold placeI; rw [HTN.out.1, if_neg (fun h => by rw [queuedL_at hxi] at h; exact hph (of_decide_eq_true h.2))])
        have e6 : (x.phase != 0) = true := by simp only [bne_iff_ne, ne_eq]; exact hph
        clear hph j1 j2
        go_enter Try.func23, Try.ntmps23
        go_wp2
        go_ret
        exact ⟨by rw [HZ.out]; rfl, HX.out⟩

end Go.Proofs.Ytgjidkhfnnghiaa

/- Slices of numbers in this translation's numbers. -/
namespace Go.Proofs.Ytgjidkhfnnghiaa
open Go.RowKit

theorem Try.infoInt : (Try.prog.info? 3).map (fun i => (i.zero, i.size, i.bytes)) = some (some (.int .i64 0), 1, 8) := by kernel_rfl

/-- 'l = append(l, x)', l a row of numbers of the call's own. -/
theorem push_int {w : World} {ops : Array Oper} {rest : List Oper} {o : Oper} {a : Act} {Q : Exit → Act → World → Prop} {gx : Nat} (hgd : o.guard = none) (s x : Operand)
    (ho : o.op = .call { callee := .builtin .append, args := #[s, x], argTypes := #[47, 47] })
    (base : Nat) (v : Value) (xs : List Value) (hs : a.eval s = v) (hown : w.ownsRow base 3 1 v xs.length xs) (u : Value) (h1 : u.oneCell' = true)
    (hx : a.eval x = .slice (some ⟨gx, 0, none⟩) 1 1) (hlen : xs.length < 17592186044416) (hbase : base ≤ w.heap.size)
    (h : ∀ v' w', Grew base 3 v w (xs ++ [u]) v' w' → wpList Try.prog ops Q rest (a.put o.dst v') w') (hgx : gx = w.heap.size := by simp) : wpList Try.prog ops Q (o :: rest) a (w.alloc (.cells #[u] 3)) := by
  subst hgx
  exact wpList_push hgd s x 47 ho base 3 (.int .i64 0) 8 Try.underlying47 Try.infoInt rfl v xs hs hown u h1 hx (by unfold maxLen; omega) (by omega) hbase h

end Go.Proofs.Ytgjidkhfnnghiaa

/- The reference of layer 14: the line. -/
namespace Go.Proofs.Ytgjidkhfnnghiaa
open Go.RowKit

/-- A job's number, for its position. -/
def J (i : Nat) : Value := .int .i64 ((i : Int) + 1)

theorem placeI_is {l : List Jb} {p q : Nat} {z : Int} (hz : z = (p : Int) + 1) : (placeI l z == (q : Int)) = (queuedL l p && decide (placeL l p = q)) := by
  unfold placeI
  rw [show (z - 1).toNat = p by omega]
  cases h : queuedL l p with
  | false => rw [if_neg (by simp)]; simp only [Bool.false_and, beq_eq_false_iff_ne, ne_eq]; omega
  | true =>
    rw [if_pos ⟨by omega, rfl⟩, Bool.true_and, Bool.eq_iff_iff]
    simp
    omega

set_option maxRecDepth 100000 in
set_option maxHeartbeats 2000000 in
theorem RefLine_any (vn vj : Value) (s : St) (w : World) (hr : RdJb w vj s.jobs) (hN : s.jobs.length ≤ 1000) :
    Calls Try.prog 25 #[stV vn vj s] w fun e w' => ∃ v', e = .returned v' ∧ Grew w.heap.size 3 (.slice none 0 0) w ((lineL s.jobs).map J) v' w' := by
  have HJ := Lib.hid hr
  obtain ⟨hx, hb⟩ := boxSt vn vj s w 27
  have HPL : Hid (∀ (z : Int) (W : World), Ext w W → Calls Try.prog 23 #[stV vn vj s, .int .i64 z] W fun e w' => e = .returned (.int .i64 (placeI s.jobs z)) ∧ Ext W w') := Lib.hid fun z W hW => RefPlace_any vn vj s z W (HJ.out.ext hW) hN
  unfold stV at HPL
  unfold stV
  unfold stC at hx hb
  obtain ⟨A, c, rfl, hnc, hcm, -⟩ := jobs_cells hr
  have HX := Lib.hid hx
  have HB := Lib.hid hb
  clear hx hb hr HJ
  generalize s.jobs = l at *
  have HE : Hid (lineL l = lineTo l l.length) := Lib.hid rfl
  obtain ⟨L, hL⟩ : ∃ L, L = lineL l := ⟨_, rfl⟩
  rw [← hL] at HE ⊢
  clear hL
  go_enter Try.func25, Try.ntmps25
  go_wp2_with fail
  obtain ⟨W0, hW0⟩ : ∃ W0, W0 = w.alloc (.cells #[vn, .slice A l.length c, .int .i64 s.goal, .int .i64 s.prior, .int .i64 s.mode, .int .i64 s.term] 27) := ⟨_, rfl⟩
  rw [← hW0] at HX HB ⊢
  clear hW0
  have HG0 := Lib.hid (Grew.nil (base := W0.heap.size) (e := 3) W0)
  go_loopw [3, 4] (fun v a wr => ∃ q : Nat, a = .int .i64 q ∧ q ≤ l.length ∧ Hid (Grew W0.heap.size 3 (.slice none 0 0) W0 ((lineTo l q).map J) v wr)) (fun _ a _ => l.length - (intOf a).toNat)
  case atStart => exact ⟨0, rfl, Nat.zero_le _, HG0⟩
  case round =>
    obtain ⟨q, rfl, hq, HK⟩ := hrel
    have g1 := (HB.out.ext HK.out.ext).cell 1
    have hlq : (lineTo l q).length ≤ 1000000 := Nat.le_trans (lineTo_len l q) (Nat.le_trans (Nat.mul_le_mul (Nat.le_trans hq hN) hN) (by decide))
    have HLQ := Lib.hid hlq
    have HLS := Lib.hid (lineTo_step l q)
    clear hlq
    by_cases hlt : q < l.length
    · have e1 : decide ((q : Int) < (l.length : Int)) = true := decide_eq_true (by omega)
      have e1' : decide (q < l.length) = true := decide_eq_true hlt
      have HLT := Lib.hid hlt
      have HK0 : Hid (Grew W0.heap.size 3 (.slice none 0 0) W0 ((lineTo l q ++ atTo l q 0).map J) u3 wr) := Lib.hid (by rw [atTo_zero, List.append_nil]; exact HK.out)
      go_wp2_with fail
      clear e1 e1' g1 HK hlt
      obtain ⟨w1, rfl⟩ : ∃ w1 : World, w1 = wr := ⟨_, rfl⟩
      obtain ⟨v1, rfl⟩ : ∃ v1 : Value, v1 = u3 := ⟨_, rfl⟩
      go_loopw [3, 5] (fun v k wr => ∃ (p : Nat) (z : Int), k = .int .i64 z ∧ z = (p : Int) + 1 ∧ p ≤ l.length ∧ Hid (Grew W0.heap.size 3 (.slice none 0 0) W0 ((lineTo l q ++ atTo l q p).map J) v wr)) (fun _ k _ => l.length + 1 - (intOf k).toNat)
      case atStart => exact ⟨0, 1, rfl, rfl, Nat.zero_le _, HK0⟩
      case round =>
        obtain ⟨p, z, rfl, hz, hp, HK⟩ := hrel
        have HBR := Lib.hid (HB.out.ext HK.out.ext)
        have HXW := Lib.hid (HX.out.trans HK.out.ext)
        have g0 := HBR.out.cell 0
        have g1 := HBR.out.cell 1
        have g2 := HBR.out.cell 2
        have g3 := HBR.out.cell 3
        have g4 := HBR.out.cell 4
        have g5 := HBR.out.cell 5
        have HST := Lib.hid (atTo_step l q p)
        have HPI := Lib.hid (placeI_is (l := l) (p := p) (q := q) hz)
        have HZ := Lib.hid hz
        have hal := atTo_len l q p
        have hln : ((lineTo l q ++ atTo l q p).map J).length < 17592186044416 := by have := HLQ.out; rw [List.length_map, List.length_append]; omega
        have HLN := Lib.hid hln
        clear hln hal
        by_cases hlt : p < l.length
        · have e1 : decide (z ≤ (l.length : Int)) = true := decide_eq_true (by omega)
          have wz1 : wrap64 (z + 1) = z + 1 := IntWalk.wrap64_in _ (by omega)
          have HLT := Lib.hid hlt
          have HAC := Lib.hid (HPL.out z wr HXW.out)
          clear hlt hz
          go_wp2_with fail
          refine HAC.out.mono ?_
          rintro e9 w9 ⟨rfl, hx9⟩
          have HX9 := Lib.hid hx9
          clear hx9
          cases hc : (queuedL l p && decide (placeL l p = q))
          · have HS : Hid (atTo l q (p + 1) = atTo l q p) := Lib.hid (by rw [HST.out, hc, if_neg (by simp), List.append_nil])
            have e2 : (placeI l z == (q : Int)) = false := by rw [HPI.out, hc]
            clear hc
            go_wp2
            go_roundw
            case rel => exact ⟨p + 1, z + 1, by first | rfl | rw [wz1], by have := HZ.out; omega, HLT.out, Lib.hid (by rw [HS.out]; exact HK.out.step HX9.out)⟩
            case measure => first | (rw [wz1]; exact measZ (by have := HZ.out; omega) (by have := HLT.out; have := HZ.out; omega)) | exact measZ (by have := HZ.out; omega) (by have := HLT.out; have := HZ.out; omega)
          · have HS : Hid (((lineTo l q ++ atTo l q (p + 1)).map J) = ((lineTo l q ++ atTo l q p).map J) ++ [.int .i64 z]) := Lib.hid (by rw [HST.out, hc, if_pos rfl, ← List.append_assoc, List.map_append]; rw [HZ.out]; rfl)
            have e2 : (placeI l z == (q : Int)) = true := by rw [HPI.out, hc]
            have hk9 := HK.out.step HX9.out
            have hown := hk9.own
            have hbr := hk9.size
            have hl2 := HLN.out
            clear hc
            obtain ⟨M, hM⟩ : ∃ M, M = ((lineTo l q ++ atTo l q p).map J).length := ⟨_, rfl⟩
            obtain ⟨Av, cv, rfl⟩ := own_slice (n := M) (by rw [hM]; exact hown)
            clear hM
            go_wp2_with (at_builtin; refine push_int rfl _ _ rfl W0.heap.size _ _ rfl hown _ rfl rfl hl2 hbr ?_; intro v2 w3 hg2)
            have hk2 : Grew W0.heap.size 3 (.slice none 0 0) W0 ((lineTo l q ++ atTo l q (p + 1)).map J) v2 w3 := by rw [HS.out]; exact hk9.trans hg2
            go_roundw
            case rel => exact ⟨p + 1, z + 1, by first | rfl | rw [wz1], by have := HZ.out; omega, HLT.out, Lib.hid hk2⟩
            case measure => first | (rw [wz1]; exact measZ (by have := HZ.out; omega) (by have := HLT.out; have := HZ.out; omega)) | exact measZ (by have := HZ.out; omega) (by have := HLT.out; have := HZ.out; omega)
        · have e1 : decide (z ≤ (l.length : Int)) = false := decide_eq_false (by omega)
          have HK9 : Hid (Grew W0.heap.size 3 (.slice none 0 0) W0 ((lineTo l (q + 1)).map J) u3 wr) := Lib.hid (by rw [HLS.out]; have h9 := HK.out; rw [show p = l.length by omega] at h9; exact h9)
          go_wp2
          go_roundw
          case rel => exact ⟨q + 1, by go_num, HLT.out, HK9⟩
          case measure => have := HLT.out; simp [intOf]; omega
    · have e1 : decide ((q : Int) < (l.length : Int)) = false := decide_eq_false (by omega)
      have e1' : decide (q < l.length) = false := decide_eq_false hlt
      have HKE : Hid (Grew W0.heap.size 3 (.slice none 0 0) W0 (L.map J) u3 wr) := Lib.hid (by rw [HE.out]; have h9 := HK.out; rw [show q = l.length by omega] at h9; exact h9)
      go_wp2
      go_ret
      exact ⟨_, rfl, Grew.from_ext HX.out HKE.out⟩

end Go.Proofs.Ytgjidkhfnnghiaa

/- Package rank: the comparing closure of Line; Line, over its sort. -/
namespace Go.Proofs.Ytgjidkhfnnghiaa
open Go.RowKit

set_option maxRecDepth 100000 in
theorem lineCmp_any (vn vj : Value) (s : St) (g i k : Nat) (x y : Jb) (a b : Int) (w : World) (hb : Blk w g 27 (stC vn vj s)) (hr : RdJb w vj s.jobs) (hi : s.jobs[i]? = some x) (hk : s.jobs[k]? = some y) (ha : a = (i : Int) + 1) (hbk : b = (k : Int) + 1) (hN : s.jobs.length ≤ 1000) :
    Calls Try.prog 42 #[.int .i64 a, .int .i64 b, .pointer (some ⟨g, 0, none⟩)] w fun e w' => e = .returned (.int .i64 (cmpL x y a b)) ∧ Gr w w' := by
  have HC := Lib.hid (compare_any vn vj s i k x y a b w hr hi hk ha hbk hN)
  unfold stV at HC
  unfold stC at hb
  obtain ⟨g0, g1, g2, g3, g4, g5⟩ := Blk.six hb
  clear hb hr hi hk ha hbk
  generalize cmpL x y a b = R at *
  go_enter Try.func42, Try.ntmps42
  go_wp2_with fail
  refine HC.out.mono ?_
  rintro e1 w1 ⟨rfl, hg1⟩
  have HG := Lib.hid hg1
  clear hg1 HC g0 g1 g2 g3 g4 g5
  go_wp2
  go_ret
  exact ⟨rfl, HG.out⟩

/-- What Line wants of the sort: a row of the call's own that holds queued jobs' numbers holds them in the line's order behind it. -/
def SortLine : Prop := ∀ (vn vj : Value) (s : St) (g : Nat) (v : Value) (L : List Nat) (w0 W : World), Blk w0 g 27 (stC vn vj s) → RdJb w0 vj s.jobs → Ext w0 W → W.ownsRow w0.heap.size 3 1 v (L.map J).length (L.map J) → L.Nodup → (∀ i ∈ L, i < s.jobs.length) → s.jobs.length ≤ 1000 → L.length ≤ 1000 →
  Calls Try.prog 41 #[v, .func (.func 42) #[] #[.pointer (some ⟨g, 0, none⟩)]] W fun e w' => e = .returned (.tuple #[]) ∧ ∃ L' : List Nat, L'.Perm L ∧ (L'.Pairwise fun i k => aheadL s.jobs i k = true) ∧ Rd w' v (L'.map J) ∧ Ext w0 w'

def queuedTo (l : List Jb) (q : Nat) : List Nat := (List.range q).filter (queuedL l)
theorem queuedTo_step (l : List Jb) (q : Nat) : queuedTo l (q + 1) = queuedTo l q ++ (if queuedL l q = true then [q] else []) := range_filter_step _ _
theorem queuedTo_len (l : List Jb) (q : Nat) : (queuedTo l q).length ≤ q := Nat.le_trans (List.length_filter_le _ _) (by simp)

set_option maxRecDepth 100000 in
set_option maxHeartbeats 4000000 in
theorem Line_over (hS : SortLine) (vn vj : Value) (s : St) (w : World) (hr : RdJb w vj s.jobs) (hN : s.jobs.length ≤ 1000) :
    Calls Try.prog 21 #[stV vn vj s] w fun e w' => ∃ v', e = .returned v' ∧ Rd w' v' ((lineL s.jobs).map J) ∧ Ext w w' := by
  have HS := Lib.hid hS
  have HJ := Lib.hid hr
  obtain ⟨hx, hb⟩ := boxSt vn vj s w 27
  have HBB := Lib.hid hb
  unfold stV
  unfold stC at hx hb
  obtain ⟨A, c, hv, hnc, hcm, hcell⟩ := jobs_cells hr
  have HC := Lib.hid hcell
  have HX := Lib.hid hx
  have HB := Lib.hid hb
  have HV := Lib.hid hv
  clear hx hb hr hcell hS
  have HNN := Lib.hid hN
  subst hv
  go_enter Try.func21, Try.ntmps21
  go_wp2_with fail
  obtain ⟨W0, hW0⟩ : ∃ W0, W0 = w.alloc (.cells #[vn, .slice A s.jobs.length c, .int .i64 s.goal, .int .i64 s.prior, .int .i64 s.mode, .int .i64 s.term] 27) := ⟨_, rfl⟩
  have HBS : Hid (Blk W0 w.heap.size 27 (stC vn (.slice A s.jobs.length c) s)) := Lib.hid (by rw [hW0]; exact HBB.out)
  rw [← hW0] at HX HB ⊢
  clear hW0 HBB
  have HG0 := Lib.hid (Grew.nil (base := W0.heap.size) (e := 3) W0)
  go_loopw [3, 9] (fun v i wr => ∃ q : Nat, i = .int .i64 q ∧ q ≤ s.jobs.length ∧ Hid (Grew W0.heap.size 3 (.slice none 0 0) W0 ((queuedTo s.jobs q).map J) v wr)) (fun _ i _ => s.jobs.length - (intOf i).toNat)
  case atStart => exact ⟨0, rfl, Nat.zero_le _, HG0⟩
  case round =>
    obtain ⟨q, rfl, hq, HK⟩ := hrel
    have HST := Lib.hid (queuedTo_step s.jobs q)
    have hal := queuedTo_len s.jobs q
    have HXW : Hid (Ext w wr) := Lib.hid (Ext.trans HX.out HK.out.ext)
    by_cases hlt : q < s.jobs.length
    · have d1 : decide ((q : Int) < (s.jobs.length : Int)) = true := decide_eq_true (by omega)
      have d1' : decide (q < s.jobs.length) = true := decide_eq_true hlt
      have HLT := Lib.hid hlt
      have HLN : Hid (((queuedTo s.jobs q).map J).length < 17592186044416) := Lib.hid (by rw [List.length_map]; omega)
      obtain ⟨x, hxq⟩ : ∃ x, s.jobs[q]? = some x := ⟨_, List.getElem?_eq_getElem hlt⟩
      have HQ := Lib.hid (queuedL_at hxq)
      obtain ⟨b, o, rfl, hb, hat⟩ := HC.out q x hxq
      obtain ⟨q0, q1, q2, q3, q4, q5, q6, q7, q8, q9, q10, q11⟩ := hat.ext HXW.out hb
      have HXN : Hid (Ext wr (wr.alloc (.cells #[.int .i64 x.queue, .int .i64 x.prio, .int .i64 x.least, .int .i64 x.most, .int .i64 x.work, .int .i64 x.pin, .int .i64 x.phase, .int .i64 x.inc, .int .i64 x.nodes, .int .i64 x.since, .int .i64 x.til, .int .i64 x.epoch] 39))) := Lib.hid ((Below.refl _ _).alloc (Nat.le_refl _) _)
      have HBN := Lib.hid (Blk.new wr 39 #[.int .i64 x.queue, .int .i64 x.prio, .int .i64 x.least, .int .i64 x.most, .int .i64 x.work, .int .i64 x.pin, .int .i64 x.phase, .int .i64 x.inc, .int .i64 x.nodes, .int .i64 x.since, .int .i64 x.til, .int .i64 x.epoch])
      have wq : wrap64 ((q : Int) + 1) = (q : Int) + 1 := IntWalk.wrap64_in _ (by omega)
      clear hxq hat hlt hal hq
      go_upto_region 5 with (fail)
      obtain ⟨wn, hwn⟩ : ∃ wn, wn = wr.alloc (.cells #[.int .i64 x.queue, .int .i64 x.prio, .int .i64 x.least, .int .i64 x.most, .int .i64 x.work, .int .i64 x.pin, .int .i64 x.phase, .int .i64 x.inc, .int .i64 x.nodes, .int .i64 x.since, .int .i64 x.til, .int .i64 x.epoch] 39) := ⟨_, rfl⟩
      rw [← hwn] at HXN HBN ⊢
      clear hwn q0 q1 q2 q3 q4 q5 q6 q7 q8 q9 q10 q11
      have c6 := HBN.out.cell 6
      have HKN := Lib.hid (HK.out.step HXN.out)
      by_cases hp : x.phase = 0
      · have e1 : (x.phase == 0) = true := by rw [hp]; rfl
        have HS1 : Hid ((queuedTo s.jobs (q + 1)).map J = (queuedTo s.jobs q).map J ++ [.int .i64 ((q : Int) + 1)]) := Lib.hid (by rw [HST.out, HQ.out, hp, if_pos (by decide), List.map_append]; rfl)
        have hown := HKN.out.own
        have hbr := HKN.out.size
        have hl2 := HLN.out
        clear hp
        obtain ⟨M, hM⟩ : ∃ M, M = ((queuedTo s.jobs q).map J).length := ⟨_, rfl⟩
        obtain ⟨Av, cv, rfl⟩ := own_slice (n := M) (by rw [hM]; exact hown)
        clear hM
        go_wp2_with (at_builtin; refine push_int rfl _ _ rfl W0.heap.size _ _ rfl hown _ rfl rfl hl2 hbr ?_; intro v2 w3 hg2)
        have hk2 : Grew W0.heap.size 3 (.slice none 0 0) W0 ((queuedTo s.jobs (q + 1)).map J) v2 w3 := by rw [HS1.out]; exact HKN.out.trans hg2
        go_roundw
        case rel => exact ⟨q + 1, by first | (rw [wq]; rfl) | rfl, HLT.out, Lib.hid hk2⟩
        case measure => first | (rw [wq]; exact measQ HLT.out) | exact measQ HLT.out
      · have e1 : (x.phase == 0) = false := by simpa using hp
        have HS1 : Hid (queuedTo s.jobs (q + 1) = queuedTo s.jobs q) := Lib.hid (by rw [HST.out, HQ.out, decide_eq_false hp, if_neg (by simp), List.append_nil])
        clear hp
        go_wp2
        go_roundw
        case rel => exact ⟨q + 1, by first | (rw [wq]; rfl) | rfl, HLT.out, Lib.hid (by rw [HS1.out]; exact HKN.out)⟩
        case measure => first | (rw [wq]; exact measQ HLT.out) | exact measQ HLT.out
    · have d1 : decide ((q : Int) < (s.jobs.length : Int)) = false := decide_eq_false (by omega)
      have d1' : decide (q < s.jobs.length) = false := decide_eq_false hlt
      have hqn : q = s.jobs.length := by omega
      have HKE : Hid (Grew W0.heap.size 3 (.slice none 0 0) W0 ((queuedTo s.jobs s.jobs.length).map J) u3 wr) := Lib.hid (by rw [← hqn]; exact HK.out)
      have HSC := Lib.hid (HS.out vn (.slice A s.jobs.length c) s w.heap.size u3 (queuedTo s.jobs s.jobs.length) W0 wr HBS.out (HJ.out.ext HX.out) HKE.out.ext HKE.out.own (List.nodup_range.filter _) (fun i hi => List.mem_range.1 (List.mem_filter.1 hi).1) HNN.out (Nat.le_trans (queuedTo_len s.jobs s.jobs.length) HNN.out))
      clear hqn hlt hq hal HK
      go_wp2_with fail
      refine HSC.out.mono ?_
      rintro e9 w9 ⟨rfl, L9, hp9, hs9, hr9, hx9⟩
      have HL : Hid (L9 = lineL s.jobs) := Lib.hid (line_of_sorted hs9 hp9)
      have HR9 : Hid (Rd w9 u3 ((lineL s.jobs).map J)) := Lib.hid (by rw [← HL.out]; exact hr9)
      have HX9 : Hid (Ext w w9) := Lib.hid (Ext.trans HX.out hx9)
      clear hp9 hs9 hr9 hx9 HSC
      go_wp2
      go_ret
      exact ⟨_, rfl, HR9.out, HX9.out⟩

end Go.Proofs.Ytgjidkhfnnghiaa

/- Package fit: the nodes that can have a job, of a version. -/
namespace Go.Proofs.Ytgjidkhfnnghiaa
open Go.RowKit

set_option maxRecDepth 100000 in
theorem hosts_any (n : Nd) (w : World) : Calls Try.prog 70 #[ndV n] w fun e w' => e = .returned (.bool (hostN n)) ∧ Ext w w' := by
  have HX := Lib.hid fun cs => (Below.refl w.heap.size w).alloc (Nat.le_refl _) (.cells cs 37)
  unfold ndV hostN
  cases h1 : n.up
  · go_enter Try.func70, Try.ntmps70
    go_wp2
    go_ret
    exact ⟨rfl, HX.out _⟩
  cases h2 : n.cordon
  · cases h3 : n.moving
    · go_enter Try.func70, Try.ntmps70
      go_wp2
      go_ret
      exact ⟨rfl, HX.out _⟩
    · go_enter Try.func70, Try.ntmps70
      go_wp2
      go_ret
      exact ⟨rfl, HX.out _⟩
  · go_enter Try.func70, Try.ntmps70
    go_wp2
    go_ret
    exact ⟨rfl, HX.out _⟩

set_option maxRecDepth 100000 in
theorem choicesC_any (n : Nd) (g : Nat) (v : Int) (w : World) (hg : w.cell? ⟨g, 0, none⟩ = some (.int .i64 v)) (hgl : g < w.heap.size) : Calls Try.prog 69 #[ndV n, .pointer (some ⟨g, 0, none⟩)] w fun e w' => e = .returned (.bool (hostV v n)) ∧ Ext w w' := by
  have HX : Hid (Ext w (w.alloc (.cells #[.bool n.up, .bool n.cordon, .bool n.moving, .int .i64 n.version, .int .i64 n.job] 37))) := Lib.hid ((Below.refl w.heap.size w).alloc (Nat.le_refl _) _)
  have HB := Lib.hid (Blk.new w 37 #[.bool n.up, .bool n.cordon, .bool n.moving, .int .i64 n.version, .int .i64 n.job])
  have HH := Lib.hid fun W => hosts_any n W
  have HG := Lib.hid (And.intro hg hgl)
  obtain ⟨R, hR⟩ : ∃ R, R = hostV v n := ⟨_, rfl⟩
  rw [← hR]
  have HR := Lib.hid hR
  clear hg hgl hR
  unfold ndV at HH ⊢
  go_enter Try.func69, Try.ntmps69
  go_upto_region 1 with (fail)
  obtain ⟨W0, hW0⟩ : ∃ W0, W0 = (w.alloc (.cells #[.bool n.up, .bool n.cordon, .bool n.moving, .int .i64 n.version, .int .i64 n.job] 37)) := ⟨_, rfl⟩
  rw [← hW0] at HX HB ⊢
  clear hW0
  have c0 := HB.out.cell 0
  have c1 := HB.out.cell 1
  have c2 := HB.out.cell 2
  have c3 := HB.out.cell 3
  have c4 := HB.out.cell 4
  have HHC := Lib.hid (HH.out W0)
  go_wp2_with fail
  refine HHC.out.mono ?_
  rintro e1 w1 ⟨rfl, hx1⟩
  have HX1 : Hid (Ext w w1) := Lib.hid (Ext.trans HX.out hx1)
  have c3' := (HB.out.ext hx1).cell 3
  have cg := HX1.out.cellOf HG.out.1 HG.out.2
  clear c0 c1 c2 c3 c4 hx1 HHC
  cases h : hostN n
  · have HZ : Hid (R = false) := Lib.hid (by rw [HR.out]; unfold hostV; rw [h]; rfl)
    repeat (first | go_values | go_skip | go_guarded | go_step | go_upon | (simp only []))
    go_ret
    exact ⟨by rw [HZ.out]; rfl, HX1.out⟩
  · by_cases hv : n.version = v
    · have e : (n.version == v) = true := by rw [hv]; simp
      have HZ : Hid (R = true) := Lib.hid (by rw [HR.out]; unfold hostV; rw [h, decide_eq_true hv]; rfl)
      clear hv
      repeat (first | go_values | go_skip | go_guarded | go_step | go_upon | (simp only []))
      go_ret
      exact ⟨by rw [HZ.out]; rfl, HX1.out⟩
    · have e : (n.version == v) = false := by simpa using hv
      have HZ : Hid (R = false) := Lib.hid (by rw [HR.out]; unfold hostV; rw [h, decide_eq_false hv]; rfl)
      clear hv
      repeat (first | go_values | go_skip | go_guarded | go_step | go_upon | (simp only []))
      go_ret
      exact ⟨by rw [HZ.out]; rfl, HX1.out⟩

set_option maxRecDepth 100000 in
set_option maxHeartbeats 4000000 in
theorem thoseHost_any (vn vj : Value) (s : St) (g : Nat) (v : Int) (w : World) (hr : RdNd w vn s.nodes) (hN : s.nodes.length ≤ 6) (hg : w.cell? ⟨g, 0, none⟩ = some (.int .i64 v)) (hgl : g < w.heap.size) :
    Calls Try.prog 52 #[stV vn vj s, .func (.func 69) #[] #[.pointer (some ⟨g, 0, none⟩)]] w fun e w' => e = .returned (.int .i64 (bitsF (nodeIs s.nodes (hostV v)) s.nodes.length : Int)) ∧ Ext w w' := by
  obtain ⟨hx, hb⟩ := boxSt vn vj s w 27
  unfold stV
  unfold stC at hx hb
  obtain ⟨A, c, rfl, hnc, hcm, hcell⟩ := has_cells hr
  have HC := Lib.hid hcell
  have HX := Lib.hid hx
  have HB := Lib.hid hb
  have HF := Lib.hid (fun (n : Nd) (W' : World) (hW : Ext w W') => choicesC_any n g v W' (hW.cellOf hg hgl) (Nat.lt_of_lt_of_le hgl hW.size))
  obtain ⟨F, hF⟩ : ∃ F : Nat → Bool, F = nodeIs s.nodes (hostV v) := ⟨_, rfl⟩
  rw [← hF]
  have HFF : Hid (∀ q n, s.nodes[q]? = some n → F q = (hostV v) n) := Lib.hid fun q n hn => by rw [hF, nodeIs_at hn]
  clear hx hb hr hcell hF
  go_enter Try.func52, Try.ntmps52
  go_wp2_with fail
  obtain ⟨W0, hW0⟩ : ∃ W0, W0 = w.alloc (.cells #[.slice A s.nodes.length c, vj, .int .i64 s.goal, .int .i64 s.prior, .int .i64 s.mode, .int .i64 s.term] 27) := ⟨_, rfl⟩
  rw [← hW0] at HX HB ⊢
  clear hW0
  go_loopw [5, 11] (fun o i wr => ∃ q : Nat, i = .int .i64 q ∧ o = .int .i64 (bitsF F q : Int) ∧ q ≤ s.nodes.length ∧ Ext W0 wr) (fun _ i _ => s.nodes.length - (intOf i).toNat)
  case atStart => exact ⟨0, rfl, rfl, Nat.zero_le _, Ext.refl _⟩
  case round =>
    obtain ⟨q, rfl, rfl, hq, hxr⟩ := hrel
    have HXR : Hid (Ext W0 wr) := Lib.hid hxr
    have HXW : Hid (Ext w wr) := Lib.hid (Ext.trans HX.out hxr)
    have hset := bitsF_lt F q
    have HST : Hid (bitsF F (q + 1) = bitsF F q + (if F q = true then 2 ^ q else 0)) := Lib.hid rfl
    generalize hP : bitsF F q = P at *
    have HP := Lib.hid hP
    clear hxr hP
    by_cases hlt : q < s.nodes.length
    · have d1 : decide ((q : Int) < (s.nodes.length : Int)) = true := decide_eq_true (by omega)
      have d1' : decide (q < s.nodes.length) = true := decide_eq_true hlt
      obtain ⟨n, hn⟩ : ∃ n, s.nodes[q]? = some n := ⟨_, List.getElem?_eq_getElem hlt⟩
      obtain ⟨b, o, rfl, hlt', hat⟩ := HC.out q n hn
      obtain ⟨c0, c1, c2, c3, c4⟩ := hat.ext HXW.out hlt'
      have hp2 := two_pows (q := q) (by omega)
      have HLT := Lib.hid hlt
      have HOB : Hid (bits .or .i64 (P : Int) (wrap64 (2 ^ min q 64)) = ((P + 2 ^ q : Nat) : Int)) := Lib.hid (by rw [Nat.min_eq_left (by omega)]; exact or_bit q (by omega) P (by omega) hset)
      have wq : wrap64 ((q : Int) + 1) = (q : Int) + 1 := IntWalk.wrap64_in _ (by omega)
      have HFQ := Lib.hid (HFF.out q n hn)
      have HXN : Hid (Ext wr (wr.alloc (.cells #[.bool n.up, .bool n.cordon, .bool n.moving, .int .i64 n.version, .int .i64 n.job] 37))) := Lib.hid ((Below.refl _ wr).alloc (Nat.le_refl _) (.cells #[.bool n.up, .bool n.cordon, .bool n.moving, .int .i64 n.version, .int .i64 n.job] 37))
      have HBN := Lib.hid (Blk.new wr 37 #[.bool n.up, .bool n.cordon, .bool n.moving, .int .i64 n.version, .int .i64 n.job])
      clear hat hn hset hp2
      go_upto_region 5 with (fail)
      obtain ⟨wn, hwn⟩ : ∃ wn, wn = wr.alloc (.cells #[.bool n.up, .bool n.cordon, .bool n.moving, .int .i64 n.version, .int .i64 n.job] 37) := ⟨_, rfl⟩
      rw [← hwn] at HXN HBN ⊢
      clear hwn c0 c1 c2 c3 c4 hlt hq
      have c0 := HBN.out.cell 0
      have c1 := HBN.out.cell 1
      have c2 := HBN.out.cell 2
      have c3 := HBN.out.cell 3
      have c4 := HBN.out.cell 4
      have HFC := Lib.hid (HF.out n wn (Ext.trans HXW.out HXN.out))
      unfold ndV at HFC
      go_wp2_with fail
      refine HFC.out.mono ?_
      rintro e2 w2 ⟨rfl, hx2⟩
      have HX2 : Hid (Ext W0 w2) := Lib.hid (Ext.trans HXR.out (Ext.trans HXN.out hx2))
      clear hx2 HFC
      have ho := HOB.out
      cases hf : (hostV v) n
      · have HS : Hid (bitsF F (q + 1) = P) := Lib.hid (by rw [HST.out, HFQ.out, hf]; rfl)
        clear hf
        repeat (first | go_values | go_skip | go_guarded | go_step | go_upon | (simp only []))
        go_roundw
        case rel => exact ⟨q + 1, by first | (rw [wq]; rfl) | rfl, by rw [HS.out], HLT.out, HX2.out⟩
        case measure => first | (rw [wq]; exact measQ HLT.out) | exact measQ HLT.out
      · have HS : Hid (bitsF F (q + 1) = P + 2 ^ q) := Lib.hid (by rw [HST.out, HFQ.out, hf]; rfl)
        clear hf
        repeat (first | go_values | go_skip | go_guarded | go_step | go_upon | (simp only []))
        go_roundw
        case rel => exact ⟨q + 1, by first | (rw [wq]; rfl) | rfl, by rw [HS.out]; first | rfl | rw [ho], HLT.out, HX2.out⟩
        case measure => first | (rw [wq]; exact measQ HLT.out) | exact measQ HLT.out
    · have d1 : decide ((q : Int) < (s.nodes.length : Int)) = false := decide_eq_false (by omega)
      have d1' : decide (q < s.nodes.length) = false := decide_eq_false hlt
      have HE : Hid (bitsF F s.nodes.length = P) := Lib.hid (by rw [← HP.out, show q = s.nodes.length by omega])
      go_wp2
      go_ret
      exact ⟨by rw [HE.out]; rfl, HXW.out⟩

end Go.Proofs.Ytgjidkhfnnghiaa
