/- Texts that the proof of X rests on, one behind the other. -/
import Derived.Test.YtgjidkhfnnghiaaXQ5
import Derived.Maps.Own
import Derived.Maps.OwnOps
import Derived.Maps.OwnSet
import Derived.Maps.Range
import Derived.Maps.Views
import Derived.Lib.SlKeysI
import Derived.Deep.CutBlock
import Derived.Deep.DeepCutAuto
import Derived.Maps.RangeWalk

/- Package ahead: which nodes come back at each end, as a map. -/
namespace Go.Proofs.Ytgjidkhfnnghiaa
open Go.RowKit Go.Maps

/-- The map behind the first jobs. -/
def dB (s : St) (now : Int) : Nat → DataW Unit
  | 0 => (DataW.map []).put (.int .i64 now) (.lit (.int .i64 0))
  | k + 1 => if endS s ((k : Int) + 1) now = -1 then dB s now k else (dB s now k).put (.int .i64 (endS s ((k : Int) + 1) now)) (.lit (.int .i64 ((orTo s now (endS s ((k : Int) + 1) now) k ||| nodesN s k : Nat) : Int)))
theorem dB_map (s : St) (now : Int) : ∀ k, IsMap (dB s now k)
  | 0 => IsMap.put isMap_empty _ _
  | k + 1 => by
    unfold dB
    split
    · exact dB_map s now k
    · exact (dB_map s now k).put _ _
theorem i64_ne {a b : Int} (h : a ≠ b) : (Lit.int .i64 a) ≠ (Lit.int .i64 b) := fun e => by cases e; exact h rfl
theorem orTo_succ (s : St) (now t : Int) (k : Nat) : orTo s now t (k + 1) = if endS s ((k : Int) + 1) now = t then orTo s now t k ||| nodesN s k else orTo s now t k := rfl
theorem dB_at (s : St) (now t : Int) (ht : 0 ≤ t) : ∀ k, (dB s now k).atKey (.int .i64 t) (.lit (.int .i64 0)) = .lit (.int .i64 (orTo s now t k : Int))
  | 0 => by
    unfold dB orTo
    by_cases h : t = now
    · rw [h, atKey_put_same isMap_empty (by trivial)]
      rfl
    · rw [atKey_put_other (i64_ne h)]
      rfl
  | k + 1 => by
    unfold dB
    by_cases h1 : endS s ((k : Int) + 1) now = -1
    · rw [if_pos h1, dB_at s now t ht k, orTo_succ, if_neg (by omega)]
    · rw [if_neg h1]
      by_cases h : t = endS s ((k : Int) + 1) now
      · rw [← h, atKey_put_same (dB_map s now k) (by trivial), orTo_succ, if_pos h.symm]
      · rw [atKey_put_other (i64_ne h), dB_at s now t ht k, orTo_succ, if_neg (fun e => h e.symm)]
theorem dB_has (s : St) (now t : Int) : ∀ k, Maps.has (dB s now k) (.int .i64 t) = true ↔ (t = now ∨ ∃ r : Nat, r < k ∧ endS s ((r : Int) + 1) now = t ∧ t ≠ -1)
  | 0 => by
    unfold dB
    by_cases h : t = now
    · rw [h, has_put_same isMap_empty (by trivial)]
      simp
    · rw [has_put_other (i64_ne h)]
      simp [Maps.has, h]
  | k + 1 => by
    have ih := dB_has s now t k
    have hstep : ∀ r : Nat, r < k + 1 ↔ (r < k ∨ r = k) := fun r => by omega
    unfold dB
    by_cases h1 : endS s ((k : Int) + 1) now = -1
    · rw [if_pos h1, ih]
      constructor
      · rintro (h | ⟨r, a, b, c⟩)
        · exact .inl h
        · exact .inr ⟨r, by omega, b, c⟩
      · rintro (h | ⟨r, a, b, c⟩)
        · exact .inl h
        · rcases (hstep r).1 a with a | rfl
          · exact .inr ⟨r, a, b, c⟩
          · exact absurd (b.symm.trans h1) c
    · rw [if_neg h1]
      by_cases h : t = endS s ((k : Int) + 1) now
      · rw [← h, has_put_same (dB_map s now k) (by trivial)]
        simp only [true_iff]
        exact .inr ⟨k, by omega, h.symm, by rw [h]; exact h1⟩
      · rw [has_put_other (i64_ne h), ih]
        constructor
        · rintro (h | ⟨r, a, b, c⟩)
          · exact .inl h
          · exact .inr ⟨r, by omega, b, c⟩
        · rintro (h' | ⟨r, a, b, c⟩)
          · exact .inl h'
          · rcases (hstep r).1 a with a | rfl
            · exact .inr ⟨r, a, b, c⟩
            · exact absurd b.symm h
theorem dB_step {s : St} {now : Int} {k : Nat} (h : endS s ((k : Int) + 1) now ≠ -1) : dB s now (k + 1) = (dB s now k).put (.int .i64 (endS s ((k : Int) + 1) now)) (.lit (.int .i64 ((orTo s now (endS s ((k : Int) + 1) now) k ||| nodesN s k : Nat) : Int))) := by
  show (if _ then _ else _) = _
  rw [if_neg h]
theorem dB_skip {s : St} {now : Int} {k : Nat} (h : endS s ((k : Int) + 1) now = -1) : dB s now (k + 1) = dB s now k := by
  show (if _ then _ else _) = _
  rw [if_pos h]
theorem orTo_lt {s : St} (hs : OwnS s) (now t : Int) : ∀ k, k ≤ s.jobs.length → orTo s now t k < 64
  | 0, _ => by unfold orTo; decide
  | k + 1, hk => by
    have ih := orTo_lt hs now t k (by omega)
    rw [orTo_succ]
    split
    · obtain ⟨x, hx⟩ : ∃ x, s.jobs[k]? = some x := ⟨_, List.getElem?_eq_getElem (by omega)⟩
      rw [nodesN_at hx]
      exact Nat.or_lt_two_pow (n := 6) ih (hs k x hx).1
    · exact ih
theorem endS_in {s : St} (hA : OkA s) {now : Int} (hn0 : 0 ≤ now) (hn1 : now ≤ 1000000) (job : Int) : endS s job now = -1 ∨ (now ≤ endS s job now ∧ endS s job now ≤ 2000000) := by
  unfold endS
  split
  · rename_i x hx
    obtain ⟨a1, a2, a3, a4⟩ := hA.ok.jobs _ x hx
    obtain ⟨-, b1, b2, b3, -, -⟩ := hA.jobs _ x hx
    split
    · unfold endJ endE
      by_cases p1 : x.phase = 1
      · simp only [if_pos p1]
        split <;> omega
      · simp only [if_neg p1]
        by_cases p2 : x.phase = 2
        · simp only [if_pos p2]
          split <;> omega
        · simp only [if_neg p2]
          by_cases p3 : x.phase = 3
          · simp only [if_pos p3]
            split <;> omega
          · simp only [if_neg p3]
            split <;> omega
    · exact .inl rfl
  · exact .inl rfl
/-- A map's keys. -/
theorem keys_spec {H : Type} {P : Program} {k : TypeId} {R : Value → Option (DataW H × List MemPlace)} {w : World} {b n : Nat} {D : DataW H} (hown : w.ownsMap P k R b n D) (K : Keyed P k) (hk : P.underlying k = some (.int .i64)) : (intKeys D).Nodup ∧ (∀ x, x ∈ intKeys D ↔ Maps.has D (.int .i64 x) = true) ∧ Maps.size D ≤ n := by
  have hsz : Maps.size D ≤ n := by
    obtain ⟨es, clock, _, _, hs, rfl⟩ := hown
    show ((es.toList.map _).foldr DataW.insert []).length ≤ n
    rw [length_sorted]
    simpa using hs
  obtain ⟨es, hD, hpw, _⟩ := hown.entries K
  obtain ⟨es', hD', hko⟩ := hown.keysOf
  obtain rfl : es = es' := by rw [hD] at hD'; simpa using hD'
  subst hD
  have hkk : ∀ p ∈ es, ∃ x, p.1 = .int .i64 x := fun p hp => by
    obtain ⟨v, hv⟩ := hko p hp
    obtain ⟨x, _, hx, _⟩ := Maps.keyOf_i64 hk hv
    exact ⟨x, hx⟩
  refine ⟨?_, fun x => ?_, hsz⟩
  · show (es.map fun p => Go.intOf p.1).Nodup
    refine List.pairwise_map.2 (hpw.imp_of_mem fun {p q} hp' hq' hne e => hne ?_)
    obtain ⟨a, ha⟩ := hkk p hp'
    obtain ⟨b, hb⟩ := hkk q hq'
    rw [ha, hb] at e ⊢
    exact congrArg _ e
  · rw [has_eq, List.any_eq_true]
    show x ∈ es.map (fun p => Go.intOf p.1) ↔ _
    rw [List.mem_map]
    constructor
    · rintro ⟨p, hp', rfl⟩
      obtain ⟨a, ha⟩ := hkk p hp'
      exact ⟨p, hp', by rw [ha]; simp [Lit.sameKey, Go.intOf]⟩
    · rintro ⟨p, hp', hs⟩
      obtain ⟨a, ha⟩ := hkk p hp'
      rw [ha] at hs
      exact ⟨p, hp', by rw [ha]; simpa [Lit.sameKey, Go.intOf] using hs⟩

/-- A map's literal: an entry is laid. -/
theorem wpList_insertI {H : Type} {P : Program} (w : World) {ops : Array Oper} {rest : List Oper} {o : Oper} {a : Act} {Q : Exit → Act → World → Prop}
    (hg : o.guard = none) (m x v : Operand) (t : TypeId) (hop : o.op = Op.insert t m x v)
    (k e : TypeId) (K : Keyed P k) (ht : P.underlying t = some (.map k e)) (R : Value → Option (DataW H × List MemPlace)) (b n : Nat) (D : DataW H)
    (hm : a.eval m = .map (some b)) (hown : w.ownsMap P k R b n D) (hn : n < maxLen) (key val : Value) (kl : Lit) (hx : a.eval x = key) (hv : a.eval v = val) (hkey : keyOf P k key = some kl)
    (d : DataW H) (ps : List MemPlace) (hval : R val = some (d, ps))
    (hK : ∀ w', w'.ownsMap P k R b (n + 1) (D.put kl d) → w.grownBy w' (some b) → wpList P ops Q rest (a.put o.dst undef) w') :
    wpList P ops Q (o :: rest) a w := by
  refine wpList_plain hg fun K' hK' => ?_
  obtain ⟨w', hrun, r1, r2⟩ := hown.update K ht hn hkey hval
  unfold Oper.wp
  simp [execOp, hop, hm, hx, hv, hrun, Result.andThen]
  exact hK' _ _ (hK w' r1 r2)
theorem map_ext {H : Type} {P : Program} {k : TypeId} {R : Value → Option (DataW H × List MemPlace)} {w w' : World} {b n : Nat} {D : DataW H} (h : w.ownsMap P k R b n D) (hx : Ext w w') : w'.ownsMap P k R b n D :=
  h.kept (row := none) ⟨hx.os, hx.tape, hx.output, hx.size, fun i hi _ => hx.block i hi⟩ (by simp)
theorem Try.zeroInt (w : World) : (zeroValue 3).run Try.prog w = .ok (.int .i64 0) w := by kernel_rfl

end Go.Proofs.Ytgjidkhfnnghiaa

/- Package ahead: which nodes come back at each end, walked. -/
namespace Go.Proofs.Ytgjidkhfnnghiaa
open Go.RowKit Go.Maps

set_option maxRecDepth 100000 in
set_option maxHeartbeats 8000000 in
theorem backAt_any (vn vj : Value) (s : St) (now : Int) (w : World) (hr : RdJb w vj s.jobs) (hA : OkA s) (hn0 : 0 ≤ now) (hn1 : now ≤ 1000000) :
    Calls Try.prog 32 #[stV vn vj s, .int .i64 now] w fun e w' => ∃ B : Nat, e = .returned (.map (some B)) ∧ w.heap.size ≤ B ∧ w'.ownsMap Try.prog 3 (plainElem (H := Unit) Try.prog 3) B 25 (dB s now s.jobs.length) ∧ Ext w w' := by
  have hJ := hA.ok.nj
  have HRJ := Lib.hid hr
  have HEN : Hid (∀ job W, Ext w W → Calls Try.prog 12 #[stV vn vj s, .int .i64 job, .int .i64 now] W fun e w' => e = .returned (.int .i64 (endS s job now)) ∧ Ext W w') := Lib.hid fun job W hW => End_any vn vj s job now W (HRJ.out.ext hW) hA hn0 hn1
  obtain ⟨hx, hb⟩ := boxSt vn vj s w 27
  unfold stV at HEN
  unfold stV
  unfold stC at hx hb
  obtain ⟨A, c, rfl, hnc, hcm, hcell⟩ := jobs_cells hr
  have HC := Lib.hid hcell
  have HX := Lib.hid hx
  have HB := Lib.hid hb
  have hmm := @run_makeMap Try.prog
  have hkn : keyOf Try.prog 3 (.int .i64 now) = some (.int .i64 now) := keyOf_int_mk Try.underlying3 (WalkArith.wf_i64 (by omega))
  have hlaw : Keyed Try.prog 3 := int_keyed Try.underlying3
  have HLAW := Lib.hid hlaw
  clear hx hb hr hcell
  go_enter Try.func32, Try.ntmps32
  go_upto_region 1 with (fail)
  obtain ⟨W0, hW0⟩ : ∃ W0, W0 = w.alloc (.cells #[vn, .slice A s.jobs.length c, .int .i64 s.goal, .int .i64 s.prior, .int .i64 s.mode, .int .i64 s.term] 27) := ⟨_, rfl⟩
  rw [← hW0] at HX HB ⊢
  have hS0 : w.heap.size ≤ W0.heap.size := HX.out.size
  clear hW0
  have hm0 : (W0.alloc (.map #[] 0)).ownsMap Try.prog 3 (plainElem (H := Unit) Try.prog 3) W0.heap.size 0 (.map []) := World.ownsMap_made _ _ _ _
  go_upto_region 2 with (first
    | (refine wpList_insertI _ rfl _ _ _ 55 rfl 3 3 hlaw Try.underlying55 _ W0.heap.size 0 _ rfl hm0 (by decide) _ _ _ rfl rfl hkn _ [] (plainElem_int Try.underlying3 (by decide)) ?_; intro w1 hown1 hgr1))
  have HX1 : Hid (Ext W0 w1) := Lib.hid (Below.grown ((Below.refl _ W0).alloc (Nat.le_refl _) _) hgr1 (by simp) (fun k hk => by cases hk; exact Nat.le_refl _))
  have HM1 : Hid (w1.ownsMap Try.prog 3 (plainElem (H := Unit) Try.prog 3) W0.heap.size (0 + 1) (dB s now 0)) := Lib.hid hown1
  obtain ⟨B, hB⟩ : ∃ B, B = W0.heap.size := ⟨_, rfl⟩
  rw [← hB] at HM1 ⊢
  have HBL : Hid (B = W0.heap.size ∧ w.heap.size ≤ B) := Lib.hid ⟨hB, by rw [hB]; exact hS0⟩
  clear hown1 hgr1 hm0 hkn hlaw hB hS0 hmm
  have g1 := (HB.out.ext HX1.out).cell 1
  go_wp2_with fail
  go_loopw [15] (fun i wr => ∃ q : Nat, i = .int .i64 (q : Int) ∧ q ≤ s.jobs.length ∧ Hid (wr.ownsMap Try.prog 3 (plainElem (H := Unit) Try.prog 3) B (q + 1) (dB s now q)) ∧ Hid (Ext W0 wr)) (fun i _ => s.jobs.length - (Go.RowKit.intOf i).toNat)
  case atStart => exact ⟨0, rfl, Nat.zero_le _, HM1, HX1⟩
  case round =>
    obtain ⟨q, rfl, hq, HM, HXR⟩ := hrel
    have HXW : Hid (Ext w wr) := Lib.hid (Ext.trans HX.out HXR.out)
    by_cases hlt : q < s.jobs.length
    · have d1 : decide ((q : Int) < (s.jobs.length : Int)) = true := decide_eq_true (by omega)
      have d1' : decide (q < s.jobs.length) = true := decide_eq_true hlt
      obtain ⟨x, hx⟩ : ∃ x, s.jobs[q]? = some x := ⟨_, List.getElem?_eq_getElem hlt⟩
      obtain ⟨b, o, rfl, hlt', hat⟩ := HC.out q x hx
      obtain ⟨q0, q1, q2, q3, q4, q5, q6, q7, q8, q9, q10, q11⟩ := hat.ext HXW.out hlt'
      have wq : wrap64 ((q : Int) + 1) = (q : Int) + 1 := IntWalk.wrap64_in _ (by omega)
      have HLT := Lib.hid hlt
      go_upto_region 5 with (fail)
      obtain ⟨wn, hwn⟩ : ∃ wn, wn = wr.alloc (.cells #[.int .i64 x.queue, .int .i64 x.prio, .int .i64 x.least, .int .i64 x.most, .int .i64 x.work, .int .i64 x.pin, .int .i64 x.phase, .int .i64 x.inc, .int .i64 x.nodes, .int .i64 x.since, .int .i64 x.til, .int .i64 x.epoch] 39) := ⟨_, rfl⟩
      have HXN : Hid (Ext wr wn) := Lib.hid (by rw [hwn]; exact (Below.refl _ _).alloc (Nat.le_refl _) _)
      have HBN : Hid (Blk wn wr.heap.size 39 #[.int .i64 x.queue, .int .i64 x.prio, .int .i64 x.least, .int .i64 x.most, .int .i64 x.work, .int .i64 x.pin, .int .i64 x.phase, .int .i64 x.inc, .int .i64 x.nodes, .int .i64 x.since, .int .i64 x.til, .int .i64 x.epoch]) := Lib.hid (by rw [hwn]; exact Blk.new _ _ _)
      rw [← hwn]
      obtain ⟨gx, hgx⟩ : ∃ g, g = wr.heap.size := ⟨_, rfl⟩
      rw [← hgx] at HBN ⊢
      have HGX : Hid (B < gx) := Lib.hid (by rw [hgx]; exact HM.out.lt)
      have HX0 : Hid (Ext W0 wn) := Lib.hid (Ext.trans HXR.out HXN.out)
      have HMN := Lib.hid (map_ext HM.out HXN.out)
      have HNX : Hid (nodesN s q = x.nodes.toNat) := Lib.hid (nodesN_at hx)
      have HJX := Lib.hid (hA.jobs q x hx)
      clear hwn hgx hat hx hlt q0 q1 q2 q3 q4 q5 q6 q7 q8 q9 q10 q11 hq g1
      obtain ⟨g0, g1, g2, g3, g4, g5⟩ := Blk.six (HB.out.ext HX0.out)
      have HEC := Lib.hid (HEN.out ((q : Int) + 1) wn (Ext.trans HX.out HX0.out))
      obtain ⟨E, hE⟩ : ∃ E, E = endS s ((q : Int) + 1) now := ⟨_, rfl⟩
      rw [← hE] at HEC
      have HE := Lib.hid hE
      clear hE
      go_wp2_with fail
      refine HEC.out.mono ?_
      rintro e2 w2 ⟨rfl, hx2⟩
      have HX2 : Hid (Ext wn w2) := Lib.hid hx2
      have HX02 : Hid (Ext W0 w2) := Lib.hid (Ext.trans HX0.out hx2)
      have HM2 := Lib.hid (map_ext HMN.out hx2)
      have c8 := (HBN.out.ext hx2).cell 8
      clear hx2 HEC g0 g1 g2 g3 g4 g5
      by_cases he : E = -1
      · have f1 : (E != -1) = false := by rw [he]; rfl
        have HS : Hid (dB s now (q + 1) = dB s now q) := Lib.hid (dB_skip (by rw [← HE.out]; exact he))
        clear he
        repeat (first | go_values | go_skip | go_guarded | go_step | go_upon | (simp only []))
        go_roundw
        case rel => exact ⟨q + 1, by first | (rw [wq]; rfl) | rfl, HLT.out, Lib.hid (by rw [HS.out]; exact HM2.out.mono (by omega)), HX02⟩
        case measure => first | (rw [wq]; exact measQ HLT.out) | exact measQ HLT.out
      · have f1 : (E != -1) = true := by simpa using he
        have hE0 : 0 ≤ E ∧ E ≤ 2000000 := by
          rcases endS_in hA hn0 hn1 ((q : Int) + 1) with h | h
          · exact absurd (HE.out.trans h) he
          · rw [← HE.out] at h
            omega
        obtain ⟨O, hO⟩ : ∃ O, O = orTo s now E q := ⟨_, rfl⟩
        have hO64 : O < 64 := by rw [hO]; exact orTo_lt hA.own now E q (Nat.le_of_lt HLT.out)
        obtain ⟨m, hm⟩ : ∃ m : Nat, x.nodes = (m : Int) := ⟨x.nodes.toNat, by have := HJX.out.2.2.2.2.1; omega⟩
        have hm64 : m < 64 := by have := HJX.out.2.2.2.2.2; omega
        have hke : keyOf Try.prog 3 (.int .i64 E) = some (.int .i64 E) := keyOf_int_mk Try.underlying3 (WalkArith.wf_i64 (by omega))
        have hlk : (Instr.lookup 55 (.map (some B)) (.int .i64 E) false).run Try.prog w2 = .ok (.int .i64 (O : Int)) w2 := by
          obtain ⟨c, h1, h2, -⟩ := HM2.out.lookup_int HLAW.out Try.underlying55 Try.underlying3 (Try.zeroInt _) hke
          rw [dB_at s now E hE0.1, ← hO] at h2
          rw [h1]
          congr 2
          cases h2
          rfl
        obtain ⟨N, hN⟩ : ∃ N, N = O ||| m := ⟨_, rfl⟩
        have hbo : bits .or .i64 (O : Int) x.nodes = (N : Int) := by rw [hm, or_nat O hO64 m hm64, hN]
        have hN64 : N < 64 := by rw [hN]; exact Nat.or_lt_two_pow (n := 6) hO64 hm64
        have hwf : (Lit.int .i64 (N : Int)).wf = true := WalkArith.wf_i64 (by omega)
        have HS : Hid (dB s now (q + 1) = (dB s now q).put (.int .i64 E) (.lit (.int .i64 (N : Int)))) := Lib.hid (by
          rw [dB_step (by rw [← HE.out]; exact he), ← HE.out, ← hO, HNX.out, hN, show x.nodes.toNat = m by omega])
        have hql : q + 1 < maxLen := by have := HLT.out; unfold maxLen; omega
        have hlaw := HLAW.out
        have hmm2 := HM2.out
        have HKE := Lib.hid hke
        have HWF := Lib.hid hwf
        have HQL := Lib.hid hql
        clear he hO hO64 hm hm64 hN hN64 hE0 hke hwf hql
        go_wp2_with (first
          | (at_mapUpdate; refine wpList_mapUpdate_own _ rfl _ _ _ 55 rfl 3 3 hlaw Try.underlying55 _ B (q + 1) _ rfl hmm2 HQL.out _ _ _ rfl rfl HKE.out _ [] (plainElem_int Try.underlying3 HWF.out) ?_; intro w3 hown3 hgr3))
        go_roundw
        case rel => exact ⟨q + 1, by first | (rw [wq]; rfl) | rfl, HLT.out, Lib.hid (by rw [HS.out]; exact hown3), Lib.hid (HX02.out.grown hgr3 HX02.out.size (fun k hk => by cases hk; exact Nat.le_of_eq HBL.out.1.symm))⟩
        case measure => first | (rw [wq]; exact measQ HLT.out) | exact measQ HLT.out
    · have d1 : decide ((q : Int) < (s.jobs.length : Int)) = false := decide_eq_false (by omega)
      have d1' : decide (q < s.jobs.length) = false := decide_eq_false hlt
      obtain rfl : q = s.jobs.length := by omega
      go_wp2
      go_ret
      exact ⟨B, rfl, HBL.out.2, HM.out.mono (by omega), HXW.out⟩

end Go.Proofs.Ytgjidkhfnnghiaa

/- Package ahead: the nodes at a time. -/
namespace Go.Proofs.Ytgjidkhfnnghiaa
open Go.RowKit Go.Maps

/-- Has such an end been gone through, and is it not behind the time? -/
def doneF (D : DataW Unit) (left : Lit → Bool) (time e : Int) : Bool := Maps.has D (.int .i64 e) && !left (.int .i64 e) && decide (e ≤ time)
theorem done_start (s : St) (now time : Int) (D : DataW Unit) : gN s now (doneF D (Maps.has D) time) = openN s := by
  rw [openN_g s now]
  apply gN_congr
  intro i n _
  unfold doneF
  cases Maps.has D (.int .i64 (endS s n.job now)) <;> rfl
theorem done_end {s : St} (hA : OkA s) {now time : Int} (hn0 : 0 ≤ now) (hn1 : now ≤ 1000000) {left : Lit → Bool} (hl : ∀ kl, left kl = false) : gN s now (doneF (dB s now s.jobs.length) left time) = atN s now time := by
  rw [atN_g]
  apply gN_congr
  intro i n _
  unfold doneF
  rw [hl, Bool.not_false, Bool.and_true]
  congr 1
  rw [Bool.eq_iff_iff, dB_has, decide_eq_true_iff]
  constructor
  · rintro (h | ⟨r, h1, h2, h3⟩)
    · omega
    · rcases endS_in hA hn0 hn1 n.job with h | h
      · exact absurd h h3
      · omega
  · intro h
    obtain ⟨k, x, h1, h2⟩ := endS_pos h
    exact .inr ⟨k, (List.getElem?_eq_some_iff.1 h2).1, by rw [← h1], by omega⟩
theorem same_i64 (a b : Int) : (Lit.int .i64 a).sameKey (Lit.int .i64 b) = decide (a = b) := by
  by_cases h : a = b
  · subst h
    simp [Lit.sameKey]
  · rw [decide_eq_false h]
    exact sameKey_ne (i64_ne h)
theorem done_late {s : St} {now time x : Int} {D : DataW Unit} {left : Lit → Bool} (h : ¬ x ≤ time) : gN s now (doneF D (fun z => left z && !z.sameKey (.int .i64 x)) time) = gN s now (doneF D left time) := by
  apply gN_congr
  intro i n _
  generalize endS s n.job now = e
  unfold doneF
  simp only [same_i64]
  by_cases he : e = x
  · rw [decide_eq_false (show ¬ e ≤ time by rw [he]; exact h), Bool.and_false, Bool.and_false]
  · rw [decide_eq_false he, Bool.not_false, Bool.and_true]
theorem done_step {s : St} (hs : OwnS s) {now time x : Int} {D : DataW Unit} {left : Lit → Bool} (h0 : 0 ≤ x) (h : x ≤ time) (hh : Maps.has D (.int .i64 x) = true) : gN s now (doneF D left time) ||| orTo s now x s.jobs.length = gN s now (doneF D (fun z => left z && !z.sameKey (.int .i64 x)) time) := by
  rw [g_or hs now x h0]
  apply gN_congr
  intro i n _
  generalize endS s n.job now = e
  unfold doneF
  simp only [same_i64]
  by_cases he : e = x
  · rw [he, hh, decide_eq_true h, decide_eq_true rfl]
    cases left (.int .i64 x) <;> rfl
  · rw [decide_eq_false he, Bool.not_false, Bool.and_true, Bool.or_false]

set_option maxRecDepth 100000 in
set_option maxHeartbeats 8000000 in
theorem At_any (vn vj : Value) (s : St) (now time : Int) (w : World) (hrn : RdNd w vn s.nodes) (hr : RdJb w vj s.jobs) (hA : OkA s) (hn0 : 0 ≤ now) (hn1 : now ≤ 1000000) :
    Calls Try.prog 13 #[stV vn vj s, .int .i64 now, .int .i64 time] w fun e w' => e = .returned (.int .i64 (atN s now time : Int)) ∧ Ext w w' := by
  have hN := hA.ok.nn
  have HRJ := Lib.hid hr
  have HRN := Lib.hid hrn
  obtain ⟨hx, hb⟩ := boxSt vn vj s w 27
  have HOP : Hid (∀ W, Ext w W → Calls Try.prog 31 #[stV vn vj s] W fun e w' => e = .returned (.int .i64 (openN s : Int)) ∧ Ext W w') := Lib.hid fun W hW => Open_any vn vj s W (HRN.out.ext hW) hN
  have HBA : Hid (∀ W, Ext w W → Calls Try.prog 32 #[stV vn vj s, .int .i64 now] W fun e w' => ∃ B : Nat, e = .returned (.map (some B)) ∧ W.heap.size ≤ B ∧ w'.ownsMap Try.prog 3 (plainElem (H := Unit) Try.prog 3) B 25 (dB s now s.jobs.length) ∧ Ext W w') := Lib.hid fun W hW => backAt_any vn vj s now W (HRJ.out.ext hW) hA hn0 hn1
  unfold stV at HOP HBA
  unfold stV
  unfold stC at hx hb
  have HX := Lib.hid hx
  have HB := Lib.hid hb
  have hlaw : Keyed Try.prog 3 := int_keyed Try.underlying3
  have HLAW := Lib.hid hlaw
  obtain ⟨T, hT⟩ : ∃ T, T = atN s now time := ⟨_, rfl⟩
  rw [← hT]
  have HT := Lib.hid hT
  obtain ⟨D, hD⟩ : ∃ D, D = dB s now s.jobs.length := ⟨_, rfl⟩
  rw [← hD] at HBA
  have HD := Lib.hid hD
  clear hx hb hr hrn HRJ HRN hT hD
  go_enter Try.func13, Try.ntmps13
  go_upto_region 1 with (fail)
  obtain ⟨W0, hW0⟩ : ∃ W0, W0 = w.alloc (.cells #[vn, vj, .int .i64 s.goal, .int .i64 s.prior, .int .i64 s.mode, .int .i64 s.term] 27) := ⟨_, rfl⟩
  rw [← hW0] at HX HB ⊢
  clear hW0
  obtain ⟨g0, g1, g2, g3, g4, g5⟩ := Blk.six HB.out
  have HOC := Lib.hid (HOP.out W0 HX.out)
  go_wp2_with fail
  refine HOC.out.mono ?_
  rintro e1 w1 ⟨rfl, hx1⟩
  have HX1 : Hid (Ext w w1) := Lib.hid (Ext.trans HX.out hx1)
  have HB1 := Lib.hid (HB.out.ext hx1)
  clear hx1 HOC g0 g1 g2 g3 g4 g5
  obtain ⟨g0, g1, g2, g3, g4, g5⟩ := Blk.six HB1.out
  have HBC := Lib.hid (HBA.out w1 HX1.out)
  simp only []
  go_wp2_with fail
  refine HBC.out.mono ?_
  rintro e2 w2 ⟨B, rfl, hB, hm2, hx2⟩
  have HX2 : Hid (Ext w w2) := Lib.hid (Ext.trans HX1.out hx2)
  have HBL : Hid (w.heap.size ≤ B) := Lib.hid (Nat.le_trans HX1.out.size hB)
  clear hx2 HBC g0 g1 g2 g3 g4 g5 hB
  simp only []
  go_wp2_with (first
    | (at_range; refine wpList_range_own _ rfl _ 55 rfl 3 3 hlaw Try.underlying55 _ B 25 _ rfl hm2 ?_; intro w3 hrg3 hg3 hs3))
  go_frame
  have HX3 : Hid (Ext w w3) := Lib.hid (HX2.out.grown hg3 HX2.out.size (fun k hk => by cases hk))
  have HRL : Hid (w.heap.size ≤ w2.heap.size) := Lib.hid HX2.out.size
  obtain ⟨r, hr⟩ : ∃ r, r = w2.heap.size := ⟨_, rfl⟩
  rw [← hr] at hrg3 HRL ⊢
  have HR3 := Lib.hid hrg3
  clear hg3 hs3 hr hrg3 hm2
  go_loopw [7, 8] (fun o _ wr => ∃ (left : Lit → Bool) (cnt : Nat), o = .int .i64 (gN s now (doneF D left time) : Int) ∧ Hid (wr.ranges Try.prog 3 (plainElem (H := Unit) Try.prog 3) B r 25 D left cnt) ∧ Hid (Ext w wr)) (fun _ _ wr => wr.rangeLeft B r)
  case atStart => exact ⟨_, _, by rw [done_start], HR3, HX3⟩
  case round =>
    obtain ⟨left, cnt, rfl, HR, HXR⟩ := hrel
    have hrg := HR.out
    go_wp2_with (first
      | (at_next; refine wpList_next_ranges_ii _ rfl _ rfl 3 3 .i64 .i64 hlaw Try.underlying3 Try.underlying3 B r 25 _ _ _ rfl hrg ?_ ?_))
    · intro hc0 hl0
      have HZ : Hid (gN s now (doneF D left time) = T) := Lib.hid (by rw [HT.out, HD.out]; exact done_end hA hn0 hn1 hl0)
      clear hrg hl0
      go_wp2
      go_ret
      exact ⟨by rw [HZ.out]; rfl, HXR.out⟩
    · intro x c w4 cnt1 hwx hwc hlx hat hrg1 hlt hg1 hs1 hen
      have hh : Maps.has D (.int .i64 x) = true := has_true_of_atKey hat
      have hx0 : 0 ≤ x ∧ x ≤ 2000000 := by
        rw [HD.out] at hh
        rcases (dB_has s now x _).1 hh with h | ⟨k, h1, h2, h3⟩
        · omega
        · rcases endS_in hA hn0 hn1 ((k : Int) + 1) with h | h
          · exact absurd (h2.symm.trans h) h3
          · omega
      have hc : c = (orTo s now x s.jobs.length : Int) := by
        have h := hat (.lit (.int .i64 0))
        rw [HD.out, dB_at s now x hx0.1] at h
        cases h
        rfl
      have hO64 := orTo_lt hA.own now x s.jobs.length (Nat.le_refl _)
      have hP64 : gN s now (doneF D left time) < 64 := Nat.lt_of_lt_of_le (gN_lt _ _ _) (Nat.pow_le_pow_right (by decide) hN)
      have hbo : bits .or .i64 (gN s now (doneF D left time) : Int) c = ((gN s now (doneF D left time) ||| orTo s now x s.jobs.length : Nat) : Int) := by rw [hc, or_nat _ hP64 _ hO64]
      have HR4 := Lib.hid hrg1
      have HX4 : Hid (Ext w w4) := Lib.hid (HXR.out.grown hg1 HXR.out.size (fun k hk => by cases hk; exact HRL.out))
      have HLE : Hid (w4.rangeLeft B r < wr.rangeLeft B r) := Lib.hid (by rw [hrg1.left_eq, hrg.left_eq]; exact hlt)
      have HST : Hid (x ≤ time → gN s now (doneF D left time) ||| orTo s now x s.jobs.length = gN s now (doneF D (fun z => left z && !z.sameKey (.int .i64 x)) time)) := Lib.hid fun h => done_step hA.own hx0.1 h hh
      have HLT : Hid (¬ x ≤ time → gN s now (doneF D (fun z => left z && !z.sameKey (.int .i64 x)) time) = gN s now (doneF D left time)) := Lib.hid fun h => done_late h
      obtain ⟨P, hP⟩ : ∃ P, P = gN s now (doneF D left time) := ⟨_, rfl⟩
      obtain ⟨P', hP'⟩ : ∃ P', P' = gN s now (doneF D (fun z => left z && !z.sameKey (.int .i64 x)) time) := ⟨_, rfl⟩
      obtain ⟨O, hO⟩ : ∃ O, O = orTo s now x s.jobs.length := ⟨_, rfl⟩
      rw [← hP, ← hO] at hbo HST
      rw [← hP'] at HST HLT
      rw [← hP] at HLT ⊢
      have HP' := Lib.hid hP'
      clear hP hO hO64 hP64 hc hh hx0 hat hlt hg1 hs1 hrg hrg1 hwx hwc hlx hP'
      by_cases hxt : x ≤ time
      · have d1 : decide (x ≤ time) = true := decide_eq_true hxt
        have HZ : Hid (P ||| O = P') := Lib.hid (HST.out hxt)
        clear hxt
        go_wp2
        go_roundw
        case rel => exact ⟨_, cnt1, by rw [← HP'.out, ← HZ.out], HR4, HX4⟩
        case measure => exact HLE.out
      · have d1 : decide (x ≤ time) = false := decide_eq_false hxt
        have HZ : Hid (P' = P) := Lib.hid (HLT.out hxt)
        clear hxt
        go_wp2
        go_roundw
        case rel => exact ⟨_, cnt1, by rw [← HP'.out, HZ.out], HR4, HX4⟩
        case measure => exact HLE.out

end Go.Proofs.Ytgjidkhfnnghiaa
