/- Texts that the proof of A rests on, one behind the other. -/
import Derived.Test.YtkpcjdhnbjkaaaaAQ2
import Derived.Test.YtkpcjdhnbjkaaaaAQ3
import Derived.Test.YtkpcjdhnbjkaaaaChecked
import Derived.Deep.QuietTactic
import Derived.BigQuiet
import Derived.Deep.LoopGhost
import Derived.StillTailTactics
import Derived.Deep.RegionLaw
import Derived.Deep.RegionHeld3

/- Package book: its small functions. -/
namespace Go.Proofs.Ytkpcjdhnbjkaaaa
open Go.RowKit

theorem i64_and1 (n : Int) : bits .and .i64 n 1 = n % 2 := by
  have h1 : (BitVec.ofInt 64 1).toNat = 2 ^ 1 - 1 := by decide
  have key : (BitVec.ofInt 64 n &&& BitVec.ofInt 64 1).toNat = (n % ((2 ^ 64 : Nat) : Int)).toNat % 2 ^ 1 := by
    rw [BitVec.toNat_and, BitVec.toNat_ofInt, h1, Nat.and_two_pow_sub_one_eq_mod]
  show IntKind.i64.wrap ((BitVec.ofInt 64 n &&& BitVec.ofInt 64 1).toNat : Nat) = n % 2
  rw [key, IntKind.wrap_i64]
  omega

theorem isFrom_any (n lo hi : Int) (w : World) :
    Calls Try.prog 24 #[.int .i64 n, .int .i64 lo, .int .i64 hi] w fun e w' => e = .returned (.bool (inR n lo hi)) ∧ w = w' := by
  unfold inR
  by_cases h1 : lo ≤ n
  · by_cases h2 : n ≤ hi
    · have d1 : decide (lo ≤ n) = true := decide_eq_true h1
      have d2 : decide (n ≤ hi) = true := decide_eq_true h2
      rw [decide_eq_true (show lo ≤ n ∧ n ≤ hi from ⟨h1, h2⟩)]
      clear h1 h2
      go_enter Try.func24, Try.ntmps24
      go_wp2
      go_ret
      exact ⟨rfl, rfl⟩
    · have d1 : decide (lo ≤ n) = true := decide_eq_true h1
      have d2 : decide (n ≤ hi) = false := decide_eq_false h2
      rw [decide_eq_false (show ¬ (lo ≤ n ∧ n ≤ hi) from fun h => h2 h.2)]
      clear h1 h2
      go_enter Try.func24, Try.ntmps24
      go_wp2
      go_ret
      exact ⟨rfl, rfl⟩
  · have d1 : decide (lo ≤ n) = false := decide_eq_false h1
    rw [decide_eq_false (show ¬ (lo ≤ n ∧ n ≤ hi) from fun h => h1 h.1)]
    clear h1
    go_enter Try.func24, Try.ntmps24
    go_wp2
    go_ret
    exact ⟨rfl, rfl⟩

theorem isVersion_any (n : Int) (w : World) :
    Calls Try.prog 23 #[.int .i64 n] w fun e w' => e = .returned (.bool (inR n 1 9)) ∧ w = w' := by
  have HF := Lib.hid fun w' => isFrom_any n 1 9 w'
  generalize inR n 1 9 = b at *
  go_enter Try.func23, Try.ntmps23
  go_wp2_with fail
  refine (HF.out _).mono ?_
  rintro e1 w1 ⟨rfl, rfl⟩
  go_wp2
  go_ret
  exact ⟨rfl, rfl⟩

theorem has_any (set : Int) (i : Nat) (hi : i < 64) (w : World) :
    Calls Try.prog 34 #[.int .i64 set, .int .i64 (i : Int)] w fun e w' => e = .returned (.bool (hasS set i)) ∧ w = w' := by
  have h0 : (0 : Int) ≤ (i : Int) := by omega
  go_enter Try.func34, Try.ntmps34
  go_wp2
  go_ret
  exact ⟨by simp only [i64_and1]; rfl, rfl⟩

/-- What OnesCount64 reckons, of a number below 64. -/
theorem manyS_nat (m : Nat) (h : m < 64) : manyS (m : Int) = (m.testBit 0).toNat + (m.testBit 1).toNat + (m.testBit 2).toNat + (m.testBit 3).toNat + (m.testBit 4).toNat + (m.testBit 5).toNat := by
  revert m
  decide +kernel

set_option maxRecDepth 100000 in
theorem size_any (m : Nat) (h : m < 64) (w : World) :
    Calls Try.prog 43 #[.int .i64 (m : Int)] w fun e w' => e = .returned (.int .i64 (manyS (m : Int) : Int)) ∧ w = w' := by
  have hall : ∀ m : Nat, m < 64 → ∀ w : World, Calls Try.prog 48 #[.int .u64 (m : Int)] w fun e w' => e = .returned (.int .i64 (manyS (m : Int) : Int)) ∧ w = w' := by
    intro m h w
    go_enter Try.func48, Try.ntmps48
    go_wp2
    go_ret
    refine ⟨?_, rfl⟩
    refine congrArg (fun n => Ending.returned (.int .i64 n)) ?_
    clear w
    revert m
    decide +kernel
  have hall2 : ∀ W, Calls Try.prog 46 #[.int .u64 (m : Int)] W fun e w' => e = .returned (.int .i64 (manyS (m : Int) : Int)) ∧ W = w' := by
    intro W
    have HC := Lib.hid (hall m h W)
    generalize manyS (m : Int) = k at *
    go_enter Try.func46, Try.ntmps46
    go_wp2_with fail
    refine HC.out.mono ?_
    rintro e1 w1 ⟨rfl, rfl⟩
    go_wp2
    go_ret
    exact ⟨rfl, rfl⟩
  have HC := Lib.hid hall2
  clear hall hall2
  generalize manyS (m : Int) = k at *
  go_enter Try.func43, Try.ntmps43
  go_wp2_with fail
  refine (HC.out _).mono ?_
  rintro e1 w1 ⟨rfl, rfl⟩
  go_wp2
  go_ret
  exact ⟨rfl, rfl⟩

end Go.Proofs.Ytkpcjdhnbjkaaaa

/- Package book: the version that is meant, whether a node is free, a queue's drains. -/
namespace Go.Proofs.Ytkpcjdhnbjkaaaa
open Go.RowKit

theorem boxSt (vn vj : Value) (s : St) (w : World) (t : TypeId) : Ext w (w.alloc (.cells (stC vn vj s) t)) ∧ Blk (w.alloc (.cells (stC vn vj s) t)) w.heap.size t (stC vn vj s) := ⟨(Below.refl _ _).alloc (Nat.le_refl _) _, Blk.new w t _⟩

theorem Meant_any (vn vj : Value) (s : St) (w : World) :
    Calls Try.prog 21 #[stV vn vj s] w fun e w' => e = .returned (.int .i64 (meantS s)) ∧ Ext w w' := by
  obtain ⟨hx, hb⟩ := boxSt vn vj s w 27
  have HX := Lib.hid hx
  clear hx hb
  unfold stV meantS
  unfold stC at HX
  by_cases h : s.mode = 2
  · have d : (s.mode == 2) = true := by rw [h]; rfl
    rw [if_pos h]
    clear h
    go_enter Try.func21, Try.ntmps21
    go_wp2
    go_ret
    exact ⟨rfl, HX.out⟩
  · have d : (s.mode == 2) = false := by rw [beq_eq_false_iff_ne]; exact h
    rw [if_neg h]
    clear h
    go_enter Try.func21, Try.ntmps21
    go_wp2
    go_ret
    exact ⟨rfl, HX.out⟩

theorem drains_step {l : List Jb} {q : Int} {k N : Nat} {j : Jb} (hj : l[k]? = some j) (h : ((l.take k).filter fun j => decide (j.queue = q ∧ j.phase = 3)).length = N) :
    (j.queue = q ∧ j.phase = 3 → ((l.take (k + 1)).filter fun j => decide (j.queue = q ∧ j.phase = 3)).length = N + 1) ∧ (¬ (j.queue = q ∧ j.phase = 3) → ((l.take (k + 1)).filter fun j => decide (j.queue = q ∧ j.phase = 3)).length = N) := by
  rw [List.take_add_one, hj, Option.toList_some, List.filter_append, List.length_append, h]
  refine ⟨fun hp => ?_, fun hp => ?_⟩
  · rw [List.filter_cons_of_pos (by simpa using hp)]; rfl
  · rw [List.filter_cons_of_neg (by simpa using hp)]; rfl

theorem Drains_any (vn vj : Value) (s : St) (q : Int) (w : World) (hj : RdJb w vj s.jobs) :
    Calls Try.prog 27 #[stV vn vj s, .int .i64 q] w fun e w' => e = .returned (.int .i64 (drainsS s q : Int)) ∧ Ext w w' := by
  obtain ⟨hx, hb⟩ := boxSt vn vj s w 27
  unfold stV
  unfold stC at hx hb
  obtain ⟨A, c, rfl, hnc, hcm⟩ := hj.slice_
  have HJ := Lib.hid (hj.ext hx)
  have HX := Lib.hid hx
  clear hx hj
  unfold drainsS
  generalize s.jobs = l at *
  clear hb
  go_enter Try.func27, Try.ntmps27
  obtain ⟨W0, hW0⟩ : ∃ W0, W0 = w.alloc (.cells #[vn, .slice A l.length c, .int .i64 s.goal, .int .i64 s.prior, .int .i64 s.mode, .int .i64 s.term] 27) := ⟨_, rfl⟩
  rw [← hW0] at HJ HX
  go_wp2_with fail
  rw [← hW0]
  go_loopg [5, 11] l.length (fun gg n i wr => ∃ k : Nat, i = .int .i64 k ∧ n = .int .i64 ((((l.take k).filter fun j => decide (j.queue = q ∧ j.phase = 3)).length : Nat) : Int) ∧ k ≤ l.length ∧ gg = l.length - k ∧ Hid (Ext W0 wr))
  case atStart => exact ⟨0, rfl, by simp, Nat.zero_le _, by omega, Lib.hid (Ext.refl _)⟩
  case round =>
    obtain ⟨k, rfl, rfl, hk, rfl, HXr⟩ := hrel
    generalize hN : ((l.take k).filter fun j => decide (j.queue = q ∧ j.phase = 3)).length = N at *
    by_cases hlt : k < l.length
    · have d1 : decide ((k : Int) < (l.length : Int)) = true := decide_eq_true (by omega)
      have d1' : decide (k < l.length) = true := decide_eq_true hlt
      obtain ⟨b, o, rfl, hb, hc⟩ := HJ.out.get (by omega)
      obtain ⟨j, hj⟩ : ∃ j, l[k]? = some j := ⟨_, List.getElem?_eq_getElem hlt⟩
      obtain ⟨c0, c1, c2, c3, c4, c5, c6, c7, c8, c9, c10, c11⟩ := (RdJb.at hc hj).ext HXr.out hb
      clear hc
      have HX1 := Lib.hid (HXr.out.trans ((Below.refl _ wr).alloc (Nat.le_refl _) (.cells #[.int .i64 j.queue, .int .i64 j.prio, .int .i64 j.least, .int .i64 j.most, .int .i64 j.work, .int .i64 j.pin, .int .i64 j.phase, .int .i64 j.inc, .int .i64 j.nodes, .int .i64 j.since, .int .i64 j.til, .int .i64 j.epoch] 44)))
      have HN := Lib.hid (drains_step (q := q) hj hN)
      have hNl : N ≤ k := by rw [← hN]; exact Nat.le_trans (List.length_filter_le _ _) (by rw [List.length_take]; exact Nat.min_le_left _ _)
      clear hN hj
      by_cases hq : j.queue = q
      · by_cases hp : j.phase = 3
        · have e1 : (j.queue == q) = true := by rw [hq]; exact beq_self_eq_true q
          have e2 : (j.phase == 3) = true := by rw [hp]; rfl
          have hs := HN.out.1 ⟨hq, hp⟩
          have HQ := Lib.hid hs
          have hw : wrap64 ((N : Int) + 1) = ((N + 1 : Nat) : Int) := IntWalk.wrap64_in _ (by omega)
          clear hq hp hs HN
          go_wp2
          go_roundg (l.length - (k + 1))
          case measure => omega
          case rel => exact ⟨k + 1, by go_num, by rw [HQ.out]; rfl, by omega, rfl, HX1⟩
        · have e1 : (j.queue == q) = true := by rw [hq]; exact beq_self_eq_true q
          have e2 : (j.phase == 3) = false := by rw [beq_eq_false_iff_ne]; exact hp
          have HQ := Lib.hid (HN.out.2 fun h => hp h.2)
          clear hq hp HN
          go_wp2
          go_roundg (l.length - (k + 1))
          case measure => omega
          case rel => exact ⟨k + 1, by go_num, by rw [HQ.out], by omega, rfl, HX1⟩
      · have e1 : (j.queue == q) = false := by rw [beq_eq_false_iff_ne]; exact hq
        have HQ := Lib.hid (HN.out.2 fun h => hq h.1)
        clear HN
        go_wp2
        go_roundg (l.length - (k + 1))
        case measure => omega
        case rel => exact ⟨k + 1, by go_num, by rw [HQ.out], by omega, rfl, HX1⟩
    · have d1 : decide ((k : Int) < (l.length : Int)) = false := decide_eq_false (by omega)
      have d1' : decide (k < l.length) = false := decide_eq_false hlt
      obtain rfl : k = l.length := by omega
      rw [List.take_length] at hN
      have HNN := Lib.hid hN
      clear hN
      have HX1 := Lib.hid (HX.out.trans HXr.out)
      go_wp2
      go_ret
      exact ⟨by rw [HNN.out]; rfl, HX1.out⟩

end Go.Proofs.Ytkpcjdhnbjkaaaa

/- Package book: whether a fleet may be, whether a node is free, whether a job's numbers may be asked. -/
namespace Go.Proofs.Ytkpcjdhnbjkaaaa
open Go.RowKit

set_option maxRecDepth 100000 in
theorem May_any (c : Cf) (w : World) :
    Calls Try.prog 22 #[cfV c] w fun e w' => e = .returned (.bool (mayC c)) ∧ Ext w w' := by
  have HF := Lib.hid fun n lo hi w' => isFrom_any n lo hi w'
  have HX := Lib.hid (show Ext w (w.alloc (.cells #[.int .i64 c.nodes, .int .i64 c.queues, .int .i64 c.quota, .int .i64 c.wave, .int .i64 c.lease, .int .i64 c.retry, .int .i64 c.deadline, .int .i64 c.room, .int .i64 c.disk] 23)) from (Below.refl _ _).alloc (Nat.le_refl _) _)
  unfold cfV mayC
  go_enter Try.func22, Try.ntmps22
  go_wp2_with fail
  refine (HF.out _ _ _ _).mono ?_
  rintro e1 w1 ⟨rfl, rfl⟩
  cases h1 : inR c.nodes 1 6
  · go_wp2
    go_ret
    exact ⟨by rw [h1]; rfl, HX.out⟩
  go_wp2_with fail
  refine (HF.out _ _ _ _).mono ?_
  rintro e1 w1 ⟨rfl, rfl⟩
  cases h2 : inR c.queues 1 3
  · go_wp2
    go_ret
    exact ⟨by rw [h1, h2]; rfl, HX.out⟩
  go_wp2_with fail
  refine (HF.out _ _ _ _).mono ?_
  rintro e1 w1 ⟨rfl, rfl⟩
  cases h3 : inR c.quota 0 4
  · go_wp2
    go_ret
    exact ⟨by rw [h1, h2, h3]; rfl, HX.out⟩
  go_wp2_with fail
  refine (HF.out _ _ _ _).mono ?_
  rintro e1 w1 ⟨rfl, rfl⟩
  cases h4 : inR c.wave 1 6
  · go_wp2
    go_ret
    exact ⟨by rw [h1, h2, h3, h4]; rfl, HX.out⟩
  go_wp2_with fail
  refine (HF.out _ _ _ _).mono ?_
  rintro e1 w1 ⟨rfl, rfl⟩
  cases h5 : inR c.lease 2 30
  · go_wp2
    go_ret
    exact ⟨by rw [h1, h2, h3, h4, h5]; rfl, HX.out⟩
  go_wp2_with fail
  refine (HF.out _ _ _ _).mono ?_
  rintro e1 w1 ⟨rfl, rfl⟩
  cases h6 : inR c.retry 1 20
  · go_wp2
    go_ret
    exact ⟨by rw [h1, h2, h3, h4, h5, h6]; rfl, HX.out⟩
  go_wp2_with fail
  refine (HF.out _ _ _ _).mono ?_
  rintro e1 w1 ⟨rfl, rfl⟩
  cases h7 : inR c.deadline 1 60
  · go_wp2
    go_ret
    exact ⟨by rw [h1, h2, h3, h4, h5, h6, h7]; rfl, HX.out⟩
  go_wp2_with fail
  refine (HF.out _ _ _ _).mono ?_
  rintro e1 w1 ⟨rfl, rfl⟩
  cases h8 : inR c.room 0 5000
  · go_wp2
    go_ret
    exact ⟨by rw [h1, h2, h3, h4, h5, h6, h7, h8]; rfl, HX.out⟩
  go_wp2_with fail
  refine (HF.out _ _ _ _).mono ?_
  rintro e1 w1 ⟨rfl, rfl⟩
  go_wp2
  go_ret
  exact ⟨by rw [h1, h2, h3, h4, h5, h6, h7, h8]; rfl, HX.out⟩

set_option maxRecDepth 100000 in
theorem asked_any (c : Cf) (j : Jb) (w : World) (hm : mayC c = true) :
    Calls Try.prog 35 #[cfV c, jbV j] w fun e w' => e = .returned (.bool (askedJ c j)) ∧ Ext w w' := by
  have HF := Lib.hid fun n lo hi w' => isFrom_any n lo hi w'
  have HX := Lib.hid (show Ext w ((w.alloc (.cells #[.int .i64 c.nodes, .int .i64 c.queues, .int .i64 c.quota, .int .i64 c.wave, .int .i64 c.lease, .int .i64 c.retry, .int .i64 c.deadline, .int .i64 c.room, .int .i64 c.disk] 23)).alloc (.cells #[.int .i64 j.queue, .int .i64 j.prio, .int .i64 j.least, .int .i64 j.most, .int .i64 j.work, .int .i64 j.pin, .int .i64 j.phase, .int .i64 j.inc, .int .i64 j.nodes, .int .i64 j.since, .int .i64 j.til, .int .i64 j.epoch] 44))
    from ((Below.refl _ _).alloc (Nat.le_refl _) _).alloc (by simp) _)
  have hq : wrap64 (c.queues - 1) = c.queues - 1 := by
    simp only [mayC, Bool.and_eq_true, inR_iff] at hm
    exact IntWalk.wrap64_in _ (by omega)
  clear hm
  unfold cfV jbV askedJ
  go_enter Try.func35, Try.ntmps35
  go_wp2_with fail
  refine (HF.out _ _ _ _).mono ?_
  rintro e1 w1 ⟨rfl, rfl⟩
  cases h1 : inR j.queue 0 (c.queues - 1)
  · go_wp2
    go_ret
    exact ⟨by rw [h1]; rfl, HX.out⟩
  go_wp2_with fail
  refine (HF.out _ _ _ _).mono ?_
  rintro e1 w1 ⟨rfl, rfl⟩
  cases h2 : inR j.prio 0 9
  · go_wp2
    go_ret
    exact ⟨by rw [h1, h2]; rfl, HX.out⟩
  go_wp2_with fail
  refine (HF.out _ _ _ _).mono ?_
  rintro e1 w1 ⟨rfl, rfl⟩
  cases h3 : inR j.least 1 j.most
  · go_wp2
    go_ret
    exact ⟨by rw [h1, h2, h3]; rfl, HX.out⟩
  by_cases h4 : j.most ≤ c.nodes
  · have d4 : decide (j.most ≤ c.nodes) = true := decide_eq_true h4
    go_wp2_with fail
    refine (HF.out _ _ _ _).mono ?_
    rintro e1 w1 ⟨rfl, rfl⟩
    cases h5 : inR j.work 1 1000
    · go_wp2
      go_ret
      exact ⟨by rw [h1, h2, h3, d4, h5]; rfl, HX.out⟩
    go_wp2_with fail
    refine (HF.out _ _ _ _).mono ?_
    rintro e1 w1 ⟨rfl, rfl⟩
    go_wp2
    go_ret
    exact ⟨by rw [h1, h2, h3, d4, h5]; rfl, HX.out⟩
  · have d4 : decide (j.most ≤ c.nodes) = false := decide_eq_false h4
    clear h4
    go_wp2
    go_ret
    exact ⟨by rw [h1, h2, h3, d4]; rfl, HX.out⟩

end Go.Proofs.Ytkpcjdhnbjkaaaa

/- Package book: whether nodes suit a job, and whether its nodes carry it. -/
namespace Go.Proofs.Ytkpcjdhnbjkaaaa
open Go.RowKit

theorem quiet_eq {P : Program} {f : FuncId} {args : Array Value} {w : World} {n : Nat} {v : Value} (h : Calls P f args (w.drewN n) fun e w' => e = .returned v ∧ w.drewN n = w') :
    Calls P f args (w.drewN n) fun e w'' => e = .returned v ∧ ∃ m, w'' = w.drewN m := h.mono fun _ _ h => ⟨h.1, n, h.2.symm⟩

theorem has_cells {w : World} {vn : Value} {l : List Nd} (h : RdNd w vn l) : ∃ A c, vn = .slice A l.length c ∧ l.length ≤ c ∧ c ≤ 9223372036854775807 ∧ ∀ i n, l[i]? = some n → ∃ b o, A = some ⟨b, o, none⟩ ∧ b < w.heap.size ∧ NdAt w b (o + i * 5) n := by
  obtain ⟨A, c, rfl, h1, h2⟩ := h.slice_
  refine ⟨A, c, rfl, h1, h2, fun i n hi => ?_⟩
  have hl := (List.getElem?_eq_some_iff.1 hi).1
  obtain ⟨b, o, hA, hb, hc⟩ := h.get (by omega)
  exact ⟨b, o, hA, hb, RdNd.at hc hi⟩
theorem jobs_cells {w : World} {vj : Value} {l : List Jb} (h : RdJb w vj l) : ∃ A c, vj = .slice A l.length c ∧ l.length ≤ c ∧ c ≤ 9223372036854775807 ∧ ∀ i n, l[i]? = some n → ∃ b o, A = some ⟨b, o, none⟩ ∧ b < w.heap.size ∧ JbAt w b (o + i * 12) n := by
  obtain ⟨A, c, rfl, h1, h2⟩ := h.slice_
  refine ⟨A, c, rfl, h1, h2, fun i n hi => ?_⟩
  have hl := (List.getElem?_eq_some_iff.1 hi).1
  obtain ⟨b, o, hA, hb, hc⟩ := h.get (by omega)
  exact ⟨b, o, hA, hb, RdJb.at hc hi⟩

/-- What the program knows of the version behind k nodes. -/
structure VerS (l : List Nd) (pin set : Int) (k : Nat) (v : Int) : Prop where
  hp : pin ≠ 0 → v = pin
  none_ : v = 0 → ∀ i n, i < k → l[i]? = some n → hasS set i = false
  all : v ≠ 0 → ∀ i n, i < k → l[i]? = some n → hasS set i = true → n.version = v
  one : v ≠ 0 → pin = 0 → ∃ i n, i < k ∧ l[i]? = some n ∧ hasS set i = true ∧ n.version = v
theorem VerS.zero (l : List Nd) (pin set : Int) : VerS l pin set 0 pin := ⟨fun _ => rfl, fun _ i _ h => absurd h (Nat.not_lt_zero i), fun _ i _ h => absurd h (Nat.not_lt_zero i), fun h h0 => absurd h0 h⟩
theorem VerS.skip {l : List Nd} {pin set v : Int} {k : Nat} (h : VerS l pin set k v) (hs : hasS set k = false) : VerS l pin set (k + 1) v := by
  refine ⟨h.hp, fun hv i n hi hn => ?_, fun hv i n hi hn hh => ?_, fun hv hp => ?_⟩
  · rcases Nat.lt_or_ge i k with h' | h'
    · exact h.none_ hv i n h' hn
    · have : i = k := by omega
      subst this
      exact hs
  · rcases Nat.lt_or_ge i k with h' | h'
    · exact h.all hv i n h' hn hh
    · have : i = k := by omega
      subst this
      rw [hs] at hh
      cases hh
  · obtain ⟨i, n, h1, h2⟩ := h.one hv hp
    exact ⟨i, n, by omega, h2⟩
theorem VerS.first {l : List Nd} {pin set : Int} {k : Nat} {n : Nd} (h : VerS l pin set k 0) (hn : l[k]? = some n) (hs : hasS set k = true) (hp : pin = 0) (hz : n.version ≠ 0) : VerS l pin set (k + 1) n.version := by
  refine ⟨fun h' => absurd hp h', fun hv i m hi hm => ?_, fun hv i m hi hm hh => ?_, fun hv _ => ⟨k, n, by omega, hn, hs, rfl⟩⟩
  · exact absurd hv hz
  · rcases Nat.lt_or_ge i k with h' | h'
    · rw [h.none_ rfl i m h' hm] at hh
      cases hh
    · have : i = k := by omega
      subst this
      rw [hn] at hm
      cases hm
      rfl
theorem VerS.next {l : List Nd} {pin set v : Int} {k : Nat} {n : Nd} (h : VerS l pin set k v) (hn : l[k]? = some n) (hs : hasS set k = true) (hv : v ≠ 0) (he : n.version = v) : VerS l pin set (k + 1) v := by
  refine ⟨h.hp, fun h0 => absurd h0 hv, fun _ i m hi hm hh => ?_, fun _ hp => ?_⟩
  · rcases Nat.lt_or_ge i k with h' | h'
    · exact h.all hv i m h' hm hh
    · have : i = k := by omega
      subst this
      rw [hn] at hm
      cases hm
      exact he
  · obtain ⟨i, m, h1, h2⟩ := h.one hv hp
    exact ⟨i, m, by omega, h2⟩
/-- A node of another version. -/
theorem VerS.wrong {s : St} {j : Jb} {set v : Int} {k : Nat} {n : Nd} (h : VerS s.nodes j.pin set k v) (hn : s.nodes[k]? = some n) (hs : hasS set k = true) (hv : v ≠ 0) (he : n.version ≠ v) : ¬ FitsP s j set := by
  intro hf
  by_cases hp : j.pin = 0
  · obtain ⟨i, m, _, h2, h3, h4⟩ := h.one hv hp
    exact he ((hf.one k n i m hn hs h2 h3).trans h4)
  · exact he ((hf.pin k n hn hs hp).trans (h.hp hp).symm)
theorem VerS.fits {s : St} {j : Jb} {set v : Int} (h : VerS s.nodes j.pin set s.nodes.length v) (h0 : 0 ≤ set) (h1 : set < 2 ^ s.nodes.length) (h2 : inR (manyS set) j.least j.most = true) : FitsP s j set := by
  have h3 := inR_iff.1 h2
  refine ⟨h0, h1, h3.1, h3.2, fun i n hi hh hp => ?_, fun i n k m hi hh hk hm => ?_⟩
  · have hv := h.hp hp
    rw [← hv] at hp ⊢
    exact h.all hp i n (List.getElem?_eq_some_iff.1 hi).1 hi hh
  · by_cases hv : v = 0
    · rw [h.none_ hv i n (List.getElem?_eq_some_iff.1 hi).1 hi] at hh
      cases hh
    · rw [h.all hv i n (List.getElem?_eq_some_iff.1 hi).1 hi hh, h.all hv k m (List.getElem?_eq_some_iff.1 hk).1 hk hm]

theorem shr_zero {set : Int} {n : Nat} : set / 2 ^ n = 0 ↔ 0 ≤ set ∧ set < 2 ^ n := by
  have hp : (0 : Int) < 2 ^ n := Int.pow_pos (by decide)
  constructor
  · intro h
    refine ⟨?_, ?_⟩
    · rcases Int.lt_or_le set 0 with h1 | h1
      · have := Int.ediv_neg_of_neg_of_pos h1 hp
        omega
      · exact h1
    · have := Int.lt_ediv_add_one_mul_self set hp
      rw [h] at this
      omega
  · intro h
    exact Int.ediv_eq_zero_of_lt h.1 h.2

set_option maxRecDepth 100000 in
set_option maxHeartbeats 4000000 in
theorem suits_any (vn vj : Value) (s : St) (j : Jb) (set : Int) (w : World) (hr : RdNd w vn s.nodes) (hn : s.nodes.length ≤ 6) (hver : ∀ (i : Nat) (n : Nd), s.nodes[i]? = some n → 1 ≤ n.version) :
    Calls Try.prog 36 #[stV vn vj s, jbV j, .int .i64 set] w fun e w' => ∃ b, e = .returned (.bool b) ∧ (b = true ↔ FitsP s j set) ∧ Ext w w' := by
  obtain ⟨A, c, rfl, hnc, hcm, hcell⟩ := has_cells hr
  have HC := Lib.hid hcell
  have HV := Lib.hid hver
  have hx : Ext w ((w.alloc (.cells #[.slice A s.nodes.length c, vj, .int .i64 s.goal, .int .i64 s.prior, .int .i64 s.mode, .int .i64 s.term] 27)).alloc (.cells #[.int .i64 j.queue, .int .i64 j.prio, .int .i64 j.least, .int .i64 j.most, .int .i64 j.work, .int .i64 j.pin, .int .i64 j.phase, .int .i64 j.inc, .int .i64 j.nodes, .int .i64 j.since, .int .i64 j.til, .int .i64 j.epoch] 44)) :=
    ((Below.refl _ _).alloc (Nat.le_refl _) _).alloc (by simp) _
  have HX := Lib.hid hx
  clear hr hcell hver hx
  unfold stV jbV
  by_cases h1 : 0 ≤ set ∧ set < 2 ^ s.nodes.length
  · obtain ⟨m, rfl⟩ : ∃ m : Nat, set = (m : Int) := ⟨set.toNat, by omega⟩
    have hm : m < 64 := by
      have h2 : 2 ^ s.nodes.length ≤ 2 ^ 6 := Nat.pow_le_pow_right (by decide) hn
      have h3 : ((2 ^ s.nodes.length : Nat) : Int) = (2 : Int) ^ s.nodes.length := by simp
      omega
    have HSZ := Lib.hid fun w' => size_any m hm w'
    have HF := Lib.hid fun n lo hi w' => isFrom_any n lo hi w'
    have HH := Lib.hid fun i h w' => has_any (m : Int) i h w'
    have hz : (m : Int) / 2 ^ s.nodes.length = 0 := shr_zero.2 h1
    have hs0 : (0 : Int) ≤ (s.nodes.length : Int) := by omega
    have hs1 : decide ((s.nodes.length : Int) < 0) = false := decide_eq_false (by omega)
    have H1 := Lib.hid h1
    clear h1
    cases h2 : inR (manyS (m : Int)) j.least j.most
    · have HNO : Hid (¬ FitsP s j (m : Int)) := Lib.hid fun hf => by
        have := inR_iff.2 ⟨hf.least, hf.most⟩
        rw [h2] at this
        cases this
      go_enter Try.func36, Try.ntmps36
      go_wp2_with fail
      go_quiet (first | (go_at_call 43; exact quiet_eq (HSZ.out _)) | (go_at_call 24; exact quiet_eq (HF.out _ _ _ _)))
      go_wp2
      go_ret
      exact ⟨false, rfl, ⟨(fun h => by cases h), fun h => absurd h HNO.out⟩, Below.drewN' HX.out _⟩
    · have HY : Hid (∀ v, VerS s.nodes j.pin (m : Int) s.nodes.length v → FitsP s j (m : Int)) := Lib.hid fun v hv => hv.fits H1.out.1 H1.out.2 h2
      have HN : Hid (∀ k n v, VerS s.nodes j.pin (m : Int) k v → s.nodes[k]? = some n → hasS (m : Int) k = true → v ≠ 0 → n.version ≠ v → ¬ FitsP s j (m : Int)) := Lib.hid fun k n v hv hn hs h0 he => hv.wrong hn hs h0 he
      have HNN := Lib.hid hn
      go_enter Try.func36, Try.ntmps36
      go_wp2_with fail
      go_quiet (first | (go_at_call 43; exact quiet_eq (HSZ.out _)) | (go_at_call 24; exact quiet_eq (HF.out _ _ _ _)))
      clear hz h2 hs0 hs1
      have HX2 := Lib.hid (Below.drewN' HX.out nq)
      clear HX
      go_wp2_with fail
      go_loopg [7, 31] s.nodes.length (fun gg v i wr => ∃ (k : Nat) (z : Int), i = .int .i64 k ∧ v = .int .i64 z ∧ k ≤ s.nodes.length ∧ gg = s.nodes.length - k ∧ Hid (Ext w wr ∧ VerS s.nodes j.pin (m : Int) k z))
      case atStart => exact ⟨0, j.pin, rfl, rfl, Nat.zero_le _, by omega, Lib.hid ⟨HX2.out, VerS.zero _ _ _⟩⟩
      case round =>
        obtain ⟨k, z, rfl, rfl, hk, rfl, HR⟩ := hrel
        by_cases hlt : k < s.nodes.length
        · have d1 : decide ((k : Int) < (s.nodes.length : Int)) = true := decide_eq_true (by omega)
          have d1' : decide (k < s.nodes.length) = true := decide_eq_true hlt
          obtain ⟨n, hnk⟩ : ∃ n, s.nodes[k]? = some n := ⟨_, List.getElem?_eq_getElem hlt⟩
          obtain ⟨b, o, rfl, hb, hat⟩ := HC.out k n hnk
          obtain ⟨c0, c1, c2, c3, c4⟩ := hat.ext HR.out.1 hb
          have HX1 := Lib.hid (HR.out.1.trans ((Below.refl _ wr).alloc (Nat.le_refl _) (.cells #[.bool n.up, .bool n.cordon, .bool n.moving, .int .i64 n.version, .int .i64 n.job] 46)))
          have hk64 : k < 64 := by omega
          have HV1 := Lib.hid (HV.out k n hnk)
          have HNK := Lib.hid hnk
          have HLT := Lib.hid hlt
          clear hnk hb
          go_wp2_with fail
          refine (HH.out k hk64 _).mono ?_
          rintro e1 w1 ⟨rfl, rfl⟩
          cases hh : hasS (m : Int) k
          · go_wp2
            go_roundg (s.nodes.length - (k + 1))
            case measure => have := HLT.out; omega
            case rel => exact ⟨k + 1, z, by go_num, rfl, HLT.out, rfl, Lib.hid ⟨HX1.out, HR.out.2.skip hh⟩⟩
          · have HHH := Lib.hid hh
            by_cases hz0 : z = 0
            · subst hz0
              have HP : Hid (j.pin = 0) := Lib.hid (Classical.byContradiction fun h => h (HR.out.2.hp h).symm)
              have hvv : (n.version == n.version) = true := beq_self_eq_true _
              go_wp2
              go_roundg (s.nodes.length - (k + 1))
              case measure => have := HLT.out; omega
              case rel => exact ⟨k + 1, n.version, by go_num, rfl, HLT.out, rfl, Lib.hid ⟨HX1.out, HR.out.2.first HNK.out HHH.out HP.out (by have := HV1.out; omega)⟩⟩
            · have HZ := Lib.hid hz0
              have hz1 : (z == 0) = false := by rw [beq_eq_false_iff_ne]; exact hz0
              clear hz0
              by_cases hv : n.version = z
              · have HE := Lib.hid hv
                have hv1 : (n.version == z) = true := by rw [hv]; exact beq_self_eq_true _
                clear hv
                go_wp2
                go_roundg (s.nodes.length - (k + 1))
                case measure => have := HLT.out; omega
                case rel => exact ⟨k + 1, z, by go_num, rfl, HLT.out, rfl, Lib.hid ⟨HX1.out, HR.out.2.next HNK.out HHH.out HZ.out HE.out⟩⟩
              · have HE := Lib.hid (HN.out k n z HR.out.2 HNK.out hh HZ.out hv)
                have hv1 : (n.version == z) = false := by rw [beq_eq_false_iff_ne]; exact hv
                clear hv
                go_wp2
                go_ret
                exact ⟨false, rfl, ⟨(fun h => by cases h), fun h => absurd h HE.out⟩, HX1.out⟩
        · have d1 : decide ((k : Int) < (s.nodes.length : Int)) = false := decide_eq_false (by omega)
          have d1' : decide (k < s.nodes.length) = false := decide_eq_false hlt
          obtain rfl : k = s.nodes.length := by omega
          have HE := Lib.hid (HY.out z HR.out.2)
          go_wp2
          go_ret
          exact ⟨true, rfl, ⟨fun _ => HE.out, fun _ => rfl⟩, HR.out.1⟩
  · have hz : (set / 2 ^ s.nodes.length == 0) = false := by
      rw [beq_eq_false_iff_ne]
      exact fun h => h1 (shr_zero.1 h)
    have hz2 : (set / 2 ^ s.nodes.length != 0) = true := by rw [bne, hz]; rfl
    have HNO : Hid (¬ FitsP s j set) := Lib.hid fun hf => h1 ⟨hf.low, hf.high⟩
    clear h1
    go_enter Try.func36, Try.ntmps36
    go_wp2_with fail
    have hs0 : (0 : Int) ≤ (s.nodes.length : Int) := by omega
    go_quiet (fail)
    go_wp2
    go_ret
    exact ⟨false, rfl, ⟨(fun h => by cases h), fun h => absurd h HNO.out⟩, Below.drewN' HX.out _⟩

/-! ### Its nodes carry it -/
set_option maxRecDepth 100000 in
set_option maxHeartbeats 4000000 in
theorem carried_any (vn vj : Value) (s : St) (k : Nat) (j : Jb) (w : World) (hr : RdNd w vn s.nodes) (hrj : RdJb w vj s.jobs) (hj : s.jobs[k]? = some j) (hn : s.nodes.length ≤ 6) (_hjl : s.jobs.length ≤ 24) :
    Calls Try.prog 37 #[stV vn vj s, .int .i64 ((k : Int) + 1)] w fun e w' => ∃ b, e = .returned (.bool b) ∧ (b = true ↔ CarriedL s k j) ∧ Ext w w' := by
  obtain ⟨A, c, rfl, hnc, hcm, hcell⟩ := has_cells hr
  obtain ⟨A2, c2, rfl, hnc2, hcm2, hcell2⟩ := jobs_cells hrj
  obtain ⟨b2, o2, rfl, hb2, hat2⟩ := hcell2 k j hj
  have HC := Lib.hid hcell
  have hx : Ext w (w.alloc (.cells #[.slice A s.nodes.length c, .slice (some ⟨b2, o2, none⟩) s.jobs.length c2, .int .i64 s.goal, .int .i64 s.prior, .int .i64 s.mode, .int .i64 s.term] 27)) := (Below.refl _ _).alloc (Nat.le_refl _) _
  have hbk := Blk.new w 27 #[.slice A s.nodes.length c, .slice (some ⟨b2, o2, none⟩) s.jobs.length c2, .int .i64 s.goal, .int .i64 s.prior, .int .i64 s.mode, .int .i64 s.term]
  obtain ⟨W1, hW1⟩ : ∃ W1, W1 = (w.alloc (.cells #[.slice A s.nodes.length c, .slice (some ⟨b2, o2, none⟩) s.jobs.length c2, .int .i64 s.goal, .int .i64 s.prior, .int .i64 s.mode, .int .i64 s.term] 27)) := ⟨_, rfl⟩
  rw [← hW1] at hx hbk
  have HX := Lib.hid hx
  have HBK := Lib.hid hbk
  have HH := Lib.hid fun i h w' => has_any j.nodes i h w'
  have hkl := (List.getElem?_eq_some_iff.1 hj).1
  have HAT := Lib.hid hat2
  have hw1 : wrap64 ((k : Int) + 1 - 1) = (k : Int) := by rw [IntWalk.wrap64_in _ (by omega)]; omega
  have HB2 := Lib.hid hb2
  clear hr hrj hcell hcell2 hx hbk hj hat2 hb2
  unfold stV
  go_enter Try.func37, Try.ntmps37
  go_wp2_with fail
  rw [← hW1]
  clear hW1
  go_loopg [10] s.nodes.length (fun gg i wr => ∃ (q : Nat), i = .int .i64 q ∧ q ≤ s.nodes.length ∧ gg = s.nodes.length - q ∧ Hid (Ext W1 wr ∧ ∀ i n, i < q → s.nodes[i]? = some n → hasS j.nodes i = true → n.up = true ∧ n.moving = false ∧ n.job = (k : Int) + 1))
  case atStart => exact ⟨0, rfl, Nat.zero_le _, by omega, Lib.hid ⟨Ext.refl _, fun i n h => absurd h (Nat.not_lt_zero i)⟩⟩
  case round =>
    obtain ⟨q, rfl, hq, rfl, HR⟩ := hrel
    by_cases hlt : q < s.nodes.length
    · have d1 : decide ((q : Int) < (s.nodes.length : Int)) = true := decide_eq_true (by omega)
      have d1' : decide (q < s.nodes.length) = true := decide_eq_true hlt
      obtain ⟨n, hnk⟩ : ∃ n, s.nodes[q]? = some n := ⟨_, List.getElem?_eq_getElem hlt⟩
      obtain ⟨b, o, rfl, hb, hat⟩ := HC.out q n hnk
      obtain ⟨c0, c1, c2_, c3, c4⟩ := hat.ext (HX.out.trans HR.out.1) hb
      have c8 := (HAT.out.ext (HX.out.trans HR.out.1) HB2.out).c8
      have s0 : wr.cell? ⟨w.heap.size, 1, none⟩ = some (.slice (some ⟨b2, o2, none⟩) s.jobs.length c2) := (HBK.out.ext HR.out.1).cell 1
      have hl0 : w.heap.size < wr.heap.size := (HBK.out.ext HR.out.1).lt
      have hl2 : b2 < wr.heap.size := Nat.lt_of_lt_of_le HB2.out (HX.out.trans HR.out.1).size
      have HX1 := Lib.hid fun cs => HR.out.1.trans ((Below.refl _ wr).alloc (Nat.le_refl _) (.cells cs 46))
      have hk64 : q < 64 := by omega
      have HNK := Lib.hid hnk
      have HLT := Lib.hid hlt
      clear hnk hb hat
      go_wp2_with fail
      refine (HH.out q hk64 _).mono ?_
      rintro e1 w1 ⟨rfl, rfl⟩
      have HXw := Lib.hid fun cs => HX.out.trans (HX1.out cs)
      have HSKIP : Hid (hasS j.nodes q = false ∨ (n.up = true ∧ n.moving = false ∧ n.job = (k : Int) + 1) → (∀ i n, i < q + 1 → s.nodes[i]? = some n → hasS j.nodes i = true → n.up = true ∧ n.moving = false ∧ n.job = (k : Int) + 1)) := Lib.hid fun ho i m hi hm hh => by
        rcases Nat.lt_or_ge i q with h' | h'
        · exact HR.out.2 i m h' hm hh
        · obtain rfl : i = q := by omega
          rw [HNK.out] at hm
          cases hm
          rcases ho with ho | ho
          · rw [ho] at hh
            cases hh
          · exact ho
      have HNO : Hid (¬ (n.up = true ∧ n.moving = false ∧ n.job = (k : Int) + 1) → hasS j.nodes q = true → ¬ CarriedL s k j) := Lib.hid fun h hh hc => h (hc q n HNK.out hh)
      cases hh : hasS j.nodes q
      · go_wp2
        go_roundg (s.nodes.length - (q + 1))
        case measure => have := HLT.out; omega
        case rel => exact ⟨q + 1, by go_num, HLT.out, rfl, Lib.hid ⟨HX1.out _, HSKIP.out (.inl hh)⟩⟩
      · have HHH := Lib.hid hh
        cases hup : n.up
        · go_wp2
          go_ret
          exact ⟨false, rfl, ⟨(fun h => by cases h), fun h => absurd h (HNO.out (fun h => by rw [hup] at h; cases h.1) HHH.out)⟩, HXw.out _⟩
        cases hmv : n.moving
        · by_cases hjb : n.job = (k : Int) + 1
          · have e1 : (n.job == (k : Int) + 1) = true := by rw [hjb]; exact beq_self_eq_true _
            have HJ := Lib.hid hjb
            clear hjb
            go_wp2
            go_roundg (s.nodes.length - (q + 1))
            case measure => have := HLT.out; omega
            case rel => exact ⟨q + 1, by go_num, HLT.out, rfl, Lib.hid ⟨HX1.out _, HSKIP.out (.inr ⟨hup, hmv, HJ.out⟩)⟩⟩
          · have e1 : (n.job == (k : Int) + 1) = false := by rw [beq_eq_false_iff_ne]; exact hjb
            have HJ := Lib.hid hjb
            clear hjb
            go_wp2
            go_ret
            exact ⟨false, rfl, ⟨(fun h => by cases h), fun h => absurd h (HNO.out (fun h => HJ.out h.2.2) HHH.out)⟩, HXw.out _⟩
        · go_wp2
          go_ret
          exact ⟨false, rfl, ⟨(fun h => by cases h), fun h => absurd h (HNO.out (fun h => by rw [hmv] at h; cases h.2.1) HHH.out)⟩, HXw.out _⟩
    · have d1 : decide ((q : Int) < (s.nodes.length : Int)) = false := decide_eq_false (by omega)
      have d1' : decide (q < s.nodes.length) = false := decide_eq_false hlt
      obtain rfl : q = s.nodes.length := by omega
      have HE : Hid (CarriedL s k j) := Lib.hid fun i n hi hh => HR.out.2 i n (List.getElem?_eq_some_iff.1 hi).1 hi hh
      have HX1 := Lib.hid (HX.out.trans HR.out.1)
      go_wp2
      go_ret
      exact ⟨true, rfl, ⟨fun _ => HE.out, fun _ => rfl⟩, HX1.out⟩

end Go.Proofs.Ytkpcjdhnbjkaaaa

/- Measures of loops that count up: no sum behind wrap64 in sight of the kernel. No program is named here. -/
namespace Go.Proofs.Ytkpcjdhnbjkaaaa
open Go.RowKit

theorem measQ {N q : Nat} (h : q < N) : N - (intOf (.int .i64 ((q : Int) + 1))).toNat < N - (intOf (.int .i64 (q : Int))).toNat := by
  simp [intOf]
  omega
theorem measZ {N : Nat} {z : Int} (h0 : 0 ≤ z) (h : z < (N : Int)) : N - (intOf (.int .i64 (z + 1))).toNat < N - (intOf (.int .i64 z)).toNat := by
  simp [intOf]
  omega
theorem Blk.six {w : World} {g : Nat} {t : TypeId} {x0 x1 x2 x3 x4 x5 : Value} (h : Blk w g t #[x0, x1, x2, x3, x4, x5]) : w.cell? ⟨g, 0, none⟩ = some x0 ∧ w.cell? ⟨g, 1, none⟩ = some x1 ∧ w.cell? ⟨g, 2, none⟩ = some x2 ∧ w.cell? ⟨g, 3, none⟩ = some x3 ∧ w.cell? ⟨g, 4, none⟩ = some x4 ∧ w.cell? ⟨g, 5, none⟩ = some x5 := ⟨h.cell 0, h.cell 1, h.cell 2, h.cell 3, h.cell 4, h.cell 5⟩

end Go.Proofs.Ytkpcjdhnbjkaaaa

/- Layer 17, plain: jobs that there are; all is done; the first op; blocks of seven and nine cells. No program is named here. -/
namespace Go.Proofs.Ytkpcjdhnbjkaaaa
open Go.RowKit

/-- Nodes' jobs are jobs that there are. -/
def OkJ (s : St) : Prop := ∀ (i : Nat) (n : Nd), s.nodes[i]? = some n → 0 ≤ n.job ∧ n.job ≤ (s.jobs.length : Int)
theorem OkJ.of_right {c : Cf} {s : St} (h : RightP c s) : OkJ s := fun i n hi => ⟨(h.node i n hi).j0, (h.node i n hi).jl⟩
theorem aloneI_out {s : St} {i : Int} (h : i < 0 ∨ (s.nodes.length : Int) ≤ i) : aloneI s i = false := by
  unfold aloneI
  by_cases h0 : i < 0
  · rw [if_pos h0]
  · rw [if_neg h0, List.getElem?_eq_none (by omega)]
theorem aloneN_no {s : St} {n : Nd} (h : n.job = 0) : aloneN s n = false := by
  unfold aloneN jobOf
  rw [if_neg (by omega)]
theorem doneW_no {s : St} {n : Nd} {i : Nat} (hi : s.nodes[i]? = some n) (h : toDo s n = true) : doneW s = false := by
  unfold doneW
  rw [List.all_eq_false]
  exact ⟨n, List.mem_of_getElem? hi, by rw [h]; simp⟩
theorem doneW_yes {s : St} (h : ∀ (i : Nat) n, i < s.nodes.length → s.nodes[i]? = some n → toDo s n = false) : doneW s = true := by
  unfold doneW
  rw [List.all_eq_true]
  intro n hn
  obtain ⟨i, hi⟩ := List.mem_iff_getElem?.1 hn
  rw [h i n (List.getElem?_eq_some_iff.1 hi).1 hi]
  rfl
theorem Blk.nine {w : World} {g : Nat} {t : TypeId} {x0 x1 x2 x3 x4 x5 x6 x7 x8 : Value} (h : Blk w g t #[x0, x1, x2, x3, x4, x5, x6, x7, x8]) : w.cell? ⟨g, 0, none⟩ = some x0 ∧ w.cell? ⟨g, 1, none⟩ = some x1 ∧ w.cell? ⟨g, 2, none⟩ = some x2 ∧ w.cell? ⟨g, 3, none⟩ = some x3 ∧ w.cell? ⟨g, 4, none⟩ = some x4 ∧ w.cell? ⟨g, 5, none⟩ = some x5 ∧ w.cell? ⟨g, 6, none⟩ = some x6 ∧ w.cell? ⟨g, 7, none⟩ = some x7 ∧ w.cell? ⟨g, 8, none⟩ = some x8 := ⟨h.cell 0, h.cell 1, h.cell 2, h.cell 3, h.cell 4, h.cell 5, h.cell 6, h.cell 7, h.cell 8⟩
theorem Blk.seven {w : World} {g : Nat} {t : TypeId} {x0 x1 x2 x3 x4 x5 x6 : Value} (h : Blk w g t #[x0, x1, x2, x3, x4, x5, x6]) : w.cell? ⟨g, 0, none⟩ = some x0 ∧ w.cell? ⟨g, 1, none⟩ = some x1 ∧ w.cell? ⟨g, 2, none⟩ = some x2 ∧ w.cell? ⟨g, 3, none⟩ = some x3 ∧ w.cell? ⟨g, 4, none⟩ = some x4 ∧ w.cell? ⟨g, 5, none⟩ = some x5 ∧ w.cell? ⟨g, 6, none⟩ = some x6 := ⟨h.cell 0, h.cell 1, h.cell 2, h.cell 3, h.cell 4, h.cell 5, h.cell 6⟩
theorem fromO_hit2 {l : List Nd} {f : Nat → Nd → Option OpN} {o : OpN} {k : Nat} {n : Nd} (hk : k < l.length) (hn : l[k]? = some n) (h : f k n = some o) : fromO l f (l.length - k) k = some o := by
  rw [show l.length - k = (l.length - (k + 1)) + 1 by omega]
  exact fromO_hit hn h
theorem fromO_miss2 {l : List Nd} {f : Nat → Nd → Option OpN} {k : Nat} {n : Nd} (hk : k < l.length) (hn : l[k]? = some n) (h : f k n = none) : fromO l f (l.length - k) k = fromO l f (l.length - (k + 1)) (k + 1) := by
  rw [show l.length - k = (l.length - (k + 1)) + 1 by omega]
  exact fromO_miss hn h
theorem fromO_end {l : List Nd} {f : Nat → Nd → Option OpN} {k : Nat} (hk : ¬ k < l.length) : fromO l f (l.length - k) k = none := by
  rw [show l.length - k = 0 by omega]
  rfl
theorem nextW_at {c : Cf} {s : St} {now : Int} (hm : s.mode ≠ 1) {L1 L2 L3 : Option OpN} (h1 : L1 = firstO s.nodes (way1 s)) (h2 : L2 = firstO s.nodes (way2 c s now)) (h3 : L3 = firstO s.nodes (way3 c s)) :
    (∀ o, L1 = some o → nextW c s now = some o) ∧ (L1 = none → ∀ o, L2 = some o → nextW c s now = some o) ∧ (L1 = none → L2 = none → nextW c s now = L3) := by
  unfold nextW
  rw [if_neg hm, ← h1, ← h2, ← h3]
  refine ⟨fun o h => by rw [h], fun h o h' => by rw [h, h'], fun h h' => by rw [h, h']⟩

end Go.Proofs.Ytkpcjdhnbjkaaaa

/- Package book: whether a node, and a job, may be as they are. -/
namespace Go.Proofs.Ytkpcjdhnbjkaaaa
open Go.RowKit

theorem ext2 (w : World) (t1 t2 : TypeId) (c1 c2 : Array Value) : Ext w ((w.alloc (.cells c1 t1)).alloc (.cells c2 t2)) := ((Below.refl _ _).alloc (Nat.le_refl _) _).alloc (by simp) _
theorem ext3 (w : World) (t1 t2 t3 : TypeId) (c1 c2 c3 : Array Value) : Ext w (((w.alloc (.cells c1 t1)).alloc (.cells c2 t2)).alloc (.cells c3 t3)) := (ext2 w t1 t2 c1 c2).alloc (by simp; omega) _

set_option maxRecDepth 100000 in
set_option maxHeartbeats 4000000 in
theorem nodeMay_any (vn vj : Value) (s : St) (i : Nat) (n : Nd) (w : World) (hr : RdNd w vn s.nodes) (hrj : RdJb w vj s.jobs) (hi : s.nodes[i]? = some n) (hn : s.nodes.length ≤ 6) (_hjl : s.jobs.length ≤ 24) :
    Calls Try.prog 25 #[stV vn vj s, .int .i64 (i : Int)] w fun e w' => ∃ b, e = .returned (.bool b) ∧ (b = true ↔ NodeL s i n) ∧ Ext w w' := by
  obtain ⟨A, c, rfl, hnc, hcm, hcell⟩ := has_cells hr
  obtain ⟨A2, c2, rfl, hnc2, hcm2, hcell2⟩ := jobs_cells hrj
  obtain ⟨b, o, rfl, hb, hat⟩ := hcell i n hi
  have hil := (List.getElem?_eq_some_iff.1 hi).1
  have hi64 : i < 64 := by omega
  have HX := Lib.hid fun c1 c2 => ext2 w 27 46 c1 c2
  have HC2 := Lib.hid hcell2
  have HF := Lib.hid fun n lo hi w' => isFrom_any n lo hi w'
  have HV := Lib.hid fun n w' => isVersion_any n w'
  have HH := Lib.hid fun set w' => has_any set i hi64 w'
  have hx1 : ∀ cs, Ext w (w.alloc (.cells cs 27)) := fun cs => (Below.refl _ _).alloc (Nat.le_refl _) _
  obtain ⟨c0, c1, c2_, c3, c4⟩ := hat.ext (hx1 #[.slice (some ⟨b, o, none⟩) s.nodes.length c, .slice A2 s.jobs.length c2, .int .i64 s.goal, .int .i64 s.prior, .int .i64 s.mode, .int .i64 s.term]) hb
  have NL : NodeL s i n ↔ ((1 ≤ n.version ∧ n.version ≤ 9) ∧ (n.moving = true → n.up = true ∧ n.cordon = true ∧ n.job = 0) ∧ (n.job = 0 ∨ ∃ k j, n.job = (k : Nat) + 1 ∧ s.jobs[k]? = some j ∧ hasS j.nodes i = true)) := Iff.rfl
  have HNL := Lib.hid NL
  clear hr hrj hcell hcell2 hat hi hb NL hx1
  unfold stV
  go_enter Try.func25, Try.ntmps25
  go_wp2_with fail
  refine (HV.out _ _).mono ?_
  rintro e1 w1 ⟨rfl, rfl⟩
  cases hv : inR n.version 1 9
  · have HNO : Hid (¬ NodeL s i n) := Lib.hid fun h => by
      have := inR_iff.2 (HNL.out.1 h).1
      rw [hv] at this
      cases this
    go_wp2
    go_ret
    exact ⟨false, rfl, ⟨(fun h => by cases h), fun h => absurd h HNO.out⟩, HX.out _ _⟩
  have HA := Lib.hid (inR_iff.1 hv)
  cases hmv : n.moving
  · by_cases hj : n.job = 0
    · have HYES : Hid (NodeL s i n) := Lib.hid (HNL.out.2 ⟨HA.out, (fun h => by rw [hmv] at h; cases h), .inl hj⟩)
      have e1 : (n.job == 0) = true := by rw [hj]; rfl
      clear hj
      go_wp2
      go_ret
      exact ⟨true, rfl, ⟨fun _ => HYES.out, fun _ => rfl⟩, HX.out _ _⟩
    · have e1 : (n.job == 0) = false := by rw [beq_eq_false_iff_ne]; exact hj
      have HJ := Lib.hid hj
      clear hj
      go_wp2_with fail
      refine (HF.out _ _ _ _).mono ?_
      rintro e1 w1 ⟨rfl, rfl⟩
      cases hf : inR n.job 1 (s.jobs.length : Int)
      · have HNO : Hid (¬ NodeL s i n) := Lib.hid fun h => by
          rcases (HNL.out.1 h).2.2 with h1 | ⟨k, j, h1, h2, _⟩
          · exact HJ.out h1
          · have := (List.getElem?_eq_some_iff.1 h2).1
            have h3 : inR n.job 1 (s.jobs.length : Int) = true := inR_iff.2 ⟨by omega, by omega⟩
            rw [hf] at h3
            cases h3
        go_wp2
        go_ret
        exact ⟨false, rfl, ⟨(fun h => by cases h), fun h => absurd h HNO.out⟩, HX.out _ _⟩
      · have hf2 := inR_iff.1 hf
        obtain ⟨k, hk⟩ : ∃ k : Nat, n.job = (k : Int) + 1 := ⟨(n.job - 1).toNat, by omega⟩
        have hkl : k < s.jobs.length := by omega
        obtain ⟨j, hj⟩ : ∃ j, s.jobs[k]? = some j := ⟨_, List.getElem?_eq_getElem hkl⟩
        obtain ⟨b2, o2, rfl, hb2, hat2⟩ := HC2.out k j hj
        have c8 := hat2.c8
        have HNL2 : Hid (NodeL s i n ↔ hasS j.nodes i = true) := Lib.hid (HNL.out.trans ⟨fun h => by
          rcases h.2.2 with h1 | ⟨k', j', h1, h2, h3⟩
          · omega
          · obtain rfl : k' = k := by omega
            rw [hj] at h2
            cases h2
            exact h3, fun h => ⟨HA.out, (fun h' => by rw [hmv] at h'; cases h'), .inr ⟨k, j, hk, hj, h⟩⟩⟩)
        have hw1 : wrap64 (n.job - 1) = (k : Int) := by rw [IntWalk.wrap64_in _ (by omega)]; omega
        clear hf2 hk hj hat2
        go_wp2_with fail
        refine (HH.out _ _).mono ?_
        rintro e1 w1 ⟨rfl, rfl⟩
        go_wp2
        go_ret
        exact ⟨_, rfl, HNL2.out.symm, HX.out _ _⟩
  cases hup : n.up
  · have HNO : Hid (¬ NodeL s i n) := Lib.hid fun h => by
      have := ((HNL.out.1 h).2.1 hmv).1
      rw [hup] at this
      cases this
    go_wp2
    go_ret
    exact ⟨false, rfl, ⟨(fun h => by cases h), fun h => absurd h HNO.out⟩, HX.out _ _⟩
  cases hco : n.cordon
  · have HNO : Hid (¬ NodeL s i n) := Lib.hid fun h => by
      have := ((HNL.out.1 h).2.1 hmv).2.1
      rw [hco] at this
      cases this
    go_wp2
    go_ret
    exact ⟨false, rfl, ⟨(fun h => by cases h), fun h => absurd h HNO.out⟩, HX.out _ _⟩
  by_cases hj : n.job = 0
  · have HYES : Hid (NodeL s i n) := Lib.hid (HNL.out.2 ⟨HA.out, (fun _ => ⟨hup, hco, hj⟩), .inl hj⟩)
    have e1 : (n.job == 0) = true := by rw [hj]; rfl
    clear hj
    go_wp2
    go_ret
    exact ⟨true, rfl, ⟨fun _ => HYES.out, fun _ => rfl⟩, HX.out _ _⟩
  · have HNO : Hid (¬ NodeL s i n) := Lib.hid fun h => hj ((HNL.out.1 h).2.1 hmv).2.2
    have e1 : (n.job == 0) = false := by rw [beq_eq_false_iff_ne]; exact hj
    clear hj
    go_wp2
    go_ret
    exact ⟨false, rfl, ⟨(fun h => by cases h), fun h => absurd h HNO.out⟩, HX.out _ _⟩

end Go.Proofs.Ytkpcjdhnbjkaaaa

/- Package book: whether a job may be as it is. -/
namespace Go.Proofs.Ytkpcjdhnbjkaaaa
open Go.RowKit

set_option maxRecDepth 100000 in
set_option maxHeartbeats 4000000 in
theorem jobMay_any (c : Cf) (vn vj : Value) (s : St) (k : Nat) (j : Jb) (w : World) (hr : RdNd w vn s.nodes) (hrj : RdJb w vj s.jobs) (hj : s.jobs[k]? = some j) (hm : mayC c = true) (hn : s.nodes.length ≤ 6) (hjl : s.jobs.length ≤ 24)
    (hver : ∀ (i : Nat) (n : Nd), s.nodes[i]? = some n → 1 ≤ n.version) :
    Calls Try.prog 26 #[cfV c, stV vn vj s, .int .i64 ((k : Int) + 1)] w fun e w' => ∃ b, e = .returned (.bool b) ∧ (b = true ↔ JobL c s k j) ∧ Ext w w' := by
  have HA := Lib.hid fun w' => asked_any c j w' hm
  have HS := Lib.hid fun w' h => suits_any vn vj s j j.nodes w' h hn hver
  have HR := Lib.hid fun w' h1 h2 => carried_any vn vj s k j w' h1 h2 hj hn hjl
  have HF := Lib.hid fun n lo hi w' => isFrom_any n lo hi w'
  have HRN := Lib.hid hr
  have HRJ := Lib.hid hrj
  obtain ⟨A, c1, rfl, hnc, hcm, hcell⟩ := jobs_cells hrj
  obtain ⟨b2, o2, rfl, hb2, hat2⟩ := hcell k j hj
  have hkl := (List.getElem?_eq_some_iff.1 hj).1
  have hw1 : wrap64 ((k : Int) + 1 - 1) = (k : Int) := by rw [IntWalk.wrap64_in _ (by omega)]; omega
  obtain ⟨jc, hjc⟩ : ∃ jc : Array Value, jc = #[.int .i64 j.queue, .int .i64 j.prio, .int .i64 j.least, .int .i64 j.most, .int .i64 j.work, .int .i64 j.pin, .int .i64 j.phase, .int .i64 j.inc, .int .i64 j.nodes, .int .i64 j.since, .int .i64 j.til, .int .i64 j.epoch] := ⟨_, rfl⟩
  obtain ⟨cc, hcc⟩ : ∃ cc : Array Value, cc = #[.int .i64 c.nodes, .int .i64 c.queues, .int .i64 c.quota, .int .i64 c.wave, .int .i64 c.lease, .int .i64 c.retry, .int .i64 c.deadline, .int .i64 c.room, .int .i64 c.disk] := ⟨_, rfl⟩
  obtain ⟨sc, hsc⟩ : ∃ sc : Array Value, sc = #[vn, .slice (some ⟨b2, o2, none⟩) s.jobs.length c1, .int .i64 s.goal, .int .i64 s.prior, .int .i64 s.mode, .int .i64 s.term] := ⟨_, rfl⟩
  have HX2 := Lib.hid (ext2 w 23 27 cc sc)
  obtain ⟨W3, hW3⟩ : ∃ W3, W3 = ((w.alloc (.cells cc 23)).alloc (.cells sc 27)).alloc (.cells jc 44) := ⟨_, rfl⟩
  have hx3 : Ext w W3 := by rw [hW3]; exact ext3 w _ _ _ cc sc jc
  have hbj : Blk W3 (w.heap.size + 2) 44 jc := by
    have := Blk.new ((w.alloc (.cells cc 23)).alloc (.cells sc 27)) 44 jc
    rw [hW3]
    simpa using this
  have hbs : Blk W3 (w.heap.size + 1) 27 sc := by
    have := (Blk.new (w.alloc (.cells cc 23)) 27 sc).ext ((Below.refl _ _).alloc (Nat.le_refl _) (.cells jc 44))
    rw [hW3]
    simpa using this
  obtain ⟨q0, q1, q2, q3, q4, q5, q6, q7, q8, q9, q10, q11⟩ := hat2.ext HX2.out hb2
  have HX3 := Lib.hid hx3
  have HBJ := Lib.hid hbj
  have HBS := Lib.hid hbs
  have HJL : Hid (JobL c s k j ↔ (askedJ c j = true ∧ (0 ≤ j.inc ∧ j.inc ≤ 1000000) ∧ (0 ≤ j.epoch ∧ j.epoch ≤ j.inc) ∧ (0 ≤ j.since ∧ j.since ≤ 1000000) ∧ (0 ≤ j.til ∧ j.til ≤ 1000000) ∧
    (((j.phase = 0 ∨ j.phase = 4) ∧ j.nodes = 0) ∨ ((1 ≤ j.phase ∧ j.phase ≤ 3) ∧ FitsP s j j.nodes ∧ CarriedL s k j)))) := Lib.hid Iff.rfl
  clear hr hrj hcell hat2 hj hm hver hb2 hx3 hbj hbs
  unfold cfV jbV at HA
  unfold stV jbV at HS
  unfold stV at HR
  unfold stV cfV
  subst hsc hcc hjc
  go_enter Try.func26, Try.ntmps26
  go_wp2_with fail
  rw [← hW3]
  clear q0 q1 q2 q3 q4 q5 q6 q7 q8 q9 q10 q11 hW3 HX2
  refine (HA.out _).mono ?_
  rintro e1 w1 ⟨rfl, hx1⟩
  have HX1 := Lib.hid (HX3.out.trans hx1)
  have HBJ1 := Lib.hid (HBJ.out.ext hx1)
  have HBS1 := Lib.hid (HBS.out.ext hx1)
  have g6 : w1.cell? ⟨w.heap.size + 2, 6, none⟩ = some (.int .i64 j.phase) := HBJ1.out.cell 6
  have g7 : w1.cell? ⟨w.heap.size + 2, 7, none⟩ = some (.int .i64 j.inc) := HBJ1.out.cell 7
  have g8 : w1.cell? ⟨w.heap.size + 2, 8, none⟩ = some (.int .i64 j.nodes) := HBJ1.out.cell 8
  have g9 : w1.cell? ⟨w.heap.size + 2, 9, none⟩ = some (.int .i64 j.since) := HBJ1.out.cell 9
  have g10 : w1.cell? ⟨w.heap.size + 2, 10, none⟩ = some (.int .i64 j.til) := HBJ1.out.cell 10
  have g11 : w1.cell? ⟨w.heap.size + 2, 11, none⟩ = some (.int .i64 j.epoch) := HBJ1.out.cell 11
  clear hx1
  cases ha : askedJ c j
  · have HNO : Hid (¬ JobL c s k j) := Lib.hid fun h => by
      have := (HJL.out.1 h).1
      rw [ha] at this
      cases this
    go_wp2
    go_ret
    exact ⟨false, rfl, ⟨(fun h => by cases h), fun h => absurd h HNO.out⟩, HX1.out⟩
  go_wp2_with fail
  refine (HF.out _ _ _ _).mono ?_
  rintro e1 w1_ ⟨rfl, rfl⟩
  cases h1 : inR j.inc 0 1000000
  · have HNO : Hid (¬ JobL c s k j) := Lib.hid fun h => by
      have := inR_iff.2 (HJL.out.1 h).2.1
      rw [h1] at this
      cases this
    go_wp2
    go_ret
    exact ⟨false, rfl, ⟨(fun h => by cases h), fun h => absurd h HNO.out⟩, HX1.out⟩
  go_wp2_with fail
  refine (HF.out _ _ _ _).mono ?_
  rintro e1 w1_ ⟨rfl, rfl⟩
  cases h2 : inR j.epoch 0 j.inc
  · have HNO : Hid (¬ JobL c s k j) := Lib.hid fun h => by
      have := inR_iff.2 (HJL.out.1 h).2.2.1
      rw [h2] at this
      cases this
    go_wp2
    go_ret
    exact ⟨false, rfl, ⟨(fun h => by cases h), fun h => absurd h HNO.out⟩, HX1.out⟩
  go_wp2_with fail
  refine (HF.out _ _ _ _).mono ?_
  rintro e1 w1_ ⟨rfl, rfl⟩
  cases h3 : inR j.since 0 1000000
  · have HNO : Hid (¬ JobL c s k j) := Lib.hid fun h => by
      have := inR_iff.2 (HJL.out.1 h).2.2.2.1
      rw [h3] at this
      cases this
    go_wp2
    go_ret
    exact ⟨false, rfl, ⟨(fun h => by cases h), fun h => absurd h HNO.out⟩, HX1.out⟩
  go_wp2_with fail
  refine (HF.out _ _ _ _).mono ?_
  rintro e1 w1_ ⟨rfl, rfl⟩
  cases h4 : inR j.til 0 1000000
  · have HNO : Hid (¬ JobL c s k j) := Lib.hid fun h => by
      have := inR_iff.2 (HJL.out.1 h).2.2.2.2.1
      rw [h4] at this
      cases this
    go_wp2
    go_ret
    exact ⟨false, rfl, ⟨(fun h => by cases h), fun h => absurd h HNO.out⟩, HX1.out⟩
  have HJ2 : Hid (JobL c s k j ↔ (((j.phase = 0 ∨ j.phase = 4) ∧ j.nodes = 0) ∨ ((1 ≤ j.phase ∧ j.phase ≤ 3) ∧ FitsP s j j.nodes ∧ CarriedL s k j))) :=
    Lib.hid (HJL.out.trans ⟨fun h => h.2.2.2.2.2, fun h => ⟨ha, inR_iff.1 h1, inR_iff.1 h2, inR_iff.1 h3, inR_iff.1 h4, h⟩⟩)
  clear h1 h2 h3 h4 ha HJL
  by_cases hp : 1 ≤ j.phase ∧ j.phase ≤ 3
  · have HP := Lib.hid hp
    have hp' : j.phase = 1 ∨ j.phase = 2 ∨ j.phase = 3 := by omega
    have s0 : w1.cell? ⟨w.heap.size + 1, 0, none⟩ = some vn := HBS1.out.cell 0
    have s1 : w1.cell? ⟨w.heap.size + 1, 1, none⟩ = some (.slice (some ⟨b2, o2, none⟩) s.jobs.length c1) := HBS1.out.cell 1
    have s2 : w1.cell? ⟨w.heap.size + 1, 2, none⟩ = some (.int .i64 s.goal) := HBS1.out.cell 2
    have s3 : w1.cell? ⟨w.heap.size + 1, 3, none⟩ = some (.int .i64 s.prior) := HBS1.out.cell 3
    have s4 : w1.cell? ⟨w.heap.size + 1, 4, none⟩ = some (.int .i64 s.mode) := HBS1.out.cell 4
    have s5 : w1.cell? ⟨w.heap.size + 1, 5, none⟩ = some (.int .i64 s.term) := HBS1.out.cell 5
    have g0 : w1.cell? ⟨w.heap.size + 2, 0, none⟩ = some (.int .i64 j.queue) := HBJ1.out.cell 0
    have g1 : w1.cell? ⟨w.heap.size + 2, 1, none⟩ = some (.int .i64 j.prio) := HBJ1.out.cell 1
    have g2 : w1.cell? ⟨w.heap.size + 2, 2, none⟩ = some (.int .i64 j.least) := HBJ1.out.cell 2
    have g3 : w1.cell? ⟨w.heap.size + 2, 3, none⟩ = some (.int .i64 j.most) := HBJ1.out.cell 3
    have g4 : w1.cell? ⟨w.heap.size + 2, 4, none⟩ = some (.int .i64 j.work) := HBJ1.out.cell 4
    have g5 : w1.cell? ⟨w.heap.size + 2, 5, none⟩ = some (.int .i64 j.pin) := HBJ1.out.cell 5
    have HJ3 : Hid (JobL c s k j ↔ FitsP s j j.nodes ∧ CarriedL s k j) := Lib.hid (HJ2.out.trans ⟨fun h => by
      rcases h with ⟨h, _⟩ | h
      · omega
      · exact h.2, fun h => .inr ⟨hp, h⟩⟩)
    clear hp HJ2
    generalize j.phase = ph at *
    rcases hp' with rfl | rfl | rfl
    all_goals
      go_wp2_with fail
      refine (HS.out _ (HRN.out.ext HX1.out)).mono ?_
      rintro e2 w2 ⟨b, rfl, hb, hx2⟩
      have HX2 := Lib.hid (HX1.out.trans hx2)
      have HBS2 := Lib.hid (HBS1.out.ext hx2)
      cases b
      · have HNO : Hid (¬ JobL c s k j) := Lib.hid fun h => by
          have := hb.2 (HJ3.out.1 h).1
          cases this
        clear hx2 hb
        go_wp2
        go_ret
        exact ⟨false, rfl, ⟨(fun h => by cases h), fun h => absurd h HNO.out⟩, HX2.out⟩
      · have HY := Lib.hid (hb.1 rfl)
        have s0 : w2.cell? ⟨w.heap.size + 1, 0, none⟩ = some vn := HBS2.out.cell 0
        have s1 : w2.cell? ⟨w.heap.size + 1, 1, none⟩ = some (.slice (some ⟨b2, o2, none⟩) s.jobs.length c1) := HBS2.out.cell 1
        have s2 : w2.cell? ⟨w.heap.size + 1, 2, none⟩ = some (.int .i64 s.goal) := HBS2.out.cell 2
        have s3 : w2.cell? ⟨w.heap.size + 1, 3, none⟩ = some (.int .i64 s.prior) := HBS2.out.cell 3
        have s4 : w2.cell? ⟨w.heap.size + 1, 4, none⟩ = some (.int .i64 s.mode) := HBS2.out.cell 4
        have s5 : w2.cell? ⟨w.heap.size + 1, 5, none⟩ = some (.int .i64 s.term) := HBS2.out.cell 5
        clear hx2 hb
        go_wp2_with fail
        refine (HR.out _ (HRN.out.ext HX2.out) (HRJ.out.ext HX2.out)).mono ?_
        rintro e3 w3 ⟨b, rfl, hb, hx3⟩
        have HX4 := Lib.hid (HX2.out.trans hx3)
        have HB := Lib.hid hb
        clear hx3 hb
        go_wp2
        go_ret
        exact ⟨b, rfl, ⟨fun h => HJ3.out.2 ⟨HY.out, HB.out.1 h⟩, fun h => HB.out.2 (HJ3.out.1 h).2⟩, HX4.out⟩
  · have HP := Lib.hid hp
    have n1 : (j.phase == 1) = false := by rw [beq_eq_false_iff_ne]; omega
    have n2 : (j.phase == 2) = false := by rw [beq_eq_false_iff_ne]; omega
    have n3 : (j.phase == 3) = false := by rw [beq_eq_false_iff_ne]; omega
    by_cases h04 : j.phase = 0 ∨ j.phase = 4
    · have HJ3 : Hid (JobL c s k j ↔ j.nodes = 0) := Lib.hid (HJ2.out.trans ⟨fun h => by
        rcases h with ⟨_, h⟩ | ⟨h, _⟩
        · exact h
        · exact absurd h hp, fun h => .inl ⟨h04, h⟩⟩)
      have HJ4 : Hid ((j.nodes == 0) = true ↔ JobL c s k j) := Lib.hid ((beq_iff_eq).trans HJ3.out.symm)
      clear hp HJ3 HJ2
      generalize j.phase = ph at *
      rcases h04 with rfl | rfl
      all_goals
        go_wp2
        go_ret
        exact ⟨_, rfl, HJ4.out, HX1.out⟩
    · have n0 : (j.phase == 0) = false := by rw [beq_eq_false_iff_ne]; omega
      have n4 : (j.phase == 4) = false := by rw [beq_eq_false_iff_ne]; omega
      have HNO : Hid (¬ JobL c s k j) := Lib.hid fun h => by
        rcases HJ2.out.1 h with ⟨h, _⟩ | ⟨h, _⟩
        · exact h04 h
        · exact hp h
      clear hp h04
      go_wp2
      go_ret
      exact ⟨false, rfl, ⟨(fun h => by cases h), fun h => absurd h HNO.out⟩, HX1.out⟩

end Go.Proofs.Ytkpcjdhnbjkaaaa

/- Package book: whether a state may be. -/
namespace Go.Proofs.Ytkpcjdhnbjkaaaa
open Go.RowKit

theorem ext_drew9 {B : Nat} {a w : World} (h : Below B a w) : Below B a w.drew := Below.drewN' h 1
theorem Ext.of_drew {w w' : World} (h : Ext w.drew w') : Ext w w' := Ext.trans (ext_drew9 (Ext.refl w)) h

set_option maxRecDepth 100000 in
set_option maxHeartbeats 4000000 in
theorem RightS_any (c : Cf) (vn vj : Value) (s : St) (w : World) (hr : RdNd w vn s.nodes) (hrj : RdJb w vj s.jobs) :
    Calls Try.prog 7 #[cfV c, stV vn vj s] w fun e w' => ∃ b, e = .returned (.bool b) ∧ (b = true ↔ RightP c s) ∧ Ext w w' := by
  have HM := Lib.hid fun w' => May_any c w'
  have HNM : Hid (∀ w' (i : Nat) n, s.nodes[i]? = some n → s.nodes.length ≤ 6 → s.jobs.length ≤ 24 → Ext w w' → Calls Try.prog 25 #[stV vn vj s, .int .i64 (i : Int)] w' fun e w'' => ∃ b, e = .returned (.bool b) ∧ (b = true ↔ NodeL s i n) ∧ Ext w' w'') :=
    Lib.hid fun w' i n hi hn hj hx => nodeMay_any vn vj s i n w' (hr.ext hx) (hrj.ext hx) hi hn hj
  have HJM : Hid (∀ w' (k : Nat) j, s.jobs[k]? = some j → mayC c = true → s.nodes.length ≤ 6 → s.jobs.length ≤ 24 → (∀ (i : Nat) (n : Nd), s.nodes[i]? = some n → 1 ≤ n.version) → Ext w w' → Calls Try.prog 26 #[cfV c, stV vn vj s, .int .i64 ((k : Int) + 1)] w' fun e w'' => ∃ b, e = .returned (.bool b) ∧ (b = true ↔ JobL c s k j) ∧ Ext w' w'') :=
    Lib.hid fun w' k j hj hm hn hl hv hx => jobMay_any c vn vj s k j w' (hr.ext hx) (hrj.ext hx) hj hm hn hl hv
  have HD : Hid (∀ w' q, Ext w w' → Calls Try.prog 27 #[stV vn vj s, .int .i64 q] w' fun e w'' => e = .returned (.int .i64 (drainsS s q : Int)) ∧ Ext w' w'') := Lib.hid fun w' q hx => Drains_any vn vj s q w' (hrj.ext hx)
  have HF := Lib.hid fun n lo hi w' => isFrom_any n lo hi w'
  have HV := Lib.hid fun n w' => isVersion_any n w'
  obtain ⟨An, cn, rfl, hnc, hcm⟩ := hr.slice_
  obtain ⟨Aj, cj, rfl, hjc, hjm⟩ := hrj.slice_
  have HRL : Hid (∀ b : Bool, (b = true ↔ RightL c s) → (b = true ↔ RightP c s)) := Lib.hid fun b h => h.trans RightL_iff
  obtain ⟨cc, hcc⟩ : ∃ cc : Array Value, cc = #[.int .i64 c.nodes, .int .i64 c.queues, .int .i64 c.quota, .int .i64 c.wave, .int .i64 c.lease, .int .i64 c.retry, .int .i64 c.deadline, .int .i64 c.room, .int .i64 c.disk] := ⟨_, rfl⟩
  obtain ⟨sc, hsc⟩ : ∃ sc : Array Value, sc = #[.slice An s.nodes.length cn, .slice Aj s.jobs.length cj, .int .i64 s.goal, .int .i64 s.prior, .int .i64 s.mode, .int .i64 s.term] := ⟨_, rfl⟩
  obtain ⟨W2, hW2⟩ : ∃ W2, W2 = (w.alloc (.cells cc 23)).alloc (.cells sc 27) := ⟨_, rfl⟩
  have hx2 : Ext w W2 := by rw [hW2]; exact ext2 w _ _ cc sc
  have hbs : Blk W2 (w.heap.size + 1) 27 sc := by
    have := Blk.new (w.alloc (.cells cc 23)) 27 sc
    rw [hW2]
    simpa using this
  have hbc : Blk W2 w.heap.size 23 cc := by
    have := (Blk.new w 23 cc).ext ((Below.refl _ _).alloc (Nat.le_refl _) (.cells sc 27))
    rw [hW2]
    exact this
  have HX2 := Lib.hid hx2
  have HBS := Lib.hid hbs
  have HBC := Lib.hid hbc
  unfold stV at HNM HJM HD
  unfold cfV at HM HJM
  unfold stV cfV
  clear hr hrj hx2 hbs hbc
  subst hcc hsc
  go_enter Try.func7, Try.ntmps7
  go_wp2_with fail
  rw [← hW2]
  clear hW2
  refine (HM.out _).mono ?_
  rintro e1 w1 ⟨rfl, hx1⟩
  have HX1 := Lib.hid (HX2.out.trans hx1)
  have HBS1 := Lib.hid (HBS.out.ext hx1)
  have HBC1 := Lib.hid (HBC.out.ext hx1)
  clear hx1 HX2 HBS HBC HM
  have s0 : w1.cell? ⟨w.heap.size + 1, 0, none⟩ = some (.slice An s.nodes.length cn) := HBS1.out.cell 0
  have s1 : w1.cell? ⟨w.heap.size + 1, 1, none⟩ = some (.slice Aj s.jobs.length cj) := HBS1.out.cell 1
  have s2 : w1.cell? ⟨w.heap.size + 1, 2, none⟩ = some (.int .i64 s.goal) := HBS1.out.cell 2
  have s3 : w1.cell? ⟨w.heap.size + 1, 3, none⟩ = some (.int .i64 s.prior) := HBS1.out.cell 3
  have s4 : w1.cell? ⟨w.heap.size + 1, 4, none⟩ = some (.int .i64 s.mode) := HBS1.out.cell 4
  have s5 : w1.cell? ⟨w.heap.size + 1, 5, none⟩ = some (.int .i64 s.term) := HBS1.out.cell 5
  have k0 : w1.cell? ⟨w.heap.size, 0, none⟩ = some (.int .i64 c.nodes) := HBC1.out.cell 0
  have k1 : w1.cell? ⟨w.heap.size, 1, none⟩ = some (.int .i64 c.queues) := HBC1.out.cell 1
  cases hm : mayC c
  · have HNO : Hid (¬ RightP c s) := Lib.hid fun h => by
      have := h.may
      rw [hm] at this
      cases this
    go_wp2
    go_ret
    exact ⟨false, rfl, ⟨(fun h => by cases h), fun h => absurd h HNO.out⟩, HX1.out⟩
  by_cases hl : ¬ (s.nodes.length : Int) = c.nodes
  · have HNO : Hid (¬ RightP c s) := Lib.hid fun h => hl h.nn
    have e1 : ((s.nodes.length : Int) != c.nodes) = true := by rw [bne_iff_ne]; exact hl
    clear hl
    go_wp2
    go_ret
    exact ⟨false, rfl, ⟨(fun h => by cases h), fun h => absurd h HNO.out⟩, HX1.out⟩
  replace hl := Classical.not_not.1 hl
  have e1 : ((s.nodes.length : Int) != c.nodes) = false := by rw [hl]; exact bne_self_eq_false _
  by_cases hl2 : ¬ s.jobs.length ≤ 24
  · have HNO : Hid (¬ RightP c s) := Lib.hid fun h => hl2 h.nj
    have e2 : decide ((24 : Int) < (s.jobs.length : Int)) = true := decide_eq_true (by omega)
    have e2' : decide (24 < s.jobs.length) = true := decide_eq_true (by omega)
    clear hl hl2
    go_wp2
    go_ret
    exact ⟨false, rfl, ⟨(fun h => by cases h), fun h => absurd h HNO.out⟩, HX1.out⟩
  replace hl2 := Classical.not_not.1 hl2
  have e2 : decide ((24 : Int) < (s.jobs.length : Int)) = false := decide_eq_false (by omega)
  have e2' : decide (24 < s.jobs.length) = false := decide_eq_false (by omega)
  have hm2 : (1 ≤ c.nodes ∧ c.nodes ≤ 6) ∧ (1 ≤ c.queues ∧ c.queues ≤ 3) := by
    simp only [mayC, Bool.and_eq_true, inR_iff] at hm
    exact ⟨by omega, by omega⟩
  have hn6 : s.nodes.length ≤ 6 := by omega
  have HM1 := Lib.hid hm
  have HL := Lib.hid hl
  have HL2 := Lib.hid hl2
  have HM2 := Lib.hid hm2.2
  have HN6 := Lib.hid hn6
  clear hm hl hm2 hn6
  go_wp2_with fail
  refine (HV.out _ _).mono ?_
  rintro e_ w_ ⟨rfl, rfl⟩
  cases h1 : inR s.goal 1 9
  · have HNO : Hid (¬ RightP c s) := Lib.hid fun h => by
      have := inR_iff.2 ⟨h.g1, h.g9⟩
      rw [h1] at this
      cases this
    go_wp2
    go_ret
    exact ⟨false, rfl, ⟨(fun h => by cases h), fun h => absurd h HNO.out⟩, HX1.out⟩
  go_wp2_with fail
  refine (HV.out _ _).mono ?_
  rintro e_ w_ ⟨rfl, rfl⟩
  cases h2 : inR s.prior 1 9
  · have HNO : Hid (¬ RightP c s) := Lib.hid fun h => by
      have := inR_iff.2 ⟨h.p1, h.p9⟩
      rw [h2] at this
      cases this
    go_wp2
    go_ret
    exact ⟨false, rfl, ⟨(fun h => by cases h), fun h => absurd h HNO.out⟩, HX1.out⟩
  go_wp2_with fail
  refine (HF.out _ _ _ _).mono ?_
  rintro e_ w_ ⟨rfl, rfl⟩
  cases h3 : inR s.mode 0 2
  · have HNO : Hid (¬ RightP c s) := Lib.hid fun h => by
      have := inR_iff.2 ⟨h.m0, h.m2⟩
      rw [h3] at this
      cases this
    go_wp2
    go_ret
    exact ⟨false, rfl, ⟨(fun h => by cases h), fun h => absurd h HNO.out⟩, HX1.out⟩
  go_wp2_with fail
  refine (HF.out _ _ _ _).mono ?_
  rintro e_ w_ ⟨rfl, rfl⟩
  cases h4 : inR s.term 0 1000000
  · have HNO : Hid (¬ RightP c s) := Lib.hid fun h => by
      have := inR_iff.2 ⟨h.t0, h.t9⟩
      rw [h4] at this
      cases this
    go_wp2
    go_ret
    exact ⟨false, rfl, ⟨(fun h => by cases h), fun h => absurd h HNO.out⟩, HX1.out⟩
  have H1 := Lib.hid h1
  have H2 := Lib.hid h2
  have H3 := Lib.hid h3
  have H4 := Lib.hid h4
  go_wp2_with fail
  go_loopg [50] s.nodes.length (fun gg i wr => ∃ (q : Nat), i = .int .i64 q ∧ q ≤ s.nodes.length ∧ gg = s.nodes.length - q ∧ Hid (Ext w1 wr ∧ ∀ i n, i < q → s.nodes[i]? = some n → NodeL s i n))
  case atStart => exact ⟨0, rfl, Nat.zero_le _, by omega, Lib.hid ⟨Ext.refl _, fun i n h => absurd h (Nat.not_lt_zero i)⟩⟩
  case round =>
    obtain ⟨q, rfl, hq, rfl, HR⟩ := hrel
    clear s0 s1 s2 s3 s4 s5 k0 k1
    have s0 : wr.cell? ⟨w.heap.size + 1, 0, none⟩ = some (.slice An s.nodes.length cn) := (HBS1.out.ext HR.out.1).cell 0
    have s1 : wr.cell? ⟨w.heap.size + 1, 1, none⟩ = some (.slice Aj s.jobs.length cj) := (HBS1.out.ext HR.out.1).cell 1
    by_cases hlt : q < s.nodes.length
    · have d1 : decide ((q : Int) < (s.nodes.length : Int)) = true := decide_eq_true (by omega)
      have d1' : decide (q < s.nodes.length) = true := decide_eq_true hlt
      obtain ⟨n, hnk⟩ : ∃ n, s.nodes[q]? = some n := ⟨_, List.getElem?_eq_getElem hlt⟩
      have s2 : wr.cell? ⟨w.heap.size + 1, 2, none⟩ = some (.int .i64 s.goal) := (HBS1.out.ext HR.out.1).cell 2
      have s3 : wr.cell? ⟨w.heap.size + 1, 3, none⟩ = some (.int .i64 s.prior) := (HBS1.out.ext HR.out.1).cell 3
      have s4 : wr.cell? ⟨w.heap.size + 1, 4, none⟩ = some (.int .i64 s.mode) := (HBS1.out.ext HR.out.1).cell 4
      have s5 : wr.cell? ⟨w.heap.size + 1, 5, none⟩ = some (.int .i64 s.term) := (HBS1.out.ext HR.out.1).cell 5
      have HNK := Lib.hid hnk
      have HLT := Lib.hid hlt
      clear hnk
      go_wp2_with fail
      refine (HNM.out _ q n HNK.out HN6.out HL2.out (HX1.out.trans HR.out.1)).mono ?_
      rintro e5 w5 ⟨b, rfl, hb, hx5⟩
      have HX5 := Lib.hid (HR.out.1.trans hx5)
      have HB := Lib.hid hb
      clear hx5 hb
      cases b
      · have HNO : Hid (¬ RightP c s) := Lib.hid fun h => by
          have := HB.out.2 ((RightL_iff.2 h).node q n HNK.out)
          cases this
        have HX6 := Lib.hid (HX1.out.trans HX5.out)
        go_wp2
        go_ret
        exact ⟨false, rfl, ⟨(fun h => by cases h), fun h => absurd h HNO.out⟩, HX6.out⟩
      · go_wp2
        go_roundg (s.nodes.length - (q + 1))
        case measure => have := HLT.out; omega
        case rel =>
          refine ⟨q + 1, by go_num, HLT.out, rfl, Lib.hid ⟨HX5.out, fun i m hi hm => ?_⟩⟩
          rcases Nat.lt_or_ge i q with h' | h'
          · exact HR.out.2 i m h' hm
          · obtain rfl : i = q := by omega
            rw [HNK.out] at hm
            cases hm
            exact HB.out.1 (by trivial)
    · have d1 : decide ((q : Int) < (s.nodes.length : Int)) = false := decide_eq_false (by omega)
      have d1' : decide (q < s.nodes.length) = false := decide_eq_false hlt
      obtain rfl : q = s.nodes.length := by omega
      have HND : Hid (∀ i n, s.nodes[i]? = some n → NodeL s i n) := Lib.hid fun i n hi => HR.out.2 i n (List.getElem?_eq_some_iff.1 hi).1 hi
      have HXr := Lib.hid HR.out.1
      clear HR hlt HNM
      have HVR : Hid (∀ (i : Nat) (n : Nd), s.nodes[i]? = some n → 1 ≤ n.version) := Lib.hid fun i n hi => (HND.out i n hi).1.1
      obtain ⟨wz, hwz⟩ : ∃ wz, wz = wr := ⟨_, rfl⟩
      go_wp2_with fail
      rw [← hwz]
      rw [← hwz] at HXr
      clear s0 s1 hwz
      go_loopg [61] s.jobs.length (fun gg i wr => ∃ (q : Nat), i = .int .i64 q ∧ q ≤ s.jobs.length ∧ gg = s.jobs.length - q ∧ Hid (Ext w1 wr ∧ ∀ i n, i < q → s.jobs[i]? = some n → JobL c s i n))
      case atStart => exact ⟨0, rfl, Nat.zero_le _, by omega, Lib.hid ⟨HXr.out, fun i n h => absurd h (Nat.not_lt_zero i)⟩⟩
      case round =>
        obtain ⟨q, rfl, hq, rfl, HR⟩ := hrel
        have k1 : wr.cell? ⟨w.heap.size, 1, none⟩ = some (.int .i64 c.queues) := (HBC1.out.ext HR.out.1).cell 1
        by_cases hlt : q < s.jobs.length
        · have d1 : decide ((q : Int) < (s.jobs.length : Int)) = true := decide_eq_true (by omega)
          have d1' : decide (q < s.jobs.length) = true := decide_eq_true hlt
          obtain ⟨n, hnk⟩ : ∃ n, s.jobs[q]? = some n := ⟨_, List.getElem?_eq_getElem hlt⟩
          have s0 : wr.cell? ⟨w.heap.size + 1, 0, none⟩ = some (.slice An s.nodes.length cn) := (HBS1.out.ext HR.out.1).cell 0
          have s1 : wr.cell? ⟨w.heap.size + 1, 1, none⟩ = some (.slice Aj s.jobs.length cj) := (HBS1.out.ext HR.out.1).cell 1
          have s2 : wr.cell? ⟨w.heap.size + 1, 2, none⟩ = some (.int .i64 s.goal) := (HBS1.out.ext HR.out.1).cell 2
          have s3 : wr.cell? ⟨w.heap.size + 1, 3, none⟩ = some (.int .i64 s.prior) := (HBS1.out.ext HR.out.1).cell 3
          have s4 : wr.cell? ⟨w.heap.size + 1, 4, none⟩ = some (.int .i64 s.mode) := (HBS1.out.ext HR.out.1).cell 4
          have s5 : wr.cell? ⟨w.heap.size + 1, 5, none⟩ = some (.int .i64 s.term) := (HBS1.out.ext HR.out.1).cell 5
          have k0 : wr.cell? ⟨w.heap.size, 0, none⟩ = some (.int .i64 c.nodes) := (HBC1.out.ext HR.out.1).cell 0
          have k2 : wr.cell? ⟨w.heap.size, 2, none⟩ = some (.int .i64 c.quota) := (HBC1.out.ext HR.out.1).cell 2
          have k3 : wr.cell? ⟨w.heap.size, 3, none⟩ = some (.int .i64 c.wave) := (HBC1.out.ext HR.out.1).cell 3
          have k4 : wr.cell? ⟨w.heap.size, 4, none⟩ = some (.int .i64 c.lease) := (HBC1.out.ext HR.out.1).cell 4
          have k5 : wr.cell? ⟨w.heap.size, 5, none⟩ = some (.int .i64 c.retry) := (HBC1.out.ext HR.out.1).cell 5
          have k6 : wr.cell? ⟨w.heap.size, 6, none⟩ = some (.int .i64 c.deadline) := (HBC1.out.ext HR.out.1).cell 6
          have k7 : wr.cell? ⟨w.heap.size, 7, none⟩ = some (.int .i64 c.room) := (HBC1.out.ext HR.out.1).cell 7
          have k8 : wr.cell? ⟨w.heap.size, 8, none⟩ = some (.int .i64 c.disk) := (HBC1.out.ext HR.out.1).cell 8
          have HNK := Lib.hid hnk
          have HLT := Lib.hid hlt
          have hw1 : wrap64 ((q : Int) + 1) = (q : Int) + 1 := IntWalk.wrap64_in _ (by omega)
          clear hnk
          go_wp2_with fail
          refine (HJM.out _ q n HNK.out HM1.out HN6.out HL2.out HVR.out (HX1.out.trans HR.out.1)).mono ?_
          rintro e5 w5 ⟨b, rfl, hb, hx5⟩
          have HX5 := Lib.hid (HR.out.1.trans hx5)
          have HB := Lib.hid hb
          clear hx5 hb s0 s1 s2 s3 s4 s5 k0 k1 k2 k3 k4 k5 k6 k7 k8
          cases b
          · have HNO : Hid (¬ RightP c s) := Lib.hid fun h => by
              have := HB.out.2 ((RightL_iff.2 h).job q n HNK.out)
              cases this
            have HX6 := Lib.hid (HX1.out.trans HX5.out)
            go_wp2
            go_ret
            exact ⟨false, rfl, ⟨(fun h => by cases h), fun h => absurd h HNO.out⟩, HX6.out⟩
          · go_wp2
            go_roundg (s.jobs.length - (q + 1))
            case measure => have := HLT.out; omega
            case rel =>
              refine ⟨q + 1, by go_num, HLT.out, rfl, Lib.hid ⟨HX5.out, fun i m hi hm => ?_⟩⟩
              rcases Nat.lt_or_ge i q with h' | h'
              · exact HR.out.2 i m h' hm
              · obtain rfl : i = q := by omega
                rw [HNK.out] at hm
                cases hm
                exact HB.out.1 (by trivial)
        · have d1 : decide ((q : Int) < (s.jobs.length : Int)) = false := decide_eq_false (by omega)
          have d1' : decide (q < s.jobs.length) = false := decide_eq_false hlt
          obtain rfl : q = s.jobs.length := by omega
          have HJD : Hid (∀ i n, s.jobs[i]? = some n → JobL c s i n) := Lib.hid fun i n hi => HR.out.2 i n (List.getElem?_eq_some_iff.1 hi).1 hi
          have HXq := Lib.hid HR.out.1
          clear HR hlt HJM
          obtain ⟨wz, hwz⟩ : ∃ wz, wz = wr := ⟨_, rfl⟩
          go_wp2_with fail
          rw [← hwz]
          rw [← hwz] at HXq
          clear k1 hwz
          obtain ⟨qn, hqn⟩ : ∃ qn : Nat, c.queues = (qn : Int) := ⟨c.queues.toNat, by have := HM2.out; omega⟩
          have HQN := Lib.hid hqn
          rw [hqn]
          go_loopg [73] qn (fun gg i wr => ∃ (q : Nat), i = .int .i64 q ∧ q ≤ qn ∧ gg = qn - q ∧ Hid (Ext w1 wr ∧ ∀ i : Nat, i < q → (drainsS s (i : Int) : Int) ≤ c.quota))
          case atStart => exact ⟨0, rfl, Nat.zero_le _, by omega, Lib.hid ⟨HXq.out, fun i h => absurd h (Nat.not_lt_zero i)⟩⟩
          case round =>
            obtain ⟨q, rfl, hq, rfl, HR⟩ := hrel
            by_cases hlt : q < qn
            · have d1 : decide ((q : Int) < (qn : Int)) = true := decide_eq_true (by omega)
              have d1' : decide (q < qn) = true := decide_eq_true hlt
              have HLT := Lib.hid hlt
              have HXR := Lib.hid (HX1.out.trans HR.out.1)
              have hw1 : wrap64 ((q : Int) + 1) = (q : Int) + 1 := IntWalk.wrap64_in _ (by have := HM2.out; have := HQN.out; omega)
              have s0 : wr.cell? ⟨w.heap.size + 1, 0, none⟩ = some (.slice An s.nodes.length cn) := (HBS1.out.ext HR.out.1).cell 0
              have s1 : wr.cell? ⟨w.heap.size + 1, 1, none⟩ = some (.slice Aj s.jobs.length cj) := (HBS1.out.ext HR.out.1).cell 1
              have s2 : wr.cell? ⟨w.heap.size + 1, 2, none⟩ = some (.int .i64 s.goal) := (HBS1.out.ext HR.out.1).cell 2
              have s3 : wr.cell? ⟨w.heap.size + 1, 3, none⟩ = some (.int .i64 s.prior) := (HBS1.out.ext HR.out.1).cell 3
              have s4 : wr.cell? ⟨w.heap.size + 1, 4, none⟩ = some (.int .i64 s.mode) := (HBS1.out.ext HR.out.1).cell 4
              have s5 : wr.cell? ⟨w.heap.size + 1, 5, none⟩ = some (.int .i64 s.term) := (HBS1.out.ext HR.out.1).cell 5
              have k2 : wr.cell? ⟨w.heap.size, 2, none⟩ = some (.int .i64 c.quota) := (HBC1.out.ext HR.out.1).cell 2
              have HK2 : Hid (∀ w', Ext wr w' → w'.cell? ⟨w.heap.size, 2, none⟩ = some (.int .i64 c.quota)) := Lib.hid fun w' h => (HBC1.out.ext (HR.out.1.trans h)).cell 2
              generalize hD : (drainsS s (q : Int) : Int) = D at *
              have HDQ : Hid (∀ w', Ext w w' → Calls Try.prog 27 #[.agg #[.slice An s.nodes.length cn, .slice Aj s.jobs.length cj, .int .i64 s.goal, .int .i64 s.prior, .int .i64 s.mode, .int .i64 s.term], .int .i64 (q : Int)] w' fun e w'' => e = .returned (.int .i64 D) ∧ Ext w' w'') := Lib.hid (by rw [← hD]; exact fun w' h => HD.out w' (q : Int) h)
              go_wp2_with fail
              by_cases hov : c.quota < D
              · have d2 : decide (c.quota < D) = true := decide_eq_true hov
                have HNO : Hid (¬ RightP c s) := Lib.hid fun h => by
                  have := h.drains q (by have := HQN.out; have := HLT.out; omega)
                  omega
                clear hov
                go_region_with ((go_at_call 27); (first | (refine (HDQ.out _ HXR.out).mono ?_) | (refine (HDQ.out _ (ext_drew9 HXR.out)).mono ?_)); (rintro e9 w9 ⟨rfl, hx9⟩); (have hx9' : Ext wr w9 := Ext.of_drew hx9); (have k9 := HK2.out w9 hx9'))
                all_goals
                  have HX9 := Lib.hid (HXR.out.trans hx9')
                  clear hx9 hx9' k9
                  go_wp2
                  go_ret
                  exact ⟨false, rfl, ⟨(fun h => by cases h), fun h => absurd h HNO.out⟩, HX9.out⟩
              · have d2 : decide (c.quota < D) = false := decide_eq_false hov
                have HLE : Hid (∀ i : Nat, i < q + 1 → (drainsS s (i : Int) : Int) ≤ c.quota) := Lib.hid fun i hi => by
                  rcases Nat.lt_or_ge i q with h' | h'
                  · exact HR.out.2 i h'
                  · obtain rfl : i = q := by omega
                    omega
                clear hov
                go_region_with ((go_at_call 27); (first | (refine (HDQ.out _ HXR.out).mono ?_) | (refine (HDQ.out _ (ext_drew9 HXR.out)).mono ?_)); (rintro e9 w9 ⟨rfl, hx9⟩); (have hx9' : Ext wr w9 := Ext.of_drew hx9); (have k9 := HK2.out w9 hx9'))
                all_goals
                  have HX9 := Lib.hid (HR.out.1.trans hx9')
                  clear hx9 hx9' k9
                  go_wp2
                  go_roundg (qn - (q + 1))
                  case measure => have := HLT.out; omega
                  case rel => exact ⟨q + 1, by go_num, HLT.out, rfl, Lib.hid ⟨HX9.out, HLE.out⟩⟩
            · have d1 : decide ((q : Int) < (qn : Int)) = false := decide_eq_false (by omega)
              have d1' : decide (q < qn) = false := decide_eq_false hlt
              obtain rfl : q = qn := by omega
              have HY : Hid (RightP c s) := Lib.hid (RightL_iff.1 ⟨HM1.out, HL.out, HL2.out, inR_iff.1 H1.out, inR_iff.1 H2.out, inR_iff.1 H3.out, inR_iff.1 H4.out, HND.out, HJD.out, fun i hi => HR.out.2 i (by have := HQN.out; omega)⟩)
              have HX6 := Lib.hid (HX1.out.trans HR.out.1)
              go_wp2
              go_ret
              exact ⟨true, rfl, ⟨fun _ => HY.out, fun _ => rfl⟩, HX6.out⟩

end Go.Proofs.Ytkpcjdhnbjkaaaa

/- The reference of layer 9: sets of nodes, the version that is meant. -/
namespace Go.Proofs.Ytkpcjdhnbjkaaaa
open Go.RowKit

set_option maxRecDepth 100000 in
theorem RefHas_any (set : Int) (i : Nat) (hi : i < 64) (w : World) :
    Calls Try.prog 45 #[.int .i64 set, .int .i64 (i : Int)] w fun e w' => e = .returned (.bool (hasS set i)) ∧ w = w' := by
  have h0 : (0 : Int) ≤ (i : Int) := by omega
  go_enter Try.func45, Try.ntmps45
  go_wp2
  go_ret
  exact ⟨by simp only [i64_and1]; rfl, rfl⟩

theorem RefMeant_any (vn vj : Value) (s : St) (w : World) :
    Calls Try.prog 28 #[stV vn vj s] w fun e w' => e = .returned (.int .i64 (meantS s)) ∧ Ext w w' := by
  obtain ⟨hx, hb⟩ := boxSt vn vj s w 27
  have HX := Lib.hid hx
  clear hx hb
  unfold stV meantS
  unfold stC at HX
  by_cases h : s.mode = 2
  · have d : (s.mode == 2) = true := by rw [h]; rfl
    rw [if_pos h]
    clear h
    go_enter Try.func28, Try.ntmps28
    go_wp2
    go_ret
    exact ⟨rfl, HX.out⟩
  · have d : (s.mode == 2) = false := by rw [beq_eq_false_iff_ne]; exact h
    rw [if_neg h]
    clear h
    go_enter Try.func28, Try.ntmps28
    go_wp2
    go_ret
    exact ⟨rfl, HX.out⟩

theorem many_step (set : Int) (q : Nat) : ((List.range (q + 1)).filter (hasS set)).length = ((List.range q).filter (hasS set)).length + (if hasS set q = true then 1 else 0) := by
  rw [List.range_succ, List.filter_append, List.length_append]
  congr 1
  cases h : hasS set q with
  | false => rw [List.filter_cons_of_neg (by rw [h]; simp)]; rfl
  | true => rw [List.filter_cons_of_pos h]; rfl

set_option maxRecDepth 100000 in
theorem RefMany_any (set : Int) (w : World) :
    Calls Try.prog 41 #[.int .i64 set] w fun e w' => e = .returned (.int .i64 (manyS set : Int)) ∧ w = w' := by
  have HH := Lib.hid fun i hi w' => RefHas_any set i hi w'
  obtain ⟨M, hM⟩ : ∃ M, M = manyS set := ⟨_, rfl⟩
  rw [← hM]
  have HM := Lib.hid hM
  clear hM
  go_enter Try.func41, Try.ntmps41
  go_wp2_with fail
  go_loop [3, 4] (fun n i => ∃ q : Nat, i = .int .i64 q ∧ n = .int .i64 ((((List.range q).filter (hasS set)).length : Nat) : Int) ∧ q ≤ 6) (fun _ i => 6 - (intOf i).toNat)
  case atStart => exact ⟨0, rfl, rfl, Nat.zero_le _⟩
  case round =>
    obtain ⟨q, rfl, rfl, hq⟩ := hrel
    have HST := Lib.hid (many_step set q)
    have hNq : ((List.range q).filter (hasS set)).length ≤ q := Nat.le_trans (List.length_filter_le _ _) (by simp)
    generalize hN : ((List.range q).filter (hasS set)).length = N at *
    have HN := Lib.hid hN
    clear hN
    by_cases hlt : q < 6
    · have d1 : decide ((q : Int) < 6) = true := decide_eq_true (by omega)
      have HLT := Lib.hid hlt
      have hq64 : q < 64 := by omega
      go_wp2_with fail
      refine (HH.out q hq64 _).mono ?_
      rintro e1 w1 ⟨rfl, rfl⟩
      cases hh : hasS set q
      · rw [hh, if_neg (by simp)] at HST
        go_wp2
        go_round
        case rel => exact ⟨q + 1, by go_num, by rw [HST.out]; rfl, HLT.out⟩
        case measure => have := HLT.out; simp [intOf]; omega
      · rw [hh, if_pos rfl] at HST
        have hw : wrap64 ((N : Int) + 1) = ((N + 1 : Nat) : Int) := IntWalk.wrap64_in _ (by omega)
        go_wp2
        go_round
        case rel => exact ⟨q + 1, by go_num, by rw [HST.out]; rfl, HLT.out⟩
        case measure => have := HLT.out; simp [intOf]; omega
    · have d1 : decide ((q : Int) < 6) = false := decide_eq_false (by omega)
      obtain rfl : q = 6 := by omega
      have HMN : Hid (M = N) := Lib.hid (HM.out.trans HN.out)
      go_wp2
      go_ret
      exact ⟨by rw [HMN.out]; rfl, rfl⟩

end Go.Proofs.Ytkpcjdhnbjkaaaa
