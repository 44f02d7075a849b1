/- Texts that the proof of B rests on, one behind the other. -/
import Derived.Test.YtkpcjdhnbjkaaaaDoorBQ1
import Derived.Test.YtkpcjdhnbjkaaaaDoorBQ2
import Derived.Test.YtkpcjdhnbjkaaaaDoorBQ3
import Derived.Test.YtkpcjdhnbjkaaaaDoorChecked
import Derived.Deep.QuietTactic
import Derived.BigQuiet
import Derived.Deep.LoopGhost
import Derived.StillTailTactics
import Derived.Deep.RegionLaw
import Derived.Deep.RegionHeld3
import Derived.Test.YtkpcjdhnbjkaaaaDoorRows

/- Package book: its small functions. -/
namespace Go.Proofs.YtkpcjdhnbjkaaaaDoor
open Go.RowKit

theorem i64_and1 (n : Int) : bits .and .i64 n 1 = n % 2 := by
  have h1 : (BitVec.ofInt 64 1).toNat = 2 ^ 1 - 1 := by decide
  have key : (BitVec.ofInt 64 n &&& BitVec.ofInt 64 1).toNat = (n % ((2 ^ 64 : Nat) : Int)).toNat % 2 ^ 1 := by
    rw [BitVec.toNat_and, BitVec.toNat_ofInt, h1, Nat.and_two_pow_sub_one_eq_mod]
  show IntKind.i64.wrap ((BitVec.ofInt 64 n &&& BitVec.ofInt 64 1).toNat : Nat) = n % 2
  rw [key, IntKind.wrap_i64]
  omega

theorem isFrom_any (n lo hi : Int) (w : World) :
    Calls Tryd.prog 16 #[.int .i64 n, .int .i64 lo, .int .i64 hi] w fun e w' => e = .returned (.bool (inR n lo hi)) ∧ w = w' := by
  unfold inR
  by_cases h1 : lo ≤ n
  · by_cases h2 : n ≤ hi
    · have d1 : decide (lo ≤ n) = true := decide_eq_true h1
      have d2 : decide (n ≤ hi) = true := decide_eq_true h2
      rw [decide_eq_true (show lo ≤ n ∧ n ≤ hi from ⟨h1, h2⟩)]
      clear h1 h2
      go_enter Tryd.func16, Tryd.ntmps16
      go_wp2
      go_ret
      exact ⟨rfl, rfl⟩
    · have d1 : decide (lo ≤ n) = true := decide_eq_true h1
      have d2 : decide (n ≤ hi) = false := decide_eq_false h2
      rw [decide_eq_false (show ¬ (lo ≤ n ∧ n ≤ hi) from fun h => h2 h.2)]
      clear h1 h2
      go_enter Tryd.func16, Tryd.ntmps16
      go_wp2
      go_ret
      exact ⟨rfl, rfl⟩
  · have d1 : decide (lo ≤ n) = false := decide_eq_false h1
    rw [decide_eq_false (show ¬ (lo ≤ n ∧ n ≤ hi) from fun h => h1 h.1)]
    clear h1
    go_enter Tryd.func16, Tryd.ntmps16
    go_wp2
    go_ret
    exact ⟨rfl, rfl⟩

theorem isVersion_any (n : Int) (w : World) :
    Calls Tryd.prog 15 #[.int .i64 n] w fun e w' => e = .returned (.bool (inR n 1 9)) ∧ w = w' := by
  have HF := Lib.hid fun w' => isFrom_any n 1 9 w'
  generalize inR n 1 9 = b at *
  go_enter Tryd.func15, Tryd.ntmps15
  go_wp2_with fail
  refine (HF.out _).mono ?_
  rintro e1 w1 ⟨rfl, rfl⟩
  go_wp2
  go_ret
  exact ⟨rfl, rfl⟩

theorem has_any (set : Int) (i : Nat) (hi : i < 64) (w : World) :
    Calls Tryd.prog 27 #[.int .i64 set, .int .i64 (i : Int)] w fun e w' => e = .returned (.bool (hasS set i)) ∧ w = w' := by
  have h0 : (0 : Int) ≤ (i : Int) := by omega
  go_enter Tryd.func27, Tryd.ntmps27
  go_wp2
  go_ret
  exact ⟨by simp only [i64_and1]; rfl, rfl⟩

/-- What OnesCount64 reckons, of a number below 64. -/
theorem manyS_nat (m : Nat) (h : m < 64) : manyS (m : Int) = (m.testBit 0).toNat + (m.testBit 1).toNat + (m.testBit 2).toNat + (m.testBit 3).toNat + (m.testBit 4).toNat + (m.testBit 5).toNat := by
  revert m
  decide +kernel

set_option maxRecDepth 100000 in
theorem size_any (m : Nat) (h : m < 64) (w : World) :
    Calls Tryd.prog 37 #[.int .i64 (m : Int)] w fun e w' => e = .returned (.int .i64 (manyS (m : Int) : Int)) ∧ w = w' := by
  have hall : ∀ m : Nat, m < 64 → ∀ w : World, Calls Tryd.prog 72 #[.int .u64 (m : Int)] w fun e w' => e = .returned (.int .i64 (manyS (m : Int) : Int)) ∧ w = w' := by
    intro m h w
    go_enter Tryd.func72, Tryd.ntmps72
    go_wp2
    go_ret
    refine ⟨?_, rfl⟩
    refine congrArg (fun n => Ending.returned (.int .i64 n)) ?_
    clear w
    revert m
    decide +kernel
  have hall2 : ∀ W, Calls Tryd.prog 64 #[.int .u64 (m : Int)] W fun e w' => e = .returned (.int .i64 (manyS (m : Int) : Int)) ∧ W = w' := by
    intro W
    have HC := Lib.hid (hall m h W)
    generalize manyS (m : Int) = k at *
    go_enter Tryd.func64, Tryd.ntmps64
    go_wp2_with fail
    refine HC.out.mono ?_
    rintro e1 w1 ⟨rfl, rfl⟩
    go_wp2
    go_ret
    exact ⟨rfl, rfl⟩
  have HC := Lib.hid hall2
  clear hall hall2
  generalize manyS (m : Int) = k at *
  go_enter Tryd.func37, Tryd.ntmps37
  go_wp2_with fail
  refine (HC.out _).mono ?_
  rintro e1 w1 ⟨rfl, rfl⟩
  go_wp2
  go_ret
  exact ⟨rfl, rfl⟩

end Go.Proofs.YtkpcjdhnbjkaaaaDoor

/- Package book: the version that is meant, whether a node is free, a queue's drains. -/
namespace Go.Proofs.YtkpcjdhnbjkaaaaDoor
open Go.RowKit

theorem boxSt (vn vj : Value) (s : St) (w : World) (t : TypeId) : Ext w (w.alloc (.cells (stC vn vj s) t)) ∧ Blk (w.alloc (.cells (stC vn vj s) t)) w.heap.size t (stC vn vj s) := ⟨(Below.refl _ _).alloc (Nat.le_refl _) _, Blk.new w t _⟩

theorem Meant_any (vn vj : Value) (s : St) (w : World) :
    Calls Tryd.prog 26 #[stV vn vj s] w fun e w' => e = .returned (.int .i64 (meantS s)) ∧ Ext w w' := by
  obtain ⟨hx, hb⟩ := boxSt vn vj s w 27
  have HX := Lib.hid hx
  clear hx hb
  unfold stV meantS
  unfold stC at HX
  by_cases h : s.mode = 2
  · have d : (s.mode == 2) = true := by rw [h]; rfl
    rw [if_pos h]
    clear h
    go_enter Tryd.func26, Tryd.ntmps26
    go_wp2
    go_ret
    exact ⟨rfl, HX.out⟩
  · have d : (s.mode == 2) = false := by rw [beq_eq_false_iff_ne]; exact h
    rw [if_neg h]
    clear h
    go_enter Tryd.func26, Tryd.ntmps26
    go_wp2
    go_ret
    exact ⟨rfl, HX.out⟩

theorem drains_step {l : List Jb} {q : Int} {k N : Nat} {j : Jb} (hj : l[k]? = some j) (h : ((l.take k).filter fun j => decide (j.queue = q ∧ j.phase = 3)).length = N) :
    (j.queue = q ∧ j.phase = 3 → ((l.take (k + 1)).filter fun j => decide (j.queue = q ∧ j.phase = 3)).length = N + 1) ∧ (¬ (j.queue = q ∧ j.phase = 3) → ((l.take (k + 1)).filter fun j => decide (j.queue = q ∧ j.phase = 3)).length = N) := by
  rw [List.take_add_one, hj, Option.toList_some, List.filter_append, List.length_append, h]
  refine ⟨fun hp => ?_, fun hp => ?_⟩
  · rw [List.filter_cons_of_pos (by simpa using hp)]; rfl
  · rw [List.filter_cons_of_neg (by simpa using hp)]; rfl

theorem Drains_any (vn vj : Value) (s : St) (q : Int) (w : World) (hj : RdJb w vj s.jobs) :
    Calls Tryd.prog 19 #[stV vn vj s, .int .i64 q] w fun e w' => e = .returned (.int .i64 (drainsS s q : Int)) ∧ Ext w w' := by
  obtain ⟨hx, hb⟩ := boxSt vn vj s w 27
  unfold stV
  unfold stC at hx hb
  obtain ⟨A, c, rfl, hnc, hcm⟩ := hj.slice_
  have HJ := Lib.hid (hj.ext hx)
  have HX := Lib.hid hx
  clear hx hj
  unfold drainsS
  generalize s.jobs = l at *
  clear hb
  go_enter Tryd.func19, Tryd.ntmps19
  obtain ⟨W0, hW0⟩ : ∃ W0, W0 = w.alloc (.cells #[vn, .slice A l.length c, .int .i64 s.goal, .int .i64 s.prior, .int .i64 s.mode, .int .i64 s.term] 27) := ⟨_, rfl⟩
  rw [← hW0] at HJ HX
  go_wp2_with fail
  rw [← hW0]
  go_loopg [5, 11] l.length (fun gg n i wr => ∃ k : Nat, i = .int .i64 k ∧ n = .int .i64 ((((l.take k).filter fun j => decide (j.queue = q ∧ j.phase = 3)).length : Nat) : Int) ∧ k ≤ l.length ∧ gg = l.length - k ∧ Hid (Ext W0 wr))
  case atStart => exact ⟨0, rfl, by simp, Nat.zero_le _, by omega, Lib.hid (Ext.refl _)⟩
  case round =>
    obtain ⟨k, rfl, rfl, hk, rfl, HXr⟩ := hrel
    generalize hN : ((l.take k).filter fun j => decide (j.queue = q ∧ j.phase = 3)).length = N at *
    by_cases hlt : k < l.length
    · have d1 : decide ((k : Int) < (l.length : Int)) = true := decide_eq_true (by omega)
      have d1' : decide (k < l.length) = true := decide_eq_true hlt
      obtain ⟨b, o, rfl, hb, hc⟩ := HJ.out.get (by omega)
      obtain ⟨j, hj⟩ : ∃ j, l[k]? = some j := ⟨_, List.getElem?_eq_getElem hlt⟩
      obtain ⟨c0, c1, c2, c3, c4, c5, c6, c7, c8, c9, c10, c11⟩ := (RdJb.at hc hj).ext HXr.out hb
      clear hc
      have HX1 := Lib.hid (HXr.out.trans ((Below.refl _ wr).alloc (Nat.le_refl _) (.cells #[.int .i64 j.queue, .int .i64 j.prio, .int .i64 j.least, .int .i64 j.most, .int .i64 j.work, .int .i64 j.pin, .int .i64 j.phase, .int .i64 j.inc, .int .i64 j.nodes, .int .i64 j.since, .int .i64 j.til, .int .i64 j.epoch] 58)))
      have HN := Lib.hid (drains_step (q := q) hj hN)
      have hNl : N ≤ k := by rw [← hN]; exact Nat.le_trans (List.length_filter_le _ _) (by rw [List.length_take]; exact Nat.min_le_left _ _)
      clear hN hj
      by_cases hq : j.queue = q
      · by_cases hp : j.phase = 3
        · have e1 : (j.queue == q) = true := by rw [hq]; exact beq_self_eq_true q
          have e2 : (j.phase == 3) = true := by rw [hp]; rfl
          have hs := HN.out.1 ⟨hq, hp⟩
          have HQ := Lib.hid hs
          have hw : wrap64 ((N : Int) + 1) = ((N + 1 : Nat) : Int) := IntWalk.wrap64_in _ (by omega)
          clear hq hp hs HN
          go_wp2
          go_roundg (l.length - (k + 1))
          case measure => omega
          case rel => exact ⟨k + 1, by go_num, by rw [HQ.out]; rfl, by omega, rfl, HX1⟩
        · have e1 : (j.queue == q) = true := by rw [hq]; exact beq_self_eq_true q
          have e2 : (j.phase == 3) = false := by rw [beq_eq_false_iff_ne]; exact hp
          have HQ := Lib.hid (HN.out.2 fun h => hp h.2)
          clear hq hp HN
          go_wp2
          go_roundg (l.length - (k + 1))
          case measure => omega
          case rel => exact ⟨k + 1, by go_num, by rw [HQ.out], by omega, rfl, HX1⟩
      · have e1 : (j.queue == q) = false := by rw [beq_eq_false_iff_ne]; exact hq
        have HQ := Lib.hid (HN.out.2 fun h => hq h.1)
        clear HN
        go_wp2
        go_roundg (l.length - (k + 1))
        case measure => omega
        case rel => exact ⟨k + 1, by go_num, by rw [HQ.out], by omega, rfl, HX1⟩
    · have d1 : decide ((k : Int) < (l.length : Int)) = false := decide_eq_false (by omega)
      have d1' : decide (k < l.length) = false := decide_eq_false hlt
      obtain rfl : k = l.length := by omega
      rw [List.take_length] at hN
      have HNN := Lib.hid hN
      clear hN
      have HX1 := Lib.hid (HX.out.trans HXr.out)
      go_wp2
      go_ret
      exact ⟨by rw [HNN.out]; rfl, HX1.out⟩

end Go.Proofs.YtkpcjdhnbjkaaaaDoor

/- Package book: whether a fleet may be, whether a node is free, whether a job's numbers may be asked. -/
namespace Go.Proofs.YtkpcjdhnbjkaaaaDoor
open Go.RowKit

set_option maxRecDepth 100000 in
theorem May_any (c : Cf) (w : World) :
    Calls Tryd.prog 14 #[cfV c] w fun e w' => e = .returned (.bool (mayC c)) ∧ Ext w w' := by
  have HF := Lib.hid fun n lo hi w' => isFrom_any n lo hi w'
  have HX := Lib.hid (show Ext w (w.alloc (.cells #[.int .i64 c.nodes, .int .i64 c.queues, .int .i64 c.quota, .int .i64 c.wave, .int .i64 c.lease, .int .i64 c.retry, .int .i64 c.deadline, .int .i64 c.room, .int .i64 c.disk] 23)) from (Below.refl _ _).alloc (Nat.le_refl _) _)
  unfold cfV mayC
  go_enter Tryd.func14, Tryd.ntmps14
  go_wp2_with fail
  refine (HF.out _ _ _ _).mono ?_
  rintro e1 w1 ⟨rfl, rfl⟩
  cases h1 : inR c.nodes 1 6
  · go_wp2
    go_ret
    exact ⟨by rw [h1]; rfl, HX.out⟩
  go_wp2_with fail
  refine (HF.out _ _ _ _).mono ?_
  rintro e1 w1 ⟨rfl, rfl⟩
  cases h2 : inR c.queues 1 3
  · go_wp2
    go_ret
    exact ⟨by rw [h1, h2]; rfl, HX.out⟩
  go_wp2_with fail
  refine (HF.out _ _ _ _).mono ?_
  rintro e1 w1 ⟨rfl, rfl⟩
  cases h3 : inR c.quota 0 4
  · go_wp2
    go_ret
    exact ⟨by rw [h1, h2, h3]; rfl, HX.out⟩
  go_wp2_with fail
  refine (HF.out _ _ _ _).mono ?_
  rintro e1 w1 ⟨rfl, rfl⟩
  cases h4 : inR c.wave 1 6
  · go_wp2
    go_ret
    exact ⟨by rw [h1, h2, h3, h4]; rfl, HX.out⟩
  go_wp2_with fail
  refine (HF.out _ _ _ _).mono ?_
  rintro e1 w1 ⟨rfl, rfl⟩
  cases h5 : inR c.lease 2 30
  · go_wp2
    go_ret
    exact ⟨by rw [h1, h2, h3, h4, h5]; rfl, HX.out⟩
  go_wp2_with fail
  refine (HF.out _ _ _ _).mono ?_
  rintro e1 w1 ⟨rfl, rfl⟩
  cases h6 : inR c.retry 1 20
  · go_wp2
    go_ret
    exact ⟨by rw [h1, h2, h3, h4, h5, h6]; rfl, HX.out⟩
  go_wp2_with fail
  refine (HF.out _ _ _ _).mono ?_
  rintro e1 w1 ⟨rfl, rfl⟩
  cases h7 : inR c.deadline 1 60
  · go_wp2
    go_ret
    exact ⟨by rw [h1, h2, h3, h4, h5, h6, h7]; rfl, HX.out⟩
  go_wp2_with fail
  refine (HF.out _ _ _ _).mono ?_
  rintro e1 w1 ⟨rfl, rfl⟩
  cases h8 : inR c.room 0 5000
  · go_wp2
    go_ret
    exact ⟨by rw [h1, h2, h3, h4, h5, h6, h7, h8]; rfl, HX.out⟩
  go_wp2_with fail
  refine (HF.out _ _ _ _).mono ?_
  rintro e1 w1 ⟨rfl, rfl⟩
  go_wp2
  go_ret
  exact ⟨by rw [h1, h2, h3, h4, h5, h6, h7, h8]; rfl, HX.out⟩

set_option maxRecDepth 100000 in
theorem asked_any (c : Cf) (j : Jb) (w : World) (hm : mayC c = true) :
    Calls Tryd.prog 28 #[cfV c, jbV j] w fun e w' => e = .returned (.bool (askedJ c j)) ∧ Ext w w' := by
  have HF := Lib.hid fun n lo hi w' => isFrom_any n lo hi w'
  have HX := Lib.hid (show Ext w ((w.alloc (.cells #[.int .i64 c.nodes, .int .i64 c.queues, .int .i64 c.quota, .int .i64 c.wave, .int .i64 c.lease, .int .i64 c.retry, .int .i64 c.deadline, .int .i64 c.room, .int .i64 c.disk] 23)).alloc (.cells #[.int .i64 j.queue, .int .i64 j.prio, .int .i64 j.least, .int .i64 j.most, .int .i64 j.work, .int .i64 j.pin, .int .i64 j.phase, .int .i64 j.inc, .int .i64 j.nodes, .int .i64 j.since, .int .i64 j.til, .int .i64 j.epoch] 58))
    from ((Below.refl _ _).alloc (Nat.le_refl _) _).alloc (by simp) _)
  have hq : wrap64 (c.queues - 1) = c.queues - 1 := by
    simp only [mayC, Bool.and_eq_true, inR_iff] at hm
    exact IntWalk.wrap64_in _ (by omega)
  clear hm
  unfold cfV jbV askedJ
  go_enter Tryd.func28, Tryd.ntmps28
  go_wp2_with fail
  refine (HF.out _ _ _ _).mono ?_
  rintro e1 w1 ⟨rfl, rfl⟩
  cases h1 : inR j.queue 0 (c.queues - 1)
  · go_wp2
    go_ret
    exact ⟨by rw [h1]; rfl, HX.out⟩
  go_wp2_with fail
  refine (HF.out _ _ _ _).mono ?_
  rintro e1 w1 ⟨rfl, rfl⟩
  cases h2 : inR j.prio 0 9
  · go_wp2
    go_ret
    exact ⟨by rw [h1, h2]; rfl, HX.out⟩
  go_wp2_with fail
  refine (HF.out _ _ _ _).mono ?_
  rintro e1 w1 ⟨rfl, rfl⟩
  cases h3 : inR j.least 1 j.most
  · go_wp2
    go_ret
    exact ⟨by rw [h1, h2, h3]; rfl, HX.out⟩
  by_cases h4 : j.most ≤ c.nodes
  · have d4 : decide (j.most ≤ c.nodes) = true := decide_eq_true h4
    go_wp2_with fail
    refine (HF.out _ _ _ _).mono ?_
    rintro e1 w1 ⟨rfl, rfl⟩
    cases h5 : inR j.work 1 1000
    · go_wp2
      go_ret
      exact ⟨by rw [h1, h2, h3, d4, h5]; rfl, HX.out⟩
    go_wp2_with fail
    refine (HF.out _ _ _ _).mono ?_
    rintro e1 w1 ⟨rfl, rfl⟩
    go_wp2
    go_ret
    exact ⟨by rw [h1, h2, h3, d4, h5]; rfl, HX.out⟩
  · have d4 : decide (j.most ≤ c.nodes) = false := decide_eq_false h4
    clear h4
    go_wp2
    go_ret
    exact ⟨by rw [h1, h2, h3, d4]; rfl, HX.out⟩

end Go.Proofs.YtkpcjdhnbjkaaaaDoor

/- Package book: whether nodes suit a job, and whether its nodes carry it. -/
namespace Go.Proofs.YtkpcjdhnbjkaaaaDoor
open Go.RowKit

theorem quiet_eq {P : Program} {f : FuncId} {args : Array Value} {w : World} {n : Nat} {v : Value} (h : Calls P f args (w.drewN n) fun e w' => e = .returned v ∧ w.drewN n = w') :
    Calls P f args (w.drewN n) fun e w'' => e = .returned v ∧ ∃ m, w'' = w.drewN m := h.mono fun _ _ h => ⟨h.1, n, h.2.symm⟩

theorem has_cells {w : World} {vn : Value} {l : List Nd} (h : RdNd w vn l) : ∃ A c, vn = .slice A l.length c ∧ l.length ≤ c ∧ c ≤ 9223372036854775807 ∧ ∀ i n, l[i]? = some n → ∃ b o, A = some ⟨b, o, none⟩ ∧ b < w.heap.size ∧ NdAt w b (o + i * 5) n := by
  obtain ⟨A, c, rfl, h1, h2⟩ := h.slice_
  refine ⟨A, c, rfl, h1, h2, fun i n hi => ?_⟩
  have hl := (List.getElem?_eq_some_iff.1 hi).1
  obtain ⟨b, o, hA, hb, hc⟩ := h.get (by omega)
  exact ⟨b, o, hA, hb, RdNd.at hc hi⟩
theorem jobs_cells {w : World} {vj : Value} {l : List Jb} (h : RdJb w vj l) : ∃ A c, vj = .slice A l.length c ∧ l.length ≤ c ∧ c ≤ 9223372036854775807 ∧ ∀ i n, l[i]? = some n → ∃ b o, A = some ⟨b, o, none⟩ ∧ b < w.heap.size ∧ JbAt w b (o + i * 12) n := by
  obtain ⟨A, c, rfl, h1, h2⟩ := h.slice_
  refine ⟨A, c, rfl, h1, h2, fun i n hi => ?_⟩
  have hl := (List.getElem?_eq_some_iff.1 hi).1
  obtain ⟨b, o, hA, hb, hc⟩ := h.get (by omega)
  exact ⟨b, o, hA, hb, RdJb.at hc hi⟩

/-- What the program knows of the version behind k nodes. -/
structure VerS (l : List Nd) (pin set : Int) (k : Nat) (v : Int) : Prop where
  hp : pin ≠ 0 → v = pin
  none_ : v = 0 → ∀ i n, i < k → l[i]? = some n → hasS set i = false
  all : v ≠ 0 → ∀ i n, i < k → l[i]? = some n → hasS set i = true → n.version = v
  one : v ≠ 0 → pin = 0 → ∃ i n, i < k ∧ l[i]? = some n ∧ hasS set i = true ∧ n.version = v
theorem VerS.zero (l : List Nd) (pin set : Int) : VerS l pin set 0 pin := ⟨fun _ => rfl, fun _ i _ h => absurd h (Nat.not_lt_zero i), fun _ i _ h => absurd h (Nat.not_lt_zero i), fun h h0 => absurd h0 h⟩
theorem VerS.skip {l : List Nd} {pin set v : Int} {k : Nat} (h : VerS l pin set k v) (hs : hasS set k = false) : VerS l pin set (k + 1) v := by
  refine ⟨h.hp, fun hv i n hi hn => ?_, fun hv i n hi hn hh => ?_, fun hv hp => ?_⟩
  · rcases Nat.lt_or_ge i k with h' | h'
    · exact h.none_ hv i n h' hn
    · have : i = k := by omega
      subst this
      exact hs
  · rcases Nat.lt_or_ge i k with h' | h'
    · exact h.all hv i n h' hn hh
    · have : i = k := by omega
      subst this
      rw [hs] at hh
      cases hh
  · obtain ⟨i, n, h1, h2⟩ := h.one hv hp
    exact ⟨i, n, by omega, h2⟩
theorem VerS.first {l : List Nd} {pin set : Int} {k : Nat} {n : Nd} (h : VerS l pin set k 0) (hn : l[k]? = some n) (hs : hasS set k = true) (hp : pin = 0) (hz : n.version ≠ 0) : VerS l pin set (k + 1) n.version := by
  refine ⟨fun h' => absurd hp h', fun hv i m hi hm => ?_, fun hv i m hi hm hh => ?_, fun hv _ => ⟨k, n, by omega, hn, hs, rfl⟩⟩
  · exact absurd hv hz
  · rcases Nat.lt_or_ge i k with h' | h'
    · rw [h.none_ rfl i m h' hm] at hh
      cases hh
    · have : i = k := by omega
      subst this
      rw [hn] at hm
      cases hm
      rfl
theorem VerS.next {l : List Nd} {pin set v : Int} {k : Nat} {n : Nd} (h : VerS l pin set k v) (hn : l[k]? = some n) (hs : hasS set k = true) (hv : v ≠ 0) (he : n.version = v) : VerS l pin set (k + 1) v := by
  refine ⟨h.hp, fun h0 => absurd h0 hv, fun _ i m hi hm hh => ?_, fun _ hp => ?_⟩
  · rcases Nat.lt_or_ge i k with h' | h'
    · exact h.all hv i m h' hm hh
    · have : i = k := by omega
      subst this
      rw [hn] at hm
      cases hm
      exact he
  · obtain ⟨i, m, h1, h2⟩ := h.one hv hp
    exact ⟨i, m, by omega, h2⟩
/-- A node of another version. -/
theorem VerS.wrong {s : St} {j : Jb} {set v : Int} {k : Nat} {n : Nd} (h : VerS s.nodes j.pin set k v) (hn : s.nodes[k]? = some n) (hs : hasS set k = true) (hv : v ≠ 0) (he : n.version ≠ v) : ¬ FitsP s j set := by
  intro hf
  by_cases hp : j.pin = 0
  · obtain ⟨i, m, _, h2, h3, h4⟩ := h.one hv hp
    exact he ((hf.one k n i m hn hs h2 h3).trans h4)
  · exact he ((hf.pin k n hn hs hp).trans (h.hp hp).symm)
theorem VerS.fits {s : St} {j : Jb} {set v : Int} (h : VerS s.nodes j.pin set s.nodes.length v) (h0 : 0 ≤ set) (h1 : set < 2 ^ s.nodes.length) (h2 : inR (manyS set) j.least j.most = true) : FitsP s j set := by
  have h3 := inR_iff.1 h2
  refine ⟨h0, h1, h3.1, h3.2, fun i n hi hh hp => ?_, fun i n k m hi hh hk hm => ?_⟩
  · have hv := h.hp hp
    rw [← hv] at hp ⊢
    exact h.all hp i n (List.getElem?_eq_some_iff.1 hi).1 hi hh
  · by_cases hv : v = 0
    · rw [h.none_ hv i n (List.getElem?_eq_some_iff.1 hi).1 hi] at hh
      cases hh
    · rw [h.all hv i n (List.getElem?_eq_some_iff.1 hi).1 hi hh, h.all hv k m (List.getElem?_eq_some_iff.1 hk).1 hk hm]

theorem shr_zero {set : Int} {n : Nat} : set / 2 ^ n = 0 ↔ 0 ≤ set ∧ set < 2 ^ n := by
  have hp : (0 : Int) < 2 ^ n := Int.pow_pos (by decide)
  constructor
  · intro h
    refine ⟨?_, ?_⟩
    · rcases Int.lt_or_le set 0 with h1 | h1
      · have := Int.ediv_neg_of_neg_of_pos h1 hp
        omega
      · exact h1
    · have := Int.lt_ediv_add_one_mul_self set hp
      rw [h] at this
      omega
  · intro h
    exact Int.ediv_eq_zero_of_lt h.1 h.2

set_option maxRecDepth 100000 in
set_option maxHeartbeats 4000000 in
theorem suits_any (vn vj : Value) (s : St) (j : Jb) (set : Int) (w : World) (hr : RdNd w vn s.nodes) (hn : s.nodes.length ≤ 6) (hver : ∀ (i : Nat) (n : Nd), s.nodes[i]? = some n → 1 ≤ n.version) :
    Calls Tryd.prog 29 #[stV vn vj s, jbV j, .int .i64 set] w fun e w' => ∃ b, e = .returned (.bool b) ∧ (b = true ↔ FitsP s j set) ∧ Ext w w' := by
  obtain ⟨A, c, rfl, hnc, hcm, hcell⟩ := has_cells hr
  have HC := Lib.hid hcell
  have HV := Lib.hid hver
  have hx : Ext w ((w.alloc (.cells #[.slice A s.nodes.length c, vj, .int .i64 s.goal, .int .i64 s.prior, .int .i64 s.mode, .int .i64 s.term] 27)).alloc (.cells #[.int .i64 j.queue, .int .i64 j.prio, .int .i64 j.least, .int .i64 j.most, .int .i64 j.work, .int .i64 j.pin, .int .i64 j.phase, .int .i64 j.inc, .int .i64 j.nodes, .int .i64 j.since, .int .i64 j.til, .int .i64 j.epoch] 58)) :=
    ((Below.refl _ _).alloc (Nat.le_refl _) _).alloc (by simp) _
  have HX := Lib.hid hx
  clear hr hcell hver hx
  unfold stV jbV
  by_cases h1 : 0 ≤ set ∧ set < 2 ^ s.nodes.length
  · obtain ⟨m, rfl⟩ : ∃ m : Nat, set = (m : Int) := ⟨set.toNat, by omega⟩
    have hm : m < 64 := by
      have h2 : 2 ^ s.nodes.length ≤ 2 ^ 6 := Nat.pow_le_pow_right (by decide) hn
      have h3 : ((2 ^ s.nodes.length : Nat) : Int) = (2 : Int) ^ s.nodes.length := by simp
      omega
    have HSZ := Lib.hid fun w' => size_any m hm w'
    have HF := Lib.hid fun n lo hi w' => isFrom_any n lo hi w'
    have HH := Lib.hid fun i h w' => has_any (m : Int) i h w'
    have hz : (m : Int) / 2 ^ s.nodes.length = 0 := shr_zero.2 h1
    have hs0 : (0 : Int) ≤ (s.nodes.length : Int) := by omega
    have hs1 : decide ((s.nodes.length : Int) < 0) = false := decide_eq_false (by omega)
    have H1 := Lib.hid h1
    clear h1
    cases h2 : inR (manyS (m : Int)) j.least j.most
    · have HNO : Hid (¬ FitsP s j (m : Int)) := Lib.hid fun hf => by
        have := inR_iff.2 ⟨hf.least, hf.most⟩
        rw [h2] at this
        cases this
      go_enter Tryd.func29, Tryd.ntmps29
      go_wp2_with fail
      go_quiet (first | (go_at_call 37; exact quiet_eq (HSZ.out _)) | (go_at_call 16; exact quiet_eq (HF.out _ _ _ _)))
      go_wp2
      go_ret
      exact ⟨false, rfl, ⟨(fun h => by cases h), fun h => absurd h HNO.out⟩, Below.drewN' HX.out _⟩
    · have HY : Hid (∀ v, VerS s.nodes j.pin (m : Int) s.nodes.length v → FitsP s j (m : Int)) := Lib.hid fun v hv => hv.fits H1.out.1 H1.out.2 h2
      have HN : Hid (∀ k n v, VerS s.nodes j.pin (m : Int) k v → s.nodes[k]? = some n → hasS (m : Int) k = true → v ≠ 0 → n.version ≠ v → ¬ FitsP s j (m : Int)) := Lib.hid fun k n v hv hn hs h0 he => hv.wrong hn hs h0 he
      have HNN := Lib.hid hn
      go_enter Tryd.func29, Tryd.ntmps29
      go_wp2_with fail
      go_quiet (first | (go_at_call 37; exact quiet_eq (HSZ.out _)) | (go_at_call 16; exact quiet_eq (HF.out _ _ _ _)))
      clear hz h2 hs0 hs1
      have HX2 := Lib.hid (Below.drewN' HX.out nq)
      clear HX
      go_wp2_with fail
      go_loopg [7, 31] s.nodes.length (fun gg v i wr => ∃ (k : Nat) (z : Int), i = .int .i64 k ∧ v = .int .i64 z ∧ k ≤ s.nodes.length ∧ gg = s.nodes.length - k ∧ Hid (Ext w wr ∧ VerS s.nodes j.pin (m : Int) k z))
      case atStart => exact ⟨0, j.pin, rfl, rfl, Nat.zero_le _, by omega, Lib.hid ⟨HX2.out, VerS.zero _ _ _⟩⟩
      case round =>
        obtain ⟨k, z, rfl, rfl, hk, rfl, HR⟩ := hrel
        by_cases hlt : k < s.nodes.length
        · have d1 : decide ((k : Int) < (s.nodes.length : Int)) = true := decide_eq_true (by omega)
          have d1' : decide (k < s.nodes.length) = true := decide_eq_true hlt
          obtain ⟨n, hnk⟩ : ∃ n, s.nodes[k]? = some n := ⟨_, List.getElem?_eq_getElem hlt⟩
          obtain ⟨b, o, rfl, hb, hat⟩ := HC.out k n hnk
          obtain ⟨c0, c1, c2, c3, c4⟩ := hat.ext HR.out.1 hb
          have HX1 := Lib.hid (HR.out.1.trans ((Below.refl _ wr).alloc (Nat.le_refl _) (.cells #[.bool n.up, .bool n.cordon, .bool n.moving, .int .i64 n.version, .int .i64 n.job] 41)))
          have hk64 : k < 64 := by omega
          have HV1 := Lib.hid (HV.out k n hnk)
          have HNK := Lib.hid hnk
          have HLT := Lib.hid hlt
          clear hnk hb
          go_wp2_with fail
          refine (HH.out k hk64 _).mono ?_
          rintro e1 w1 ⟨rfl, rfl⟩
          cases hh : hasS (m : Int) k
          · go_wp2
            go_roundg (s.nodes.length - (k + 1))
            case measure => have := HLT.out; omega
            case rel => exact ⟨k + 1, z, by go_num, rfl, HLT.out, rfl, Lib.hid ⟨HX1.out, HR.out.2.skip hh⟩⟩
          · have HHH := Lib.hid hh
            by_cases hz0 : z = 0
            · subst hz0
              have HP : Hid (j.pin = 0) := Lib.hid (Classical.byContradiction fun h => h (HR.out.2.hp h).symm)
              have hvv : (n.version == n.version) = true := beq_self_eq_true _
              go_wp2
              go_roundg (s.nodes.length - (k + 1))
              case measure => have := HLT.out; omega
              case rel => exact ⟨k + 1, n.version, by go_num, rfl, HLT.out, rfl, Lib.hid ⟨HX1.out, HR.out.2.first HNK.out HHH.out HP.out (by have := HV1.out; omega)⟩⟩
            · have HZ := Lib.hid hz0
              have hz1 : (z == 0) = false := by rw [beq_eq_false_iff_ne]; exact hz0
              clear hz0
              by_cases hv : n.version = z
              · have HE := Lib.hid hv
                have hv1 : (n.version == z) = true := by rw [hv]; exact beq_self_eq_true _
                clear hv
                go_wp2
                go_roundg (s.nodes.length - (k + 1))
                case measure => have := HLT.out; omega
                case rel => exact ⟨k + 1, z, by go_num, rfl, HLT.out, rfl, Lib.hid ⟨HX1.out, HR.out.2.next HNK.out HHH.out HZ.out HE.out⟩⟩
              · have HE := Lib.hid (HN.out k n z HR.out.2 HNK.out hh HZ.out hv)
                have hv1 : (n.version == z) = false := by rw [beq_eq_false_iff_ne]; exact hv
                clear hv
                go_wp2
                go_ret
                exact ⟨false, rfl, ⟨(fun h => by cases h), fun h => absurd h HE.out⟩, HX1.out⟩
        · have d1 : decide ((k : Int) < (s.nodes.length : Int)) = false := decide_eq_false (by omega)
          have d1' : decide (k < s.nodes.length) = false := decide_eq_false hlt
          obtain rfl : k = s.nodes.length := by omega
          have HE := Lib.hid (HY.out z HR.out.2)
          go_wp2
          go_ret
          exact ⟨true, rfl, ⟨fun _ => HE.out, fun _ => rfl⟩, HR.out.1⟩
  · have hz : (set / 2 ^ s.nodes.length == 0) = false := by
      rw [beq_eq_false_iff_ne]
      exact fun h => h1 (shr_zero.1 h)
    have hz2 : (set / 2 ^ s.nodes.length != 0) = true := by rw [bne, hz]; rfl
    have HNO : Hid (¬ FitsP s j set) := Lib.hid fun hf => h1 ⟨hf.low, hf.high⟩
    clear h1
    go_enter Tryd.func29, Tryd.ntmps29
    go_wp2_with fail
    have hs0 : (0 : Int) ≤ (s.nodes.length : Int) := by omega
    go_quiet (fail)
    go_wp2
    go_ret
    exact ⟨false, rfl, ⟨(fun h => by cases h), fun h => absurd h HNO.out⟩, Below.drewN' HX.out _⟩

/-! ### Its nodes carry it -/
set_option maxRecDepth 100000 in
set_option maxHeartbeats 4000000 in
theorem carried_any (vn vj : Value) (s : St) (k : Nat) (j : Jb) (w : World) (hr : RdNd w vn s.nodes) (hrj : RdJb w vj s.jobs) (hj : s.jobs[k]? = some j) (hn : s.nodes.length ≤ 6) (_hjl : s.jobs.length ≤ 24) :
    Calls Tryd.prog 30 #[stV vn vj s, .int .i64 ((k : Int) + 1)] w fun e w' => ∃ b, e = .returned (.bool b) ∧ (b = true ↔ CarriedL s k j) ∧ Ext w w' := by
  obtain ⟨A, c, rfl, hnc, hcm, hcell⟩ := has_cells hr
  obtain ⟨A2, c2, rfl, hnc2, hcm2, hcell2⟩ := jobs_cells hrj
  obtain ⟨b2, o2, rfl, hb2, hat2⟩ := hcell2 k j hj
  have HC := Lib.hid hcell
  have hx : Ext w (w.alloc (.cells #[.slice A s.nodes.length c, .slice (some ⟨b2, o2, none⟩) s.jobs.length c2, .int .i64 s.goal, .int .i64 s.prior, .int .i64 s.mode, .int .i64 s.term] 27)) := (Below.refl _ _).alloc (Nat.le_refl _) _
  have hbk := Blk.new w 27 #[.slice A s.nodes.length c, .slice (some ⟨b2, o2, none⟩) s.jobs.length c2, .int .i64 s.goal, .int .i64 s.prior, .int .i64 s.mode, .int .i64 s.term]
  obtain ⟨W1, hW1⟩ : ∃ W1, W1 = (w.alloc (.cells #[.slice A s.nodes.length c, .slice (some ⟨b2, o2, none⟩) s.jobs.length c2, .int .i64 s.goal, .int .i64 s.prior, .int .i64 s.mode, .int .i64 s.term] 27)) := ⟨_, rfl⟩
  rw [← hW1] at hx hbk
  have HX := Lib.hid hx
  have HBK := Lib.hid hbk
  have HH := Lib.hid fun i h w' => has_any j.nodes i h w'
  have hkl := (List.getElem?_eq_some_iff.1 hj).1
  have HAT := Lib.hid hat2
  have hw1 : wrap64 ((k : Int) + 1 - 1) = (k : Int) := by rw [IntWalk.wrap64_in _ (by omega)]; omega
  have HB2 := Lib.hid hb2
  clear hr hrj hcell hcell2 hx hbk hj hat2 hb2
  unfold stV
  go_enter Tryd.func30, Tryd.ntmps30
  go_wp2_with fail
  rw [← hW1]
  clear hW1
  go_loopg [10] s.nodes.length (fun gg i wr => ∃ (q : Nat), i = .int .i64 q ∧ q ≤ s.nodes.length ∧ gg = s.nodes.length - q ∧ Hid (Ext W1 wr ∧ ∀ i n, i < q → s.nodes[i]? = some n → hasS j.nodes i = true → n.up = true ∧ n.moving = false ∧ n.job = (k : Int) + 1))
  case atStart => exact ⟨0, rfl, Nat.zero_le _, by omega, Lib.hid ⟨Ext.refl _, fun i n h => absurd h (Nat.not_lt_zero i)⟩⟩
  case round =>
    obtain ⟨q, rfl, hq, rfl, HR⟩ := hrel
    by_cases hlt : q < s.nodes.length
    · have d1 : decide ((q : Int) < (s.nodes.length : Int)) = true := decide_eq_true (by omega)
      have d1' : decide (q < s.nodes.length) = true := decide_eq_true hlt
      obtain ⟨n, hnk⟩ : ∃ n, s.nodes[q]? = some n := ⟨_, List.getElem?_eq_getElem hlt⟩
      obtain ⟨b, o, rfl, hb, hat⟩ := HC.out q n hnk
      obtain ⟨c0, c1, c2_, c3, c4⟩ := hat.ext (HX.out.trans HR.out.1) hb
      have c8 := (HAT.out.ext (HX.out.trans HR.out.1) HB2.out).c8
      have s0 : wr.cell? ⟨w.heap.size, 1, none⟩ = some (.slice (some ⟨b2, o2, none⟩) s.jobs.length c2) := (HBK.out.ext HR.out.1).cell 1
      have hl0 : w.heap.size < wr.heap.size := (HBK.out.ext HR.out.1).lt
      have hl2 : b2 < wr.heap.size := Nat.lt_of_lt_of_le HB2.out (HX.out.trans HR.out.1).size
      have HX1 := Lib.hid fun cs => HR.out.1.trans ((Below.refl _ wr).alloc (Nat.le_refl _) (.cells cs 41))
      have hk64 : q < 64 := by omega
      have HNK := Lib.hid hnk
      have HLT := Lib.hid hlt
      clear hnk hb hat
      go_wp2_with fail
      refine (HH.out q hk64 _).mono ?_
      rintro e1 w1 ⟨rfl, rfl⟩
      have HXw := Lib.hid fun cs => HX.out.trans (HX1.out cs)
      have HSKIP : Hid (hasS j.nodes q = false ∨ (n.up = true ∧ n.moving = false ∧ n.job = (k : Int) + 1) → (∀ i n, i < q + 1 → s.nodes[i]? = some n → hasS j.nodes i = true → n.up = true ∧ n.moving = false ∧ n.job = (k : Int) + 1)) := Lib.hid fun ho i m hi hm hh => by
        rcases Nat.lt_or_ge i q with h' | h'
        · exact HR.out.2 i m h' hm hh
        · obtain rfl : i = q := by omega
          rw [HNK.out] at hm
          cases hm
          rcases ho with ho | ho
          · rw [ho] at hh
            cases hh
          · exact ho
      have HNO : Hid (¬ (n.up = true ∧ n.moving = false ∧ n.job = (k : Int) + 1) → hasS j.nodes q = true → ¬ CarriedL s k j) := Lib.hid fun h hh hc => h (hc q n HNK.out hh)
      cases hh : hasS j.nodes q
      · go_wp2
        go_roundg (s.nodes.length - (q + 1))
        case measure => have := HLT.out; omega
        case rel => exact ⟨q + 1, by go_num, HLT.out, rfl, Lib.hid ⟨HX1.out _, HSKIP.out (.inl hh)⟩⟩
      · have HHH := Lib.hid hh
        cases hup : n.up
        · go_wp2
          go_ret
          exact ⟨false, rfl, ⟨(fun h => by cases h), fun h => absurd h (HNO.out (fun h => by rw [hup] at h; cases h.1) HHH.out)⟩, HXw.out _⟩
        cases hmv : n.moving
        · by_cases hjb : n.job = (k : Int) + 1
          · have e1 : (n.job == (k : Int) + 1) = true := by rw [hjb]; exact beq_self_eq_true _
            have HJ := Lib.hid hjb
            clear hjb
            go_wp2
            go_roundg (s.nodes.length - (q + 1))
            case measure => have := HLT.out; omega
            case rel => exact ⟨q + 1, by go_num, HLT.out, rfl, Lib.hid ⟨HX1.out _, HSKIP.out (.inr ⟨hup, hmv, HJ.out⟩)⟩⟩
          · have e1 : (n.job == (k : Int) + 1) = false := by rw [beq_eq_false_iff_ne]; exact hjb
            have HJ := Lib.hid hjb
            clear hjb
            go_wp2
            go_ret
            exact ⟨false, rfl, ⟨(fun h => by cases h), fun h => absurd h (HNO.out (fun h => HJ.out h.2.2) HHH.out)⟩, HXw.out _⟩
        · go_wp2
          go_ret
          exact ⟨false, rfl, ⟨(fun h => by cases h), fun h => absurd h (HNO.out (fun h => by rw [hmv] at h; cases h.2.1) HHH.out)⟩, HXw.out _⟩
    · have d1 : decide ((q : Int) < (s.nodes.length : Int)) = false := decide_eq_false (by omega)
      have d1' : decide (q < s.nodes.length) = false := decide_eq_false hlt
      obtain rfl : q = s.nodes.length := by omega
      have HE : Hid (CarriedL s k j) := Lib.hid fun i n hi hh => HR.out.2 i n (List.getElem?_eq_some_iff.1 hi).1 hi hh
      have HX1 := Lib.hid (HX.out.trans HR.out.1)
      go_wp2
      go_ret
      exact ⟨true, rfl, ⟨fun _ => HE.out, fun _ => rfl⟩, HX1.out⟩

end Go.Proofs.YtkpcjdhnbjkaaaaDoor

/- Measures of loops that count up: no sum behind wrap64 in sight of the kernel. No program is named here. -/
namespace Go.Proofs.YtkpcjdhnbjkaaaaDoor
open Go.RowKit

theorem measQ {N q : Nat} (h : q < N) : N - (intOf (.int .i64 ((q : Int) + 1))).toNat < N - (intOf (.int .i64 (q : Int))).toNat := by
  simp [intOf]
  omega
theorem measZ {N : Nat} {z : Int} (h0 : 0 ≤ z) (h : z < (N : Int)) : N - (intOf (.int .i64 (z + 1))).toNat < N - (intOf (.int .i64 z)).toNat := by
  simp [intOf]
  omega
theorem Blk.six {w : World} {g : Nat} {t : TypeId} {x0 x1 x2 x3 x4 x5 : Value} (h : Blk w g t #[x0, x1, x2, x3, x4, x5]) : w.cell? ⟨g, 0, none⟩ = some x0 ∧ w.cell? ⟨g, 1, none⟩ = some x1 ∧ w.cell? ⟨g, 2, none⟩ = some x2 ∧ w.cell? ⟨g, 3, none⟩ = some x3 ∧ w.cell? ⟨g, 4, none⟩ = some x4 ∧ w.cell? ⟨g, 5, none⟩ = some x5 := ⟨h.cell 0, h.cell 1, h.cell 2, h.cell 3, h.cell 4, h.cell 5⟩

end Go.Proofs.YtkpcjdhnbjkaaaaDoor

/- Layer 17, plain: jobs that there are; all is done; the first op; blocks of seven and nine cells. No program is named here. -/
namespace Go.Proofs.YtkpcjdhnbjkaaaaDoor
open Go.RowKit

/-- Nodes' jobs are jobs that there are. -/
def OkJ (s : St) : Prop := ∀ (i : Nat) (n : Nd), s.nodes[i]? = some n → 0 ≤ n.job ∧ n.job ≤ (s.jobs.length : Int)
theorem OkJ.of_right {c : Cf} {s : St} (h : RightP c s) : OkJ s := fun i n hi => ⟨(h.node i n hi).j0, (h.node i n hi).jl⟩
theorem aloneI_out {s : St} {i : Int} (h : i < 0 ∨ (s.nodes.length : Int) ≤ i) : aloneI s i = false := by
  unfold aloneI
  by_cases h0 : i < 0
  · rw [if_pos h0]
  · rw [if_neg h0, List.getElem?_eq_none (by omega)]
theorem aloneN_no {s : St} {n : Nd} (h : n.job = 0) : aloneN s n = false := by
  unfold aloneN jobOf
  rw [if_neg (by omega)]
theorem doneW_no {s : St} {n : Nd} {i : Nat} (hi : s.nodes[i]? = some n) (h : toDo s n = true) : doneW s = false := by
  unfold doneW
  rw [List.all_eq_false]
  exact ⟨n, List.mem_of_getElem? hi, by rw [h]; simp⟩
theorem doneW_yes {s : St} (h : ∀ (i : Nat) n, i < s.nodes.length → s.nodes[i]? = some n → toDo s n = false) : doneW s = true := by
  unfold doneW
  rw [List.all_eq_true]
  intro n hn
  obtain ⟨i, hi⟩ := List.mem_iff_getElem?.1 hn
  rw [h i n (List.getElem?_eq_some_iff.1 hi).1 hi]
  rfl
theorem Blk.nine {w : World} {g : Nat} {t : TypeId} {x0 x1 x2 x3 x4 x5 x6 x7 x8 : Value} (h : Blk w g t #[x0, x1, x2, x3, x4, x5, x6, x7, x8]) : w.cell? ⟨g, 0, none⟩ = some x0 ∧ w.cell? ⟨g, 1, none⟩ = some x1 ∧ w.cell? ⟨g, 2, none⟩ = some x2 ∧ w.cell? ⟨g, 3, none⟩ = some x3 ∧ w.cell? ⟨g, 4, none⟩ = some x4 ∧ w.cell? ⟨g, 5, none⟩ = some x5 ∧ w.cell? ⟨g, 6, none⟩ = some x6 ∧ w.cell? ⟨g, 7, none⟩ = some x7 ∧ w.cell? ⟨g, 8, none⟩ = some x8 := ⟨h.cell 0, h.cell 1, h.cell 2, h.cell 3, h.cell 4, h.cell 5, h.cell 6, h.cell 7, h.cell 8⟩
theorem Blk.seven {w : World} {g : Nat} {t : TypeId} {x0 x1 x2 x3 x4 x5 x6 : Value} (h : Blk w g t #[x0, x1, x2, x3, x4, x5, x6]) : w.cell? ⟨g, 0, none⟩ = some x0 ∧ w.cell? ⟨g, 1, none⟩ = some x1 ∧ w.cell? ⟨g, 2, none⟩ = some x2 ∧ w.cell? ⟨g, 3, none⟩ = some x3 ∧ w.cell? ⟨g, 4, none⟩ = some x4 ∧ w.cell? ⟨g, 5, none⟩ = some x5 ∧ w.cell? ⟨g, 6, none⟩ = some x6 := ⟨h.cell 0, h.cell 1, h.cell 2, h.cell 3, h.cell 4, h.cell 5, h.cell 6⟩
theorem fromO_hit2 {l : List Nd} {f : Nat → Nd → Option OpN} {o : OpN} {k : Nat} {n : Nd} (hk : k < l.length) (hn : l[k]? = some n) (h : f k n = some o) : fromO l f (l.length - k) k = some o := by
  rw [show l.length - k = (l.length - (k + 1)) + 1 by omega]
  exact fromO_hit hn h
theorem fromO_miss2 {l : List Nd} {f : Nat → Nd → Option OpN} {k : Nat} {n : Nd} (hk : k < l.length) (hn : l[k]? = some n) (h : f k n = none) : fromO l f (l.length - k) k = fromO l f (l.length - (k + 1)) (k + 1) := by
  rw [show l.length - k = (l.length - (k + 1)) + 1 by omega]
  exact fromO_miss hn h
theorem fromO_end {l : List Nd} {f : Nat → Nd → Option OpN} {k : Nat} (hk : ¬ k < l.length) : fromO l f (l.length - k) k = none := by
  rw [show l.length - k = 0 by omega]
  rfl
theorem nextW_at {c : Cf} {s : St} {now : Int} (hm : s.mode ≠ 1) {L1 L2 L3 : Option OpN} (h1 : L1 = firstO s.nodes (way1 s)) (h2 : L2 = firstO s.nodes (way2 c s now)) (h3 : L3 = firstO s.nodes (way3 c s)) :
    (∀ o, L1 = some o → nextW c s now = some o) ∧ (L1 = none → ∀ o, L2 = some o → nextW c s now = some o) ∧ (L1 = none → L2 = none → nextW c s now = L3) := by
  unfold nextW
  rw [if_neg hm, ← h1, ← h2, ← h3]
  refine ⟨fun o h => by rw [h], fun h o h' => by rw [h, h'], fun h h' => by rw [h, h']⟩

end Go.Proofs.YtkpcjdhnbjkaaaaDoor

/- Slices of numbers in this translation's numbers. -/
namespace Go.Proofs.YtkpcjdhnbjkaaaaDoor
open Go.RowKit

theorem Tryd.infoInt : (Tryd.prog.info? 3).map (fun i => (i.zero, i.size, i.bytes)) = some (some (.int .i64 0), 1, 8) := by kernel_rfl

/-- 'l = append(l, x)', l a row of numbers of the call's own. -/
theorem push_int {w : World} {ops : Array Oper} {rest : List Oper} {o : Oper} {a : Act} {Q : Exit → Act → World → Prop} {gx : Nat} (hgd : o.guard = none) (s x : Operand)
    (ho : o.op = .call { callee := .builtin .append, args := #[s, x], argTypes := #[42, 42] })
    (base : Nat) (v : Value) (xs : List Value) (hs : a.eval s = v) (hown : w.ownsRow base 3 1 v xs.length xs) (u : Value) (h1 : u.oneCell' = true)
    (hx : a.eval x = .slice (some ⟨gx, 0, none⟩) 1 1) (hlen : xs.length < 17592186044416) (hbase : base ≤ w.heap.size)
    (h : ∀ v' w', Grew base 3 v w (xs ++ [u]) v' w' → wpList Tryd.prog ops Q rest (a.put o.dst v') w') (hgx : gx = w.heap.size := by simp) : wpList Tryd.prog ops Q (o :: rest) a (w.alloc (.cells #[u] 3)) := by
  subst hgx
  exact wpList_push hgd s x 42 ho base 3 (.int .i64 0) 8 Tryd.underlying42 Tryd.infoInt rfl v xs hs hown u h1 hx (by unfold maxLen; omega) (by omega) hbase h

end Go.Proofs.YtkpcjdhnbjkaaaaDoor

/- Layer 17: who is behind, as numbers; the statements' example. -/
namespace Go.Proofs.YtkpcjdhnbjkaaaaDoor
open Go.RowKit

def listI (f : Nat → Bool) (q : Nat) : List Int := (listTo f q).map fun k : Nat => (k : Int)
theorem listI_step (f : Nat → Bool) (q : Nat) : listI f (q + 1) = listI f q ++ (if f q = true then [(q : Int)] else []) := by
  unfold listI
  rw [listTo_step, List.map_append]
  cases f q <;> rfl
theorem listI_len (f : Nat → Bool) (q : Nat) : (listI f q).length ≤ q := by
  unfold listI listTo
  rw [List.length_map]
  exact Nat.le_trans (List.length_filter_le _ _) (by simp)
def behI (s : St) : List Int := listI (nodeIs s.nodes (behindN s)) s.nodes.length
theorem RightP.w17 {c : Cf} {s : St} (h : RightP c s) : s.nodes.length ≤ 6 ∧ s.jobs.length ≤ 24 ∧ OkJ s ∧ 0 ≤ c.deadline ∧ c.deadline ≤ 60 := by
  have h1 := h.may
  unfold mayC inR at h1
  simp only [Bool.and_eq_true, decide_eq_true_eq] at h1
  exact ⟨h.len.2, h.nj, OkJ.of_right h, by omega, by omega⟩

def exWc : Cf := ⟨1, 1, 0, 1, 2, 1, 1, 0, 2000⟩
def exWs : St := ⟨[⟨true, false, false, 1, 0⟩], [], 2, 1, 0, 0⟩
def exWt : St := ⟨[⟨true, true, false, 1, 0⟩], [], 2, 1, 0, 0⟩
theorem rdS_made {K n : Nat} {w' : World} {cs : Array Value} {e : TypeId} {g : Nat} (hb : Blk w' g e cs) (hc : cs.size = n * K) (hn : n ≤ maxLen) : RdS K w' (.slice (some ⟨g, 0, none⟩) n n) n cs.toList :=
  ⟨by rw [Array.length_toList, hc], some ⟨g, 0, none⟩, n, rfl, Nat.le_refl _, hn, fun _ => ⟨g, 0, rfl, hb.lt, fun j u hu => by
    rw [Nat.zero_add, hb.cell]
    simpa using hu⟩⟩
theorem rdS_nil (K : Nat) (w : World) : RdS K w (.slice none 0 0) 0 [] := ⟨(Nat.zero_mul K).symm, none, 0, rfl, Nat.le_refl _, Nat.zero_le _, fun h => absurd h (Nat.lt_irrefl _)⟩
theorem exW_right {b : Bool} : RightP exWc ⟨[⟨true, b, false, 1, 0⟩], [], 2, 1, 0, 0⟩ where
  may := by decide
  nn := by rfl
  nj := Nat.zero_le _
  g1 := by show (1 : Int) ≤ 2; omega
  g9 := by show (2 : Int) ≤ 9; omega
  p1 := by show (1 : Int) ≤ 1; omega
  p9 := by show (1 : Int) ≤ 9; omega
  m0 := by show (0 : Int) ≤ 0; omega
  m2 := by show (0 : Int) ≤ 2; omega
  t0 := by show (0 : Int) ≤ 0; omega
  t9 := by show (0 : Int) ≤ 1000000; omega
  node := by
    intro i n hi
    match i, hi with
    | 0, hi =>
      cases hi
      exact ⟨by show (1 : Int) ≤ 1; omega, by show (1 : Int) ≤ 9; omega, by show (0 : Int) ≤ 0; omega, by show (0 : Int) ≤ _; omega, fun h => by cases h⟩
  job := by
    intro k j hk
    cases hk
  drains := fun q hq => by show ((0 : Nat) : Int) ≤ 0; omega
theorem exWs_right : RightP exWc exWs := exW_right
theorem exWt_right : RightP exWc exWt := exW_right
theorem exWs_next : nextW exWc exWs 0 = some (16, 0, 0, 0, 0, 0, 0) := by kernel_rfl
theorem exWt_next : nextW exWc exWt 0 = some (18, 0, 0, 0, 0, 0, 0) := by kernel_rfl
theorem exWt_wave : waveS exWt = 1 := by decide +kernel
theorem exWt_behind : behI exWt = [0] := by decide +kernel
theorem exWt_done : doneW exWt = false := by decide +kernel
theorem exWt_alone : aloneI exWt 0 = false := by decide +kernel

end Go.Proofs.YtkpcjdhnbjkaaaaDoor

/- An op, or none, as a function of two results tells it. -/
namespace Go.Proofs.YtkpcjdhnbjkaaaaDoor
open Go.RowKit

def opA (o : OpN) : Value := .agg #[.int .i64 o.1, .int .i64 o.2.1, .int .i64 o.2.2.1, .int .i64 o.2.2.2.1, .int .i64 o.2.2.2.2.1, .int .i64 o.2.2.2.2.2.1, .int .i64 o.2.2.2.2.2.2]
/-- An op and true, or a zero one and false. -/
def optV : Option OpN → Value
  | some o => .tuple #[opA o, .bool true]
  | none => .tuple #[opA zeroO, .bool false]
theorem infoOp : (Tryd.prog.info? 32).map (·.size) = some 7 := by kernel_rfl
theorem results_op {fn : Func} {p u : Tmp} {t : TypeId} (h : fn.results = #[.cell p t, .tmp u]) (tmps : Array Value) (P : Program) (w : World) :
    (results fn tmps).run P w = ((asAddr (tmps.getD p undef)).run P w).andThen fun a w₁ => ((loadVar t a).run P w₁).andThen fun v w₂ => .ok (.tuple #[v, tmps.getD u undef]) w₂ := by
  simp only [results, h]
  simp [Sem.run_bind, Result.andThen]
set_option maxRecDepth 100000 in
theorem run_op {fn : Func} {p q : Tmp} (h : fn.results = #[.cell p 32, .tmp q]) {tmps : Array Value} {w : World} {g : Nat} {cs : Array Value} {b : Bool}
    (h2 : tmps.getD p undef = .pointer (some ⟨g, 0, none⟩)) (h3 : tmps.getD q undef = .bool b) (hb : Blk w g 32 cs) (hs : cs.size = 7) : (results fn tmps).run Tryd.prog w = .ok (.tuple #[.agg cs, .bool b]) w := by
  have i1 : (Tryd.prog.info? 32).map (·.size) = some cs.size := by rw [hs]; exact infoOp
  rw [results_op h, h2, h3]
  simp only [asAddr, Sem.run_pure, Result.andThen_ok, run_loadVar_row w g 32 32 _ (0, 0) _ hb rfl rfl i1]

end Go.Proofs.YtkpcjdhnbjkaaaaDoor
