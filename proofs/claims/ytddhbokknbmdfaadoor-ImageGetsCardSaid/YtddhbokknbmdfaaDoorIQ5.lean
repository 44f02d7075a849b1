/- Texts that the proof of I rests on, one behind the other. -/
import Derived.Test.YtddhbokknbmdfaaDoorIQ4
import Derived.Test.YtddhbokknbmdfaaDoorChecked
import Derived.Deep.QuietTactic
import Derived.BigQuiet
import Derived.Deep.LoopGhost
import Derived.StillTailTactics
import Derived.Deep.RegionLaw
import Derived.Deep.RegionHeld3
import Derived.Test.YtddhbokknbmdfaaDoorRows
import Derived.Laws.OwnMore
import Derived.Lib.LaidTab
import Derived.WalkLawsBesides

/- Package book: its small functions. -/
namespace Go.Proofs.YtddhbokknbmdfaaDoor
open Go.RowKit

theorem i64_and1 (n : Int) : bits .and .i64 n 1 = n % 2 := by
  have h1 : (BitVec.ofInt 64 1).toNat = 2 ^ 1 - 1 := by decide
  have key : (BitVec.ofInt 64 n &&& BitVec.ofInt 64 1).toNat = (n % ((2 ^ 64 : Nat) : Int)).toNat % 2 ^ 1 := by
    rw [BitVec.toNat_and, BitVec.toNat_ofInt, h1, Nat.and_two_pow_sub_one_eq_mod]
  show IntKind.i64.wrap ((BitVec.ofInt 64 n &&& BitVec.ofInt 64 1).toNat : Nat) = n % 2
  rw [key, IntKind.wrap_i64]
  omega

theorem isFrom_any (n lo hi : Int) (w : World) :
    Calls Tryd.prog 37 #[.int .i64 n, .int .i64 lo, .int .i64 hi] w fun e w' => e = .returned (.bool (inR n lo hi)) ∧ w = w' := by
  unfold inR
  by_cases h1 : lo ≤ n
  · by_cases h2 : n ≤ hi
    · have d1 : decide (lo ≤ n) = true := decide_eq_true h1
      have d2 : decide (n ≤ hi) = true := decide_eq_true h2
      rw [decide_eq_true (show lo ≤ n ∧ n ≤ hi from ⟨h1, h2⟩)]
      clear h1 h2
      go_enter Tryd.func37, Tryd.ntmps37
      go_wp2
      go_ret
      exact ⟨rfl, rfl⟩
    · have d1 : decide (lo ≤ n) = true := decide_eq_true h1
      have d2 : decide (n ≤ hi) = false := decide_eq_false h2
      rw [decide_eq_false (show ¬ (lo ≤ n ∧ n ≤ hi) from fun h => h2 h.2)]
      clear h1 h2
      go_enter Tryd.func37, Tryd.ntmps37
      go_wp2
      go_ret
      exact ⟨rfl, rfl⟩
  · have d1 : decide (lo ≤ n) = false := decide_eq_false h1
    rw [decide_eq_false (show ¬ (lo ≤ n ∧ n ≤ hi) from fun h => h1 h.1)]
    clear h1
    go_enter Tryd.func37, Tryd.ntmps37
    go_wp2
    go_ret
    exact ⟨rfl, rfl⟩

theorem isVersion_any (n : Int) (w : World) :
    Calls Tryd.prog 36 #[.int .i64 n] w fun e w' => e = .returned (.bool (inR n 1 9)) ∧ w = w' := by
  have HF := Lib.hid fun w' => isFrom_any n 1 9 w'
  generalize inR n 1 9 = b at *
  go_enter Tryd.func36, Tryd.ntmps36
  go_wp2_with fail
  refine (HF.out _).mono ?_
  rintro e1 w1 ⟨rfl, rfl⟩
  go_wp2
  go_ret
  exact ⟨rfl, rfl⟩

theorem has_any (set : Int) (i : Nat) (hi : i < 64) (w : World) :
    Calls Tryd.prog 56 #[.int .i64 set, .int .i64 (i : Int)] w fun e w' => e = .returned (.bool (hasS set i)) ∧ w = w' := by
  have h0 : (0 : Int) ≤ (i : Int) := by omega
  go_enter Tryd.func56, Tryd.ntmps56
  go_wp2
  go_ret
  exact ⟨by simp only [i64_and1]; rfl, rfl⟩

/-- What OnesCount64 reckons, of a number below 64. -/
theorem manyS_nat (m : Nat) (h : m < 64) : manyS (m : Int) = (m.testBit 0).toNat + (m.testBit 1).toNat + (m.testBit 2).toNat + (m.testBit 3).toNat + (m.testBit 4).toNat + (m.testBit 5).toNat := by
  revert m
  decide +kernel

set_option maxRecDepth 100000 in
theorem size_any (m : Nat) (h : m < 64) (w : World) :
    Calls Tryd.prog 101 #[.int .i64 (m : Int)] w fun e w' => e = .returned (.int .i64 (manyS (m : Int) : Int)) ∧ w = w' := by
  have hall : ∀ m : Nat, m < 64 → ∀ w : World, Calls Tryd.prog 111 #[.int .u64 (m : Int)] w fun e w' => e = .returned (.int .i64 (manyS (m : Int) : Int)) ∧ w = w' := by
    intro m h w
    go_enter Tryd.func111, Tryd.ntmps111
    go_wp2
    go_ret
    refine ⟨?_, rfl⟩
    refine congrArg (fun n => Ending.returned (.int .i64 n)) ?_
    clear w
    revert m
    decide +kernel
  have hall2 : ∀ W, Calls Tryd.prog 108 #[.int .u64 (m : Int)] W fun e w' => e = .returned (.int .i64 (manyS (m : Int) : Int)) ∧ W = w' := by
    intro W
    have HC := Lib.hid (hall m h W)
    generalize manyS (m : Int) = k at *
    go_enter Tryd.func108, Tryd.ntmps108
    go_wp2_with fail
    refine HC.out.mono ?_
    rintro e1 w1 ⟨rfl, rfl⟩
    go_wp2
    go_ret
    exact ⟨rfl, rfl⟩
  have HC := Lib.hid hall2
  clear hall hall2
  generalize manyS (m : Int) = k at *
  go_enter Tryd.func101, Tryd.ntmps101
  go_wp2_with fail
  refine (HC.out _).mono ?_
  rintro e1 w1 ⟨rfl, rfl⟩
  go_wp2
  go_ret
  exact ⟨rfl, rfl⟩

end Go.Proofs.YtddhbokknbmdfaaDoor

/- Package book: the version that is meant, whether a node is free, a queue's drains. -/
namespace Go.Proofs.YtddhbokknbmdfaaDoor
open Go.RowKit

theorem boxSt (vn vj : Value) (s : St) (w : World) (t : TypeId) : Ext w (w.alloc (.cells (stC vn vj s) t)) ∧ Blk (w.alloc (.cells (stC vn vj s) t)) w.heap.size t (stC vn vj s) := ⟨(Below.refl _ _).alloc (Nat.le_refl _) _, Blk.new w t _⟩

theorem Meant_any (vn vj : Value) (s : St) (w : World) :
    Calls Tryd.prog 12 #[stV vn vj s] w fun e w' => e = .returned (.int .i64 (meantS s)) ∧ Ext w w' := by
  obtain ⟨hx, hb⟩ := boxSt vn vj s w 30
  have HX := Lib.hid hx
  clear hx hb
  unfold stV meantS
  unfold stC at HX
  by_cases h : s.mode = 2
  · have d : (s.mode == 2) = true := by rw [h]; rfl
    rw [if_pos h]
    clear h
    go_enter Tryd.func12, Tryd.ntmps12
    go_wp2
    go_ret
    exact ⟨rfl, HX.out⟩
  · have d : (s.mode == 2) = false := by rw [beq_eq_false_iff_ne]; exact h
    rw [if_neg h]
    clear h
    go_enter Tryd.func12, Tryd.ntmps12
    go_wp2
    go_ret
    exact ⟨rfl, HX.out⟩

theorem drains_step {l : List Jb} {q : Int} {k N : Nat} {j : Jb} (hj : l[k]? = some j) (h : ((l.take k).filter fun j => decide (j.queue = q ∧ j.phase = 3)).length = N) :
    (j.queue = q ∧ j.phase = 3 → ((l.take (k + 1)).filter fun j => decide (j.queue = q ∧ j.phase = 3)).length = N + 1) ∧ (¬ (j.queue = q ∧ j.phase = 3) → ((l.take (k + 1)).filter fun j => decide (j.queue = q ∧ j.phase = 3)).length = N) := by
  rw [List.take_add_one, hj, Option.toList_some, List.filter_append, List.length_append, h]
  refine ⟨fun hp => ?_, fun hp => ?_⟩
  · rw [List.filter_cons_of_pos (by simpa using hp)]; rfl
  · rw [List.filter_cons_of_neg (by simpa using hp)]; rfl

theorem Drains_any (vn vj : Value) (s : St) (q : Int) (w : World) (hj : RdJb w vj s.jobs) :
    Calls Tryd.prog 14 #[stV vn vj s, .int .i64 q] w fun e w' => e = .returned (.int .i64 (drainsS s q : Int)) ∧ Ext w w' := by
  obtain ⟨hx, hb⟩ := boxSt vn vj s w 30
  unfold stV
  unfold stC at hx hb
  obtain ⟨A, c, rfl, hnc, hcm⟩ := hj.slice_
  have HJ := Lib.hid (hj.ext hx)
  have HX := Lib.hid hx
  clear hx hj
  unfold drainsS
  generalize s.jobs = l at *
  clear hb
  go_enter Tryd.func14, Tryd.ntmps14
  obtain ⟨W0, hW0⟩ : ∃ W0, W0 = w.alloc (.cells #[vn, .slice A l.length c, .int .i64 s.goal, .int .i64 s.prior, .int .i64 s.mode, .int .i64 s.term] 30) := ⟨_, rfl⟩
  rw [← hW0] at HJ HX
  go_wp2_with fail
  rw [← hW0]
  go_loopg [5, 11] l.length (fun gg n i wr => ∃ k : Nat, i = .int .i64 k ∧ n = .int .i64 ((((l.take k).filter fun j => decide (j.queue = q ∧ j.phase = 3)).length : Nat) : Int) ∧ k ≤ l.length ∧ gg = l.length - k ∧ Hid (Ext W0 wr))
  case atStart => exact ⟨0, rfl, by simp, Nat.zero_le _, by omega, Lib.hid (Ext.refl _)⟩
  case round =>
    obtain ⟨k, rfl, rfl, hk, rfl, HXr⟩ := hrel
    generalize hN : ((l.take k).filter fun j => decide (j.queue = q ∧ j.phase = 3)).length = N at *
    by_cases hlt : k < l.length
    · have d1 : decide ((k : Int) < (l.length : Int)) = true := decide_eq_true (by omega)
      have d1' : decide (k < l.length) = true := decide_eq_true hlt
      obtain ⟨b, o, rfl, hb, hc⟩ := HJ.out.get (by omega)
      obtain ⟨j, hj⟩ : ∃ j, l[k]? = some j := ⟨_, List.getElem?_eq_getElem hlt⟩
      obtain ⟨c0, c1, c2, c3, c4, c5, c6, c7, c8, c9, c10, c11⟩ := (RdJb.at hc hj).ext HXr.out hb
      clear hc
      have HX1 := Lib.hid (HXr.out.trans ((Below.refl _ wr).alloc (Nat.le_refl _) (.cells #[.int .i64 j.queue, .int .i64 j.prio, .int .i64 j.least, .int .i64 j.most, .int .i64 j.work, .int .i64 j.pin, .int .i64 j.phase, .int .i64 j.inc, .int .i64 j.nodes, .int .i64 j.since, .int .i64 j.til, .int .i64 j.epoch] 52)))
      have HN := Lib.hid (drains_step (q := q) hj hN)
      have hNl : N ≤ k := by rw [← hN]; exact Nat.le_trans (List.length_filter_le _ _) (by rw [List.length_take]; exact Nat.min_le_left _ _)
      clear hN hj
      by_cases hq : j.queue = q
      · by_cases hp : j.phase = 3
        · have e1 : (j.queue == q) = true := by rw [hq]; exact beq_self_eq_true q
          have e2 : (j.phase == 3) = true := by rw [hp]; rfl
          have hs := HN.out.1 ⟨hq, hp⟩
          have HQ := Lib.hid hs
          have hw : wrap64 ((N : Int) + 1) = ((N + 1 : Nat) : Int) := IntWalk.wrap64_in _ (by omega)
          clear hq hp hs HN
          go_wp2
          go_roundg (l.length - (k + 1))
          case measure => omega
          case rel => exact ⟨k + 1, by go_num, by rw [HQ.out]; rfl, by omega, rfl, HX1⟩
        · have e1 : (j.queue == q) = true := by rw [hq]; exact beq_self_eq_true q
          have e2 : (j.phase == 3) = false := by rw [beq_eq_false_iff_ne]; exact hp
          have HQ := Lib.hid (HN.out.2 fun h => hp h.2)
          clear hq hp HN
          go_wp2
          go_roundg (l.length - (k + 1))
          case measure => omega
          case rel => exact ⟨k + 1, by go_num, by rw [HQ.out], by omega, rfl, HX1⟩
      · have e1 : (j.queue == q) = false := by rw [beq_eq_false_iff_ne]; exact hq
        have HQ := Lib.hid (HN.out.2 fun h => hq h.1)
        clear HN
        go_wp2
        go_roundg (l.length - (k + 1))
        case measure => omega
        case rel => exact ⟨k + 1, by go_num, by rw [HQ.out], by omega, rfl, HX1⟩
    · have d1 : decide ((k : Int) < (l.length : Int)) = false := decide_eq_false (by omega)
      have d1' : decide (k < l.length) = false := decide_eq_false hlt
      obtain rfl : k = l.length := by omega
      rw [List.take_length] at hN
      have HNN := Lib.hid hN
      clear hN
      have HX1 := Lib.hid (HX.out.trans HXr.out)
      go_wp2
      go_ret
      exact ⟨by rw [HNN.out]; rfl, HX1.out⟩

end Go.Proofs.YtddhbokknbmdfaaDoor

/- Package book: whether a fleet may be, whether a node is free, whether a job's numbers may be asked. -/
namespace Go.Proofs.YtddhbokknbmdfaaDoor
open Go.RowKit

set_option maxRecDepth 100000 in
theorem May_any (c : Cf) (w : World) :
    Calls Tryd.prog 23 #[cfV c] w fun e w' => e = .returned (.bool (mayC c)) ∧ Ext w w' := by
  have HF := Lib.hid fun n lo hi w' => isFrom_any n lo hi w'
  have HX := Lib.hid (show Ext w (w.alloc (.cells #[.int .i64 c.nodes, .int .i64 c.queues, .int .i64 c.quota, .int .i64 c.wave, .int .i64 c.lease, .int .i64 c.retry, .int .i64 c.deadline, .int .i64 c.room, .int .i64 c.disk] 23)) from (Below.refl _ _).alloc (Nat.le_refl _) _)
  unfold cfV mayC
  go_enter Tryd.func23, Tryd.ntmps23
  go_wp2_with fail
  refine (HF.out _ _ _ _).mono ?_
  rintro e1 w1 ⟨rfl, rfl⟩
  cases h1 : inR c.nodes 1 6
  · go_wp2
    go_ret
    exact ⟨by rw [h1]; rfl, HX.out⟩
  go_wp2_with fail
  refine (HF.out _ _ _ _).mono ?_
  rintro e1 w1 ⟨rfl, rfl⟩
  cases h2 : inR c.queues 1 3
  · go_wp2
    go_ret
    exact ⟨by rw [h1, h2]; rfl, HX.out⟩
  go_wp2_with fail
  refine (HF.out _ _ _ _).mono ?_
  rintro e1 w1 ⟨rfl, rfl⟩
  cases h3 : inR c.quota 0 4
  · go_wp2
    go_ret
    exact ⟨by rw [h1, h2, h3]; rfl, HX.out⟩
  go_wp2_with fail
  refine (HF.out _ _ _ _).mono ?_
  rintro e1 w1 ⟨rfl, rfl⟩
  cases h4 : inR c.wave 1 6
  · go_wp2
    go_ret
    exact ⟨by rw [h1, h2, h3, h4]; rfl, HX.out⟩
  go_wp2_with fail
  refine (HF.out _ _ _ _).mono ?_
  rintro e1 w1 ⟨rfl, rfl⟩
  cases h5 : inR c.lease 2 30
  · go_wp2
    go_ret
    exact ⟨by rw [h1, h2, h3, h4, h5]; rfl, HX.out⟩
  go_wp2_with fail
  refine (HF.out _ _ _ _).mono ?_
  rintro e1 w1 ⟨rfl, rfl⟩
  cases h6 : inR c.retry 1 20
  · go_wp2
    go_ret
    exact ⟨by rw [h1, h2, h3, h4, h5, h6]; rfl, HX.out⟩
  go_wp2_with fail
  refine (HF.out _ _ _ _).mono ?_
  rintro e1 w1 ⟨rfl, rfl⟩
  cases h7 : inR c.deadline 1 60
  · go_wp2
    go_ret
    exact ⟨by rw [h1, h2, h3, h4, h5, h6, h7]; rfl, HX.out⟩
  go_wp2_with fail
  refine (HF.out _ _ _ _).mono ?_
  rintro e1 w1 ⟨rfl, rfl⟩
  cases h8 : inR c.room 0 5000
  · go_wp2
    go_ret
    exact ⟨by rw [h1, h2, h3, h4, h5, h6, h7, h8]; rfl, HX.out⟩
  go_wp2_with fail
  refine (HF.out _ _ _ _).mono ?_
  rintro e1 w1 ⟨rfl, rfl⟩
  go_wp2
  go_ret
  exact ⟨by rw [h1, h2, h3, h4, h5, h6, h7, h8]; rfl, HX.out⟩

set_option maxRecDepth 100000 in
theorem Free_any (n : Nd) (w : World) :
    Calls Tryd.prog 17 #[ndV n] w fun e w' => e = .returned (.bool (freeN n)) ∧ Ext w w' := by
  have HX := Lib.hid (show Ext w (w.alloc (.cells #[.bool n.up, .bool n.cordon, .bool n.moving, .int .i64 n.version, .int .i64 n.job] 45)) from (Below.refl _ _).alloc (Nat.le_refl _) _)
  obtain ⟨up, cordon, moving, version, job⟩ := n
  unfold ndV freeN
  dsimp only at *
  cases up
  · go_enter Tryd.func17, Tryd.ntmps17
    go_wp2
    go_ret
    exact ⟨rfl, HX.out⟩
  cases cordon
  · cases moving
    · go_enter Tryd.func17, Tryd.ntmps17
      go_wp2
      go_ret
      exact ⟨rfl, HX.out⟩
    · go_enter Tryd.func17, Tryd.ntmps17
      go_wp2
      go_ret
      exact ⟨rfl, HX.out⟩
  · go_enter Tryd.func17, Tryd.ntmps17
    go_wp2
    go_ret
    exact ⟨rfl, HX.out⟩

set_option maxRecDepth 100000 in
theorem asked_any (c : Cf) (j : Jb) (w : World) (hm : mayC c = true) :
    Calls Tryd.prog 57 #[cfV c, jbV j] w fun e w' => e = .returned (.bool (askedJ c j)) ∧ Ext w w' := by
  have HF := Lib.hid fun n lo hi w' => isFrom_any n lo hi w'
  have HX := Lib.hid (show Ext w ((w.alloc (.cells #[.int .i64 c.nodes, .int .i64 c.queues, .int .i64 c.quota, .int .i64 c.wave, .int .i64 c.lease, .int .i64 c.retry, .int .i64 c.deadline, .int .i64 c.room, .int .i64 c.disk] 23)).alloc (.cells #[.int .i64 j.queue, .int .i64 j.prio, .int .i64 j.least, .int .i64 j.most, .int .i64 j.work, .int .i64 j.pin, .int .i64 j.phase, .int .i64 j.inc, .int .i64 j.nodes, .int .i64 j.since, .int .i64 j.til, .int .i64 j.epoch] 52))
    from ((Below.refl _ _).alloc (Nat.le_refl _) _).alloc (by simp) _)
  have hq : wrap64 (c.queues - 1) = c.queues - 1 := by
    simp only [mayC, Bool.and_eq_true, inR_iff] at hm
    exact IntWalk.wrap64_in _ (by omega)
  clear hm
  unfold cfV jbV askedJ
  go_enter Tryd.func57, Tryd.ntmps57
  go_wp2_with fail
  refine (HF.out _ _ _ _).mono ?_
  rintro e1 w1 ⟨rfl, rfl⟩
  cases h1 : inR j.queue 0 (c.queues - 1)
  · go_wp2
    go_ret
    exact ⟨by rw [h1]; rfl, HX.out⟩
  go_wp2_with fail
  refine (HF.out _ _ _ _).mono ?_
  rintro e1 w1 ⟨rfl, rfl⟩
  cases h2 : inR j.prio 0 9
  · go_wp2
    go_ret
    exact ⟨by rw [h1, h2]; rfl, HX.out⟩
  go_wp2_with fail
  refine (HF.out _ _ _ _).mono ?_
  rintro e1 w1 ⟨rfl, rfl⟩
  cases h3 : inR j.least 1 j.most
  · go_wp2
    go_ret
    exact ⟨by rw [h1, h2, h3]; rfl, HX.out⟩
  by_cases h4 : j.most ≤ c.nodes
  · have d4 : decide (j.most ≤ c.nodes) = true := decide_eq_true h4
    go_wp2_with fail
    refine (HF.out _ _ _ _).mono ?_
    rintro e1 w1 ⟨rfl, rfl⟩
    cases h5 : inR j.work 1 1000
    · go_wp2
      go_ret
      exact ⟨by rw [h1, h2, h3, d4, h5]; rfl, HX.out⟩
    go_wp2_with fail
    refine (HF.out _ _ _ _).mono ?_
    rintro e1 w1 ⟨rfl, rfl⟩
    go_wp2
    go_ret
    exact ⟨by rw [h1, h2, h3, d4, h5]; rfl, HX.out⟩
  · have d4 : decide (j.most ≤ c.nodes) = false := decide_eq_false h4
    clear h4
    go_wp2
    go_ret
    exact ⟨by rw [h1, h2, h3, d4]; rfl, HX.out⟩

end Go.Proofs.YtddhbokknbmdfaaDoor

/- Package image: a node's first number; where a job's numbers stand, and those behind a state's jobs. -/
namespace Go.Proofs.YtddhbokknbmdfaaDoor
open Go.RowKit

set_option maxRecDepth 100000 in
theorem mark_any (n : Nd) (w : World) :
    Calls Tryd.prog 89 #[ndV n] w fun e w' => e = .returned (.int .i64 (markN n)) ∧ Ext w w' := by
  have HX := Lib.hid (show Ext w (w.alloc (.cells #[.bool n.up, .bool n.cordon, .bool n.moving, .int .i64 n.version, .int .i64 n.job] 45)) from (Below.refl _ _).alloc (Nat.le_refl _) _)
  obtain ⟨up, cordon, moving, version, job⟩ := n
  unfold ndV markN
  dsimp only at *
  cases up <;> cases cordon <;> cases moving
  all_goals
    go_enter Tryd.func89, Tryd.ntmps89
    go_wp2
    go_ret
    exact ⟨rfl, HX.out⟩

/-- Where so many numbers of a block stand, from a place on. -/
def ptrs (g o n : Nat) : List Value := (List.range n).map fun i => .pointer (some ⟨g, o + i, none⟩)

set_option maxRecDepth 100000 in
set_option maxHeartbeats 4000000 in
theorem jobNumbers_any (g : Nat) (w : World) :
    Calls Tryd.prog 91 #[.pointer (some ⟨g, 0, none⟩)] w fun e w' => ∃ v, e = .returned v ∧ Rd w' v (ptrs g 0 12) ∧ Ext w w' ∧ ∀ k, v.ownBlock = some k → w.heap.size ≤ k := by
  have HX : Hid (∀ cs T, Ext w (w.drew.alloc (.cells cs T))) := Lib.hid fun cs T => (Below.drewN' (Below.refl _ _) 1).alloc (Nat.le_refl _) _
  go_enter Tryd.func91, Tryd.ntmps91
  go_wp2
  go_still_tail 36, (by kernel_rfl)
  change wpList _ _ _ _ _ w.drew
  go_wp2
  go_ret
  exact ⟨.slice (some ⟨w.heap.size, 0, none⟩) 12 12, rfl, (Rd.lit w #[.pointer (some ⟨g, 0, none⟩), .pointer (some ⟨g, 1, none⟩), .pointer (some ⟨g, 2, none⟩), .pointer (some ⟨g, 3, none⟩), .pointer (some ⟨g, 4, none⟩), .pointer (some ⟨g, 5, none⟩), .pointer (some ⟨g, 6, none⟩), .pointer (some ⟨g, 7, none⟩), .pointer (some ⟨g, 8, none⟩), .pointer (some ⟨g, 9, none⟩), .pointer (some ⟨g, 10, none⟩), .pointer (some ⟨g, 11, none⟩)] _ (show 12 ≤ maxLen by decide)).ext (Below.drewN' (Below.refl _ _) 1), HX.out _ _, fun k h => by cases h; exact Nat.le_refl _⟩

set_option maxRecDepth 100000 in
set_option maxHeartbeats 4000000 in
theorem restNumbers_any (g : Nat) (w : World) :
    Calls Tryd.prog 92 #[.pointer (some ⟨g, 0, none⟩)] w fun e w' => ∃ v, e = .returned v ∧ Rd w' v (ptrs g 2 4) ∧ Ext w w' ∧ ∀ k, v.ownBlock = some k → w.heap.size ≤ k := by
  have HX : Hid (∀ cs T, Ext w (w.drew.alloc (.cells cs T))) := Lib.hid fun cs T => (Below.drewN' (Below.refl _ _) 1).alloc (Nat.le_refl _) _
  go_enter Tryd.func92, Tryd.ntmps92
  go_wp2
  go_still_tail 12, (by kernel_rfl)
  change wpList _ _ _ _ _ w.drew
  go_wp2
  go_ret
  exact ⟨.slice (some ⟨w.heap.size, 0, none⟩) 4 4, rfl, (Rd.lit w #[.pointer (some ⟨g, 2, none⟩), .pointer (some ⟨g, 3, none⟩), .pointer (some ⟨g, 4, none⟩), .pointer (some ⟨g, 5, none⟩)] _ (show 4 ≤ maxLen by decide)).ext (Below.drewN' (Below.refl _ _) 1), HX.out _ _, fun k h => by cases h; exact Nat.le_refl _⟩

end Go.Proofs.YtddhbokknbmdfaaDoor

/- Slices of numbers in this translation's numbers. -/
namespace Go.Proofs.YtddhbokknbmdfaaDoor
open Go.RowKit

theorem Tryd.infoInt : (Tryd.prog.info? 3).map (fun i => (i.zero, i.size, i.bytes)) = some (some (.int .i64 0), 1, 8) := by kernel_rfl

/-- 'l = append(l, x)', l a row of numbers of the call's own. -/
theorem push_int {w : World} {ops : Array Oper} {rest : List Oper} {o : Oper} {a : Act} {Q : Exit → Act → World → Prop} {gx : Nat} (hgd : o.guard = none) (s x : Operand)
    (ho : o.op = .call { callee := .builtin .append, args := #[s, x], argTypes := #[64, 64] })
    (base : Nat) (v : Value) (xs : List Value) (hs : a.eval s = v) (hown : w.ownsRow base 3 1 v xs.length xs) (u : Value) (h1 : u.oneCell' = true)
    (hx : a.eval x = .slice (some ⟨gx, 0, none⟩) 1 1) (hlen : xs.length < 17592186044416) (hbase : base ≤ w.heap.size)
    (h : ∀ v' w', Grew base 3 v w (xs ++ [u]) v' w' → wpList Tryd.prog ops Q rest (a.put o.dst v') w') (hgx : gx = w.heap.size := by simp) : wpList Tryd.prog ops Q (o :: rest) a (w.alloc (.cells #[u] 3)) := by
  subst hgx
  exact wpList_push hgd s x 64 ho base 3 (.int .i64 0) 8 Tryd.underlying64 Tryd.infoInt rfl v xs hs hown u h1 hx (by unfold maxLen; omega) (by omega) hbase h

end Go.Proofs.YtddhbokknbmdfaaDoor

/- Package image: numbers behind pointers are put behind a list of the call's own. -/
namespace Go.Proofs.YtddhbokknbmdfaaDoor
open Go.RowKit

theorem Grew.of_ext {w w' : World} {e : TypeId} {v' : Value} {xs : List Value} (hx : Ext w w') (h : w'.ownsRow w.heap.size e 1 v' xs.length xs) : Grew w.heap.size e (.slice none 0 0) w xs v' w' :=
  ⟨h, ⟨hx.os, hx.tape, hx.output, hx.size, fun i hi _ => hx.block i hi⟩, .inr fun _ hk => (h.lt _ hk).1⟩
theorem GrewK.one {base n : Nat} {e : TypeId} {v v' : Value} {w w' : World} {xs : List Value} (h : GrewK base e 1 v w n xs v' w') : Grew base e v w xs v' w' := by
  have hl : xs.length = n := by simpa using h.1.1
  subst hl
  exact h
theorem ptrs_len (g o n : Nat) : (ptrs g o n).length = n := by simp [ptrs]
theorem ptrs_at {g o n i : Nat} (h : i < n) : (ptrs g o n)[i]? = some (.pointer (some ⟨g, o + i, none⟩)) := by simp [ptrs, h]

set_option maxRecDepth 100000 in
set_option maxHeartbeats 4000000 in
theorem add_any (base : Nat) (v : Value) (xs : List Value) (f : Value) (g o : Nat) (cs : List Int) (w : World) (hown : w.ownsRow base 3 1 v xs.length xs) (hf : Rd w f (ptrs g o cs.length)) (hc : ∀ i x, cs[i]? = some x → w.cell? ⟨g, o + i, none⟩ = some (.int .i64 x))
    (_hg : g < w.heap.size) (hoff : ∀ k, v.ownBlock = some k → k ≠ g ∧ f.ownBlock ≠ some k) (hlen : xs.length + cs.length < 17592186044416) (hb : base ≤ w.heap.size) :
    Calls Tryd.prog 90 #[v, f] w fun e w' => ∃ v', e = .returned v' ∧ Grew base 3 v w (xs ++ cs.map I) v' w' := by
  obtain ⟨A, c, rfl, hlc, hcm, hcell⟩ := hf
  rw [ptrs_len] at *
  unfold maxLen at hcm
  have HO := Lib.hid hown
  have HC := Lib.hid hc
  have HCL := Lib.hid hcell
  have HOF := Lib.hid hoff
  clear hown hc hcell hoff
  go_enter Tryd.func90, Tryd.ntmps90
  go_wp2_with fail
  go_loopw [0, 9] (fun v' i wr => ∃ k : Nat, i = .int .i64 k ∧ k ≤ cs.length ∧ Hid (Grew base 3 v w (xs ++ (cs.take k).map I) v' wr)) (fun _ i _ => cs.length - (intOf i).toNat)
  case atStart => exact ⟨0, rfl, Nat.zero_le _, Lib.hid (by simpa using Grew.start HO.out)⟩
  case round =>
    obtain ⟨k, rfl, hk, HG⟩ := hrel
    by_cases hlt : k < cs.length
    · have d1 : decide ((k : Int) < (cs.length : Int)) = true := decide_eq_true (by omega)
      have d1' : decide (k < cs.length) = true := decide_eq_true hlt
      obtain ⟨x, hx⟩ : ∃ x, cs[k]? = some x := ⟨_, List.getElem?_eq_getElem hlt⟩
      obtain ⟨b, q, rfl, hbl, hce⟩ := HCL.out (by omega)
      have p0 : wr.cell? ⟨b, q + k, none⟩ = some (.pointer (some ⟨g, o + k, none⟩)) := HG.out.2.1.cell (hce k _ (ptrs_at hlt)) (fun e => (HOF.out b e.symm).2 rfl)
      have p1 : wr.cell? ⟨g, o + k, none⟩ = some (.int .i64 x) := HG.out.2.1.cell (HC.out k x hx) (fun e => (HOF.out g e.symm).1 rfl)
      have hown := HG.out.1
      have hl2 : (xs ++ (cs.take k).map I).length < 17592186044416 := by simp only [List.length_append, List.length_map, List.length_take]; omega
      have hbr := Nat.le_trans hb HG.out.size
      have HX := Lib.hid hx
      have HLT := Lib.hid hlt
      have x1 : (0 : Int) ≤ (k : Int) ∧ (k : Int) < (cs.length : Int) := by omega
      clear hce hx
      go_wp2_with (first | (at_builtin; refine push_int rfl _ _ rfl base _ _ rfl hown _ rfl rfl hl2 hbr ?_; intro v2 w2 hg2))
      go_roundw
      case rel =>
        refine ⟨k + 1, by go_num, HLT.out, Lib.hid ?_⟩
        have := HG.out.trans hg2
        rw [List.take_add_one, HX.out, Option.toList_some, List.map_append, ← List.append_assoc]
        exact this
      case measure => simp [intOf]; omega
    · have d1 : decide ((k : Int) < (cs.length : Int)) = false := decide_eq_false (by omega)
      have d1' : decide (k < cs.length) = false := decide_eq_false hlt
      obtain rfl : k = cs.length := by omega
      have HG2 := Lib.hid HG.out
      rw [List.take_length] at HG2
      clear HG
      go_wp2
      go_ret
      exact ⟨_, rfl, HG2.out⟩

end Go.Proofs.YtddhbokknbmdfaaDoor

/- (without names) Layer 8, the reference: names, how many numbers a kind has, an op's numbers, whether it is right. -/
namespace Go.Proofs.YtddhbokknbmdfaaDoor
open Go.RowKit

/-- A name as a string. -/
def strB (l : List UInt8) : ByteArray := ⟨l.toArray⟩
theorem strB_list (l : List UInt8) : (strB l).data.toList = l := by simp [strB]
theorem strB_back (s : ByteArray) : strB s.data.toList = s := by simp [strB]
/-- An op as a value. -/
def opV (o : OpN) : Value := .agg #[.int .i64 o.1, .int .i64 o.2.1, .int .i64 o.2.2.1, .int .i64 o.2.2.2.1, .int .i64 o.2.2.2.2.1, .int .i64 o.2.2.2.2.2.1, .int .i64 o.2.2.2.2.2.2]

theorem kind_cases {k : Int} (h : 1 ≤ k ∧ k ≤ 21) : k = 1 ∨ k = 2 ∨ k = 3 ∨ k = 4 ∨ k = 5 ∨ k = 6 ∨ k = 7 ∨ k = 8 ∨ k = 9 ∨ k = 10 ∨ k = 11 ∨ k = 12 ∨ k = 13 ∨ k = 14 ∨ k = 15 ∨ k = 16 ∨ k = 17 ∨ k = 18 ∨ k = 19 ∨ k = 20 ∨ k = 21 := by omega

theorem many_ne {k : Int} (h : ¬ (1 ≤ k ∧ k ≤ 21)) : manyK k = 1 := by
  rw [manyK, if_neg (by omega), if_neg (by omega), if_neg (by omega)]

set_option maxRecDepth 100000 in
set_option maxHeartbeats 4000000 in
theorem RefMany08 (k : Int) (w : World) :
    Calls Tryd.prog 86 #[.int .i64 k] w fun e w' => e = .returned (.int .i64 (manyK k : Int)) ∧ w = w' := by
  by_cases h : 1 ≤ k ∧ k ≤ 21
  · rcases kind_cases h with rfl | rfl | rfl | rfl | rfl | rfl | rfl | rfl | rfl | rfl | rfl | rfl | rfl | rfl | rfl | rfl | rfl | rfl | rfl | rfl | rfl
    all_goals
      clear h
      go_enter Tryd.func86, Tryd.ntmps86
      go_wp2
      go_ret
      exact ⟨rfl, rfl⟩
  · have hm := many_ne h
    have e1 : (k == 1) = false := by rw [beq_eq_false_iff_ne]; omega
    have e4 : (k == 4) = false := by rw [beq_eq_false_iff_ne]; omega
    have e5 : (k == 5) = false := by rw [beq_eq_false_iff_ne]; omega
    have e6 : (k == 6) = false := by rw [beq_eq_false_iff_ne]; omega
    have e21 : (k == 21) = false := by rw [beq_eq_false_iff_ne]; omega
    have e8 : (k == 8) = false := by rw [beq_eq_false_iff_ne]; omega
    have e9 : (k == 9) = false := by rw [beq_eq_false_iff_ne]; omega
    have e10 : (k == 10) = false := by rw [beq_eq_false_iff_ne]; omega
    have e12 : (k == 12) = false := by rw [beq_eq_false_iff_ne]; omega
    have e13 : (k == 13) = false := by rw [beq_eq_false_iff_ne]; omega
    have e19 : (k == 19) = false := by rw [beq_eq_false_iff_ne]; omega
    have e20 : (k == 20) = false := by rw [beq_eq_false_iff_ne]; omega
    rw [hm]
    clear hm h
    go_enter Tryd.func86, Tryd.ntmps86
    go_wp2
    go_ret
    exact ⟨rfl, rfl⟩

set_option maxRecDepth 100000 in
set_option maxHeartbeats 4000000 in
theorem RefNumbers08 (o : OpN) (w : World) :
    Calls Tryd.prog 85 #[opV o] w fun e w' => ∃ b, e = .returned (.slice (some ⟨b, 0, none⟩) 6 6) ∧ w.heap.size ≤ b ∧ Rd w' (.slice (some ⟨b, 0, none⟩) 6 6) ((numsO o).map I) ∧ Ext w w' := by
  obtain ⟨k, a, b, c, d, e, f⟩ := o
  unfold opV numsO
  dsimp only
  go_enter Tryd.func85, Tryd.ntmps85
  go_wp2
  go_ret
  refine ⟨_, rfl, by simp, ?_, ((Below.refl _ w).alloc (Nat.le_refl _) _).alloc (by simp) _⟩
  exact Rd.litI _ [a, b, c, d, e, f] _ _ _ _ (by simp) rfl rfl (by simp)

end Go.Proofs.YtddhbokknbmdfaaDoor

/- Layer 8, the reference: whether an op is right. -/
namespace Go.Proofs.YtddhbokknbmdfaaDoor
open Go.RowKit

def numAtO (o : OpN) (i : Nat) : Int := (numsO o).getD i 0
def okAtO (o : OpN) (i : Nat) : Bool := decide (0 ≤ numAtO o i ∧ numAtO o i ≤ 1000000) && (decide (i < manyK o.1) || numAtO o i == 0)
theorem nums_get (o : OpN) {i : Nat} (h : i < 6) : (numsO o)[i]? = some (numAtO o i) := by
  rw [numAtO, List.getD_eq_getElem?_getD, List.getElem?_eq_getElem (by rw [numsO_len]; exact h), Option.getD_some]
theorem right_of_ok (o : OpN) : rightO o = true ↔ (1 ≤ o.1 ∧ o.1 ≤ 21) ∧ ∀ i, i < 6 → okAtO o i = true := by
  rw [rightO_iff]
  constructor
  · rintro ⟨h1, h2, h3⟩
    refine ⟨h1, fun i hi => ?_⟩
    have hg := nums_get o hi
    have hin := h2 _ (List.mem_of_getElem? hg)
    rw [okAtO, decide_eq_true hin, Bool.true_and]
    by_cases hm : i < manyK o.1
    · rw [decide_eq_true hm]
      rfl
    · have h0 : numAtO o i = 0 := h3 _ (by
        rw [List.mem_drop_iff_getElem]
        obtain ⟨hlt, he⟩ := List.getElem?_eq_some_iff.1 hg
        exact ⟨i - manyK o.1, by omega, by rw [← he]; congr 1; omega⟩)
      rw [h0]
      simp
  · rintro ⟨h1, h2⟩
    refine ⟨h1, fun n hn => ?_, fun n hn => ?_⟩
    · obtain ⟨i, hi, he⟩ := List.getElem_of_mem hn
      have hg := nums_get o (i := i) hi
      rw [List.getElem?_eq_getElem hi, he] at hg
      injection hg with hg
      have := h2 i hi
      rw [okAtO, Bool.and_eq_true, decide_eq_true_eq, ← hg] at this
      exact this.1
    · rw [List.mem_drop_iff_getElem] at hn
      obtain ⟨i, hi, he⟩ := hn
      have hi6 : i + manyK o.1 < 6 := hi
      have hg := nums_get o hi6
      have he' : (numsO o)[i + manyK o.1]'hi6 = n := by rw [← he]; congr 1; omega
      rw [List.getElem?_eq_getElem hi6, he'] at hg
      injection hg with hg
      have := h2 _ hi6
      rw [okAtO, Bool.and_eq_true, Bool.or_eq_true, decide_eq_true_eq, beq_iff_eq, ← hg] at this
      rcases this.2 with h | h
      · have := of_decide_eq_true h
        omega
      · exact h
theorem right_no {o : OpN} {i : Nat} (h : i < 6) (hn : okAtO o i = false) : rightO o = false := by
  rw [Bool.eq_false_iff]
  intro hr
  have := ((right_of_ok o).1 hr).2 i h
  rw [hn] at this
  cases this
theorem right_all {o : OpN} (h : ∀ i, i < 6 → okAtO o i = true) : rightO o = decide (1 ≤ o.1 ∧ o.1 ≤ 21) := by
  by_cases hk : 1 ≤ o.1 ∧ o.1 ≤ 21
  · rw [decide_eq_true hk]
    exact (right_of_ok o).2 ⟨hk, h⟩
  · rw [decide_eq_false hk, Bool.eq_false_iff]
    exact fun hr => hk ((right_of_ok o).1 hr).1

set_option maxRecDepth 100000 in
set_option maxHeartbeats 4000000 in
theorem RefRight08 (o : OpN) (w : World) :
    Calls Tryd.prog 43 #[opV o] w fun e w' => e = .returned (.bool (rightO o)) ∧ Ext w w' := by
  have KN := fun w' => RefNumbers08 o w'
  have KM := fun w' => RefMany08 o.1 w'
  have hno := fun (i : Nat) (h : i < 6) (hn : okAtO o i = false) => right_no h hn
  have hyes := right_all (o := o)
  have hget := fun (i : Nat) (h : i < 6) => nums_get o h
  have hok : ∀ i : Nat, okAtO o i = (decide (0 ≤ numAtO o i ∧ numAtO o i ≤ 1000000) && (decide (i < manyK o.1) || numAtO o i == 0)) := fun i => rfl
  have hm6 := manyK_le o.1
  have HM6 := Lib.hid hm6
  have HKM := Lib.hid KM
  have HNO := Lib.hid hno
  have HYES := Lib.hid hyes
  have HGET := Lib.hid hget
  have HOK := Lib.hid hok
  have HKN := Lib.hid KN
  clear KN KM hno hyes hget hok hm6
  obtain ⟨k, a, b, c, d, e, f⟩ := o
  generalize ho : ((k, a, b, c, d, e, f) : OpN) = o at *
  have hk : o.1 = k := by rw [← ho]
  have hv : opV o = .agg #[.int .i64 k, .int .i64 a, .int .i64 b, .int .i64 c, .int .i64 d, .int .i64 e, .int .i64 f] := by rw [← ho]; rfl
  rw [hk] at HKM HM6 HYES HOK
  rw [hv] at HKN ⊢
  clear ho hv
  obtain ⟨mk, hmk⟩ : ∃ x, x = manyK k := ⟨_, rfl⟩
  rw [← hmk] at HKM HM6 HOK
  clear hmk hk
  go_enter Tryd.func43, Tryd.ntmps43
  go_wp2_with fail
  refine (HKN.out _).mono ?_
  rintro e2 w2 ⟨b2, rfl, hb2, hr2, hx2⟩
  have hE : Ext w (w.alloc (.cells #[.int .i64 k, .int .i64 a, .int .i64 b, .int .i64 c, .int .i64 d, .int .i64 e, .int .i64 f] 36)) := (Below.refl _ _).alloc (Nat.le_refl _) _
  have hbk : Blk w2 w.heap.size 36 #[.int .i64 k, .int .i64 a, .int .i64 b, .int .i64 c, .int .i64 d, .int .i64 e, .int .i64 f] := (Blk.new w 36 #[.int .i64 k, .int .i64 a, .int .i64 b, .int .i64 c, .int .i64 d, .int .i64 e, .int .i64 f]).ext hx2
  have c0 : w2.cell? ⟨w.heap.size, 0, none⟩ = some (.int .i64 k) := hbk.cell 0
  have HX2 := Lib.hid (hE.trans hx2)
  have hcell : ∀ i, i < 6 → w2.cell? ⟨b2, i, none⟩ = some (.int .i64 (numAtO o i)) := by
    intro i hi
    obtain ⟨A, c', e', q1, q2, q3⟩ := hr2
    obtain ⟨b', o', e1, e2, e3⟩ := q3 (by rw [List.length_map, numsO_len]; decide)
    cases e'
    cases e1
    have := e3 i (I (numAtO o i)) (by rw [List.getElem?_map, HGET.out i hi]; rfl)
    rwa [Nat.zero_add] at this
  have HCELL := Lib.hid hcell
  clear hr2 hx2 hE hbk hcell hb2
  go_wp2
  go_loop [4] (fun i => ∃ n : Nat, i = .int .i64 n ∧ n ≤ 6 ∧ Hid (∀ j, j < n → okAtO o j = true)) (fun i => 6 - (intOf i).toNat)
  case atStart => exact ⟨0, rfl, by decide, Lib.hid (fun j hj => absurd hj (Nat.not_lt_zero j))⟩
  case round =>
    obtain ⟨n, rfl, hn, HA⟩ := hrel
    by_cases hlt : n < 6
    · have cn := HCELL.out n hlt
      have hokn := HOK.out n
      have hnon := HNO.out n hlt
      generalize hx : numAtO o n = x at *
      have l6 : decide ((n : Int) < 6) = true := decide_eq_true (by omega)
      by_cases h1 : x < 0
      · have hz : rightO o = false := hnon (by rw [hokn, decide_eq_false (by omega)]; rfl)
        have HZ := Lib.hid hz
        have d1 : decide (x < 0) = true := decide_eq_true h1
        clear hokn hnon hz hx h1
        go_wp2
        go_ret
        exact ⟨by rw [HZ.out]; rfl, HX2.out⟩
      · have d1 : decide (x < 0) = false := decide_eq_false h1
        by_cases h2 : 1000000 < x
        · have hz : rightO o = false := hnon (by rw [hokn, decide_eq_false (by omega)]; rfl)
          have HZ := Lib.hid hz
          have d2 : decide (1000000 < x) = true := decide_eq_true h2
          clear hokn hnon hz hx h1 h2
          go_wp2
          go_ret
          exact ⟨by rw [HZ.out]; rfl, HX2.out⟩
        · have d2 : decide (1000000 < x) = false := decide_eq_false h2
          have hin : decide (0 ≤ x ∧ x ≤ 1000000) = true := decide_eq_true (by omega)
          by_cases h3 : n < mk
          · have hy : okAtO o n = true := by rw [hokn, hin, decide_eq_true h3]; rfl
            have HY : Hid (∀ j, j < n + 1 → okAtO o j = true) := Lib.hid (fun j hj => by
              rcases Nat.lt_or_ge j n with h | h
              · exact HA.out j h
              · have : j = n := by omega
                rw [this]
                exact hy)
            have d3 : decide ((mk : Int) ≤ (n : Int)) = false := decide_eq_false (by omega)
            have d3' : decide (mk ≤ n) = false := decide_eq_false (by omega)
            clear hokn hnon hx h1 h2 h3 hy hin
            go_wp2_with (go_at_call 86; refine (HKM.out _).mono ?_; rintro e w' ⟨rfl, rfl⟩)
            go_round
            case rel => exact ⟨n + 1, by go_num, by omega, HY⟩
            case measure => simp [intOf]; omega
          · have d3 : decide ((mk : Int) ≤ (n : Int)) = true := decide_eq_true (by omega)
            have d3' : decide (mk ≤ n) = true := decide_eq_true (by omega)
            by_cases h4 : x = 0
            · have hy : okAtO o n = true := by rw [hokn, hin, h4]; simp
              have HY : Hid (∀ j, j < n + 1 → okAtO o j = true) := Lib.hid (fun j hj => by
                rcases Nat.lt_or_ge j n with h | h
                · exact HA.out j h
                · have : j = n := by omega
                  rw [this]
                  exact hy)
              have d4 : (x != 0) = false := by simp [h4]
              clear hokn hnon hx h1 h2 h3 hy hin h4
              go_wp2_with (go_at_call 86; refine (HKM.out _).mono ?_; rintro e w' ⟨rfl, rfl⟩)
              go_round
              case rel => exact ⟨n + 1, by go_num, by omega, HY⟩
              case measure => simp [intOf]; omega
            · have hz : rightO o = false := hnon (by
                rw [hokn, hin, decide_eq_false h3]
                simpa using h4)
              have HZ := Lib.hid hz
              have d4 : (x != 0) = true := by simp [h4]
              clear hokn hnon hz hx h1 h2 h3 hin h4
              go_wp2_with (go_at_call 86; refine (HKM.out _).mono ?_; rintro e w' ⟨rfl, rfl⟩)
              go_ret
              exact ⟨by rw [HZ.out]; rfl, HX2.out⟩
    · obtain rfl : n = 6 := by omega
      have hz := HYES.out HA.out
      have HZ := Lib.hid hz
      clear hz
      by_cases k1 : 1 ≤ k
      · have d1 : decide (k ≥ 1) = true := decide_eq_true k1
        have d1' : decide (1 ≤ k) = true := decide_eq_true k1
        by_cases k2 : k ≤ 21
        · have d2 : decide (k ≤ 21) = true := decide_eq_true k2
          go_wp2
          go_ret
          exact ⟨by rw [HZ.out, decide_eq_true ⟨k1, k2⟩]; rfl, HX2.out⟩
        · have d2 : decide (k ≤ 21) = false := decide_eq_false k2
          go_wp2
          go_ret
          exact ⟨by rw [HZ.out, decide_eq_false (by omega)]; rfl, HX2.out⟩
      · have d1 : decide (k ≥ 1) = false := decide_eq_false k1
        have d1' : decide (1 ≤ k) = false := decide_eq_false k1
        go_wp2
        go_ret
        exact ⟨by rw [HZ.out, decide_eq_false (by omega)]; rfl, HX2.out⟩

end Go.Proofs.YtddhbokknbmdfaaDoor

/- Layer 9: what the package-level variable holds that package ops reads. -/
namespace Go.Proofs.YtddhbokknbmdfaaDoor
open Go.RowKit

theorem var_ext {P : Program} {w w' : World} {n : String} {g : Nat} {cs : Array Value} (hg : P.globalNamed n = some g) (h : w.var? P n = some cs) (hx : Ext w w') : w'.var? P n = some cs := by
  have hlt : g < w.heap.size := by
    simp only [World.var?, hg, Option.bind_some] at h
    rcases Nat.lt_or_ge g w.heap.size with h' | h'
    · exact h'
    · rw [Array.getElem?_eq_none h'] at h
      simp at h
  rw [← h]
  unfold World.var?
  rw [hg]
  simp only [Option.bind_some]
  rw [hx.block g hlt]

/-- How many numbers, as the program's own table has it: there is no kind 0. -/
def cntK (k : Nat) : Int := if k = 0 then 0 else (manyK (k : Int) : Int)
def cntL : List Int := (List.range 22).map fun (k : Nat) => cntK k

theorem Tryd.gCounts : Tryd.prog.globalNamed "dunnage/ops.counts" = some 0 := by kernel_rfl

/-- What the variable holds. -/
structure Laid (w : World) : Prop where
  counts : w.var? Tryd.prog "dunnage/ops.counts" = some (cntL.map fun z => Value.int .i64 z).toArray
theorem Laid.ext {w w' : World} (h : Laid w) (hx : Ext w w') : Laid w' := ⟨var_ext Tryd.gCounts h.counts hx⟩
theorem Laid.count {w : World} (h : Laid w) (k : Nat) (hk : k < 22) : w.cell? ⟨0, k, none⟩ = some (.int .i64 (cntK k)) := by
  rw [World.var?_cell Tryd.gCounts h.counts k]
  simp [cntL, hk]
theorem Laid.ltc {w : World} (h : Laid w) : 0 < w.heap.size := World.block_lt_of_cell? w _ (h.count 0 (by decide))
theorem cntK_pos {k : Nat} (h : 1 ≤ k) : cntK k = (manyK (k : Int) : Int) := by rw [cntK, if_neg (by omega)]


end Go.Proofs.YtddhbokknbmdfaaDoor

/- Package image: the reader of numbers: need, take. -/
namespace Go.Proofs.YtddhbokknbmdfaaDoor
open Go.RowKit

theorem Tryd.gErr : Tryd.prog.globalNamed "dunnage/image.errGivenUp" = some 1 := by kernel_rfl
/-- What the reader panics with. -/
structure LaidI (w : World) : Prop where
  out : ∃ T pv, w.var? Tryd.prog "dunnage/image.errGivenUp" = some #[.iface T pv]
theorem LaidI.ext {w w' : World} (h : LaidI w) (hx : Ext w w') : LaidI w' := by
  obtain ⟨T, pv, h⟩ := h.out
  exact ⟨T, pv, var_ext Tryd.gErr h hx⟩
theorem LaidI.cell {w : World} (h : LaidI w) : ∃ T pv, w.cell? ⟨1, 0, none⟩ = some (.iface T pv) ∧ 1 < w.heap.size := by
  obtain ⟨T, pv, h⟩ := h.out
  have hc : w.cell? ⟨1, 0, none⟩ = some (.iface T pv) := by
    rw [World.var?_cell Tryd.gErr h 0]
    rfl
  exact ⟨T, pv, hc, World.block_lt_of_cell? w _ hc⟩
/-- A panic of the reader's. -/
def GaveUp (e : Ending) : Prop := ∃ T pv, e = .panicked [{ v := .iface T pv, recovered := false }]

theorem need_no (p : Value) (w : World) (hL : LaidI w) : Calls Tryd.prog 50 #[p, .bool false] w fun e w' => GaveUp e ∧ w = w' := by
  obtain ⟨T, pv, hc, -⟩ := hL.cell
  clear hL
  go_enter Tryd.func50, Tryd.ntmps50
  go_wp2
  exact ⟨rfl, ⟨_, _, rfl⟩, rfl⟩
theorem need_yes (p : Value) (w : World) : Calls Tryd.prog 50 #[p, .bool true] w fun e w' => e = .returned (.tuple #[]) ∧ w = w' := by
  go_enter Tryd.func50, Tryd.ntmps50
  go_wp2
  first
  | go_end0
  | refine bodyPost_ret (results_none rfl _ _ _) rfl ?_
  all_goals exact ⟨rfl, rfl⟩

/-- The reader at g has the numbers l to go; they stand in the block B. -/
structure Rr (w : World) (g B : Nat) (l : List Int) : Prop where
  out : ∃ v, Blk w g 83 #[v] ∧ Rd w v (l.map I) ∧ (∀ k, v.ownBlock = some k → k = B) ∧ B ≠ g ∧ B < w.heap.size
theorem rd_keep {F : Fp} {w w' : World} {v : Value} {xs : List Value} {B : Nat} (hr : Rd w v xs) (ho : ∀ k, v.ownBlock = some k → k = B) (hc : Chg F w w') (hB : ¬ F B) : Rd w' v xs := by
  obtain ⟨A, c, rfl, h1, h2, h3⟩ := hr
  refine ⟨A, c, rfl, h1, h2, fun hn => ?_⟩
  obtain ⟨b, o, rfl, hbl, hce⟩ := h3 hn
  obtain rfl : b = B := ho b rfl
  exact ⟨b, o, rfl, Nat.lt_of_lt_of_le hbl hc.size, fun j u hu => (World.cell?_of_block (a := ⟨b, o + j, none⟩) (hc.block b hbl hB)).trans (hce j u hu)⟩
theorem Rr.keep {F : Fp} {w w' : World} {g B : Nat} {l : List Int} (h : Rr w g B l) (hc : Chg F w w') (hg : ¬ F g) (hB : ¬ F B) : Rr w' g B l := by
  obtain ⟨v, hb, hr, ho, hne, hlt⟩ := h.out
  exact ⟨v, (hc.block g hb.lt hg).trans hb, rd_keep hr ho hc hB, ho, hne, Nat.lt_of_lt_of_le hlt hc.size⟩
theorem chg_put (w : World) (g i : Nat) (v : Value) : Chg (fun k => k = g) w (w.setCell ⟨g, i, none⟩ v) := (Chg.refl _ w).setCell fun _ => rfl
theorem Rr.put {w : World} {g B : Nat} {v v0 : Value} {l : List Int} (hb : Blk w g 83 #[v0]) (hr : Rd w v (l.map I)) (ho : ∀ k, v.ownBlock = some k → k = B) (hne : B ≠ g) (hlt : B < w.heap.size) : Rr (w.setCell ⟨g, 0, none⟩ v) g B l :=
  ⟨v, by simpa using hb.set_ 0 v, rd_keep hr ho (chg_put w g 0 v) hne, ho, hne, by simpa using hlt⟩
theorem Rr.ext {w w' : World} {g B : Nat} {l : List Int} (h : Rr w g B l) (hx : Ext w w') : Rr w' g B l := h.keep (F := fun _ => False) (Chg.of_ext hx) id id
theorem Rr.gl {w : World} {g B : Nat} {l : List Int} (h : Rr w g B l) : g < w.heap.size ∧ B < w.heap.size ∧ B ≠ g := by
  obtain ⟨v, hb, hr, ho, hne, hlt⟩ := h.out
  exact ⟨hb.lt, hlt, hne⟩

set_option maxRecDepth 100000 in
theorem take_none_ (g B : Nat) (w : World) (h : Rr w g B []) (hL : LaidI w) : Calls Tryd.prog 95 #[.pointer (some ⟨g, 0, none⟩)] w fun e w' => GaveUp e ∧ w = w' := by
  obtain ⟨v, hb, hr, ho, hne, hlt⟩ := h.out
  obtain ⟨A, c, rfl, h1, h2, -⟩ := hr
  have c0 := hb.cell1
  have HN := Lib.hid (need_no (.pointer (some ⟨g, 0, none⟩)) w hL)
  clear hb ho hL h
  go_enter Tryd.func95, Tryd.ntmps95
  go_wp2_with fail
  refine HN.out.mono ?_
  rintro e w' ⟨⟨T, pv, rfl⟩, rfl⟩
  go_wp2
  exact ⟨rfl, ⟨_, _, rfl⟩, rfl⟩

set_option maxRecDepth 100000 in
theorem take_some_ (g B : Nat) (x : Int) (l : List Int) (w : World) (h : Rr w g B (x :: l)) : Calls Tryd.prog 95 #[.pointer (some ⟨g, 0, none⟩)] w fun e w' => e = .returned (.int .i64 x) ∧ Rr w' g B l ∧ Chg (fun k => k = g) w w' ∧ w'.heap.size = w.heap.size := by
  obtain ⟨v, hb, hr, ho, hne, hlt⟩ := h.out
  obtain ⟨A, c, rfl, h1, h2, h3⟩ := hr
  obtain ⟨b, o, rfl, hbl, hce⟩ := h3 (by simp)
  obtain rfl : b = B := ho b rfl
  have p0 : w.cell? ⟨b, o, none⟩ = some (.int .i64 x) := by simpa using hce 0 _ rfl
  have c0 := hb.cell1
  have f0 := hb.frozen 0
  simp only [List.map_cons, List.length_cons, List.length_map] at h1 c0
  unfold maxLen at h2
  have d1 : decide ((0 : Int) < ((l.length + 1 : Nat) : Int)) = true := decide_eq_true (by omega)
  have HN := Lib.hid (need_yes (.pointer (some ⟨g, 0, none⟩)) w)
  have HB := Lib.hid hb
  have HCE := Lib.hid hce
  have HNE := Lib.hid hne
  have HLT := Lib.hid hlt
  obtain ⟨L, hL⟩ : ∃ L, L = l.length + 1 := ⟨_, rfl⟩
  have HLL := Lib.hid hL
  rw [← hL] at h1 c0 d1
  have d1' : decide (0 < L) = true := decide_eq_true (by omega)
  have x1 : (0 : Int) < (L : Int) := by omega
  have x1' : 0 < L := by omega
  clear hL hce hb hne hlt h
  by_cases hc1 : c = 1
  · subst hc1
    go_enter Tryd.func95, Tryd.ntmps95
    go_wp2_with fail
    refine HN.out.mono ?_
    rintro e w' ⟨rfl, rfl⟩
    go_wp2
    go_ret
    refine ⟨rfl, ?_, ?_, ?_⟩
    · have hl0 : l = [] := List.eq_nil_of_length_eq_zero (by have := HLL.out; omega)
      subst hl0
      exact Rr.put HB.out ⟨_, _, rfl, Nat.le_refl _, Nat.zero_le _, fun hn => absurd hn (by simp)⟩ (fun k hk => by cases hk; rfl) HNE.out HLT.out
    · exact chg_put _ _ _ _
    · simp
  · have d2 : (c == 1) = false := by simpa using hc1
    go_enter Tryd.func95, Tryd.ntmps95
    go_wp2_with fail
    refine HN.out.mono ?_
    rintro e w' ⟨rfl, rfl⟩
    go_wp2
    go_ret
    refine ⟨rfl, ?_, ?_, ?_⟩
    · have hll : L - 1 = l.length := by have := HLL.out; omega
      rw [hll]
      refine Rr.put HB.out ⟨some ⟨b, o + 1, none⟩, c - 1, by rw [List.length_map], by rw [List.length_map]; omega, by unfold maxLen; omega, fun hn => ⟨b, o + 1, rfl, HLT.out, fun j u hu => ?_⟩⟩ (fun k hk => by cases hk; rfl) HNE.out HLT.out
      have := HCE.out (j + 1) u (by simpa using hu)
      rw [show o + 1 + j = o + (j + 1) by omega]
      exact this
    · exact chg_put _ _ _ _
    · simp

end Go.Proofs.YtddhbokknbmdfaaDoor

/- Package image: the reader of numbers: fill. -/
namespace Go.Proofs.YtddhbokknbmdfaaDoor
open Go.RowKit

/-- Cells from a place on are written. -/
def putC (cs : Array Value) (o : Nat) : List Int → Array Value
  | [] => cs
  | x :: xs => putC (cs.setIfInBounds o (.int .i64 x)) (o + 1) xs
theorem putC_size : ∀ (xs : List Int) (cs : Array Value) (o : Nat), (putC cs o xs).size = cs.size
  | [], _, _ => rfl
  | x :: xs, cs, o => by rw [putC, putC_size xs]; simp
theorem putC_snoc : ∀ (xs : List Int) (cs : Array Value) (o : Nat) (x : Int), putC cs o (xs ++ [x]) = (putC cs o xs).setIfInBounds (o + xs.length) (.int .i64 x)
  | [], _, _, _ => rfl
  | y :: xs, cs, o, x => by
    rw [List.cons_append, putC, putC_snoc xs, putC, List.length_cons]
    congr 1
    omega

/-- What fill leaves. -/
def FillPost (w : World) (gr B h : Nat) (T : TypeId) (cs : Array Value) (o n : Nat) (l : List Int) (e : Ending) (w' : World) : Prop :=
  (n ≤ l.length ∧ e = .returned (.tuple #[]) ∧ Rr w' gr B (l.drop n) ∧ Blk w' h T (putC cs o (l.take n)) ∧ Chg (fun k => k = gr ∨ k = h) w w' ∧ w'.heap.size = w.heap.size) ∨
  (l.length < n ∧ GaveUp e ∧ Chg (fun k => k = gr ∨ k = h) w w')

set_option maxRecDepth 100000 in
set_option maxHeartbeats 4000000 in
theorem fill_any (w0 w : World) (gr B h : Nat) (T : TypeId) (cs : Array Value) (o n : Nat) (l : List Int) (f : Value) (hL : LaidI w0) (hx : Ext w0 w) (hgr : w0.heap.size ≤ gr) (hh : w0.heap.size ≤ h) (hR : Rr w gr B l) (hf : Rd w f (ptrs h o n)) (hfo : ∀ k, f.ownBlock = some k → k ≠ gr ∧ k ≠ h)
    (hb : Blk w h T cs) (hsz : o + n ≤ cs.size) (hne : h ≠ gr) (hnB : h ≠ B) : Calls Tryd.prog 98 #[.pointer (some ⟨gr, 0, none⟩), f] w (FillPost w gr B h T cs o n l) := by
  obtain ⟨A, c, rfl, hlc, hcm, hcell⟩ := hf
  rw [ptrs_len] at *
  unfold maxLen at hcm
  have HL := Lib.hid hL
  have HX := Lib.hid hx
  have HR := Lib.hid hR
  have HF := Lib.hid hfo
  have HB := Lib.hid hb
  have HS := Lib.hid hsz
  have HC := Lib.hid hcell
  have HN := Lib.hid hne
  have HM := Lib.hid hnB
  have HG := Lib.hid hgr
  have HH := Lib.hid hh
  have HGL := Lib.hid hR.gl
  clear hL hx hR hfo hb hsz hcell hne hnB hgr hh
  go_enter Tryd.func98, Tryd.ntmps98
  go_wp2_with fail
  go_loopw [8] (fun i wr => ∃ k : Nat, i = .int .i64 k ∧ k ≤ n ∧ k ≤ l.length ∧ Hid (Rr wr gr B (l.drop k) ∧ Blk wr h T (putC cs o (l.take k)) ∧ Chg (fun k => k = gr ∨ k = h) w wr ∧ wr.heap.size = w.heap.size)) (fun i _ => n - (intOf i).toNat)
  case atStart => exact ⟨0, rfl, Nat.zero_le _, Nat.zero_le _, Lib.hid ⟨HR.out, HB.out, Chg.refl _ _, rfl⟩⟩
  case round =>
    obtain ⟨k, rfl, hk, hkl, HK⟩ := hrel
    by_cases hlt : k < n
    · have d1 : decide ((k : Int) < (n : Int)) = true := decide_eq_true (by omega)
      have d1' : decide (k < n) = true := decide_eq_true hlt
      obtain ⟨b, q, rfl, hbl, hce⟩ := HC.out (by omega)
      have hbf := HF.out b rfl
      have p0 : wr.cell? ⟨b, q + k, none⟩ = some (.pointer (some ⟨h, o + k, none⟩)) := (World.cell?_of_block (a := ⟨b, q + k, none⟩) (HK.out.2.2.1.block b hbl (by omega))).trans (hce k _ (ptrs_at hlt))
      have x1 : (0 : Int) ≤ (k : Int) ∧ (k : Int) < (n : Int) := by omega
      have HLT := Lib.hid hlt
      have HKL := Lib.hid hkl
      have hx2 : Ext w0 wr := HK.out.2.2.1.ext HX.out (fun z hz => by have := HG.out; have := HH.out; omega)
      have HLW := Lib.hid (HL.out.ext hx2)
      clear hce hbf hx2
      cases hd : l.drop k with
      | nil =>
        have hll : l.length < n := by
          have := congrArg List.length hd
          rw [List.length_drop, List.length_nil] at this
          omega
        have HLL := Lib.hid hll
        have hr0 := HK.out.1
        rw [hd] at hr0
        have HT := Lib.hid (take_none_ gr B wr hr0 HLW.out)
        clear hd hll hr0
        go_wp2_with fail
        refine HT.out.mono ?_
        rintro e w' ⟨⟨T', pv, rfl⟩, rfl⟩
        go_wp2
        exact ⟨rfl, .inr ⟨HLL.out, ⟨_, _, rfl⟩, HK.out.2.2.1⟩⟩
      | cons x r =>
        have hkk : k < l.length := by
          have := congrArg List.length hd
          rw [List.length_drop, List.length_cons] at this
          omega
        have hxk : l[k]? = some x := by
          have := congrArg (fun z => z[0]?) hd
          simpa using this
        have hrr : l.drop (k + 1) = r := by rw [← List.drop_drop, hd]; rfl
        have hr0 := HK.out.1
        rw [hd] at hr0
        have HT := Lib.hid (take_some_ gr B x r wr hr0)
        have HKK := Lib.hid hkk
        have HXK := Lib.hid hxk
        have HRR := Lib.hid hrr
        clear hd hkk hxk hrr hr0
        go_wp2_with fail
        refine HT.out.mono ?_
        rintro e w7 ⟨rfl, hr7, hc7, hs7⟩
        have hb7 : Blk w7 h T (putC cs o (l.take k)) := (hc7.block h HK.out.2.1.lt HN.out).trans HK.out.2.1
        have hsz7 : o + k < (putC cs o (l.take k)).size := by rw [putC_size]; have := HS.out; have := HLT.out; omega
        have p1 : w7.cell? ⟨h, o + k, none⟩ = some (putC cs o (l.take k))[o + k] := (hb7.cell (o + k)).trans (by rw [Array.getElem?_eq_getElem hsz7])
        have f1 := hb7.frozen (o + k)
        generalize (putC cs o (l.take k))[o + k] = old at p1
        have HR7 := Lib.hid hr7
        have HC7 := Lib.hid hc7
        have HS7 := Lib.hid hs7
        have HB7 := Lib.hid hb7
        clear hr7 hc7 hs7 hb7 hsz7 HT
        go_wp2
        go_roundw
        case rel =>
          refine ⟨k + 1, by go_num, HLT.out, HKK.out, Lib.hid ⟨?_, ?_, ?_, ?_⟩⟩
          · rw [HRR.out]
            exact HR7.out.keep (F := fun z => z = h) (chg_put _ _ _ _) (Ne.symm HN.out) (Ne.symm HM.out)
          · rw [List.take_add_one, HXK.out, Option.toList_some, putC_snoc, List.length_take, Nat.min_eq_left HKL.out]
            exact HB7.out.set_ _ _
          · exact (HK.out.2.2.1.trans HC7.out (fun z _ hz => .inl hz)).setCell fun _ => .inr rfl
          · rw [← HK.out.2.2.2, ← HS7.out]
            simp
        case measure => simp [intOf]; have := HLT.out; omega
    · have d1 : decide ((k : Int) < (n : Int)) = false := decide_eq_false (by omega)
      have d1' : decide (k < n) = false := decide_eq_false hlt
      obtain rfl : k = n := by omega
      have HQ := Lib.hid hkl
      clear hlt hk hkl
      go_wp2
      refine bodyPost_ret (results_none rfl _ _ _) rfl ?_
      exact .inl ⟨HQ.out, rfl, HK.out.1, HK.out.2.1, HK.out.2.2.1, HK.out.2.2.2⟩

end Go.Proofs.YtddhbokknbmdfaaDoor

/- Package book: whether nodes suit a job, and whether its nodes carry it. -/
namespace Go.Proofs.YtddhbokknbmdfaaDoor
open Go.RowKit

theorem quiet_eq {P : Program} {f : FuncId} {args : Array Value} {w : World} {n : Nat} {v : Value} (h : Calls P f args (w.drewN n) fun e w' => e = .returned v ∧ w.drewN n = w') :
    Calls P f args (w.drewN n) fun e w'' => e = .returned v ∧ ∃ m, w'' = w.drewN m := h.mono fun _ _ h => ⟨h.1, n, h.2.symm⟩

theorem has_cells {w : World} {vn : Value} {l : List Nd} (h : RdNd w vn l) : ∃ A c, vn = .slice A l.length c ∧ l.length ≤ c ∧ c ≤ 9223372036854775807 ∧ ∀ i n, l[i]? = some n → ∃ b o, A = some ⟨b, o, none⟩ ∧ b < w.heap.size ∧ NdAt w b (o + i * 5) n := by
  obtain ⟨A, c, rfl, h1, h2⟩ := h.slice_
  refine ⟨A, c, rfl, h1, h2, fun i n hi => ?_⟩
  have hl := (List.getElem?_eq_some_iff.1 hi).1
  obtain ⟨b, o, hA, hb, hc⟩ := h.get (by omega)
  exact ⟨b, o, hA, hb, RdNd.at hc hi⟩
theorem jobs_cells {w : World} {vj : Value} {l : List Jb} (h : RdJb w vj l) : ∃ A c, vj = .slice A l.length c ∧ l.length ≤ c ∧ c ≤ 9223372036854775807 ∧ ∀ i n, l[i]? = some n → ∃ b o, A = some ⟨b, o, none⟩ ∧ b < w.heap.size ∧ JbAt w b (o + i * 12) n := by
  obtain ⟨A, c, rfl, h1, h2⟩ := h.slice_
  refine ⟨A, c, rfl, h1, h2, fun i n hi => ?_⟩
  have hl := (List.getElem?_eq_some_iff.1 hi).1
  obtain ⟨b, o, hA, hb, hc⟩ := h.get (by omega)
  exact ⟨b, o, hA, hb, RdJb.at hc hi⟩

/-- What the program knows of the version behind k nodes. -/
structure VerS (l : List Nd) (pin set : Int) (k : Nat) (v : Int) : Prop where
  hp : pin ≠ 0 → v = pin
  none_ : v = 0 → ∀ i n, i < k → l[i]? = some n → hasS set i = false
  all : v ≠ 0 → ∀ i n, i < k → l[i]? = some n → hasS set i = true → n.version = v
  one : v ≠ 0 → pin = 0 → ∃ i n, i < k ∧ l[i]? = some n ∧ hasS set i = true ∧ n.version = v
theorem VerS.zero (l : List Nd) (pin set : Int) : VerS l pin set 0 pin := ⟨fun _ => rfl, fun _ i _ h => absurd h (Nat.not_lt_zero i), fun _ i _ h => absurd h (Nat.not_lt_zero i), fun h h0 => absurd h0 h⟩
theorem VerS.skip {l : List Nd} {pin set v : Int} {k : Nat} (h : VerS l pin set k v) (hs : hasS set k = false) : VerS l pin set (k + 1) v := by
  refine ⟨h.hp, fun hv i n hi hn => ?_, fun hv i n hi hn hh => ?_, fun hv hp => ?_⟩
  · rcases Nat.lt_or_ge i k with h' | h'
    · exact h.none_ hv i n h' hn
    · have : i = k := by omega
      subst this
      exact hs
  · rcases Nat.lt_or_ge i k with h' | h'
    · exact h.all hv i n h' hn hh
    · have : i = k := by omega
      subst this
      rw [hs] at hh
      cases hh
  · obtain ⟨i, n, h1, h2⟩ := h.one hv hp
    exact ⟨i, n, by omega, h2⟩
theorem VerS.first {l : List Nd} {pin set : Int} {k : Nat} {n : Nd} (h : VerS l pin set k 0) (hn : l[k]? = some n) (hs : hasS set k = true) (hp : pin = 0) (hz : n.version ≠ 0) : VerS l pin set (k + 1) n.version := by
  refine ⟨fun h' => absurd hp h', fun hv i m hi hm => ?_, fun hv i m hi hm hh => ?_, fun hv _ => ⟨k, n, by omega, hn, hs, rfl⟩⟩
  · exact absurd hv hz
  · rcases Nat.lt_or_ge i k with h' | h'
    · rw [h.none_ rfl i m h' hm] at hh
      cases hh
    · have : i = k := by omega
      subst this
      rw [hn] at hm
      cases hm
      rfl
theorem VerS.next {l : List Nd} {pin set v : Int} {k : Nat} {n : Nd} (h : VerS l pin set k v) (hn : l[k]? = some n) (hs : hasS set k = true) (hv : v ≠ 0) (he : n.version = v) : VerS l pin set (k + 1) v := by
  refine ⟨h.hp, fun h0 => absurd h0 hv, fun _ i m hi hm hh => ?_, fun _ hp => ?_⟩
  · rcases Nat.lt_or_ge i k with h' | h'
    · exact h.all hv i m h' hm hh
    · have : i = k := by omega
      subst this
      rw [hn] at hm
      cases hm
      exact he
  · obtain ⟨i, m, h1, h2⟩ := h.one hv hp
    exact ⟨i, m, by omega, h2⟩
/-- A node of another version. -/
theorem VerS.wrong {s : St} {j : Jb} {set v : Int} {k : Nat} {n : Nd} (h : VerS s.nodes j.pin set k v) (hn : s.nodes[k]? = some n) (hs : hasS set k = true) (hv : v ≠ 0) (he : n.version ≠ v) : ¬ FitsP s j set := by
  intro hf
  by_cases hp : j.pin = 0
  · obtain ⟨i, m, _, h2, h3, h4⟩ := h.one hv hp
    exact he ((hf.one k n i m hn hs h2 h3).trans h4)
  · exact he ((hf.pin k n hn hs hp).trans (h.hp hp).symm)
theorem VerS.fits {s : St} {j : Jb} {set v : Int} (h : VerS s.nodes j.pin set s.nodes.length v) (h0 : 0 ≤ set) (h1 : set < 2 ^ s.nodes.length) (h2 : inR (manyS set) j.least j.most = true) : FitsP s j set := by
  have h3 := inR_iff.1 h2
  refine ⟨h0, h1, h3.1, h3.2, fun i n hi hh hp => ?_, fun i n k m hi hh hk hm => ?_⟩
  · have hv := h.hp hp
    rw [← hv] at hp ⊢
    exact h.all hp i n (List.getElem?_eq_some_iff.1 hi).1 hi hh
  · by_cases hv : v = 0
    · rw [h.none_ hv i n (List.getElem?_eq_some_iff.1 hi).1 hi] at hh
      cases hh
    · rw [h.all hv i n (List.getElem?_eq_some_iff.1 hi).1 hi hh, h.all hv k m (List.getElem?_eq_some_iff.1 hk).1 hk hm]

theorem shr_zero {set : Int} {n : Nat} : set / 2 ^ n = 0 ↔ 0 ≤ set ∧ set < 2 ^ n := by
  have hp : (0 : Int) < 2 ^ n := Int.pow_pos (by decide)
  constructor
  · intro h
    refine ⟨?_, ?_⟩
    · rcases Int.lt_or_le set 0 with h1 | h1
      · have := Int.ediv_neg_of_neg_of_pos h1 hp
        omega
      · exact h1
    · have := Int.lt_ediv_add_one_mul_self set hp
      rw [h] at this
      omega
  · intro h
    exact Int.ediv_eq_zero_of_lt h.1 h.2

set_option maxRecDepth 100000 in
set_option maxHeartbeats 4000000 in
theorem suits_any (vn vj : Value) (s : St) (j : Jb) (set : Int) (w : World) (hr : RdNd w vn s.nodes) (hn : s.nodes.length ≤ 6) (hver : ∀ (i : Nat) (n : Nd), s.nodes[i]? = some n → 1 ≤ n.version) :
    Calls Tryd.prog 58 #[stV vn vj s, jbV j, .int .i64 set] w fun e w' => ∃ b, e = .returned (.bool b) ∧ (b = true ↔ FitsP s j set) ∧ Ext w w' := by
  obtain ⟨A, c, rfl, hnc, hcm, hcell⟩ := has_cells hr
  have HC := Lib.hid hcell
  have HV := Lib.hid hver
  have hx : Ext w ((w.alloc (.cells #[.slice A s.nodes.length c, vj, .int .i64 s.goal, .int .i64 s.prior, .int .i64 s.mode, .int .i64 s.term] 30)).alloc (.cells #[.int .i64 j.queue, .int .i64 j.prio, .int .i64 j.least, .int .i64 j.most, .int .i64 j.work, .int .i64 j.pin, .int .i64 j.phase, .int .i64 j.inc, .int .i64 j.nodes, .int .i64 j.since, .int .i64 j.til, .int .i64 j.epoch] 52)) :=
    ((Below.refl _ _).alloc (Nat.le_refl _) _).alloc (by simp) _
  have HX := Lib.hid hx
  clear hr hcell hver hx
  unfold stV jbV
  by_cases h1 : 0 ≤ set ∧ set < 2 ^ s.nodes.length
  · obtain ⟨m, rfl⟩ : ∃ m : Nat, set = (m : Int) := ⟨set.toNat, by omega⟩
    have hm : m < 64 := by
      have h2 : 2 ^ s.nodes.length ≤ 2 ^ 6 := Nat.pow_le_pow_right (by decide) hn
      have h3 : ((2 ^ s.nodes.length : Nat) : Int) = (2 : Int) ^ s.nodes.length := by simp
      omega
    have HSZ := Lib.hid fun w' => size_any m hm w'
    have HF := Lib.hid fun n lo hi w' => isFrom_any n lo hi w'
    have HH := Lib.hid fun i h w' => has_any (m : Int) i h w'
    have hz : (m : Int) / 2 ^ s.nodes.length = 0 := shr_zero.2 h1
    have hs0 : (0 : Int) ≤ (s.nodes.length : Int) := by omega
    have hs1 : decide ((s.nodes.length : Int) < 0) = false := decide_eq_false (by omega)
    have H1 := Lib.hid h1
    clear h1
    cases h2 : inR (manyS (m : Int)) j.least j.most
    · have HNO : Hid (¬ FitsP s j (m : Int)) := Lib.hid fun hf => by
        have := inR_iff.2 ⟨hf.least, hf.most⟩
        rw [h2] at this
        cases this
      go_enter Tryd.func58, Tryd.ntmps58
      go_wp2_with fail
      go_quiet (first | (go_at_call 101; exact quiet_eq (HSZ.out _)) | (go_at_call 37; exact quiet_eq (HF.out _ _ _ _)))
      go_wp2
      go_ret
      exact ⟨false, rfl, ⟨(fun h => by cases h), fun h => absurd h HNO.out⟩, Below.drewN' HX.out _⟩
    · have HY : Hid (∀ v, VerS s.nodes j.pin (m : Int) s.nodes.length v → FitsP s j (m : Int)) := Lib.hid fun v hv => hv.fits H1.out.1 H1.out.2 h2
      have HN : Hid (∀ k n v, VerS s.nodes j.pin (m : Int) k v → s.nodes[k]? = some n → hasS (m : Int) k = true → v ≠ 0 → n.version ≠ v → ¬ FitsP s j (m : Int)) := Lib.hid fun k n v hv hn hs h0 he => hv.wrong hn hs h0 he
      have HNN := Lib.hid hn
      go_enter Tryd.func58, Tryd.ntmps58
      go_wp2_with fail
      go_quiet (first | (go_at_call 101; exact quiet_eq (HSZ.out _)) | (go_at_call 37; exact quiet_eq (HF.out _ _ _ _)))
      clear hz h2 hs0 hs1
      have HX2 := Lib.hid (Below.drewN' HX.out nq)
      clear HX
      go_wp2_with fail
      go_loopg [7, 31] s.nodes.length (fun gg v i wr => ∃ (k : Nat) (z : Int), i = .int .i64 k ∧ v = .int .i64 z ∧ k ≤ s.nodes.length ∧ gg = s.nodes.length - k ∧ Hid (Ext w wr ∧ VerS s.nodes j.pin (m : Int) k z))
      case atStart => exact ⟨0, j.pin, rfl, rfl, Nat.zero_le _, by omega, Lib.hid ⟨HX2.out, VerS.zero _ _ _⟩⟩
      case round =>
        obtain ⟨k, z, rfl, rfl, hk, rfl, HR⟩ := hrel
        by_cases hlt : k < s.nodes.length
        · have d1 : decide ((k : Int) < (s.nodes.length : Int)) = true := decide_eq_true (by omega)
          have d1' : decide (k < s.nodes.length) = true := decide_eq_true hlt
          obtain ⟨n, hnk⟩ : ∃ n, s.nodes[k]? = some n := ⟨_, List.getElem?_eq_getElem hlt⟩
          obtain ⟨b, o, rfl, hb, hat⟩ := HC.out k n hnk
          obtain ⟨c0, c1, c2, c3, c4⟩ := hat.ext HR.out.1 hb
          have HX1 := Lib.hid (HR.out.1.trans ((Below.refl _ wr).alloc (Nat.le_refl _) (.cells #[.bool n.up, .bool n.cordon, .bool n.moving, .int .i64 n.version, .int .i64 n.job] 45)))
          have hk64 : k < 64 := by omega
          have HV1 := Lib.hid (HV.out k n hnk)
          have HNK := Lib.hid hnk
          have HLT := Lib.hid hlt
          clear hnk hb
          go_wp2_with fail
          refine (HH.out k hk64 _).mono ?_
          rintro e1 w1 ⟨rfl, rfl⟩
          cases hh : hasS (m : Int) k
          · go_wp2
            go_roundg (s.nodes.length - (k + 1))
            case measure => have := HLT.out; omega
            case rel => exact ⟨k + 1, z, by go_num, rfl, HLT.out, rfl, Lib.hid ⟨HX1.out, HR.out.2.skip hh⟩⟩
          · have HHH := Lib.hid hh
            by_cases hz0 : z = 0
            · subst hz0
              have HP : Hid (j.pin = 0) := Lib.hid (Classical.byContradiction fun h => h (HR.out.2.hp h).symm)
              have hvv : (n.version == n.version) = true := beq_self_eq_true _
              go_wp2
              go_roundg (s.nodes.length - (k + 1))
              case measure => have := HLT.out; omega
              case rel => exact ⟨k + 1, n.version, by go_num, rfl, HLT.out, rfl, Lib.hid ⟨HX1.out, HR.out.2.first HNK.out HHH.out HP.out (by have := HV1.out; omega)⟩⟩
            · have HZ := Lib.hid hz0
              have hz1 : (z == 0) = false := by rw [beq_eq_false_iff_ne]; exact hz0
              clear hz0
              by_cases hv : n.version = z
              · have HE := Lib.hid hv
                have hv1 : (n.version == z) = true := by rw [hv]; exact beq_self_eq_true _
                clear hv
                go_wp2
                go_roundg (s.nodes.length - (k + 1))
                case measure => have := HLT.out; omega
                case rel => exact ⟨k + 1, z, by go_num, rfl, HLT.out, rfl, Lib.hid ⟨HX1.out, HR.out.2.next HNK.out HHH.out HZ.out HE.out⟩⟩
              · have HE := Lib.hid (HN.out k n z HR.out.2 HNK.out hh HZ.out hv)
                have hv1 : (n.version == z) = false := by rw [beq_eq_false_iff_ne]; exact hv
                clear hv
                go_wp2
                go_ret
                exact ⟨false, rfl, ⟨(fun h => by cases h), fun h => absurd h HE.out⟩, HX1.out⟩
        · have d1 : decide ((k : Int) < (s.nodes.length : Int)) = false := decide_eq_false (by omega)
          have d1' : decide (k < s.nodes.length) = false := decide_eq_false hlt
          obtain rfl : k = s.nodes.length := by omega
          have HE := Lib.hid (HY.out z HR.out.2)
          go_wp2
          go_ret
          exact ⟨true, rfl, ⟨fun _ => HE.out, fun _ => rfl⟩, HR.out.1⟩
  · have hz : (set / 2 ^ s.nodes.length == 0) = false := by
      rw [beq_eq_false_iff_ne]
      exact fun h => h1 (shr_zero.1 h)
    have hz2 : (set / 2 ^ s.nodes.length != 0) = true := by rw [bne, hz]; rfl
    have HNO : Hid (¬ FitsP s j set) := Lib.hid fun hf => h1 ⟨hf.low, hf.high⟩
    clear h1
    go_enter Tryd.func58, Tryd.ntmps58
    go_wp2_with fail
    have hs0 : (0 : Int) ≤ (s.nodes.length : Int) := by omega
    go_quiet (fail)
    go_wp2
    go_ret
    exact ⟨false, rfl, ⟨(fun h => by cases h), fun h => absurd h HNO.out⟩, Below.drewN' HX.out _⟩

/-! ### Its nodes carry it -/
set_option maxRecDepth 100000 in
set_option maxHeartbeats 4000000 in
theorem carried_any (vn vj : Value) (s : St) (k : Nat) (j : Jb) (w : World) (hr : RdNd w vn s.nodes) (hrj : RdJb w vj s.jobs) (hj : s.jobs[k]? = some j) (hn : s.nodes.length ≤ 6) (_hjl : s.jobs.length ≤ 24) :
    Calls Tryd.prog 59 #[stV vn vj s, .int .i64 ((k : Int) + 1)] w fun e w' => ∃ b, e = .returned (.bool b) ∧ (b = true ↔ CarriedL s k j) ∧ Ext w w' := by
  obtain ⟨A, c, rfl, hnc, hcm, hcell⟩ := has_cells hr
  obtain ⟨A2, c2, rfl, hnc2, hcm2, hcell2⟩ := jobs_cells hrj
  obtain ⟨b2, o2, rfl, hb2, hat2⟩ := hcell2 k j hj
  have HC := Lib.hid hcell
  have hx : Ext w (w.alloc (.cells #[.slice A s.nodes.length c, .slice (some ⟨b2, o2, none⟩) s.jobs.length c2, .int .i64 s.goal, .int .i64 s.prior, .int .i64 s.mode, .int .i64 s.term] 30)) := (Below.refl _ _).alloc (Nat.le_refl _) _
  have hbk := Blk.new w 30 #[.slice A s.nodes.length c, .slice (some ⟨b2, o2, none⟩) s.jobs.length c2, .int .i64 s.goal, .int .i64 s.prior, .int .i64 s.mode, .int .i64 s.term]
  obtain ⟨W1, hW1⟩ : ∃ W1, W1 = (w.alloc (.cells #[.slice A s.nodes.length c, .slice (some ⟨b2, o2, none⟩) s.jobs.length c2, .int .i64 s.goal, .int .i64 s.prior, .int .i64 s.mode, .int .i64 s.term] 30)) := ⟨_, rfl⟩
  rw [← hW1] at hx hbk
  have HX := Lib.hid hx
  have HBK := Lib.hid hbk
  have HH := Lib.hid fun i h w' => has_any j.nodes i h w'
  have hkl := (List.getElem?_eq_some_iff.1 hj).1
  have HAT := Lib.hid hat2
  have hw1 : wrap64 ((k : Int) + 1 - 1) = (k : Int) := by rw [IntWalk.wrap64_in _ (by omega)]; omega
  have HB2 := Lib.hid hb2
  clear hr hrj hcell hcell2 hx hbk hj hat2 hb2
  unfold stV
  go_enter Tryd.func59, Tryd.ntmps59
  go_wp2_with fail
  rw [← hW1]
  clear hW1
  go_loopg [10] s.nodes.length (fun gg i wr => ∃ (q : Nat), i = .int .i64 q ∧ q ≤ s.nodes.length ∧ gg = s.nodes.length - q ∧ Hid (Ext W1 wr ∧ ∀ i n, i < q → s.nodes[i]? = some n → hasS j.nodes i = true → n.up = true ∧ n.moving = false ∧ n.job = (k : Int) + 1))
  case atStart => exact ⟨0, rfl, Nat.zero_le _, by omega, Lib.hid ⟨Ext.refl _, fun i n h => absurd h (Nat.not_lt_zero i)⟩⟩
  case round =>
    obtain ⟨q, rfl, hq, rfl, HR⟩ := hrel
    by_cases hlt : q < s.nodes.length
    · have d1 : decide ((q : Int) < (s.nodes.length : Int)) = true := decide_eq_true (by omega)
      have d1' : decide (q < s.nodes.length) = true := decide_eq_true hlt
      obtain ⟨n, hnk⟩ : ∃ n, s.nodes[q]? = some n := ⟨_, List.getElem?_eq_getElem hlt⟩
      obtain ⟨b, o, rfl, hb, hat⟩ := HC.out q n hnk
      obtain ⟨c0, c1, c2_, c3, c4⟩ := hat.ext (HX.out.trans HR.out.1) hb
      have c8 := (HAT.out.ext (HX.out.trans HR.out.1) HB2.out).c8
      have s0 : wr.cell? ⟨w.heap.size, 1, none⟩ = some (.slice (some ⟨b2, o2, none⟩) s.jobs.length c2) := (HBK.out.ext HR.out.1).cell 1
      have hl0 : w.heap.size < wr.heap.size := (HBK.out.ext HR.out.1).lt
      have hl2 : b2 < wr.heap.size := Nat.lt_of_lt_of_le HB2.out (HX.out.trans HR.out.1).size
      have HX1 := Lib.hid fun cs => HR.out.1.trans ((Below.refl _ wr).alloc (Nat.le_refl _) (.cells cs 45))
      have hk64 : q < 64 := by omega
      have HNK := Lib.hid hnk
      have HLT := Lib.hid hlt
      clear hnk hb hat
      go_wp2_with fail
      refine (HH.out q hk64 _).mono ?_
      rintro e1 w1 ⟨rfl, rfl⟩
      have HXw := Lib.hid fun cs => HX.out.trans (HX1.out cs)
      have HSKIP : Hid (hasS j.nodes q = false ∨ (n.up = true ∧ n.moving = false ∧ n.job = (k : Int) + 1) → (∀ i n, i < q + 1 → s.nodes[i]? = some n → hasS j.nodes i = true → n.up = true ∧ n.moving = false ∧ n.job = (k : Int) + 1)) := Lib.hid fun ho i m hi hm hh => by
        rcases Nat.lt_or_ge i q with h' | h'
        · exact HR.out.2 i m h' hm hh
        · obtain rfl : i = q := by omega
          rw [HNK.out] at hm
          cases hm
          rcases ho with ho | ho
          · rw [ho] at hh
            cases hh
          · exact ho
      have HNO : Hid (¬ (n.up = true ∧ n.moving = false ∧ n.job = (k : Int) + 1) → hasS j.nodes q = true → ¬ CarriedL s k j) := Lib.hid fun h hh hc => h (hc q n HNK.out hh)
      cases hh : hasS j.nodes q
      · go_wp2
        go_roundg (s.nodes.length - (q + 1))
        case measure => have := HLT.out; omega
        case rel => exact ⟨q + 1, by go_num, HLT.out, rfl, Lib.hid ⟨HX1.out _, HSKIP.out (.inl hh)⟩⟩
      · have HHH := Lib.hid hh
        cases hup : n.up
        · go_wp2
          go_ret
          exact ⟨false, rfl, ⟨(fun h => by cases h), fun h => absurd h (HNO.out (fun h => by rw [hup] at h; cases h.1) HHH.out)⟩, HXw.out _⟩
        cases hmv : n.moving
        · by_cases hjb : n.job = (k : Int) + 1
          · have e1 : (n.job == (k : Int) + 1) = true := by rw [hjb]; exact beq_self_eq_true _
            have HJ := Lib.hid hjb
            clear hjb
            go_wp2
            go_roundg (s.nodes.length - (q + 1))
            case measure => have := HLT.out; omega
            case rel => exact ⟨q + 1, by go_num, HLT.out, rfl, Lib.hid ⟨HX1.out _, HSKIP.out (.inr ⟨hup, hmv, HJ.out⟩)⟩⟩
          · have e1 : (n.job == (k : Int) + 1) = false := by rw [beq_eq_false_iff_ne]; exact hjb
            have HJ := Lib.hid hjb
            clear hjb
            go_wp2
            go_ret
            exact ⟨false, rfl, ⟨(fun h => by cases h), fun h => absurd h (HNO.out (fun h => HJ.out h.2.2) HHH.out)⟩, HXw.out _⟩
        · go_wp2
          go_ret
          exact ⟨false, rfl, ⟨(fun h => by cases h), fun h => absurd h (HNO.out (fun h => by rw [hmv] at h; cases h.2.1) HHH.out)⟩, HXw.out _⟩
    · have d1 : decide ((q : Int) < (s.nodes.length : Int)) = false := decide_eq_false (by omega)
      have d1' : decide (q < s.nodes.length) = false := decide_eq_false hlt
      obtain rfl : q = s.nodes.length := by omega
      have HE : Hid (CarriedL s k j) := Lib.hid fun i n hi hh => HR.out.2 i n (List.getElem?_eq_some_iff.1 hi).1 hi hh
      have HX1 := Lib.hid (HX.out.trans HR.out.1)
      go_wp2
      go_ret
      exact ⟨true, rfl, ⟨fun _ => HE.out, fun _ => rfl⟩, HX1.out⟩

end Go.Proofs.YtddhbokknbmdfaaDoor

/- Package book: whether a node, and a job, may be as they are. -/
namespace Go.Proofs.YtddhbokknbmdfaaDoor
open Go.RowKit

theorem ext2 (w : World) (t1 t2 : TypeId) (c1 c2 : Array Value) : Ext w ((w.alloc (.cells c1 t1)).alloc (.cells c2 t2)) := ((Below.refl _ _).alloc (Nat.le_refl _) _).alloc (by simp) _
theorem ext3 (w : World) (t1 t2 t3 : TypeId) (c1 c2 c3 : Array Value) : Ext w (((w.alloc (.cells c1 t1)).alloc (.cells c2 t2)).alloc (.cells c3 t3)) := (ext2 w t1 t2 c1 c2).alloc (by simp; omega) _

set_option maxRecDepth 100000 in
set_option maxHeartbeats 4000000 in
theorem nodeMay_any (vn vj : Value) (s : St) (i : Nat) (n : Nd) (w : World) (hr : RdNd w vn s.nodes) (hrj : RdJb w vj s.jobs) (hi : s.nodes[i]? = some n) (hn : s.nodes.length ≤ 6) (_hjl : s.jobs.length ≤ 24) :
    Calls Tryd.prog 38 #[stV vn vj s, .int .i64 (i : Int)] w fun e w' => ∃ b, e = .returned (.bool b) ∧ (b = true ↔ NodeL s i n) ∧ Ext w w' := by
  obtain ⟨A, c, rfl, hnc, hcm, hcell⟩ := has_cells hr
  obtain ⟨A2, c2, rfl, hnc2, hcm2, hcell2⟩ := jobs_cells hrj
  obtain ⟨b, o, rfl, hb, hat⟩ := hcell i n hi
  have hil := (List.getElem?_eq_some_iff.1 hi).1
  have hi64 : i < 64 := by omega
  have HX := Lib.hid fun c1 c2 => ext2 w 30 45 c1 c2
  have HC2 := Lib.hid hcell2
  have HF := Lib.hid fun n lo hi w' => isFrom_any n lo hi w'
  have HV := Lib.hid fun n w' => isVersion_any n w'
  have HH := Lib.hid fun set w' => has_any set i hi64 w'
  have hx1 : ∀ cs, Ext w (w.alloc (.cells cs 30)) := fun cs => (Below.refl _ _).alloc (Nat.le_refl _) _
  obtain ⟨c0, c1, c2_, c3, c4⟩ := hat.ext (hx1 #[.slice (some ⟨b, o, none⟩) s.nodes.length c, .slice A2 s.jobs.length c2, .int .i64 s.goal, .int .i64 s.prior, .int .i64 s.mode, .int .i64 s.term]) hb
  have NL : NodeL s i n ↔ ((1 ≤ n.version ∧ n.version ≤ 9) ∧ (n.moving = true → n.up = true ∧ n.cordon = true ∧ n.job = 0) ∧ (n.job = 0 ∨ ∃ k j, n.job = (k : Nat) + 1 ∧ s.jobs[k]? = some j ∧ hasS j.nodes i = true)) := Iff.rfl
  have HNL := Lib.hid NL
  clear hr hrj hcell hcell2 hat hi hb NL hx1
  unfold stV
  go_enter Tryd.func38, Tryd.ntmps38
  go_wp2_with fail
  refine (HV.out _ _).mono ?_
  rintro e1 w1 ⟨rfl, rfl⟩
  cases hv : inR n.version 1 9
  · have HNO : Hid (¬ NodeL s i n) := Lib.hid fun h => by
      have := inR_iff.2 (HNL.out.1 h).1
      rw [hv] at this
      cases this
    go_wp2
    go_ret
    exact ⟨false, rfl, ⟨(fun h => by cases h), fun h => absurd h HNO.out⟩, HX.out _ _⟩
  have HA := Lib.hid (inR_iff.1 hv)
  cases hmv : n.moving
  · by_cases hj : n.job = 0
    · have HYES : Hid (NodeL s i n) := Lib.hid (HNL.out.2 ⟨HA.out, (fun h => by rw [hmv] at h; cases h), .inl hj⟩)
      have e1 : (n.job == 0) = true := by rw [hj]; rfl
      clear hj
      go_wp2
      go_ret
      exact ⟨true, rfl, ⟨fun _ => HYES.out, fun _ => rfl⟩, HX.out _ _⟩
    · have e1 : (n.job == 0) = false := by rw [beq_eq_false_iff_ne]; exact hj
      have HJ := Lib.hid hj
      clear hj
      go_wp2_with fail
      refine (HF.out _ _ _ _).mono ?_
      rintro e1 w1 ⟨rfl, rfl⟩
      cases hf : inR n.job 1 (s.jobs.length : Int)
      · have HNO : Hid (¬ NodeL s i n) := Lib.hid fun h => by
          rcases (HNL.out.1 h).2.2 with h1 | ⟨k, j, h1, h2, _⟩
          · exact HJ.out h1
          · have := (List.getElem?_eq_some_iff.1 h2).1
            have h3 : inR n.job 1 (s.jobs.length : Int) = true := inR_iff.2 ⟨by omega, by omega⟩
            rw [hf] at h3
            cases h3
        go_wp2
        go_ret
        exact ⟨false, rfl, ⟨(fun h => by cases h), fun h => absurd h HNO.out⟩, HX.out _ _⟩
      · have hf2 := inR_iff.1 hf
        obtain ⟨k, hk⟩ : ∃ k : Nat, n.job = (k : Int) + 1 := ⟨(n.job - 1).toNat, by omega⟩
        have hkl : k < s.jobs.length := by omega
        obtain ⟨j, hj⟩ : ∃ j, s.jobs[k]? = some j := ⟨_, List.getElem?_eq_getElem hkl⟩
        obtain ⟨b2, o2, rfl, hb2, hat2⟩ := HC2.out k j hj
        have c8 := hat2.c8
        have HNL2 : Hid (NodeL s i n ↔ hasS j.nodes i = true) := Lib.hid (HNL.out.trans ⟨fun h => by
          rcases h.2.2 with h1 | ⟨k', j', h1, h2, h3⟩
          · omega
          · obtain rfl : k' = k := by omega
            rw [hj] at h2
            cases h2
            exact h3, fun h => ⟨HA.out, (fun h' => by rw [hmv] at h'; cases h'), .inr ⟨k, j, hk, hj, h⟩⟩⟩)
        have hw1 : wrap64 (n.job - 1) = (k : Int) := by rw [IntWalk.wrap64_in _ (by omega)]; omega
        clear hf2 hk hj hat2
        go_wp2_with fail
        refine (HH.out _ _).mono ?_
        rintro e1 w1 ⟨rfl, rfl⟩
        go_wp2
        go_ret
        exact ⟨_, rfl, HNL2.out.symm, HX.out _ _⟩
  cases hup : n.up
  · have HNO : Hid (¬ NodeL s i n) := Lib.hid fun h => by
      have := ((HNL.out.1 h).2.1 hmv).1
      rw [hup] at this
      cases this
    go_wp2
    go_ret
    exact ⟨false, rfl, ⟨(fun h => by cases h), fun h => absurd h HNO.out⟩, HX.out _ _⟩
  cases hco : n.cordon
  · have HNO : Hid (¬ NodeL s i n) := Lib.hid fun h => by
      have := ((HNL.out.1 h).2.1 hmv).2.1
      rw [hco] at this
      cases this
    go_wp2
    go_ret
    exact ⟨false, rfl, ⟨(fun h => by cases h), fun h => absurd h HNO.out⟩, HX.out _ _⟩
  by_cases hj : n.job = 0
  · have HYES : Hid (NodeL s i n) := Lib.hid (HNL.out.2 ⟨HA.out, (fun _ => ⟨hup, hco, hj⟩), .inl hj⟩)
    have e1 : (n.job == 0) = true := by rw [hj]; rfl
    clear hj
    go_wp2
    go_ret
    exact ⟨true, rfl, ⟨fun _ => HYES.out, fun _ => rfl⟩, HX.out _ _⟩
  · have HNO : Hid (¬ NodeL s i n) := Lib.hid fun h => hj ((HNL.out.1 h).2.1 hmv).2.2
    have e1 : (n.job == 0) = false := by rw [beq_eq_false_iff_ne]; exact hj
    clear hj
    go_wp2
    go_ret
    exact ⟨false, rfl, ⟨(fun h => by cases h), fun h => absurd h HNO.out⟩, HX.out _ _⟩

end Go.Proofs.YtddhbokknbmdfaaDoor

/- Package book: whether a job may be as it is. -/
namespace Go.Proofs.YtddhbokknbmdfaaDoor
open Go.RowKit

set_option maxRecDepth 100000 in
set_option maxHeartbeats 4000000 in
theorem jobMay_any (c : Cf) (vn vj : Value) (s : St) (k : Nat) (j : Jb) (w : World) (hr : RdNd w vn s.nodes) (hrj : RdJb w vj s.jobs) (hj : s.jobs[k]? = some j) (hm : mayC c = true) (hn : s.nodes.length ≤ 6) (hjl : s.jobs.length ≤ 24)
    (hver : ∀ (i : Nat) (n : Nd), s.nodes[i]? = some n → 1 ≤ n.version) :
    Calls Tryd.prog 39 #[cfV c, stV vn vj s, .int .i64 ((k : Int) + 1)] w fun e w' => ∃ b, e = .returned (.bool b) ∧ (b = true ↔ JobL c s k j) ∧ Ext w w' := by
  have HA := Lib.hid fun w' => asked_any c j w' hm
  have HS := Lib.hid fun w' h => suits_any vn vj s j j.nodes w' h hn hver
  have HR := Lib.hid fun w' h1 h2 => carried_any vn vj s k j w' h1 h2 hj hn hjl
  have HF := Lib.hid fun n lo hi w' => isFrom_any n lo hi w'
  have HRN := Lib.hid hr
  have HRJ := Lib.hid hrj
  obtain ⟨A, c1, rfl, hnc, hcm, hcell⟩ := jobs_cells hrj
  obtain ⟨b2, o2, rfl, hb2, hat2⟩ := hcell k j hj
  have hkl := (List.getElem?_eq_some_iff.1 hj).1
  have hw1 : wrap64 ((k : Int) + 1 - 1) = (k : Int) := by rw [IntWalk.wrap64_in _ (by omega)]; omega
  obtain ⟨jc, hjc⟩ : ∃ jc : Array Value, jc = #[.int .i64 j.queue, .int .i64 j.prio, .int .i64 j.least, .int .i64 j.most, .int .i64 j.work, .int .i64 j.pin, .int .i64 j.phase, .int .i64 j.inc, .int .i64 j.nodes, .int .i64 j.since, .int .i64 j.til, .int .i64 j.epoch] := ⟨_, rfl⟩
  obtain ⟨cc, hcc⟩ : ∃ cc : Array Value, cc = #[.int .i64 c.nodes, .int .i64 c.queues, .int .i64 c.quota, .int .i64 c.wave, .int .i64 c.lease, .int .i64 c.retry, .int .i64 c.deadline, .int .i64 c.room, .int .i64 c.disk] := ⟨_, rfl⟩
  obtain ⟨sc, hsc⟩ : ∃ sc : Array Value, sc = #[vn, .slice (some ⟨b2, o2, none⟩) s.jobs.length c1, .int .i64 s.goal, .int .i64 s.prior, .int .i64 s.mode, .int .i64 s.term] := ⟨_, rfl⟩
  have HX2 := Lib.hid (ext2 w 23 30 cc sc)
  obtain ⟨W3, hW3⟩ : ∃ W3, W3 = ((w.alloc (.cells cc 23)).alloc (.cells sc 30)).alloc (.cells jc 52) := ⟨_, rfl⟩
  have hx3 : Ext w W3 := by rw [hW3]; exact ext3 w _ _ _ cc sc jc
  have hbj : Blk W3 (w.heap.size + 2) 52 jc := by
    have := Blk.new ((w.alloc (.cells cc 23)).alloc (.cells sc 30)) 52 jc
    rw [hW3]
    simpa using this
  have hbs : Blk W3 (w.heap.size + 1) 30 sc := by
    have := (Blk.new (w.alloc (.cells cc 23)) 30 sc).ext ((Below.refl _ _).alloc (Nat.le_refl _) (.cells jc 52))
    rw [hW3]
    simpa using this
  obtain ⟨q0, q1, q2, q3, q4, q5, q6, q7, q8, q9, q10, q11⟩ := hat2.ext HX2.out hb2
  have HX3 := Lib.hid hx3
  have HBJ := Lib.hid hbj
  have HBS := Lib.hid hbs
  have HJL : Hid (JobL c s k j ↔ (askedJ c j = true ∧ (0 ≤ j.inc ∧ j.inc ≤ 1000000) ∧ (0 ≤ j.epoch ∧ j.epoch ≤ j.inc) ∧ (0 ≤ j.since ∧ j.since ≤ 1000000) ∧ (0 ≤ j.til ∧ j.til ≤ 1000000) ∧
    (((j.phase = 0 ∨ j.phase = 4) ∧ j.nodes = 0) ∨ ((1 ≤ j.phase ∧ j.phase ≤ 3) ∧ FitsP s j j.nodes ∧ CarriedL s k j)))) := Lib.hid Iff.rfl
  clear hr hrj hcell hat2 hj hm hver hb2 hx3 hbj hbs
  unfold cfV jbV at HA
  unfold stV jbV at HS
  unfold stV at HR
  unfold stV cfV
  subst hsc hcc hjc
  go_enter Tryd.func39, Tryd.ntmps39
  go_wp2_with fail
  rw [← hW3]
  clear q0 q1 q2 q3 q4 q5 q6 q7 q8 q9 q10 q11 hW3 HX2
  refine (HA.out _).mono ?_
  rintro e1 w1 ⟨rfl, hx1⟩
  have HX1 := Lib.hid (HX3.out.trans hx1)
  have HBJ1 := Lib.hid (HBJ.out.ext hx1)
  have HBS1 := Lib.hid (HBS.out.ext hx1)
  have g6 : w1.cell? ⟨w.heap.size + 2, 6, none⟩ = some (.int .i64 j.phase) := HBJ1.out.cell 6
  have g7 : w1.cell? ⟨w.heap.size + 2, 7, none⟩ = some (.int .i64 j.inc) := HBJ1.out.cell 7
  have g8 : w1.cell? ⟨w.heap.size + 2, 8, none⟩ = some (.int .i64 j.nodes) := HBJ1.out.cell 8
  have g9 : w1.cell? ⟨w.heap.size + 2, 9, none⟩ = some (.int .i64 j.since) := HBJ1.out.cell 9
  have g10 : w1.cell? ⟨w.heap.size + 2, 10, none⟩ = some (.int .i64 j.til) := HBJ1.out.cell 10
  have g11 : w1.cell? ⟨w.heap.size + 2, 11, none⟩ = some (.int .i64 j.epoch) := HBJ1.out.cell 11
  clear hx1
  cases ha : askedJ c j
  · have HNO : Hid (¬ JobL c s k j) := Lib.hid fun h => by
      have := (HJL.out.1 h).1
      rw [ha] at this
      cases this
    go_wp2
    go_ret
    exact ⟨false, rfl, ⟨(fun h => by cases h), fun h => absurd h HNO.out⟩, HX1.out⟩
  go_wp2_with fail
  refine (HF.out _ _ _ _).mono ?_
  rintro e1 w1_ ⟨rfl, rfl⟩
  cases h1 : inR j.inc 0 1000000
  · have HNO : Hid (¬ JobL c s k j) := Lib.hid fun h => by
      have := inR_iff.2 (HJL.out.1 h).2.1
      rw [h1] at this
      cases this
    go_wp2
    go_ret
    exact ⟨false, rfl, ⟨(fun h => by cases h), fun h => absurd h HNO.out⟩, HX1.out⟩
  go_wp2_with fail
  refine (HF.out _ _ _ _).mono ?_
  rintro e1 w1_ ⟨rfl, rfl⟩
  cases h2 : inR j.epoch 0 j.inc
  · have HNO : Hid (¬ JobL c s k j) := Lib.hid fun h => by
      have := inR_iff.2 (HJL.out.1 h).2.2.1
      rw [h2] at this
      cases this
    go_wp2
    go_ret
    exact ⟨false, rfl, ⟨(fun h => by cases h), fun h => absurd h HNO.out⟩, HX1.out⟩
  go_wp2_with fail
  refine (HF.out _ _ _ _).mono ?_
  rintro e1 w1_ ⟨rfl, rfl⟩
  cases h3 : inR j.since 0 1000000
  · have HNO : Hid (¬ JobL c s k j) := Lib.hid fun h => by
      have := inR_iff.2 (HJL.out.1 h).2.2.2.1
      rw [h3] at this
      cases this
    go_wp2
    go_ret
    exact ⟨false, rfl, ⟨(fun h => by cases h), fun h => absurd h HNO.out⟩, HX1.out⟩
  go_wp2_with fail
  refine (HF.out _ _ _ _).mono ?_
  rintro e1 w1_ ⟨rfl, rfl⟩
  cases h4 : inR j.til 0 1000000
  · have HNO : Hid (¬ JobL c s k j) := Lib.hid fun h => by
      have := inR_iff.2 (HJL.out.1 h).2.2.2.2.1
      rw [h4] at this
      cases this
    go_wp2
    go_ret
    exact ⟨false, rfl, ⟨(fun h => by cases h), fun h => absurd h HNO.out⟩, HX1.out⟩
  have HJ2 : Hid (JobL c s k j ↔ (((j.phase = 0 ∨ j.phase = 4) ∧ j.nodes = 0) ∨ ((1 ≤ j.phase ∧ j.phase ≤ 3) ∧ FitsP s j j.nodes ∧ CarriedL s k j))) :=
    Lib.hid (HJL.out.trans ⟨fun h => h.2.2.2.2.2, fun h => ⟨ha, inR_iff.1 h1, inR_iff.1 h2, inR_iff.1 h3, inR_iff.1 h4, h⟩⟩)
  clear h1 h2 h3 h4 ha HJL
  by_cases hp : 1 ≤ j.phase ∧ j.phase ≤ 3
  · have HP := Lib.hid hp
    have hp' : j.phase = 1 ∨ j.phase = 2 ∨ j.phase = 3 := by omega
    have s0 : w1.cell? ⟨w.heap.size + 1, 0, none⟩ = some vn := HBS1.out.cell 0
    have s1 : w1.cell? ⟨w.heap.size + 1, 1, none⟩ = some (.slice (some ⟨b2, o2, none⟩) s.jobs.length c1) := HBS1.out.cell 1
    have s2 : w1.cell? ⟨w.heap.size + 1, 2, none⟩ = some (.int .i64 s.goal) := HBS1.out.cell 2
    have s3 : w1.cell? ⟨w.heap.size + 1, 3, none⟩ = some (.int .i64 s.prior) := HBS1.out.cell 3
    have s4 : w1.cell? ⟨w.heap.size + 1, 4, none⟩ = some (.int .i64 s.mode) := HBS1.out.cell 4
    have s5 : w1.cell? ⟨w.heap.size + 1, 5, none⟩ = some (.int .i64 s.term) := HBS1.out.cell 5
    have g0 : w1.cell? ⟨w.heap.size + 2, 0, none⟩ = some (.int .i64 j.queue) := HBJ1.out.cell 0
    have g1 : w1.cell? ⟨w.heap.size + 2, 1, none⟩ = some (.int .i64 j.prio) := HBJ1.out.cell 1
    have g2 : w1.cell? ⟨w.heap.size + 2, 2, none⟩ = some (.int .i64 j.least) := HBJ1.out.cell 2
    have g3 : w1.cell? ⟨w.heap.size + 2, 3, none⟩ = some (.int .i64 j.most) := HBJ1.out.cell 3
    have g4 : w1.cell? ⟨w.heap.size + 2, 4, none⟩ = some (.int .i64 j.work) := HBJ1.out.cell 4
    have g5 : w1.cell? ⟨w.heap.size + 2, 5, none⟩ = some (.int .i64 j.pin) := HBJ1.out.cell 5
    have HJ3 : Hid (JobL c s k j ↔ FitsP s j j.nodes ∧ CarriedL s k j) := Lib.hid (HJ2.out.trans ⟨fun h => by
      rcases h with ⟨h, _⟩ | h
      · omega
      · exact h.2, fun h => .inr ⟨hp, h⟩⟩)
    clear hp HJ2
    generalize j.phase = ph at *
    rcases hp' with rfl | rfl | rfl
    all_goals
      go_wp2_with fail
      refine (HS.out _ (HRN.out.ext HX1.out)).mono ?_
      rintro e2 w2 ⟨b, rfl, hb, hx2⟩
      have HX2 := Lib.hid (HX1.out.trans hx2)
      have HBS2 := Lib.hid (HBS1.out.ext hx2)
      cases b
      · have HNO : Hid (¬ JobL c s k j) := Lib.hid fun h => by
          have := hb.2 (HJ3.out.1 h).1
          cases this
        clear hx2 hb
        go_wp2
        go_ret
        exact ⟨false, rfl, ⟨(fun h => by cases h), fun h => absurd h HNO.out⟩, HX2.out⟩
      · have HY := Lib.hid (hb.1 rfl)
        have s0 : w2.cell? ⟨w.heap.size + 1, 0, none⟩ = some vn := HBS2.out.cell 0
        have s1 : w2.cell? ⟨w.heap.size + 1, 1, none⟩ = some (.slice (some ⟨b2, o2, none⟩) s.jobs.length c1) := HBS2.out.cell 1
        have s2 : w2.cell? ⟨w.heap.size + 1, 2, none⟩ = some (.int .i64 s.goal) := HBS2.out.cell 2
        have s3 : w2.cell? ⟨w.heap.size + 1, 3, none⟩ = some (.int .i64 s.prior) := HBS2.out.cell 3
        have s4 : w2.cell? ⟨w.heap.size + 1, 4, none⟩ = some (.int .i64 s.mode) := HBS2.out.cell 4
        have s5 : w2.cell? ⟨w.heap.size + 1, 5, none⟩ = some (.int .i64 s.term) := HBS2.out.cell 5
        clear hx2 hb
        go_wp2_with fail
        refine (HR.out _ (HRN.out.ext HX2.out) (HRJ.out.ext HX2.out)).mono ?_
        rintro e3 w3 ⟨b, rfl, hb, hx3⟩
        have HX4 := Lib.hid (HX2.out.trans hx3)
        have HB := Lib.hid hb
        clear hx3 hb
        go_wp2
        go_ret
        exact ⟨b, rfl, ⟨fun h => HJ3.out.2 ⟨HY.out, HB.out.1 h⟩, fun h => HB.out.2 (HJ3.out.1 h).2⟩, HX4.out⟩
  · have HP := Lib.hid hp
    have n1 : (j.phase == 1) = false := by rw [beq_eq_false_iff_ne]; omega
    have n2 : (j.phase == 2) = false := by rw [beq_eq_false_iff_ne]; omega
    have n3 : (j.phase == 3) = false := by rw [beq_eq_false_iff_ne]; omega
    by_cases h04 : j.phase = 0 ∨ j.phase = 4
    · have HJ3 : Hid (JobL c s k j ↔ j.nodes = 0) := Lib.hid (HJ2.out.trans ⟨fun h => by
        rcases h with ⟨_, h⟩ | ⟨h, _⟩
        · exact h
        · exact absurd h hp, fun h => .inl ⟨h04, h⟩⟩)
      have HJ4 : Hid ((j.nodes == 0) = true ↔ JobL c s k j) := Lib.hid ((beq_iff_eq).trans HJ3.out.symm)
      clear hp HJ3 HJ2
      generalize j.phase = ph at *
      rcases h04 with rfl | rfl
      all_goals
        go_wp2
        go_ret
        exact ⟨_, rfl, HJ4.out, HX1.out⟩
    · have n0 : (j.phase == 0) = false := by rw [beq_eq_false_iff_ne]; omega
      have n4 : (j.phase == 4) = false := by rw [beq_eq_false_iff_ne]; omega
      have HNO : Hid (¬ JobL c s k j) := Lib.hid fun h => by
        rcases HJ2.out.1 h with ⟨h, _⟩ | ⟨h, _⟩
        · exact h04 h
        · exact hp h
      clear hp h04
      go_wp2
      go_ret
      exact ⟨false, rfl, ⟨(fun h => by cases h), fun h => absurd h HNO.out⟩, HX1.out⟩

end Go.Proofs.YtddhbokknbmdfaaDoor
