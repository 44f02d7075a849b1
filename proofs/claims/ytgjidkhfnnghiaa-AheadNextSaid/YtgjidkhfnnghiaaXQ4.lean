/- Texts that the proof of X rests on, one behind the other. -/
import Derived.Test.YtgjidkhfnnghiaaXQ1
import Derived.Test.YtgjidkhfnnghiaaXQ2
import Derived.Test.YtgjidkhfnnghiaaChecked
import Derived.Deep.QuietTactic
import Derived.BigQuiet
import Derived.Deep.LoopGhost
import Derived.StillTailTactics
import Derived.Deep.RegionLaw
import Derived.Deep.RegionHeld3

/- Package book: its small functions. -/
namespace Go.Proofs.Ytgjidkhfnnghiaa
open Go.RowKit

theorem i64_and1 (n : Int) : bits .and .i64 n 1 = n % 2 := by
  have h1 : (BitVec.ofInt 64 1).toNat = 2 ^ 1 - 1 := by decide
  have key : (BitVec.ofInt 64 n &&& BitVec.ofInt 64 1).toNat = (n % ((2 ^ 64 : Nat) : Int)).toNat % 2 ^ 1 := by
    rw [BitVec.toNat_and, BitVec.toNat_ofInt, h1, Nat.and_two_pow_sub_one_eq_mod]
  show IntKind.i64.wrap ((BitVec.ofInt 64 n &&& BitVec.ofInt 64 1).toNat : Nat) = n % 2
  rw [key, IntKind.wrap_i64]
  omega

theorem isFrom_any (n lo hi : Int) (w : World) :
    Calls Try.prog 16 #[.int .i64 n, .int .i64 lo, .int .i64 hi] w fun e w' => e = .returned (.bool (inR n lo hi)) ∧ w = w' := by
  unfold inR
  by_cases h1 : lo ≤ n
  · by_cases h2 : n ≤ hi
    · have d1 : decide (lo ≤ n) = true := decide_eq_true h1
      have d2 : decide (n ≤ hi) = true := decide_eq_true h2
      rw [decide_eq_true (show lo ≤ n ∧ n ≤ hi from ⟨h1, h2⟩)]
      clear h1 h2
      go_enter Try.func16, Try.ntmps16
      go_wp2
      go_ret
      exact ⟨rfl, rfl⟩
    · have d1 : decide (lo ≤ n) = true := decide_eq_true h1
      have d2 : decide (n ≤ hi) = false := decide_eq_false h2
      rw [decide_eq_false (show ¬ (lo ≤ n ∧ n ≤ hi) from fun h => h2 h.2)]
      clear h1 h2
      go_enter Try.func16, Try.ntmps16
      go_wp2
      go_ret
      exact ⟨rfl, rfl⟩
  · have d1 : decide (lo ≤ n) = false := decide_eq_false h1
    rw [decide_eq_false (show ¬ (lo ≤ n ∧ n ≤ hi) from fun h => h1 h.1)]
    clear h1
    go_enter Try.func16, Try.ntmps16
    go_wp2
    go_ret
    exact ⟨rfl, rfl⟩

theorem isVersion_any (n : Int) (w : World) :
    Calls Try.prog 15 #[.int .i64 n] w fun e w' => e = .returned (.bool (inR n 1 9)) ∧ w = w' := by
  have HF := Lib.hid fun w' => isFrom_any n 1 9 w'
  generalize inR n 1 9 = b at *
  go_enter Try.func15, Try.ntmps15
  go_wp2_with fail
  refine (HF.out _).mono ?_
  rintro e1 w1 ⟨rfl, rfl⟩
  go_wp2
  go_ret
  exact ⟨rfl, rfl⟩

theorem has_any (set : Int) (i : Nat) (hi : i < 64) (w : World) :
    Calls Try.prog 36 #[.int .i64 set, .int .i64 (i : Int)] w fun e w' => e = .returned (.bool (hasS set i)) ∧ w = w' := by
  have h0 : (0 : Int) ≤ (i : Int) := by omega
  go_enter Try.func36, Try.ntmps36
  go_wp2
  go_ret
  exact ⟨by simp only [i64_and1]; rfl, rfl⟩

/-- What OnesCount64 reckons, of a number below 64. -/
theorem manyS_nat (m : Nat) (h : m < 64) : manyS (m : Int) = (m.testBit 0).toNat + (m.testBit 1).toNat + (m.testBit 2).toNat + (m.testBit 3).toNat + (m.testBit 4).toNat + (m.testBit 5).toNat := by
  revert m
  decide +kernel

set_option maxRecDepth 100000 in
theorem size_any (m : Nat) (h : m < 64) (w : World) :
    Calls Try.prog 61 #[.int .i64 (m : Int)] w fun e w' => e = .returned (.int .i64 (manyS (m : Int) : Int)) ∧ w = w' := by
  have hall : ∀ m : Nat, m < 64 → ∀ w : World, Calls Try.prog 93 #[.int .u64 (m : Int)] w fun e w' => e = .returned (.int .i64 (manyS (m : Int) : Int)) ∧ w = w' := by
    intro m h w
    go_enter Try.func93, Try.ntmps93
    go_wp2
    go_ret
    refine ⟨?_, rfl⟩
    refine congrArg (fun n => Ending.returned (.int .i64 n)) ?_
    clear w
    revert m
    decide +kernel
  have hall2 : ∀ W, Calls Try.prog 71 #[.int .u64 (m : Int)] W fun e w' => e = .returned (.int .i64 (manyS (m : Int) : Int)) ∧ W = w' := by
    intro W
    have HC := Lib.hid (hall m h W)
    generalize manyS (m : Int) = k at *
    go_enter Try.func71, Try.ntmps71
    go_wp2_with fail
    refine HC.out.mono ?_
    rintro e1 w1 ⟨rfl, rfl⟩
    go_wp2
    go_ret
    exact ⟨rfl, rfl⟩
  have HC := Lib.hid hall2
  clear hall hall2
  generalize manyS (m : Int) = k at *
  go_enter Try.func61, Try.ntmps61
  go_wp2_with fail
  refine (HC.out _).mono ?_
  rintro e1 w1 ⟨rfl, rfl⟩
  go_wp2
  go_ret
  exact ⟨rfl, rfl⟩

end Go.Proofs.Ytgjidkhfnnghiaa

/- Layer 15, plain mathematics: sets of nodes as the program reckons them, bit by bit. No program is named here. -/
namespace Go.Proofs.Ytgjidkhfnnghiaa
open Go.RowKit

/-- A set without its n first. -/
def dropN (r : Nat) : Nat → Nat
  | 0 => r
  | n + 1 => dropN r n &&& (dropN r n - 1)
theorem dropN_lt {r n : Nat} (h : r < 64) : dropN r n < 64 := by
  induction n with
  | zero => exact h
  | succ n ih => exact Nat.lt_of_le_of_lt Nat.and_le_left ih
theorem or_bit : ∀ i : Nat, i < 6 → ∀ m : Nat, m < 64 → m < 2 ^ i → bits .or .i64 (m : Int) (wrap64 (2 ^ i)) = ((m + 2 ^ i : Nat) : Int) := by decide +kernel
theorem and_less : ∀ r : Nat, r < 64 → bits .and .i64 (r : Int) (wrap64 ((r : Int) - 1)) = ((r &&& (r - 1) : Nat) : Int) := by decide +kernel
theorem and_all : ∀ r : Nat, r < 64 → bits .and .i64 (r : Int) 63 = (r : Int) := by decide +kernel
theorem and_nat : ∀ r : Nat, r < 64 → ∀ k : Nat, k < 64 → bits .and .i64 (r : Int) (k : Int) = ((r &&& k : Nat) : Int) := by decide +kernel
/-- Where as many are left out as shall be kept, those that are kept are the lowest. -/
theorem low_drop : ∀ r : Nat, r < 64 → ∀ m : Nat, m < 7 → bits .andNot .i64 (r : Int) (dropN r (min (manyS (r : Int)) m) : Int) = (lowN (r : Int) (m : Int) 6 : Int) := by decide +kernel
theorem and_bits {m n : Nat} (g : Nat → Bool) : m &&& bitsF g n = bitsF (fun i => m.testBit i && g i) n := by
  apply Nat.eq_of_testBit_eq
  intro i
  rw [Nat.testBit_and, bitsF_bit, bitsF_bit]
  cases m.testBit i <;> simp
/-- Can it have a job, and is it of that version? -/
def hostV (v : Int) (n : Nd) : Bool := hostN n && decide (n.version = v)
/-- What the program's 'set & those(..)' is. -/
theorem ofN_and {s : St} {m : Nat} (v : Int) : m &&& bitsF (nodeIs s.nodes (hostV v)) s.nodes.length = ofN s (m : Int) v := by
  rw [and_bits]
  unfold ofN ofTo
  apply bitsF_congr
  intro i _
  rw [hasS_nat]
  rfl

end Go.Proofs.Ytgjidkhfnnghiaa

/- Layer 16, plain mathematics: the times at which nodes come back, gone through in order; who may fill in, as the program asks it. No program is named here. -/
namespace Go.Proofs.Ytgjidkhfnnghiaa
open Go.RowKit

/-- Free nodes, and those whose job has such an end. -/
def gN (s : St) (now : Int) (f : Int → Bool) : Nat := bitsF (nodeIs s.nodes (fun n => freeN n || f (endS s n.job now))) s.nodes.length
theorem gN_lt (s : St) (now : Int) (f : Int → Bool) : gN s now f < 2 ^ s.nodes.length := bitsF_lt _ _
theorem gN_congr {s : St} {now : Int} {f g : Int → Bool} (h : ∀ (i : Nat) n, s.nodes[i]? = some n → f (endS s n.job now) = g (endS s n.job now)) : gN s now f = gN s now g := by
  unfold gN
  apply bitsF_congr
  intro i _
  unfold nodeIs
  split
  · rename_i n hn
    show (freeN n || f (endS s n.job now)) = (freeN n || g (endS s n.job now))
    rw [h i n hn]
  · rfl
theorem openN_g (s : St) (now : Int) : openN s = gN s now (fun _ => false) := by
  unfold openN gN
  apply bitsF_congr
  intro i _
  unfold nodeIs
  split
  · rename_i n hn
    show freeN n = (freeN n || false)
    rw [Bool.or_false]
  · rfl
theorem atN_g (s : St) (now t : Int) : atN s now t = gN s now (fun e => decide (0 ≤ e) && decide (e ≤ t)) := rfl

def nodesN (s : St) (k : Nat) : Nat := match s.jobs[k]? with
  | some x => x.nodes.toNat
  | none => 0
theorem nodesN_at {s : St} {k : Nat} {x : Jb} (h : s.jobs[k]? = some x) : nodesN s k = x.nodes.toNat := by unfold nodesN; rw [h]
/-- The nodes that come back at a time, of the first jobs. -/
def orTo (s : St) (now t : Int) : Nat → Nat
  | 0 => 0
  | k + 1 => if endS s ((k : Int) + 1) now = t then orTo s now t k ||| nodesN s k else orTo s now t k
theorem orTo_bit (s : St) (now t : Int) (k i : Nat) : (orTo s now t k).testBit i = true ↔ ∃ r, r < k ∧ endS s ((r : Int) + 1) now = t ∧ (nodesN s r).testBit i = true := by
  induction k with
  | zero => simp [orTo]
  | succ k ih =>
    unfold orTo
    by_cases h : endS s ((k : Int) + 1) now = t
    · rw [if_pos h, Nat.testBit_or, Bool.or_eq_true, ih]
      constructor
      · rintro (⟨r, h1, h2, h3⟩ | h1)
        · exact ⟨r, by omega, h2, h3⟩
        · exact ⟨k, by omega, h, h1⟩
      · rintro ⟨r, h1, h2, h3⟩
        rcases Nat.lt_or_ge r k with h4 | h4
        · exact .inl ⟨r, h4, h2, h3⟩
        · obtain rfl : r = k := by omega
          exact .inr h3
    · rw [if_neg h, ih]
      constructor
      · rintro ⟨r, h1, h2, h3⟩
        exact ⟨r, by omega, h2, h3⟩
      · rintro ⟨r, h1, h2, h3⟩
        rcases Nat.lt_or_ge r k with h4 | h4
        · exact ⟨r, h4, h2, h3⟩
        · obtain rfl : r = k := by omega
          exact absurd h2 h
/-- Jobs tell of their nodes as these tell of their jobs. -/
def OwnS (s : St) : Prop := ∀ (k : Nat) (x : Jb), s.jobs[k]? = some x → x.nodes.toNat < 64 ∧ ∀ i : Nat, (x.nodes.toNat).testBit i = true ↔ ∃ n, s.nodes[i]? = some n ∧ n.job = (k : Int) + 1
theorem OwnS.of_right {c : Cf} {s : St} (h : RightP c s) : OwnS s := fun k x hx => by
  have hj := h.job k x hx
  have h64 := hj.lt64 h.len.2
  refine ⟨by omega, fun i => ?_⟩
  have e : hasS x.nodes i = (x.nodes.toNat).testBit i := by
    rw [← hasS_nat]
    congr 1
    omega
  by_cases hi : i < s.nodes.length
  · obtain ⟨n, hn⟩ : ∃ n, s.nodes[i]? = some n := ⟨_, List.getElem?_eq_getElem hi⟩
    rw [← e, ← hj.own i n hn]
    constructor
    · intro h1
      exact ⟨n, hn, h1⟩
    · rintro ⟨n', h1, h2⟩
      rw [hn] at h1
      cases h1
      exact h2
  · have hlt : x.nodes.toNat < 2 ^ i := by
      by_cases hp : 1 ≤ x.phase ∧ x.phase ≤ 3
      · have h1 := (hj.fits hp.1 hp.2).high
        have h2 : ((2 ^ s.nodes.length : Nat) : Int) = (2 : Int) ^ s.nodes.length := by simp
        have h3 : 2 ^ s.nodes.length ≤ 2 ^ i := Nat.pow_le_pow_right (by decide) (by omega)
        omega
      · rw [hj.none_ hp]
        exact Nat.two_pow_pos i
    rw [Nat.testBit_lt_two_pow hlt]
    constructor
    · intro h1
      cases h1
    · rintro ⟨n, h1, _⟩
      have := (List.getElem?_eq_some_iff.1 h1).1
      omega
theorem endS_pos {s : St} {job now : Int} (h : 0 ≤ endS s job now) : ∃ (k : Nat) (x : Jb), job = (k : Int) + 1 ∧ s.jobs[k]? = some x := by
  unfold endS at h
  split at h
  · rename_i x hx
    by_cases h1 : 1 ≤ job
    · exact ⟨(job - 1).toNat, x, by omega, hx⟩
    · rw [if_neg h1] at h
      omega
  · omega
theorem g_or {s : St} (hs : OwnS s) (now t : Int) (ht : 0 ≤ t) (f : Int → Bool) : gN s now f ||| orTo s now t s.jobs.length = gN s now (fun e => f e || decide (e = t)) := by
  apply Nat.eq_of_testBit_eq
  intro i
  rw [Nat.testBit_or]
  unfold gN
  rw [bitsF_bit, bitsF_bit]
  by_cases hi : i < s.nodes.length
  · obtain ⟨n, hn⟩ : ∃ n, s.nodes[i]? = some n := ⟨_, List.getElem?_eq_getElem hi⟩
    rw [nodeIs_at hn, nodeIs_at hn, decide_eq_true hi, Bool.true_and, Bool.true_and]
    have hb : (orTo s now t s.jobs.length).testBit i = decide (endS s n.job now = t) := by
      rw [Bool.eq_iff_iff, orTo_bit, decide_eq_true_iff]
      constructor
      · rintro ⟨r, h1, h2, h3⟩
        obtain ⟨x, hx⟩ : ∃ x, s.jobs[r]? = some x := ⟨_, List.getElem?_eq_getElem h1⟩
        rw [nodesN_at hx] at h3
        obtain ⟨n', h4, h5⟩ := ((hs r x hx).2 i).1 h3
        rw [hn] at h4
        cases h4
        rw [h5]
        exact h2
      · intro h1
        obtain ⟨k, x, h2, h3⟩ := endS_pos (s := s) (job := n.job) (now := now) (by omega)
        refine ⟨k, (List.getElem?_eq_some_iff.1 h3).1, by rw [← h2]; exact h1, ?_⟩
        rw [nodesN_at h3]
        exact ((hs k x h3).2 i).2 ⟨n, hn, h2⟩
    rw [hb]
    show ((freeN n || f (endS s n.job now)) || decide (endS s n.job now = t)) = (freeN n || (f (endS s n.job now) || decide (endS s n.job now = t)))
    rw [Bool.or_assoc]
  · have hb : (orTo s now t s.jobs.length).testBit i = false := by
      cases hc : (orTo s now t s.jobs.length).testBit i with
      | false => rfl
      | true =>
        obtain ⟨r, h1, h2, h3⟩ := (orTo_bit s now t _ i).1 hc
        obtain ⟨x, hx⟩ : ∃ x, s.jobs[r]? = some x := ⟨_, List.getElem?_eq_getElem h1⟩
        rw [nodesN_at hx] at h3
        obtain ⟨n, h4, _⟩ := ((hs r x hx).2 i).1 h3
        have := (List.getElem?_eq_some_iff.1 h4).1
        omega
    rw [hb, decide_eq_false hi]
    simp
/-- Is it one of the times? -/
def isTime (s : St) (now e : Int) : Prop := e = now ∨ ∃ k : Nat, k < s.jobs.length ∧ endS s ((k : Int) + 1) now = e ∧ 0 ≤ e
/-- The times, in order. -/
structure TimesP (s : St) (now : Int) (ss : List Int) : Prop where
  sort : ss.Pairwise (· < ·)
  mem : ∀ e, e ∈ ss ↔ isTime s now e
section
variable {s : St} {now : Int} {ss : List Int}
theorem TimesP.pos (h : TimesP s now ss) (hn : 0 ≤ now) {e : Int} (he : e ∈ ss) : 0 ≤ e := by
  rcases (h.mem e).1 he with h1 | ⟨_, _, _, h1⟩
  · omega
  · exact h1
/-- The nodes of the first times. -/
def tN (s : St) (now : Int) (ss : List Int) (j : Nat) : Nat := gN s now (fun e => decide (e ∈ ss.take j))
theorem tN_zero : tN s now ss 0 = openN s := by
  rw [openN_g s now]
  unfold tN
  apply gN_congr
  intro i n _
  simp
theorem tN_succ (hs : OwnS s) {j : Nat} {t : Int} (hj : ss[j]? = some t) (ht : 0 ≤ t) : tN s now ss j ||| orTo s now t s.jobs.length = tN s now ss (j + 1) := by
  unfold tN
  rw [g_or hs now t ht]
  apply gN_congr
  intro i n _
  rw [List.take_add_one, hj]
  rw [Bool.eq_iff_iff]
  simp
theorem tN_at (h : TimesP s now ss) (hn : 0 ≤ now) {j : Nat} {t : Int} (hj : ss[j]? = some t) : tN s now ss (j + 1) = atN s now t := by
  rw [atN_g]
  unfold tN
  apply gN_congr
  intro i n _
  obtain ⟨hjl, hjt⟩ := List.getElem?_eq_some_iff.1 hj
  generalize he : endS s n.job now = e
  rw [Bool.eq_iff_iff, decide_eq_true_iff, Bool.and_eq_true, decide_eq_true_iff, decide_eq_true_iff]
  constructor
  · intro h1
    obtain ⟨r, hr, h2⟩ := List.mem_iff_getElem.1 h1
    rw [List.getElem_take] at h2
    have hrj : r < j + 1 := by rw [List.length_take] at hr; omega
    have hm : e ∈ ss := List.mem_of_mem_take h1
    refine ⟨h.pos hn hm, ?_⟩
    rcases Nat.lt_or_ge r j with h3 | h3
    · have := List.pairwise_iff_getElem.1 h.sort r j (by rw [List.length_take] at hr; omega) hjl h3
      omega
    · obtain rfl : r = j := by omega
      omega
  · rintro ⟨h1, h2⟩
    obtain ⟨k, x, h3, h4⟩ := endS_pos (s := s) (job := n.job) (now := now) (by omega)
    have hm : e ∈ ss := (h.mem e).2 (.inr ⟨k, (List.getElem?_eq_some_iff.1 h4).1, by rw [← h3]; exact he, h1⟩)
    obtain ⟨r, hr, h5⟩ := List.mem_iff_getElem.1 hm
    have hrj : r ≤ j := by
      rcases Nat.lt_or_ge j r with h6 | h6
      · have := List.pairwise_iff_getElem.1 h.sort j r hjl hr h6
        omega
      · exact h6
    rw [← h5]
    exact List.mem_iff_getElem.2 ⟨r, by rw [List.length_take]; omega, by rw [List.getElem_take]⟩
end
/-- The first of some times at which a job gets nodes. -/
def resL (s : St) (x : Jb) (now : Int) : List Int → Rv
  | [] => ⟨0, 0, false⟩
  | t :: l => if (pickS s x (atN s now t : Int)).2 = true then ⟨t, (pickS s x (atN s now t : Int)).1, true⟩ else resL s x now l
theorem resL_spec (s : St) (x : Jb) (now : Int) : ∀ ss : List Int, ss.Pairwise (· < ·) → (resL s x now ss = ⟨0, 0, false⟩ ∧ ∀ t, t ∈ ss → (pickS s x (atN s now t : Int)).2 = false) ∨
    (∃ t, t ∈ ss ∧ resL s x now ss = ⟨t, (pickS s x (atN s now t : Int)).1, true⟩ ∧ (pickS s x (atN s now t : Int)).2 = true ∧ ∀ u, u ∈ ss → u < t → (pickS s x (atN s now u : Int)).2 = false)
  | [], _ => .inl ⟨rfl, fun t h => by cases h⟩
  | t :: l, hp => by
    have hp' := List.pairwise_cons.1 hp
    unfold resL
    cases ht : (pickS s x (atN s now t : Int)).2 with
    | true =>
      rw [if_pos rfl]
      refine .inr ⟨t, List.mem_cons_self .., rfl, ht, fun u hu hut => ?_⟩
      rcases List.mem_cons.1 hu with rfl | hu
      · omega
      · have := hp'.1 u hu
        omega
    | false =>
      rw [if_neg (by simp)]
      rcases resL_spec s x now l hp'.2 with ⟨h1, h2⟩ | ⟨u, h1, h2, h3, h4⟩
      · refine .inl ⟨h1, fun u hu => ?_⟩
        rcases List.mem_cons.1 hu with rfl | hu
        · exact ht
        · exact h2 u hu
      · refine .inr ⟨u, List.mem_cons_of_mem _ h1, h2, h3, fun v hv hvu => ?_⟩
        rcases List.mem_cons.1 hv with rfl | hv
        · exact ht
        · exact h4 v hv hvu
theorem resTo_spec (s : St) (x : Jb) (now : Int) : ∀ k : Nat, (resTo s x now k = ⟨0, 0, false⟩ ∧ ∀ j, j < k → 0 ≤ timeK s now j → (pickS s x (atN s now (timeK s now j) : Int)).2 = false) ∨
    (∃ j, j < k ∧ 0 ≤ timeK s now j ∧ resTo s x now k = ⟨timeK s now j, (pickS s x (atN s now (timeK s now j) : Int)).1, true⟩ ∧ (pickS s x (atN s now (timeK s now j) : Int)).2 = true ∧ ∀ r, r < k → 0 ≤ timeK s now r → timeK s now r < timeK s now j → (pickS s x (atN s now (timeK s now r) : Int)).2 = false) := by
  intro k
  induction k with
  | zero => exact .inl ⟨rfl, fun j h => absurd h (Nat.not_lt_zero j)⟩
  | succ k ih =>
    have e : resTo s x now (k + 1) = resStep s x now (resTo s x now k) (timeK s now k) := rfl
    rw [e]
    generalize ht : timeK s now k = t
    have hlast : ∀ r, r < k + 1 → r < k ∨ r = k := fun r h => by omega
    by_cases h0 : t < 0
    · rw [resStep_none h0]
      rcases ih with ⟨h1, h2⟩ | ⟨j, h1, h2, h3, h4, h5⟩
      · refine .inl ⟨h1, fun r hr hp => ?_⟩
        rcases hlast r hr with h | rfl
        · exact h2 r h hp
        · omega
      · refine .inr ⟨j, by omega, h2, h3, h4, fun r hr hp hl => ?_⟩
        rcases hlast r hr with h | rfl
        · exact h5 r h hp hl
        · omega
    · rcases ih with ⟨h1, h2⟩ | ⟨j, h1, h2, h3, h4, h5⟩
      · cases hS : (pickS s x (atN s now t : Int)).2 with
        | true =>
          rw [resStep_yes h0 (by rw [h1]; rintro ⟨h, _⟩; cases h) hS]
          refine .inr ⟨k, by omega, by omega, by rw [ht], by rw [ht]; exact hS, fun r hr hp hl => ?_⟩
          rcases hlast r hr with h | rfl
          · exact h2 r h hp
          · omega
        | false =>
          rw [resStep_no h0 (by rw [h1]; rintro ⟨h, _⟩; cases h) hS]
          refine .inl ⟨h1, fun r hr hp => ?_⟩
          rcases hlast r hr with h | rfl
          · exact h2 r h hp
          · rw [ht]; exact hS
      · by_cases hl : timeK s now j ≤ t
        · rw [resStep_late (by rw [h3]) (by rw [h3]; exact hl)]
          refine .inr ⟨j, by omega, h2, h3, h4, fun r hr hp hl' => ?_⟩
          rcases hlast r hr with h | rfl
          · exact h5 r h hp hl'
          · omega
        · cases hS : (pickS s x (atN s now t : Int)).2 with
          | true =>
            rw [resStep_yes h0 (by rw [h3]; rintro ⟨_, h⟩; exact hl h) hS]
            refine .inr ⟨k, by omega, by omega, by rw [ht], by rw [ht]; exact hS, fun r hr hp hl' => ?_⟩
            rcases hlast r hr with h | rfl
            · exact h5 r h hp (by omega)
            · omega
          | false =>
            rw [resStep_no h0 (by rw [h3]; rintro ⟨_, h⟩; exact hl h) hS]
            refine .inr ⟨j, by omega, h2, h3, h4, fun r hr hp hl' => ?_⟩
            rcases hlast r hr with h | rfl
            · exact h5 r h hp hl'
            · rw [ht]; exact hS
theorem isTime_iff {s : St} {now e : Int} (hn : 0 ≤ now) : isTime s now e ↔ ∃ j, j < s.jobs.length + 1 ∧ timeK s now j = e ∧ 0 ≤ e := by
  constructor
  · rintro (rfl | ⟨k, h1, h2, h3⟩)
    · exact ⟨0, by omega, rfl, hn⟩
    · refine ⟨k + 1, by omega, ?_, h3⟩
      unfold timeK
      rw [if_neg (by omega)]
      exact h2
  · rintro ⟨j, h1, h2, h3⟩
    cases j with
    | zero => exact .inl h2.symm
    | succ k =>
      unfold timeK at h2
      rw [if_neg (by omega)] at h2
      exact .inr ⟨k, by omega, h2, h3⟩
/-- The first of the times in order is the one that is least. -/
theorem res_list {s : St} {now : Int} {ss : List Int} (x : Jb) (h : TimesP s now ss) (hn : 0 ≤ now) : resL s x now ss = resTo s x now (s.jobs.length + 1) := by
  rcases resL_spec s x now ss h.sort with ⟨a1, a2⟩ | ⟨t, a1, a2, a3, a4⟩
  · rcases resTo_spec s x now (s.jobs.length + 1) with ⟨b1, b2⟩ | ⟨j, b1, b2, b3, b4, b5⟩
    · rw [a1, b1]
    · have := a2 _ ((h.mem _).2 ((isTime_iff hn).2 ⟨j, b1, rfl, b2⟩))
      rw [this] at b4
      cases b4
  · obtain ⟨i, c1, c2, c3⟩ := (isTime_iff hn).1 ((h.mem t).1 a1)
    rcases resTo_spec s x now (s.jobs.length + 1) with ⟨b1, b2⟩ | ⟨j, b1, b2, b3, b4, b5⟩
    · have := b2 i c1 (by omega)
      rw [c2, a3] at this
      cases this
    · have hm := (h.mem _).2 ((isTime_iff hn).2 ⟨j, b1, rfl, b2⟩)
      have e : t = timeK s now j := by
        rcases Int.lt_trichotomy t (timeK s now j) with h1 | h1 | h1
        · have := b5 i c1 (by omega) (by omega)
          rw [c2, a3] at this
          cases this
        · exact h1
        · have := a4 _ hm h1
          rw [this] at b4
          cases b4
      rw [a2, b3, e]
theorem and_not : ∀ a : Nat, a < 64 → ∀ b : Nat, b < 64 → bits .andNot .i64 (a : Int) (b : Int) = (bitsF (fun i => a.testBit i && !b.testBit i) 6 : Int) := by decide +kernel
theorem or_nat : ∀ a : Nat, a < 64 → ∀ b : Nat, b < 64 → bits .or .i64 (a : Int) (b : Int) = ((a ||| b : Nat) : Int) := by decide +kernel
theorem pickS_lt (s : St) (x : Jb) (m : Int) : 0 ≤ (pickS s x m).1 ∧ (pickS s x m).1 < 64 := by
  unfold pickS
  split
  · exact ⟨by decide, by decide⟩
  · have := lowN_lt (ofN s m (pickTo s x m 9).2 : Int) x.most 6
    constructor
    · show (0 : Int) ≤ ((_ : Nat) : Int); omega
    · show ((_ : Nat) : Int) < 64; omega
theorem pickS_no {s : St} {x : Jb} {m : Int} (h : (pickS s x m).2 = false) : pickS s x m = (0, false) := by
  unfold pickS at h ⊢
  split
  · rfl
  · rename_i h'
    rw [if_neg h'] at h
    cases h
theorem nowS_no {s : St} {job : Int} (h : (nowS s job).2 = false) : nowS s job = (0, false) := by
  unfold nowS at h ⊢
  split at h
  · rename_i x hx
    by_cases hc : 1 ≤ job ∧ x.phase = 0
    · rw [if_pos hc] at h ⊢
      exact pickS_no h
    · rw [if_neg hc]
  · rfl
/-- What a reservation is. -/
structure OkR (r : Rv) : Prop where
  n0 : 0 ≤ r.n
  n64 : r.n < 64
  t0 : 0 ≤ r.t
  no : r.ok = false → r = ⟨0, 0, false⟩
theorem resTo_ok (s : St) (x : Jb) (now : Int) (k : Nat) : OkR (resTo s x now k) := by
  rcases resTo_spec s x now k with ⟨h1, _⟩ | ⟨j, _, h2, h3, _, _⟩
  · rw [h1]
    exact ⟨by decide, by decide, by decide, fun _ => rfl⟩
  · rw [h3]
    exact ⟨(pickS_lt _ _ _).1, (pickS_lt _ _ _).2, h2, fun h => by cases h⟩
theorem reserveS_ok (s : St) (job now : Int) : OkR (reserveS s job now) := by
  unfold reserveS
  split
  · split
    · exact resTo_ok _ _ _ _
    · exact ⟨by decide, by decide, by decide, fun _ => rfl⟩
  · exact ⟨by decide, by decide, by decide, fun _ => rfl⟩
theorem rest_and {s : St} {r : Rv} (hr : OkR r) (hN : s.nodes.length ≤ 6) : bits .andNot .i64 (openN s : Int) r.n = (restN s r s.nodes.length : Int) := by
  obtain ⟨m, hm⟩ : ∃ m : Nat, r.n = (m : Int) := ⟨r.n.toNat, by have := hr.n0; omega⟩
  have h64 : openN s < 64 := Nat.lt_of_lt_of_le (bitsF_lt _ _) (Nat.pow_le_pow_right (by decide) hN)
  have hm64 : m < 64 := by have := hr.n64; omega
  rw [hm, and_not _ h64 _ hm64]
  congr 1
  apply Nat.eq_of_testBit_eq
  intro i
  unfold restN openN
  rw [bitsF_bit, bitsF_bit, bitsF_bit]
  have hk : (r.ok && hasS r.n i) = m.testBit i := by
    rw [hm, hasS_nat]
    cases ho : r.ok with
    | true => rfl
    | false =>
      have h1 := hr.no ho
      have h2 : m = 0 := by
        have h3 := congrArg Rv.n h1
        rw [hm] at h3
        have h4 : (m : Int) = 0 := h3
        omega
      rw [h2]
      simp
  rw [hk]
  by_cases hi : i < s.nodes.length
  · rw [decide_eq_true hi, decide_eq_true (by omega : i < 6)]
    simp
  · rw [decide_eq_false hi]
    simp
/-- Who may fill in, beside a reservation, as the program asks it. -/
def besideS (s : St) (x : Jb) (job now : Int) (r : Rv) : Int × Bool :=
  if (pickS s x (restN s r s.nodes.length : Int)).2 = true then ((pickS s x (restN s r s.nodes.length : Int)).1, true)
  else if r.t < now + x.work then (0, false) else nowS s job
theorem fill_beside {s : St} {job now : Int} {i : Nat} {x : Jb} (hp : ¬ placeI s.jobs job < 1) (hi : job = (i : Int) + 1) (hx : s.jobs[i]? = some x) (h0 : 0 < now + x.work) : fillS s job now = besideS s x job now (reserveS s (headS s) now) := by
  have hok := reserveS_ok s (headS s) now
  rw [fillS_at hp hi hx rfl rfl]
  unfold besideS
  generalize reserveS s (headS s) now = r at *
  split
  · rfl
  · cases ho : r.ok with
    | false =>
      have h1 := hok.no ho
      have ht : r.t = 0 := by rw [h1]
      rw [if_neg (by rintro ⟨h, _⟩; cases h), if_pos (by omega)]
    | true =>
      by_cases ht : r.t < now + x.work
      · rw [if_pos ht, if_neg (by rintro ⟨_, _, h⟩; omega)]
      · rw [if_neg ht]
        cases hs : (nowS s job).2 with
        | true =>
          rw [if_pos ⟨rfl, rfl, by omega⟩]
          rw [← hs]
        | false =>
          rw [if_neg (by rintro ⟨_, h, _⟩; cases h)]
          exact (nowS_no hs).symm

end Go.Proofs.Ytgjidkhfnnghiaa

/- Package book: the version that is meant, whether a node is free, a queue's drains. -/
namespace Go.Proofs.Ytgjidkhfnnghiaa
open Go.RowKit

theorem boxSt (vn vj : Value) (s : St) (w : World) (t : TypeId) : Ext w (w.alloc (.cells (stC vn vj s) t)) ∧ Blk (w.alloc (.cells (stC vn vj s) t)) w.heap.size t (stC vn vj s) := ⟨(Below.refl _ _).alloc (Nat.le_refl _) _, Blk.new w t _⟩

theorem Meant_any (vn vj : Value) (s : St) (w : World) :
    Calls Try.prog 59 #[stV vn vj s] w fun e w' => e = .returned (.int .i64 (meantS s)) ∧ Ext w w' := by
  obtain ⟨hx, hb⟩ := boxSt vn vj s w 27
  have HX := Lib.hid hx
  clear hx hb
  unfold stV meantS
  unfold stC at HX
  by_cases h : s.mode = 2
  · have d : (s.mode == 2) = true := by rw [h]; rfl
    rw [if_pos h]
    clear h
    go_enter Try.func59, Try.ntmps59
    go_wp2
    go_ret
    exact ⟨rfl, HX.out⟩
  · have d : (s.mode == 2) = false := by rw [beq_eq_false_iff_ne]; exact h
    rw [if_neg h]
    clear h
    go_enter Try.func59, Try.ntmps59
    go_wp2
    go_ret
    exact ⟨rfl, HX.out⟩

theorem drains_step {l : List Jb} {q : Int} {k N : Nat} {j : Jb} (hj : l[k]? = some j) (h : ((l.take k).filter fun j => decide (j.queue = q ∧ j.phase = 3)).length = N) :
    (j.queue = q ∧ j.phase = 3 → ((l.take (k + 1)).filter fun j => decide (j.queue = q ∧ j.phase = 3)).length = N + 1) ∧ (¬ (j.queue = q ∧ j.phase = 3) → ((l.take (k + 1)).filter fun j => decide (j.queue = q ∧ j.phase = 3)).length = N) := by
  rw [List.take_add_one, hj, Option.toList_some, List.filter_append, List.length_append, h]
  refine ⟨fun hp => ?_, fun hp => ?_⟩
  · rw [List.filter_cons_of_pos (by simpa using hp)]; rfl
  · rw [List.filter_cons_of_neg (by simpa using hp)]; rfl

theorem Drains_any (vn vj : Value) (s : St) (q : Int) (w : World) (hj : RdJb w vj s.jobs) :
    Calls Try.prog 19 #[stV vn vj s, .int .i64 q] w fun e w' => e = .returned (.int .i64 (drainsS s q : Int)) ∧ Ext w w' := by
  obtain ⟨hx, hb⟩ := boxSt vn vj s w 27
  unfold stV
  unfold stC at hx hb
  obtain ⟨A, c, rfl, hnc, hcm⟩ := hj.slice_
  have HJ := Lib.hid (hj.ext hx)
  have HX := Lib.hid hx
  clear hx hj
  unfold drainsS
  generalize s.jobs = l at *
  clear hb
  go_enter Try.func19, Try.ntmps19
  obtain ⟨W0, hW0⟩ : ∃ W0, W0 = w.alloc (.cells #[vn, .slice A l.length c, .int .i64 s.goal, .int .i64 s.prior, .int .i64 s.mode, .int .i64 s.term] 27) := ⟨_, rfl⟩
  rw [← hW0] at HJ HX
  go_wp2_with fail
  rw [← hW0]
  go_loopg [5, 11] l.length (fun gg n i wr => ∃ k : Nat, i = .int .i64 k ∧ n = .int .i64 ((((l.take k).filter fun j => decide (j.queue = q ∧ j.phase = 3)).length : Nat) : Int) ∧ k ≤ l.length ∧ gg = l.length - k ∧ Hid (Ext W0 wr))
  case atStart => exact ⟨0, rfl, by simp, Nat.zero_le _, by omega, Lib.hid (Ext.refl _)⟩
  case round =>
    obtain ⟨k, rfl, rfl, hk, rfl, HXr⟩ := hrel
    generalize hN : ((l.take k).filter fun j => decide (j.queue = q ∧ j.phase = 3)).length = N at *
    by_cases hlt : k < l.length
    · have d1 : decide ((k : Int) < (l.length : Int)) = true := decide_eq_true (by omega)
      have d1' : decide (k < l.length) = true := decide_eq_true hlt
      obtain ⟨b, o, rfl, hb, hc⟩ := HJ.out.get (by omega)
      obtain ⟨j, hj⟩ : ∃ j, l[k]? = some j := ⟨_, List.getElem?_eq_getElem hlt⟩
      obtain ⟨c0, c1, c2, c3, c4, c5, c6, c7, c8, c9, c10, c11⟩ := (RdJb.at hc hj).ext HXr.out hb
      clear hc
      have HX1 := Lib.hid (HXr.out.trans ((Below.refl _ wr).alloc (Nat.le_refl _) (.cells #[.int .i64 j.queue, .int .i64 j.prio, .int .i64 j.least, .int .i64 j.most, .int .i64 j.work, .int .i64 j.pin, .int .i64 j.phase, .int .i64 j.inc, .int .i64 j.nodes, .int .i64 j.since, .int .i64 j.til, .int .i64 j.epoch] 39)))
      have HN := Lib.hid (drains_step (q := q) hj hN)
      have hNl : N ≤ k := by rw [← hN]; exact Nat.le_trans (List.length_filter_le _ _) (by rw [List.length_take]; exact Nat.min_le_left _ _)
      clear hN hj
      by_cases hq : j.queue = q
      · by_cases hp : j.phase = 3
        · have e1 : (j.queue == q) = true := by rw [hq]; exact beq_self_eq_true q
          have e2 : (j.phase == 3) = true := by rw [hp]; rfl
          have hs := HN.out.1 ⟨hq, hp⟩
          have HQ := Lib.hid hs
          have hw : wrap64 ((N : Int) + 1) = ((N + 1 : Nat) : Int) := IntWalk.wrap64_in _ (by omega)
          clear hq hp hs HN
          go_wp2
          go_roundg (l.length - (k + 1))
          case measure => omega
          case rel => exact ⟨k + 1, by go_num, by rw [HQ.out]; rfl, by omega, rfl, HX1⟩
        · have e1 : (j.queue == q) = true := by rw [hq]; exact beq_self_eq_true q
          have e2 : (j.phase == 3) = false := by rw [beq_eq_false_iff_ne]; exact hp
          have HQ := Lib.hid (HN.out.2 fun h => hp h.2)
          clear hq hp HN
          go_wp2
          go_roundg (l.length - (k + 1))
          case measure => omega
          case rel => exact ⟨k + 1, by go_num, by rw [HQ.out], by omega, rfl, HX1⟩
      · have e1 : (j.queue == q) = false := by rw [beq_eq_false_iff_ne]; exact hq
        have HQ := Lib.hid (HN.out.2 fun h => hq h.1)
        clear HN
        go_wp2
        go_roundg (l.length - (k + 1))
        case measure => omega
        case rel => exact ⟨k + 1, by go_num, by rw [HQ.out], by omega, rfl, HX1⟩
    · have d1 : decide ((k : Int) < (l.length : Int)) = false := decide_eq_false (by omega)
      have d1' : decide (k < l.length) = false := decide_eq_false hlt
      obtain rfl : k = l.length := by omega
      rw [List.take_length] at hN
      have HNN := Lib.hid hN
      clear hN
      have HX1 := Lib.hid (HX.out.trans HXr.out)
      go_wp2
      go_ret
      exact ⟨by rw [HNN.out]; rfl, HX1.out⟩

end Go.Proofs.Ytgjidkhfnnghiaa

/- Package book: whether a fleet may be, whether a node is free, whether a job's numbers may be asked. -/
namespace Go.Proofs.Ytgjidkhfnnghiaa
open Go.RowKit

set_option maxRecDepth 100000 in
theorem May_any (c : Cf) (w : World) :
    Calls Try.prog 14 #[cfV c] w fun e w' => e = .returned (.bool (mayC c)) ∧ Ext w w' := by
  have HF := Lib.hid fun n lo hi w' => isFrom_any n lo hi w'
  have HX := Lib.hid (show Ext w (w.alloc (.cells #[.int .i64 c.nodes, .int .i64 c.queues, .int .i64 c.quota, .int .i64 c.wave, .int .i64 c.lease, .int .i64 c.retry, .int .i64 c.deadline, .int .i64 c.room, .int .i64 c.disk] 23)) from (Below.refl _ _).alloc (Nat.le_refl _) _)
  unfold cfV mayC
  go_enter Try.func14, Try.ntmps14
  go_wp2_with fail
  refine (HF.out _ _ _ _).mono ?_
  rintro e1 w1 ⟨rfl, rfl⟩
  cases h1 : inR c.nodes 1 6
  · go_wp2
    go_ret
    exact ⟨by rw [h1]; rfl, HX.out⟩
  go_wp2_with fail
  refine (HF.out _ _ _ _).mono ?_
  rintro e1 w1 ⟨rfl, rfl⟩
  cases h2 : inR c.queues 1 3
  · go_wp2
    go_ret
    exact ⟨by rw [h1, h2]; rfl, HX.out⟩
  go_wp2_with fail
  refine (HF.out _ _ _ _).mono ?_
  rintro e1 w1 ⟨rfl, rfl⟩
  cases h3 : inR c.quota 0 4
  · go_wp2
    go_ret
    exact ⟨by rw [h1, h2, h3]; rfl, HX.out⟩
  go_wp2_with fail
  refine (HF.out _ _ _ _).mono ?_
  rintro e1 w1 ⟨rfl, rfl⟩
  cases h4 : inR c.wave 1 6
  · go_wp2
    go_ret
    exact ⟨by rw [h1, h2, h3, h4]; rfl, HX.out⟩
  go_wp2_with fail
  refine (HF.out _ _ _ _).mono ?_
  rintro e1 w1 ⟨rfl, rfl⟩
  cases h5 : inR c.lease 2 30
  · go_wp2
    go_ret
    exact ⟨by rw [h1, h2, h3, h4, h5]; rfl, HX.out⟩
  go_wp2_with fail
  refine (HF.out _ _ _ _).mono ?_
  rintro e1 w1 ⟨rfl, rfl⟩
  cases h6 : inR c.retry 1 20
  · go_wp2
    go_ret
    exact ⟨by rw [h1, h2, h3, h4, h5, h6]; rfl, HX.out⟩
  go_wp2_with fail
  refine (HF.out _ _ _ _).mono ?_
  rintro e1 w1 ⟨rfl, rfl⟩
  cases h7 : inR c.deadline 1 60
  · go_wp2
    go_ret
    exact ⟨by rw [h1, h2, h3, h4, h5, h6, h7]; rfl, HX.out⟩
  go_wp2_with fail
  refine (HF.out _ _ _ _).mono ?_
  rintro e1 w1 ⟨rfl, rfl⟩
  cases h8 : inR c.room 0 5000
  · go_wp2
    go_ret
    exact ⟨by rw [h1, h2, h3, h4, h5, h6, h7, h8]; rfl, HX.out⟩
  go_wp2_with fail
  refine (HF.out _ _ _ _).mono ?_
  rintro e1 w1 ⟨rfl, rfl⟩
  go_wp2
  go_ret
  exact ⟨by rw [h1, h2, h3, h4, h5, h6, h7, h8]; rfl, HX.out⟩

set_option maxRecDepth 100000 in
theorem Free_any (n : Nd) (w : World) :
    Calls Try.prog 53 #[ndV n] w fun e w' => e = .returned (.bool (freeN n)) ∧ Ext w w' := by
  have HX := Lib.hid (show Ext w (w.alloc (.cells #[.bool n.up, .bool n.cordon, .bool n.moving, .int .i64 n.version, .int .i64 n.job] 37)) from (Below.refl _ _).alloc (Nat.le_refl _) _)
  obtain ⟨up, cordon, moving, version, job⟩ := n
  unfold ndV freeN
  dsimp only at *
  cases up
  · go_enter Try.func53, Try.ntmps53
    go_wp2
    go_ret
    exact ⟨rfl, HX.out⟩
  cases cordon
  · cases moving
    · go_enter Try.func53, Try.ntmps53
      go_wp2
      go_ret
      exact ⟨rfl, HX.out⟩
    · go_enter Try.func53, Try.ntmps53
      go_wp2
      go_ret
      exact ⟨rfl, HX.out⟩
  · go_enter Try.func53, Try.ntmps53
    go_wp2
    go_ret
    exact ⟨rfl, HX.out⟩

set_option maxRecDepth 100000 in
theorem asked_any (c : Cf) (j : Jb) (w : World) (hm : mayC c = true) :
    Calls Try.prog 37 #[cfV c, jbV j] w fun e w' => e = .returned (.bool (askedJ c j)) ∧ Ext w w' := by
  have HF := Lib.hid fun n lo hi w' => isFrom_any n lo hi w'
  have HX := Lib.hid (show Ext w ((w.alloc (.cells #[.int .i64 c.nodes, .int .i64 c.queues, .int .i64 c.quota, .int .i64 c.wave, .int .i64 c.lease, .int .i64 c.retry, .int .i64 c.deadline, .int .i64 c.room, .int .i64 c.disk] 23)).alloc (.cells #[.int .i64 j.queue, .int .i64 j.prio, .int .i64 j.least, .int .i64 j.most, .int .i64 j.work, .int .i64 j.pin, .int .i64 j.phase, .int .i64 j.inc, .int .i64 j.nodes, .int .i64 j.since, .int .i64 j.til, .int .i64 j.epoch] 39))
    from ((Below.refl _ _).alloc (Nat.le_refl _) _).alloc (by simp) _)
  have hq : wrap64 (c.queues - 1) = c.queues - 1 := by
    simp only [mayC, Bool.and_eq_true, inR_iff] at hm
    exact IntWalk.wrap64_in _ (by omega)
  clear hm
  unfold cfV jbV askedJ
  go_enter Try.func37, Try.ntmps37
  go_wp2_with fail
  refine (HF.out _ _ _ _).mono ?_
  rintro e1 w1 ⟨rfl, rfl⟩
  cases h1 : inR j.queue 0 (c.queues - 1)
  · go_wp2
    go_ret
    exact ⟨by rw [h1]; rfl, HX.out⟩
  go_wp2_with fail
  refine (HF.out _ _ _ _).mono ?_
  rintro e1 w1 ⟨rfl, rfl⟩
  cases h2 : inR j.prio 0 9
  · go_wp2
    go_ret
    exact ⟨by rw [h1, h2]; rfl, HX.out⟩
  go_wp2_with fail
  refine (HF.out _ _ _ _).mono ?_
  rintro e1 w1 ⟨rfl, rfl⟩
  cases h3 : inR j.least 1 j.most
  · go_wp2
    go_ret
    exact ⟨by rw [h1, h2, h3]; rfl, HX.out⟩
  by_cases h4 : j.most ≤ c.nodes
  · have d4 : decide (j.most ≤ c.nodes) = true := decide_eq_true h4
    go_wp2_with fail
    refine (HF.out _ _ _ _).mono ?_
    rintro e1 w1 ⟨rfl, rfl⟩
    cases h5 : inR j.work 1 1000
    · go_wp2
      go_ret
      exact ⟨by rw [h1, h2, h3, d4, h5]; rfl, HX.out⟩
    go_wp2_with fail
    refine (HF.out _ _ _ _).mono ?_
    rintro e1 w1 ⟨rfl, rfl⟩
    go_wp2
    go_ret
    exact ⟨by rw [h1, h2, h3, d4, h5]; rfl, HX.out⟩
  · have d4 : decide (j.most ≤ c.nodes) = false := decide_eq_false h4
    clear h4
    go_wp2
    go_ret
    exact ⟨by rw [h1, h2, h3, d4]; rfl, HX.out⟩

end Go.Proofs.Ytgjidkhfnnghiaa

/- Package book: whether nodes suit a job, and whether its nodes carry it. -/
namespace Go.Proofs.Ytgjidkhfnnghiaa
open Go.RowKit

theorem quiet_eq {P : Program} {f : FuncId} {args : Array Value} {w : World} {n : Nat} {v : Value} (h : Calls P f args (w.drewN n) fun e w' => e = .returned v ∧ w.drewN n = w') :
    Calls P f args (w.drewN n) fun e w'' => e = .returned v ∧ ∃ m, w'' = w.drewN m := h.mono fun _ _ h => ⟨h.1, n, h.2.symm⟩

theorem has_cells {w : World} {vn : Value} {l : List Nd} (h : RdNd w vn l) : ∃ A c, vn = .slice A l.length c ∧ l.length ≤ c ∧ c ≤ 9223372036854775807 ∧ ∀ i n, l[i]? = some n → ∃ b o, A = some ⟨b, o, none⟩ ∧ b < w.heap.size ∧ NdAt w b (o + i * 5) n := by
  obtain ⟨A, c, rfl, h1, h2⟩ := h.slice_
  refine ⟨A, c, rfl, h1, h2, fun i n hi => ?_⟩
  have hl := (List.getElem?_eq_some_iff.1 hi).1
  obtain ⟨b, o, hA, hb, hc⟩ := h.get (by omega)
  exact ⟨b, o, hA, hb, RdNd.at hc hi⟩
theorem jobs_cells {w : World} {vj : Value} {l : List Jb} (h : RdJb w vj l) : ∃ A c, vj = .slice A l.length c ∧ l.length ≤ c ∧ c ≤ 9223372036854775807 ∧ ∀ i n, l[i]? = some n → ∃ b o, A = some ⟨b, o, none⟩ ∧ b < w.heap.size ∧ JbAt w b (o + i * 12) n := by
  obtain ⟨A, c, rfl, h1, h2⟩ := h.slice_
  refine ⟨A, c, rfl, h1, h2, fun i n hi => ?_⟩
  have hl := (List.getElem?_eq_some_iff.1 hi).1
  obtain ⟨b, o, hA, hb, hc⟩ := h.get (by omega)
  exact ⟨b, o, hA, hb, RdJb.at hc hi⟩

/-- What the program knows of the version behind k nodes. -/
structure VerS (l : List Nd) (pin set : Int) (k : Nat) (v : Int) : Prop where
  hp : pin ≠ 0 → v = pin
  none_ : v = 0 → ∀ i n, i < k → l[i]? = some n → hasS set i = false
  all : v ≠ 0 → ∀ i n, i < k → l[i]? = some n → hasS set i = true → n.version = v
  one : v ≠ 0 → pin = 0 → ∃ i n, i < k ∧ l[i]? = some n ∧ hasS set i = true ∧ n.version = v
theorem VerS.zero (l : List Nd) (pin set : Int) : VerS l pin set 0 pin := ⟨fun _ => rfl, fun _ i _ h => absurd h (Nat.not_lt_zero i), fun _ i _ h => absurd h (Nat.not_lt_zero i), fun h h0 => absurd h0 h⟩
theorem VerS.skip {l : List Nd} {pin set v : Int} {k : Nat} (h : VerS l pin set k v) (hs : hasS set k = false) : VerS l pin set (k + 1) v := by
  refine ⟨h.hp, fun hv i n hi hn => ?_, fun hv i n hi hn hh => ?_, fun hv hp => ?_⟩
  · rcases Nat.lt_or_ge i k with h' | h'
    · exact h.none_ hv i n h' hn
    · have : i = k := by omega
      subst this
      exact hs
  · rcases Nat.lt_or_ge i k with h' | h'
    · exact h.all hv i n h' hn hh
    · have : i = k := by omega
      subst this
      rw [hs] at hh
      cases hh
  · obtain ⟨i, n, h1, h2⟩ := h.one hv hp
    exact ⟨i, n, by omega, h2⟩
theorem VerS.first {l : List Nd} {pin set : Int} {k : Nat} {n : Nd} (h : VerS l pin set k 0) (hn : l[k]? = some n) (hs : hasS set k = true) (hp : pin = 0) (hz : n.version ≠ 0) : VerS l pin set (k + 1) n.version := by
  refine ⟨fun h' => absurd hp h', fun hv i m hi hm => ?_, fun hv i m hi hm hh => ?_, fun hv _ => ⟨k, n, by omega, hn, hs, rfl⟩⟩
  · exact absurd hv hz
  · rcases Nat.lt_or_ge i k with h' | h'
    · rw [h.none_ rfl i m h' hm] at hh
      cases hh
    · have : i = k := by omega
      subst this
      rw [hn] at hm
      cases hm
      rfl
theorem VerS.next {l : List Nd} {pin set v : Int} {k : Nat} {n : Nd} (h : VerS l pin set k v) (hn : l[k]? = some n) (hs : hasS set k = true) (hv : v ≠ 0) (he : n.version = v) : VerS l pin set (k + 1) v := by
  refine ⟨h.hp, fun h0 => absurd h0 hv, fun _ i m hi hm hh => ?_, fun _ hp => ?_⟩
  · rcases Nat.lt_or_ge i k with h' | h'
    · exact h.all hv i m h' hm hh
    · have : i = k := by omega
      subst this
      rw [hn] at hm
      cases hm
      exact he
  · obtain ⟨i, m, h1, h2⟩ := h.one hv hp
    exact ⟨i, m, by omega, h2⟩
/-- A node of another version. -/
theorem VerS.wrong {s : St} {j : Jb} {set v : Int} {k : Nat} {n : Nd} (h : VerS s.nodes j.pin set k v) (hn : s.nodes[k]? = some n) (hs : hasS set k = true) (hv : v ≠ 0) (he : n.version ≠ v) : ¬ FitsP s j set := by
  intro hf
  by_cases hp : j.pin = 0
  · obtain ⟨i, m, _, h2, h3, h4⟩ := h.one hv hp
    exact he ((hf.one k n i m hn hs h2 h3).trans h4)
  · exact he ((hf.pin k n hn hs hp).trans (h.hp hp).symm)
theorem VerS.fits {s : St} {j : Jb} {set v : Int} (h : VerS s.nodes j.pin set s.nodes.length v) (h0 : 0 ≤ set) (h1 : set < 2 ^ s.nodes.length) (h2 : inR (manyS set) j.least j.most = true) : FitsP s j set := by
  have h3 := inR_iff.1 h2
  refine ⟨h0, h1, h3.1, h3.2, fun i n hi hh hp => ?_, fun i n k m hi hh hk hm => ?_⟩
  · have hv := h.hp hp
    rw [← hv] at hp ⊢
    exact h.all hp i n (List.getElem?_eq_some_iff.1 hi).1 hi hh
  · by_cases hv : v = 0
    · rw [h.none_ hv i n (List.getElem?_eq_some_iff.1 hi).1 hi] at hh
      cases hh
    · rw [h.all hv i n (List.getElem?_eq_some_iff.1 hi).1 hi hh, h.all hv k m (List.getElem?_eq_some_iff.1 hk).1 hk hm]

theorem shr_zero {set : Int} {n : Nat} : set / 2 ^ n = 0 ↔ 0 ≤ set ∧ set < 2 ^ n := by
  have hp : (0 : Int) < 2 ^ n := Int.pow_pos (by decide)
  constructor
  · intro h
    refine ⟨?_, ?_⟩
    · rcases Int.lt_or_le set 0 with h1 | h1
      · have := Int.ediv_neg_of_neg_of_pos h1 hp
        omega
      · exact h1
    · have := Int.lt_ediv_add_one_mul_self set hp
      rw [h] at this
      omega
  · intro h
    exact Int.ediv_eq_zero_of_lt h.1 h.2

set_option maxRecDepth 100000 in
set_option maxHeartbeats 4000000 in
theorem suits_any (vn vj : Value) (s : St) (j : Jb) (set : Int) (w : World) (hr : RdNd w vn s.nodes) (hn : s.nodes.length ≤ 6) (hver : ∀ (i : Nat) (n : Nd), s.nodes[i]? = some n → 1 ≤ n.version) :
    Calls Try.prog 38 #[stV vn vj s, jbV j, .int .i64 set] w fun e w' => ∃ b, e = .returned (.bool b) ∧ (b = true ↔ FitsP s j set) ∧ Ext w w' := by
  obtain ⟨A, c, rfl, hnc, hcm, hcell⟩ := has_cells hr
  have HC := Lib.hid hcell
  have HV := Lib.hid hver
  have hx : Ext w ((w.alloc (.cells #[.slice A s.nodes.length c, vj, .int .i64 s.goal, .int .i64 s.prior, .int .i64 s.mode, .int .i64 s.term] 27)).alloc (.cells #[.int .i64 j.queue, .int .i64 j.prio, .int .i64 j.least, .int .i64 j.most, .int .i64 j.work, .int .i64 j.pin, .int .i64 j.phase, .int .i64 j.inc, .int .i64 j.nodes, .int .i64 j.since, .int .i64 j.til, .int .i64 j.epoch] 39)) :=
    ((Below.refl _ _).alloc (Nat.le_refl _) _).alloc (by simp) _
  have HX := Lib.hid hx
  clear hr hcell hver hx
  unfold stV jbV
  by_cases h1 : 0 ≤ set ∧ set < 2 ^ s.nodes.length
  · obtain ⟨m, rfl⟩ : ∃ m : Nat, set = (m : Int) := ⟨set.toNat, by omega⟩
    have hm : m < 64 := by
      have h2 : 2 ^ s.nodes.length ≤ 2 ^ 6 := Nat.pow_le_pow_right (by decide) hn
      have h3 : ((2 ^ s.nodes.length : Nat) : Int) = (2 : Int) ^ s.nodes.length := by simp
      omega
    have HSZ := Lib.hid fun w' => size_any m hm w'
    have HF := Lib.hid fun n lo hi w' => isFrom_any n lo hi w'
    have HH := Lib.hid fun i h w' => has_any (m : Int) i h w'
    have hz : (m : Int) / 2 ^ s.nodes.length = 0 := shr_zero.2 h1
    have hs0 : (0 : Int) ≤ (s.nodes.length : Int) := by omega
    have hs1 : decide ((s.nodes.length : Int) < 0) = false := decide_eq_false (by omega)
    have H1 := Lib.hid h1
    clear h1
    cases h2 : inR (manyS (m : Int)) j.least j.most
    · have HNO : Hid (¬ FitsP s j (m : Int)) := Lib.hid fun hf => by
        have := inR_iff.2 ⟨hf.least, hf.most⟩
        rw [h2] at this
        cases this
      go_enter Try.func38, Try.ntmps38
      go_wp2_with fail
      go_quiet (first | (go_at_call 61; exact quiet_eq (HSZ.out _)) | (go_at_call 16; exact quiet_eq (HF.out _ _ _ _)))
      go_wp2
      go_ret
      exact ⟨false, rfl, ⟨(fun h => by cases h), fun h => absurd h HNO.out⟩, Below.drewN' HX.out _⟩
    · have HY : Hid (∀ v, VerS s.nodes j.pin (m : Int) s.nodes.length v → FitsP s j (m : Int)) := Lib.hid fun v hv => hv.fits H1.out.1 H1.out.2 h2
      have HN : Hid (∀ k n v, VerS s.nodes j.pin (m : Int) k v → s.nodes[k]? = some n → hasS (m : Int) k = true → v ≠ 0 → n.version ≠ v → ¬ FitsP s j (m : Int)) := Lib.hid fun k n v hv hn hs h0 he => hv.wrong hn hs h0 he
      have HNN := Lib.hid hn
      go_enter Try.func38, Try.ntmps38
      go_wp2_with fail
      go_quiet (first | (go_at_call 61; exact quiet_eq (HSZ.out _)) | (go_at_call 16; exact quiet_eq (HF.out _ _ _ _)))
      clear hz h2 hs0 hs1
      have HX2 := Lib.hid (Below.drewN' HX.out nq)
      clear HX
      go_wp2_with fail
      go_loopg [7, 31] s.nodes.length (fun gg v i wr => ∃ (k : Nat) (z : Int), i = .int .i64 k ∧ v = .int .i64 z ∧ k ≤ s.nodes.length ∧ gg = s.nodes.length - k ∧ Hid (Ext w wr ∧ VerS s.nodes j.pin (m : Int) k z))
      case atStart => exact ⟨0, j.pin, rfl, rfl, Nat.zero_le _, by omega, Lib.hid ⟨HX2.out, VerS.zero _ _ _⟩⟩
      case round =>
        obtain ⟨k, z, rfl, rfl, hk, rfl, HR⟩ := hrel
        by_cases hlt : k < s.nodes.length
        · have d1 : decide ((k : Int) < (s.nodes.length : Int)) = true := decide_eq_true (by omega)
          have d1' : decide (k < s.nodes.length) = true := decide_eq_true hlt
          obtain ⟨n, hnk⟩ : ∃ n, s.nodes[k]? = some n := ⟨_, List.getElem?_eq_getElem hlt⟩
          obtain ⟨b, o, rfl, hb, hat⟩ := HC.out k n hnk
          obtain ⟨c0, c1, c2, c3, c4⟩ := hat.ext HR.out.1 hb
          have HX1 := Lib.hid (HR.out.1.trans ((Below.refl _ wr).alloc (Nat.le_refl _) (.cells #[.bool n.up, .bool n.cordon, .bool n.moving, .int .i64 n.version, .int .i64 n.job] 37)))
          have hk64 : k < 64 := by omega
          have HV1 := Lib.hid (HV.out k n hnk)
          have HNK := Lib.hid hnk
          have HLT := Lib.hid hlt
          clear hnk hb
          go_wp2_with fail
          refine (HH.out k hk64 _).mono ?_
          rintro e1 w1 ⟨rfl, rfl⟩
          cases hh : hasS (m : Int) k
          · go_wp2
            go_roundg (s.nodes.length - (k + 1))
            case measure => have := HLT.out; omega
            case rel => exact ⟨k + 1, z, by go_num, rfl, HLT.out, rfl, Lib.hid ⟨HX1.out, HR.out.2.skip hh⟩⟩
          · have HHH := Lib.hid hh
            by_cases hz0 : z = 0
            · subst hz0
              have HP : Hid (j.pin = 0) := Lib.hid (Classical.byContradiction fun h => h (HR.out.2.hp h).symm)
              have hvv : (n.version == n.version) = true := beq_self_eq_true _
              go_wp2
              go_roundg (s.nodes.length - (k + 1))
              case measure => have := HLT.out; omega
              case rel => exact ⟨k + 1, n.version, by go_num, rfl, HLT.out, rfl, Lib.hid ⟨HX1.out, HR.out.2.first HNK.out HHH.out HP.out (by have := HV1.out; omega)⟩⟩
            · have HZ := Lib.hid hz0
              have hz1 : (z == 0) = false := by rw [beq_eq_false_iff_ne]; exact hz0
              clear hz0
              by_cases hv : n.version = z
              · have HE := Lib.hid hv
                have hv1 : (n.version == z) = true := by rw [hv]; exact beq_self_eq_true _
                clear hv
                go_wp2
                go_roundg (s.nodes.length - (k + 1))
                case measure => have := HLT.out; omega
                case rel => exact ⟨k + 1, z, by go_num, rfl, HLT.out, rfl, Lib.hid ⟨HX1.out, HR.out.2.next HNK.out HHH.out HZ.out HE.out⟩⟩
              · have HE := Lib.hid (HN.out k n z HR.out.2 HNK.out hh HZ.out hv)
                have hv1 : (n.version == z) = false := by rw [beq_eq_false_iff_ne]; exact hv
                clear hv
                go_wp2
                go_ret
                exact ⟨false, rfl, ⟨(fun h => by cases h), fun h => absurd h HE.out⟩, HX1.out⟩
        · have d1 : decide ((k : Int) < (s.nodes.length : Int)) = false := decide_eq_false (by omega)
          have d1' : decide (k < s.nodes.length) = false := decide_eq_false hlt
          obtain rfl : k = s.nodes.length := by omega
          have HE := Lib.hid (HY.out z HR.out.2)
          go_wp2
          go_ret
          exact ⟨true, rfl, ⟨fun _ => HE.out, fun _ => rfl⟩, HR.out.1⟩
  · have hz : (set / 2 ^ s.nodes.length == 0) = false := by
      rw [beq_eq_false_iff_ne]
      exact fun h => h1 (shr_zero.1 h)
    have hz2 : (set / 2 ^ s.nodes.length != 0) = true := by rw [bne, hz]; rfl
    have HNO : Hid (¬ FitsP s j set) := Lib.hid fun hf => h1 ⟨hf.low, hf.high⟩
    clear h1
    go_enter Try.func38, Try.ntmps38
    go_wp2_with fail
    have hs0 : (0 : Int) ≤ (s.nodes.length : Int) := by omega
    go_quiet (fail)
    go_wp2
    go_ret
    exact ⟨false, rfl, ⟨(fun h => by cases h), fun h => absurd h HNO.out⟩, Below.drewN' HX.out _⟩

/-! ### Its nodes carry it -/
set_option maxRecDepth 100000 in
set_option maxHeartbeats 4000000 in
theorem carried_any (vn vj : Value) (s : St) (k : Nat) (j : Jb) (w : World) (hr : RdNd w vn s.nodes) (hrj : RdJb w vj s.jobs) (hj : s.jobs[k]? = some j) (hn : s.nodes.length ≤ 6) (_hjl : s.jobs.length ≤ 24) :
    Calls Try.prog 39 #[stV vn vj s, .int .i64 ((k : Int) + 1)] w fun e w' => ∃ b, e = .returned (.bool b) ∧ (b = true ↔ CarriedL s k j) ∧ Ext w w' := by
  obtain ⟨A, c, rfl, hnc, hcm, hcell⟩ := has_cells hr
  obtain ⟨A2, c2, rfl, hnc2, hcm2, hcell2⟩ := jobs_cells hrj
  obtain ⟨b2, o2, rfl, hb2, hat2⟩ := hcell2 k j hj
  have HC := Lib.hid hcell
  have hx : Ext w (w.alloc (.cells #[.slice A s.nodes.length c, .slice (some ⟨b2, o2, none⟩) s.jobs.length c2, .int .i64 s.goal, .int .i64 s.prior, .int .i64 s.mode, .int .i64 s.term] 27)) := (Below.refl _ _).alloc (Nat.le_refl _) _
  have hbk := Blk.new w 27 #[.slice A s.nodes.length c, .slice (some ⟨b2, o2, none⟩) s.jobs.length c2, .int .i64 s.goal, .int .i64 s.prior, .int .i64 s.mode, .int .i64 s.term]
  obtain ⟨W1, hW1⟩ : ∃ W1, W1 = (w.alloc (.cells #[.slice A s.nodes.length c, .slice (some ⟨b2, o2, none⟩) s.jobs.length c2, .int .i64 s.goal, .int .i64 s.prior, .int .i64 s.mode, .int .i64 s.term] 27)) := ⟨_, rfl⟩
  rw [← hW1] at hx hbk
  have HX := Lib.hid hx
  have HBK := Lib.hid hbk
  have HH := Lib.hid fun i h w' => has_any j.nodes i h w'
  have hkl := (List.getElem?_eq_some_iff.1 hj).1
  have HAT := Lib.hid hat2
  have hw1 : wrap64 ((k : Int) + 1 - 1) = (k : Int) := by rw [IntWalk.wrap64_in _ (by omega)]; omega
  have HB2 := Lib.hid hb2
  clear hr hrj hcell hcell2 hx hbk hj hat2 hb2
  unfold stV
  go_enter Try.func39, Try.ntmps39
  go_wp2_with fail
  rw [← hW1]
  clear hW1
  go_loopg [10] s.nodes.length (fun gg i wr => ∃ (q : Nat), i = .int .i64 q ∧ q ≤ s.nodes.length ∧ gg = s.nodes.length - q ∧ Hid (Ext W1 wr ∧ ∀ i n, i < q → s.nodes[i]? = some n → hasS j.nodes i = true → n.up = true ∧ n.moving = false ∧ n.job = (k : Int) + 1))
  case atStart => exact ⟨0, rfl, Nat.zero_le _, by omega, Lib.hid ⟨Ext.refl _, fun i n h => absurd h (Nat.not_lt_zero i)⟩⟩
  case round =>
    obtain ⟨q, rfl, hq, rfl, HR⟩ := hrel
    by_cases hlt : q < s.nodes.length
    · have d1 : decide ((q : Int) < (s.nodes.length : Int)) = true := decide_eq_true (by omega)
      have d1' : decide (q < s.nodes.length) = true := decide_eq_true hlt
      obtain ⟨n, hnk⟩ : ∃ n, s.nodes[q]? = some n := ⟨_, List.getElem?_eq_getElem hlt⟩
      obtain ⟨b, o, rfl, hb, hat⟩ := HC.out q n hnk
      obtain ⟨c0, c1, c2_, c3, c4⟩ := hat.ext (HX.out.trans HR.out.1) hb
      have c8 := (HAT.out.ext (HX.out.trans HR.out.1) HB2.out).c8
      have s0 : wr.cell? ⟨w.heap.size, 1, none⟩ = some (.slice (some ⟨b2, o2, none⟩) s.jobs.length c2) := (HBK.out.ext HR.out.1).cell 1
      have hl0 : w.heap.size < wr.heap.size := (HBK.out.ext HR.out.1).lt
      have hl2 : b2 < wr.heap.size := Nat.lt_of_lt_of_le HB2.out (HX.out.trans HR.out.1).size
      have HX1 := Lib.hid fun cs => HR.out.1.trans ((Below.refl _ wr).alloc (Nat.le_refl _) (.cells cs 37))
      have hk64 : q < 64 := by omega
      have HNK := Lib.hid hnk
      have HLT := Lib.hid hlt
      clear hnk hb hat
      go_wp2_with fail
      refine (HH.out q hk64 _).mono ?_
      rintro e1 w1 ⟨rfl, rfl⟩
      have HXw := Lib.hid fun cs => HX.out.trans (HX1.out cs)
      have HSKIP : Hid (hasS j.nodes q = false ∨ (n.up = true ∧ n.moving = false ∧ n.job = (k : Int) + 1) → (∀ i n, i < q + 1 → s.nodes[i]? = some n → hasS j.nodes i = true → n.up = true ∧ n.moving = false ∧ n.job = (k : Int) + 1)) := Lib.hid fun ho i m hi hm hh => by
        rcases Nat.lt_or_ge i q with h' | h'
        · exact HR.out.2 i m h' hm hh
        · obtain rfl : i = q := by omega
          rw [HNK.out] at hm
          cases hm
          rcases ho with ho | ho
          · rw [ho] at hh
            cases hh
          · exact ho
      have HNO : Hid (¬ (n.up = true ∧ n.moving = false ∧ n.job = (k : Int) + 1) → hasS j.nodes q = true → ¬ CarriedL s k j) := Lib.hid fun h hh hc => h (hc q n HNK.out hh)
      cases hh : hasS j.nodes q
      · go_wp2
        go_roundg (s.nodes.length - (q + 1))
        case measure => have := HLT.out; omega
        case rel => exact ⟨q + 1, by go_num, HLT.out, rfl, Lib.hid ⟨HX1.out _, HSKIP.out (.inl hh)⟩⟩
      · have HHH := Lib.hid hh
        cases hup : n.up
        · go_wp2
          go_ret
          exact ⟨false, rfl, ⟨(fun h => by cases h), fun h => absurd h (HNO.out (fun h => by rw [hup] at h; cases h.1) HHH.out)⟩, HXw.out _⟩
        cases hmv : n.moving
        · by_cases hjb : n.job = (k : Int) + 1
          · have e1 : (n.job == (k : Int) + 1) = true := by rw [hjb]; exact beq_self_eq_true _
            have HJ := Lib.hid hjb
            clear hjb
            go_wp2
            go_roundg (s.nodes.length - (q + 1))
            case measure => have := HLT.out; omega
            case rel => exact ⟨q + 1, by go_num, HLT.out, rfl, Lib.hid ⟨HX1.out _, HSKIP.out (.inr ⟨hup, hmv, HJ.out⟩)⟩⟩
          · have e1 : (n.job == (k : Int) + 1) = false := by rw [beq_eq_false_iff_ne]; exact hjb
            have HJ := Lib.hid hjb
            clear hjb
            go_wp2
            go_ret
            exact ⟨false, rfl, ⟨(fun h => by cases h), fun h => absurd h (HNO.out (fun h => HJ.out h.2.2) HHH.out)⟩, HXw.out _⟩
        · go_wp2
          go_ret
          exact ⟨false, rfl, ⟨(fun h => by cases h), fun h => absurd h (HNO.out (fun h => by rw [hmv] at h; cases h.2.1) HHH.out)⟩, HXw.out _⟩
    · have d1 : decide ((q : Int) < (s.nodes.length : Int)) = false := decide_eq_false (by omega)
      have d1' : decide (q < s.nodes.length) = false := decide_eq_false hlt
      obtain rfl : q = s.nodes.length := by omega
      have HE : Hid (CarriedL s k j) := Lib.hid fun i n hi hh => HR.out.2 i n (List.getElem?_eq_some_iff.1 hi).1 hi hh
      have HX1 := Lib.hid (HX.out.trans HR.out.1)
      go_wp2
      go_ret
      exact ⟨true, rfl, ⟨fun _ => HE.out, fun _ => rfl⟩, HX1.out⟩

end Go.Proofs.Ytgjidkhfnnghiaa

/- Package book: whether a node, and a job, may be as they are. -/
namespace Go.Proofs.Ytgjidkhfnnghiaa
open Go.RowKit

theorem ext2 (w : World) (t1 t2 : TypeId) (c1 c2 : Array Value) : Ext w ((w.alloc (.cells c1 t1)).alloc (.cells c2 t2)) := ((Below.refl _ _).alloc (Nat.le_refl _) _).alloc (by simp) _
theorem ext3 (w : World) (t1 t2 t3 : TypeId) (c1 c2 c3 : Array Value) : Ext w (((w.alloc (.cells c1 t1)).alloc (.cells c2 t2)).alloc (.cells c3 t3)) := (ext2 w t1 t2 c1 c2).alloc (by simp; omega) _

set_option maxRecDepth 100000 in
set_option maxHeartbeats 4000000 in
theorem nodeMay_any (vn vj : Value) (s : St) (i : Nat) (n : Nd) (w : World) (hr : RdNd w vn s.nodes) (hrj : RdJb w vj s.jobs) (hi : s.nodes[i]? = some n) (hn : s.nodes.length ≤ 6) (_hjl : s.jobs.length ≤ 24) :
    Calls Try.prog 17 #[stV vn vj s, .int .i64 (i : Int)] w fun e w' => ∃ b, e = .returned (.bool b) ∧ (b = true ↔ NodeL s i n) ∧ Ext w w' := by
  obtain ⟨A, c, rfl, hnc, hcm, hcell⟩ := has_cells hr
  obtain ⟨A2, c2, rfl, hnc2, hcm2, hcell2⟩ := jobs_cells hrj
  obtain ⟨b, o, rfl, hb, hat⟩ := hcell i n hi
  have hil := (List.getElem?_eq_some_iff.1 hi).1
  have hi64 : i < 64 := by omega
  have HX := Lib.hid fun c1 c2 => ext2 w 27 37 c1 c2
  have HC2 := Lib.hid hcell2
  have HF := Lib.hid fun n lo hi w' => isFrom_any n lo hi w'
  have HV := Lib.hid fun n w' => isVersion_any n w'
  have HH := Lib.hid fun set w' => has_any set i hi64 w'
  have hx1 : ∀ cs, Ext w (w.alloc (.cells cs 27)) := fun cs => (Below.refl _ _).alloc (Nat.le_refl _) _
  obtain ⟨c0, c1, c2_, c3, c4⟩ := hat.ext (hx1 #[.slice (some ⟨b, o, none⟩) s.nodes.length c, .slice A2 s.jobs.length c2, .int .i64 s.goal, .int .i64 s.prior, .int .i64 s.mode, .int .i64 s.term]) hb
  have NL : NodeL s i n ↔ ((1 ≤ n.version ∧ n.version ≤ 9) ∧ (n.moving = true → n.up = true ∧ n.cordon = true ∧ n.job = 0) ∧ (n.job = 0 ∨ ∃ k j, n.job = (k : Nat) + 1 ∧ s.jobs[k]? = some j ∧ hasS j.nodes i = true)) := Iff.rfl
  have HNL := Lib.hid NL
  clear hr hrj hcell hcell2 hat hi hb NL hx1
  unfold stV
  go_enter Try.func17, Try.ntmps17
  go_wp2_with fail
  refine (HV.out _ _).mono ?_
  rintro e1 w1 ⟨rfl, rfl⟩
  cases hv : inR n.version 1 9
  · have HNO : Hid (¬ NodeL s i n) := Lib.hid fun h => by
      have := inR_iff.2 (HNL.out.1 h).1
      rw [hv] at this
      cases this
    go_wp2
    go_ret
    exact ⟨false, rfl, ⟨(fun h => by cases h), fun h => absurd h HNO.out⟩, HX.out _ _⟩
  have HA := Lib.hid (inR_iff.1 hv)
  cases hmv : n.moving
  · by_cases hj : n.job = 0
    · have HYES : Hid (NodeL s i n) := Lib.hid (HNL.out.2 ⟨HA.out, (fun h => by rw [hmv] at h; cases h), .inl hj⟩)
      have e1 : (n.job == 0) = true := by rw [hj]; rfl
      clear hj
      go_wp2
      go_ret
      exact ⟨true, rfl, ⟨fun _ => HYES.out, fun _ => rfl⟩, HX.out _ _⟩
    · have e1 : (n.job == 0) = false := by rw [beq_eq_false_iff_ne]; exact hj
      have HJ := Lib.hid hj
      clear hj
      go_wp2_with fail
      refine (HF.out _ _ _ _).mono ?_
      rintro e1 w1 ⟨rfl, rfl⟩
      cases hf : inR n.job 1 (s.jobs.length : Int)
      · have HNO : Hid (¬ NodeL s i n) := Lib.hid fun h => by
          rcases (HNL.out.1 h).2.2 with h1 | ⟨k, j, h1, h2, _⟩
          · exact HJ.out h1
          · have := (List.getElem?_eq_some_iff.1 h2).1
            have h3 : inR n.job 1 (s.jobs.length : Int) = true := inR_iff.2 ⟨by omega, by omega⟩
            rw [hf] at h3
            cases h3
        go_wp2
        go_ret
        exact ⟨false, rfl, ⟨(fun h => by cases h), fun h => absurd h HNO.out⟩, HX.out _ _⟩
      · have hf2 := inR_iff.1 hf
        obtain ⟨k, hk⟩ : ∃ k : Nat, n.job = (k : Int) + 1 := ⟨(n.job - 1).toNat, by omega⟩
        have hkl : k < s.jobs.length := by omega
        obtain ⟨j, hj⟩ : ∃ j, s.jobs[k]? = some j := ⟨_, List.getElem?_eq_getElem hkl⟩
        obtain ⟨b2, o2, rfl, hb2, hat2⟩ := HC2.out k j hj
        have c8 := hat2.c8
        have HNL2 : Hid (NodeL s i n ↔ hasS j.nodes i = true) := Lib.hid (HNL.out.trans ⟨fun h => by
          rcases h.2.2 with h1 | ⟨k', j', h1, h2, h3⟩
          · omega
          · obtain rfl : k' = k := by omega
            rw [hj] at h2
            cases h2
            exact h3, fun h => ⟨HA.out, (fun h' => by rw [hmv] at h'; cases h'), .inr ⟨k, j, hk, hj, h⟩⟩⟩)
        have hw1 : wrap64 (n.job - 1) = (k : Int) := by rw [IntWalk.wrap64_in _ (by omega)]; omega
        clear hf2 hk hj hat2
        go_wp2_with fail
        refine (HH.out _ _).mono ?_
        rintro e1 w1 ⟨rfl, rfl⟩
        go_wp2
        go_ret
        exact ⟨_, rfl, HNL2.out.symm, HX.out _ _⟩
  cases hup : n.up
  · have HNO : Hid (¬ NodeL s i n) := Lib.hid fun h => by
      have := ((HNL.out.1 h).2.1 hmv).1
      rw [hup] at this
      cases this
    go_wp2
    go_ret
    exact ⟨false, rfl, ⟨(fun h => by cases h), fun h => absurd h HNO.out⟩, HX.out _ _⟩
  cases hco : n.cordon
  · have HNO : Hid (¬ NodeL s i n) := Lib.hid fun h => by
      have := ((HNL.out.1 h).2.1 hmv).2.1
      rw [hco] at this
      cases this
    go_wp2
    go_ret
    exact ⟨false, rfl, ⟨(fun h => by cases h), fun h => absurd h HNO.out⟩, HX.out _ _⟩
  by_cases hj : n.job = 0
  · have HYES : Hid (NodeL s i n) := Lib.hid (HNL.out.2 ⟨HA.out, (fun _ => ⟨hup, hco, hj⟩), .inl hj⟩)
    have e1 : (n.job == 0) = true := by rw [hj]; rfl
    clear hj
    go_wp2
    go_ret
    exact ⟨true, rfl, ⟨fun _ => HYES.out, fun _ => rfl⟩, HX.out _ _⟩
  · have HNO : Hid (¬ NodeL s i n) := Lib.hid fun h => hj ((HNL.out.1 h).2.1 hmv).2.2
    have e1 : (n.job == 0) = false := by rw [beq_eq_false_iff_ne]; exact hj
    clear hj
    go_wp2
    go_ret
    exact ⟨false, rfl, ⟨(fun h => by cases h), fun h => absurd h HNO.out⟩, HX.out _ _⟩

end Go.Proofs.Ytgjidkhfnnghiaa

/- Package book: whether a job may be as it is. -/
namespace Go.Proofs.Ytgjidkhfnnghiaa
open Go.RowKit

set_option maxRecDepth 100000 in
set_option maxHeartbeats 4000000 in
theorem jobMay_any (c : Cf) (vn vj : Value) (s : St) (k : Nat) (j : Jb) (w : World) (hr : RdNd w vn s.nodes) (hrj : RdJb w vj s.jobs) (hj : s.jobs[k]? = some j) (hm : mayC c = true) (hn : s.nodes.length ≤ 6) (hjl : s.jobs.length ≤ 24)
    (hver : ∀ (i : Nat) (n : Nd), s.nodes[i]? = some n → 1 ≤ n.version) :
    Calls Try.prog 18 #[cfV c, stV vn vj s, .int .i64 ((k : Int) + 1)] w fun e w' => ∃ b, e = .returned (.bool b) ∧ (b = true ↔ JobL c s k j) ∧ Ext w w' := by
  have HA := Lib.hid fun w' => asked_any c j w' hm
  have HS := Lib.hid fun w' h => suits_any vn vj s j j.nodes w' h hn hver
  have HR := Lib.hid fun w' h1 h2 => carried_any vn vj s k j w' h1 h2 hj hn hjl
  have HF := Lib.hid fun n lo hi w' => isFrom_any n lo hi w'
  have HRN := Lib.hid hr
  have HRJ := Lib.hid hrj
  obtain ⟨A, c1, rfl, hnc, hcm, hcell⟩ := jobs_cells hrj
  obtain ⟨b2, o2, rfl, hb2, hat2⟩ := hcell k j hj
  have hkl := (List.getElem?_eq_some_iff.1 hj).1
  have hw1 : wrap64 ((k : Int) + 1 - 1) = (k : Int) := by rw [IntWalk.wrap64_in _ (by omega)]; omega
  obtain ⟨jc, hjc⟩ : ∃ jc : Array Value, jc = #[.int .i64 j.queue, .int .i64 j.prio, .int .i64 j.least, .int .i64 j.most, .int .i64 j.work, .int .i64 j.pin, .int .i64 j.phase, .int .i64 j.inc, .int .i64 j.nodes, .int .i64 j.since, .int .i64 j.til, .int .i64 j.epoch] := ⟨_, rfl⟩
  obtain ⟨cc, hcc⟩ : ∃ cc : Array Value, cc = #[.int .i64 c.nodes, .int .i64 c.queues, .int .i64 c.quota, .int .i64 c.wave, .int .i64 c.lease, .int .i64 c.retry, .int .i64 c.deadline, .int .i64 c.room, .int .i64 c.disk] := ⟨_, rfl⟩
  obtain ⟨sc, hsc⟩ : ∃ sc : Array Value, sc = #[vn, .slice (some ⟨b2, o2, none⟩) s.jobs.length c1, .int .i64 s.goal, .int .i64 s.prior, .int .i64 s.mode, .int .i64 s.term] := ⟨_, rfl⟩
  have HX2 := Lib.hid (ext2 w 23 27 cc sc)
  obtain ⟨W3, hW3⟩ : ∃ W3, W3 = ((w.alloc (.cells cc 23)).alloc (.cells sc 27)).alloc (.cells jc 39) := ⟨_, rfl⟩
  have hx3 : Ext w W3 := by rw [hW3]; exact ext3 w _ _ _ cc sc jc
  have hbj : Blk W3 (w.heap.size + 2) 39 jc := by
    have := Blk.new ((w.alloc (.cells cc 23)).alloc (.cells sc 27)) 39 jc
    rw [hW3]
    simpa using this
  have hbs : Blk W3 (w.heap.size + 1) 27 sc := by
    have := (Blk.new (w.alloc (.cells cc 23)) 27 sc).ext ((Below.refl _ _).alloc (Nat.le_refl _) (.cells jc 39))
    rw [hW3]
    simpa using this
  obtain ⟨q0, q1, q2, q3, q4, q5, q6, q7, q8, q9, q10, q11⟩ := hat2.ext HX2.out hb2
  have HX3 := Lib.hid hx3
  have HBJ := Lib.hid hbj
  have HBS := Lib.hid hbs
  have HJL : Hid (JobL c s k j ↔ (askedJ c j = true ∧ (0 ≤ j.inc ∧ j.inc ≤ 1000000) ∧ (0 ≤ j.epoch ∧ j.epoch ≤ j.inc) ∧ (0 ≤ j.since ∧ j.since ≤ 1000000) ∧ (0 ≤ j.til ∧ j.til ≤ 1000000) ∧
    (((j.phase = 0 ∨ j.phase = 4) ∧ j.nodes = 0) ∨ ((1 ≤ j.phase ∧ j.phase ≤ 3) ∧ FitsP s j j.nodes ∧ CarriedL s k j)))) := Lib.hid Iff.rfl
  clear hr hrj hcell hat2 hj hm hver hb2 hx3 hbj hbs
  unfold cfV jbV at HA
  unfold stV jbV at HS
  unfold stV at HR
  unfold stV cfV
  subst hsc hcc hjc
  go_enter Try.func18, Try.ntmps18
  go_wp2_with fail
  rw [← hW3]
  clear q0 q1 q2 q3 q4 q5 q6 q7 q8 q9 q10 q11 hW3 HX2
  refine (HA.out _).mono ?_
  rintro e1 w1 ⟨rfl, hx1⟩
  have HX1 := Lib.hid (HX3.out.trans hx1)
  have HBJ1 := Lib.hid (HBJ.out.ext hx1)
  have HBS1 := Lib.hid (HBS.out.ext hx1)
  have g6 : w1.cell? ⟨w.heap.size + 2, 6, none⟩ = some (.int .i64 j.phase) := HBJ1.out.cell 6
  have g7 : w1.cell? ⟨w.heap.size + 2, 7, none⟩ = some (.int .i64 j.inc) := HBJ1.out.cell 7
  have g8 : w1.cell? ⟨w.heap.size + 2, 8, none⟩ = some (.int .i64 j.nodes) := HBJ1.out.cell 8
  have g9 : w1.cell? ⟨w.heap.size + 2, 9, none⟩ = some (.int .i64 j.since) := HBJ1.out.cell 9
  have g10 : w1.cell? ⟨w.heap.size + 2, 10, none⟩ = some (.int .i64 j.til) := HBJ1.out.cell 10
  have g11 : w1.cell? ⟨w.heap.size + 2, 11, none⟩ = some (.int .i64 j.epoch) := HBJ1.out.cell 11
  clear hx1
  cases ha : askedJ c j
  · have HNO : Hid (¬ JobL c s k j) := Lib.hid fun h => by
      have := (HJL.out.1 h).1
      rw [ha] at this
      cases this
    go_wp2
    go_ret
    exact ⟨false, rfl, ⟨(fun h => by cases h), fun h => absurd h HNO.out⟩, HX1.out⟩
  go_wp2_with fail
  refine (HF.out _ _ _ _).mono ?_
  rintro e1 w1_ ⟨rfl, rfl⟩
  cases h1 : inR j.inc 0 1000000
  · have HNO : Hid (¬ JobL c s k j) := Lib.hid fun h => by
      have := inR_iff.2 (HJL.out.1 h).2.1
      rw [h1] at this
      cases this
    go_wp2
    go_ret
    exact ⟨false, rfl, ⟨(fun h => by cases h), fun h => absurd h HNO.out⟩, HX1.out⟩
  go_wp2_with fail
  refine (HF.out _ _ _ _).mono ?_
  rintro e1 w1_ ⟨rfl, rfl⟩
  cases h2 : inR j.epoch 0 j.inc
  · have HNO : Hid (¬ JobL c s k j) := Lib.hid fun h => by
      have := inR_iff.2 (HJL.out.1 h).2.2.1
      rw [h2] at this
      cases this
    go_wp2
    go_ret
    exact ⟨false, rfl, ⟨(fun h => by cases h), fun h => absurd h HNO.out⟩, HX1.out⟩
  go_wp2_with fail
  refine (HF.out _ _ _ _).mono ?_
  rintro e1 w1_ ⟨rfl, rfl⟩
  cases h3 : inR j.since 0 1000000
  · have HNO : Hid (¬ JobL c s k j) := Lib.hid fun h => by
      have := inR_iff.2 (HJL.out.1 h).2.2.2.1
      rw [h3] at this
      cases this
    go_wp2
    go_ret
    exact ⟨false, rfl, ⟨(fun h => by cases h), fun h => absurd h HNO.out⟩, HX1.out⟩
  go_wp2_with fail
  refine (HF.out _ _ _ _).mono ?_
  rintro e1 w1_ ⟨rfl, rfl⟩
  cases h4 : inR j.til 0 1000000
  · have HNO : Hid (¬ JobL c s k j) := Lib.hid fun h => by
      have := inR_iff.2 (HJL.out.1 h).2.2.2.2.1
      rw [h4] at this
      cases this
    go_wp2
    go_ret
    exact ⟨false, rfl, ⟨(fun h => by cases h), fun h => absurd h HNO.out⟩, HX1.out⟩
  have HJ2 : Hid (JobL c s k j ↔ (((j.phase = 0 ∨ j.phase = 4) ∧ j.nodes = 0) ∨ ((1 ≤ j.phase ∧ j.phase ≤ 3) ∧ FitsP s j j.nodes ∧ CarriedL s k j))) :=
    Lib.hid (HJL.out.trans ⟨fun h => h.2.2.2.2.2, fun h => ⟨ha, inR_iff.1 h1, inR_iff.1 h2, inR_iff.1 h3, inR_iff.1 h4, h⟩⟩)
  clear h1 h2 h3 h4 ha HJL
  by_cases hp : 1 ≤ j.phase ∧ j.phase ≤ 3
  · have HP := Lib.hid hp
    have hp' : j.phase = 1 ∨ j.phase = 2 ∨ j.phase = 3 := by omega
    have s0 : w1.cell? ⟨w.heap.size + 1, 0, none⟩ = some vn := HBS1.out.cell 0
    have s1 : w1.cell? ⟨w.heap.size + 1, 1, none⟩ = some (.slice (some ⟨b2, o2, none⟩) s.jobs.length c1) := HBS1.out.cell 1
    have s2 : w1.cell? ⟨w.heap.size + 1, 2, none⟩ = some (.int .i64 s.goal) := HBS1.out.cell 2
    have s3 : w1.cell? ⟨w.heap.size + 1, 3, none⟩ = some (.int .i64 s.prior) := HBS1.out.cell 3
    have s4 : w1.cell? ⟨w.heap.size + 1, 4, none⟩ = some (.int .i64 s.mode) := HBS1.out.cell 4
    have s5 : w1.cell? ⟨w.heap.size + 1, 5, none⟩ = some (.int .i64 s.term) := HBS1.out.cell 5
    have g0 : w1.cell? ⟨w.heap.size + 2, 0, none⟩ = some (.int .i64 j.queue) := HBJ1.out.cell 0
    have g1 : w1.cell? ⟨w.heap.size + 2, 1, none⟩ = some (.int .i64 j.prio) := HBJ1.out.cell 1
    have g2 : w1.cell? ⟨w.heap.size + 2, 2, none⟩ = some (.int .i64 j.least) := HBJ1.out.cell 2
    have g3 : w1.cell? ⟨w.heap.size + 2, 3, none⟩ = some (.int .i64 j.most) := HBJ1.out.cell 3
    have g4 : w1.cell? ⟨w.heap.size + 2, 4, none⟩ = some (.int .i64 j.work) := HBJ1.out.cell 4
    have g5 : w1.cell? ⟨w.heap.size + 2, 5, none⟩ = some (.int .i64 j.pin) := HBJ1.out.cell 5
    have HJ3 : Hid (JobL c s k j ↔ FitsP s j j.nodes ∧ CarriedL s k j) := Lib.hid (HJ2.out.trans ⟨fun h => by
      rcases h with ⟨h, _⟩ | h
      · omega
      · exact h.2, fun h => .inr ⟨hp, h⟩⟩)
    clear hp HJ2
    generalize j.phase = ph at *
    rcases hp' with rfl | rfl | rfl
    all_goals
      go_wp2_with fail
      refine (HS.out _ (HRN.out.ext HX1.out)).mono ?_
      rintro e2 w2 ⟨b, rfl, hb, hx2⟩
      have HX2 := Lib.hid (HX1.out.trans hx2)
      have HBS2 := Lib.hid (HBS1.out.ext hx2)
      cases b
      · have HNO : Hid (¬ JobL c s k j) := Lib.hid fun h => by
          have := hb.2 (HJ3.out.1 h).1
          cases this
        clear hx2 hb
        go_wp2
        go_ret
        exact ⟨false, rfl, ⟨(fun h => by cases h), fun h => absurd h HNO.out⟩, HX2.out⟩
      · have HY := Lib.hid (hb.1 rfl)
        have s0 : w2.cell? ⟨w.heap.size + 1, 0, none⟩ = some vn := HBS2.out.cell 0
        have s1 : w2.cell? ⟨w.heap.size + 1, 1, none⟩ = some (.slice (some ⟨b2, o2, none⟩) s.jobs.length c1) := HBS2.out.cell 1
        have s2 : w2.cell? ⟨w.heap.size + 1, 2, none⟩ = some (.int .i64 s.goal) := HBS2.out.cell 2
        have s3 : w2.cell? ⟨w.heap.size + 1, 3, none⟩ = some (.int .i64 s.prior) := HBS2.out.cell 3
        have s4 : w2.cell? ⟨w.heap.size + 1, 4, none⟩ = some (.int .i64 s.mode) := HBS2.out.cell 4
        have s5 : w2.cell? ⟨w.heap.size + 1, 5, none⟩ = some (.int .i64 s.term) := HBS2.out.cell 5
        clear hx2 hb
        go_wp2_with fail
        refine (HR.out _ (HRN.out.ext HX2.out) (HRJ.out.ext HX2.out)).mono ?_
        rintro e3 w3 ⟨b, rfl, hb, hx3⟩
        have HX4 := Lib.hid (HX2.out.trans hx3)
        have HB := Lib.hid hb
        clear hx3 hb
        go_wp2
        go_ret
        exact ⟨b, rfl, ⟨fun h => HJ3.out.2 ⟨HY.out, HB.out.1 h⟩, fun h => HB.out.2 (HJ3.out.1 h).2⟩, HX4.out⟩
  · have HP := Lib.hid hp
    have n1 : (j.phase == 1) = false := by rw [beq_eq_false_iff_ne]; omega
    have n2 : (j.phase == 2) = false := by rw [beq_eq_false_iff_ne]; omega
    have n3 : (j.phase == 3) = false := by rw [beq_eq_false_iff_ne]; omega
    by_cases h04 : j.phase = 0 ∨ j.phase = 4
    · have HJ3 : Hid (JobL c s k j ↔ j.nodes = 0) := Lib.hid (HJ2.out.trans ⟨fun h => by
        rcases h with ⟨_, h⟩ | ⟨h, _⟩
        · exact h
        · exact absurd h hp, fun h => .inl ⟨h04, h⟩⟩)
      have HJ4 : Hid ((j.nodes == 0) = true ↔ JobL c s k j) := Lib.hid ((beq_iff_eq).trans HJ3.out.symm)
      clear hp HJ3 HJ2
      generalize j.phase = ph at *
      rcases h04 with rfl | rfl
      all_goals
        go_wp2
        go_ret
        exact ⟨_, rfl, HJ4.out, HX1.out⟩
    · have n0 : (j.phase == 0) = false := by rw [beq_eq_false_iff_ne]; omega
      have n4 : (j.phase == 4) = false := by rw [beq_eq_false_iff_ne]; omega
      have HNO : Hid (¬ JobL c s k j) := Lib.hid fun h => by
        rcases HJ2.out.1 h with ⟨h, _⟩ | ⟨h, _⟩
        · exact h04 h
        · exact hp h
      clear hp h04
      go_wp2
      go_ret
      exact ⟨false, rfl, ⟨(fun h => by cases h), fun h => absurd h HNO.out⟩, HX1.out⟩

end Go.Proofs.Ytgjidkhfnnghiaa
