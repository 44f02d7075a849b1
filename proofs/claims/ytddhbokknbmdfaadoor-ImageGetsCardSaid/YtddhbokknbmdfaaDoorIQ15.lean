/- Texts that the proof of I rests on, one behind the other. -/
import Derived.Test.YtddhbokknbmdfaaDoorIQ14
import Derived.Deep.Cut
import Derived.Deep.DeepCutAuto
import Derived.Deep.CutBlock

/- The reference of layer 9: may a state be. -/
namespace Go.Proofs.YtddhbokknbmdfaaDoor
open Go.RowKit

/-- What is asked of a node of a job, beside another. -/
def OwnP (k : Nat) (j : Jb) (i : Nat) (n : Nd) : Prop := (n.job = (k : Int) + 1 ↔ hasS j.nodes i = true) ∧ (n.job = (k : Int) + 1 → n.up = true ∧ n.moving = false)

/-- Behind the job's nodes were asked as its phase has it. -/
structure RrCut (w4 : World) (s : St) (j : Jb) (gj : Nat) (wx : World) : Prop where
  ext : Ext w4 wx
  blk : Blk wx gj 52 #[.int .i64 j.queue, .int .i64 j.prio, .int .i64 j.least, .int .i64 j.most, .int .i64 j.work, .int .i64 j.pin, .int .i64 j.phase, .int .i64 j.inc, .int .i64 j.nodes, .int .i64 j.since, .int .i64 j.til, .int .i64 j.epoch]
  fits : (1 ≤ j.phase → j.phase ≤ 3 → FitsP s j j.nodes) ∧ (¬ (1 ≤ j.phase ∧ j.phase ≤ 3) → j.nodes = 0)

set_option maxRecDepth 100000 in
set_option maxHeartbeats 16000000 in
theorem RefRight_any (c : Cf) (vn vj : Value) (s : St) (w : World) (hr : RdNd w vn s.nodes) (hrj : RdJb w vj s.jobs) :
    Calls Tryd.prog 35 #[cfV c, stV vn vj s] w fun e w' => ∃ b, e = .returned (.bool b) ∧ (b = true ↔ RightP c s) ∧ Ext w w' := by
  have HM := Lib.hid fun w' => RefMay_any c w'
  have HNB := Lib.hid fun n w' => RefNumber_any n w'
  have HHS := Lib.hid fun set i hi W => RefHas_any set i hi W
  have HAS := Lib.hid fun j W => RefAsked_any c j W
  have HFT : Hid (∀ j set W, s.nodes.length ≤ 6 → (∀ (i : Nat) (n : Nd), s.nodes[i]? = some n → 1 ≤ n.version) → Ext w W → Calls Tryd.prog 45 #[stV vn vj s, jbV j, .int .i64 set] W fun e w' => ∃ b, e = .returned (.bool b) ∧ (b = true ↔ FitsP s j set) ∧ Ext W w') := Lib.hid fun j set W h1 h2 hx => RefFits_any vn vj s j set W (hr.ext hx) h1 h2
  have HD : Hid (∀ w' q, Ext w w' → Calls Tryd.prog 15 #[stV vn vj s, .int .i64 q] w' fun e w'' => e = .returned (.int .i64 (drainsS s q : Int)) ∧ Ext w' w'') := Lib.hid fun w' q hx => RefDrains_any vn vj s q w' (hrj.ext hx)
  obtain ⟨An, cn, rfl, hnc, hcm, hNN⟩ := has_cells hr
  obtain ⟨Aj, cj, rfl, hjc, hjm, hJJ⟩ := jobs_cells hrj
  have HNN := Lib.hid hNN
  have HJJ := Lib.hid hJJ
  obtain ⟨W2, hW2⟩ : ∃ W2, W2 = (w.alloc (.cells #[.int .i64 c.nodes, .int .i64 c.queues, .int .i64 c.quota, .int .i64 c.wave, .int .i64 c.lease, .int .i64 c.retry, .int .i64 c.deadline, .int .i64 c.room, .int .i64 c.disk] 23)).alloc (.cells #[.slice An s.nodes.length cn, .slice Aj s.jobs.length cj, .int .i64 s.goal, .int .i64 s.prior, .int .i64 s.mode, .int .i64 s.term] 30) := ⟨_, rfl⟩
  have hx2 : Ext w W2 := by rw [hW2]; exact ext2 w _ _ _ _
  have hbc : Blk W2 w.heap.size 23 #[.int .i64 c.nodes, .int .i64 c.queues, .int .i64 c.quota, .int .i64 c.wave, .int .i64 c.lease, .int .i64 c.retry, .int .i64 c.deadline, .int .i64 c.room, .int .i64 c.disk] := by rw [hW2]; exact (Blk.new w _ _).alloc _
  have hbs : Blk W2 (w.heap.size + 1) 30 #[.slice An s.nodes.length cn, .slice Aj s.jobs.length cj, .int .i64 s.goal, .int .i64 s.prior, .int .i64 s.mode, .int .i64 s.term] := by
    have := Blk.new (w.alloc (.cells #[.int .i64 c.nodes, .int .i64 c.queues, .int .i64 c.quota, .int .i64 c.wave, .int .i64 c.lease, .int .i64 c.retry, .int .i64 c.deadline, .int .i64 c.room, .int .i64 c.disk] 23)) 30 #[.slice An s.nodes.length cn, .slice Aj s.jobs.length cj, .int .i64 s.goal, .int .i64 s.prior, .int .i64 s.mode, .int .i64 s.term]
    rw [hW2]
    simpa using this
  have HX2 := Lib.hid hx2
  have HBS := Lib.hid hbs
  have HBC := Lib.hid hbc
  unfold stV at HFT HD
  unfold cfV at HM HAS
  unfold jbV at HFT HAS
  unfold stV cfV
  clear hr hrj hx2 hbs hbc hNN hJJ
  go_enter Tryd.func35, Tryd.ntmps35
  go_wp2_with fail
  rw [← hW2]
  clear hW2
  refine (HM.out _).mono ?_
  rintro e1 w1 ⟨rfl, hx1⟩
  have HX1 := Lib.hid (HX2.out.trans hx1)
  have HS1 := Lib.hid (HBS.out.ext hx1)
  have HC1 := Lib.hid (HBC.out.ext hx1)
  clear hx1 HX2 HBS HBC HM
  have s0 : w1.cell? ⟨w.heap.size + 1, 0, none⟩ = some (.slice An s.nodes.length cn) := HS1.out.cell 0
  have s1 : w1.cell? ⟨w.heap.size + 1, 1, none⟩ = some (.slice Aj s.jobs.length cj) := HS1.out.cell 1
  have s2 : w1.cell? ⟨w.heap.size + 1, 2, none⟩ = some (.int .i64 s.goal) := HS1.out.cell 2
  have s3 : w1.cell? ⟨w.heap.size + 1, 3, none⟩ = some (.int .i64 s.prior) := HS1.out.cell 3
  have s4 : w1.cell? ⟨w.heap.size + 1, 4, none⟩ = some (.int .i64 s.mode) := HS1.out.cell 4
  have s5 : w1.cell? ⟨w.heap.size + 1, 5, none⟩ = some (.int .i64 s.term) := HS1.out.cell 5
  have k0 : w1.cell? ⟨w.heap.size, 0, none⟩ = some (.int .i64 c.nodes) := HC1.out.cell 0
  cases hm : mayC c
  · have HNO : Hid (¬ RightP c s) := Lib.hid fun h => by
      have := h.may
      rw [hm] at this
      cases this
    go_wp2
    go_ret
    first | exact ⟨false, rfl, ⟨(fun h => by cases h), fun h => absurd h HNO.out⟩, HX1.out⟩ | exact .inl ⟨rfl, HNO.out, HX1.out⟩
  by_cases h_n : ¬ (s.nodes.length : Int) = c.nodes
  · have HNO : Hid (¬ RightP c s) := Lib.hid fun h => by exact h_n h.nn
    have e1 : ((s.nodes.length : Int) != c.nodes) = true := by rw [bne_iff_ne]; exact h_n
    clear h_n
    go_wp2
    go_ret
    first | exact ⟨false, rfl, ⟨(fun h => by cases h), fun h => absurd h HNO.out⟩, HX1.out⟩ | exact .inl ⟨rfl, HNO.out, HX1.out⟩
  have hnn := Classical.not_not.1 h_n
  have e1 : ((s.nodes.length : Int) != c.nodes) = false := by rw [hnn]; exact bne_self_eq_false _
  by_cases h_j : 24 < s.jobs.length
  · have HNO : Hid (¬ RightP c s) := Lib.hid fun h => by have := h.nj; omega
    have e2 : decide ((24 : Int) < (s.jobs.length : Int)) = true := decide_eq_true (by omega)
    have e2' : decide (24 < s.jobs.length) = true := decide_eq_true h_j
    clear h_j
    go_wp2
    go_ret
    first | exact ⟨false, rfl, ⟨(fun h => by cases h), fun h => absurd h HNO.out⟩, HX1.out⟩ | exact .inl ⟨rfl, HNO.out, HX1.out⟩
  have e2 : decide ((24 : Int) < (s.jobs.length : Int)) = false := decide_eq_false (by omega)
  have e2' : decide (24 < s.jobs.length) = false := decide_eq_false h_j
  by_cases h_g1 : s.goal < 1
  · have HNO : Hid (¬ RightP c s) := Lib.hid fun h => by have := h.g1; omega
    have d_g1 : decide (s.goal < 1) = true := decide_eq_true h_g1
    clear h_g1
    go_wp2
    go_ret
    first | exact ⟨false, rfl, ⟨(fun h => by cases h), fun h => absurd h HNO.out⟩, HX1.out⟩ | exact .inl ⟨rfl, HNO.out, HX1.out⟩
  have d_g1 : decide (s.goal < 1) = false := decide_eq_false h_g1
  by_cases h_g9 : 9 < s.goal
  · have HNO : Hid (¬ RightP c s) := Lib.hid fun h => by have := h.g9; omega
    have d_g9 : decide (9 < s.goal) = true := decide_eq_true h_g9
    clear h_g9
    go_wp2
    go_ret
    first | exact ⟨false, rfl, ⟨(fun h => by cases h), fun h => absurd h HNO.out⟩, HX1.out⟩ | exact .inl ⟨rfl, HNO.out, HX1.out⟩
  have d_g9 : decide (9 < s.goal) = false := decide_eq_false h_g9
  by_cases h_p1 : s.prior < 1
  · have HNO : Hid (¬ RightP c s) := Lib.hid fun h => by have := h.p1; omega
    have d_p1 : decide (s.prior < 1) = true := decide_eq_true h_p1
    clear h_p1
    go_wp2
    go_ret
    first | exact ⟨false, rfl, ⟨(fun h => by cases h), fun h => absurd h HNO.out⟩, HX1.out⟩ | exact .inl ⟨rfl, HNO.out, HX1.out⟩
  have d_p1 : decide (s.prior < 1) = false := decide_eq_false h_p1
  by_cases h_p9 : 9 < s.prior
  · have HNO : Hid (¬ RightP c s) := Lib.hid fun h => by have := h.p9; omega
    have d_p9 : decide (9 < s.prior) = true := decide_eq_true h_p9
    clear h_p9
    go_wp2
    go_ret
    first | exact ⟨false, rfl, ⟨(fun h => by cases h), fun h => absurd h HNO.out⟩, HX1.out⟩ | exact .inl ⟨rfl, HNO.out, HX1.out⟩
  have d_p9 : decide (9 < s.prior) = false := decide_eq_false h_p9
  by_cases h_m0 : s.mode < 0
  · have HNO : Hid (¬ RightP c s) := Lib.hid fun h => by have := h.m0; omega
    have d_m0 : decide (s.mode < 0) = true := decide_eq_true h_m0
    clear h_m0
    go_wp2
    go_ret
    first | exact ⟨false, rfl, ⟨(fun h => by cases h), fun h => absurd h HNO.out⟩, HX1.out⟩ | exact .inl ⟨rfl, HNO.out, HX1.out⟩
  have d_m0 : decide (s.mode < 0) = false := decide_eq_false h_m0
  by_cases h_m2 : 2 < s.mode
  · have HNO : Hid (¬ RightP c s) := Lib.hid fun h => by have := h.m2; omega
    have d_m2 : decide (2 < s.mode) = true := decide_eq_true h_m2
    clear h_m2
    go_wp2
    go_ret
    first | exact ⟨false, rfl, ⟨(fun h => by cases h), fun h => absurd h HNO.out⟩, HX1.out⟩ | exact .inl ⟨rfl, HNO.out, HX1.out⟩
  have d_m2 : decide (2 < s.mode) = false := decide_eq_false h_m2
  have HG : Hid ((1 ≤ s.goal ∧ s.goal ≤ 9) ∧ (1 ≤ s.prior ∧ s.prior ≤ 9) ∧ (0 ≤ s.mode ∧ s.mode ≤ 2)) := Lib.hid (by omega)
  clear h_g1 h_g9 h_p1 h_p9 h_m0 h_m2
  have hm2 : (1 ≤ c.nodes ∧ c.nodes ≤ 6) ∧ (1 ≤ c.queues ∧ c.queues ≤ 3) := by
    simp only [mayC, Bool.and_eq_true, inR_iff] at hm
    exact ⟨by omega, by omega⟩
  have hn6 : s.nodes.length ≤ 6 := by omega
  have hj24 : s.jobs.length ≤ 24 := by omega
  have HN6 := Lib.hid hn6
  have HJ24 := Lib.hid hj24
  have HM1 := Lib.hid hm
  have HNNN := Lib.hid hnn
  have HM2 := Lib.hid hm2.2
  clear hm hnn hm2 h_n h_j
  go_wp2_with fail
  refine (HNB.out _ _).mono ?_
  rintro e_ w_ ⟨rfl, rfl⟩
  cases h4 : inR s.term 0 1000000
  · have HNO : Hid (¬ RightP c s) := Lib.hid fun h => by
      have := inR_iff.2 ⟨h.t0, h.t9⟩
      rw [h4] at this
      cases this
    go_wp2
    go_ret
    first | exact ⟨false, rfl, ⟨(fun h => by cases h), fun h => absurd h HNO.out⟩, HX1.out⟩ | exact .inl ⟨rfl, HNO.out, HX1.out⟩
  have H4 := Lib.hid (inR_iff.1 h4)
  clear h4 e1 e2 e2' d_g1 d_g9 d_p1 d_p9 d_m0 d_m2 s2 s3 s4 s5 k0
  go_wp2_with fail
  clear s0 s1
  go_loopg [5] s.nodes.length (fun gg i wr => ∃ (q : Nat), i = .int .i64 q ∧ q ≤ s.nodes.length ∧ gg = s.nodes.length - q ∧ Hid (Ext w1 wr ∧ ∀ (i : Nat) n, i < q → s.nodes[i]? = some n → NodeP s n))
  case atStart => exact ⟨0, rfl, Nat.zero_le _, by omega, Lib.hid ⟨Ext.refl _, fun i n h => absurd h (Nat.not_lt_zero i)⟩⟩
  case round =>
    obtain ⟨q, rfl, hq, rfl, HR⟩ := hrel
    have s0 : wr.cell? ⟨w.heap.size + 1, 0, none⟩ = some (.slice An s.nodes.length cn) := (HS1.out.ext HR.out.1).cell 0
    have s1 : wr.cell? ⟨w.heap.size + 1, 1, none⟩ = some (.slice Aj s.jobs.length cj) := (HS1.out.ext HR.out.1).cell 1
    by_cases hlt : q < s.nodes.length
    · have d1 : decide ((q : Int) < (s.nodes.length : Int)) = true := decide_eq_true (by omega)
      have d1' : decide (q < s.nodes.length) = true := decide_eq_true hlt
      obtain ⟨⟨up, cd, mv, ver, job⟩, hnk⟩ : ∃ n, s.nodes[q]? = some n := ⟨_, List.getElem?_eq_getElem hlt⟩
      obtain ⟨bk, o, rfl, hb, hat⟩ := HNN.out q _ hnk
      obtain ⟨c0, c1, c2, c3, c4⟩ := hat.ext (HX1.out.trans HR.out.1) hb
      dsimp only at c0 c1 c2 c3 c4
      have x1 : (0 : Int) ≤ (q : Int) ∧ (q : Int) < (s.nodes.length : Int) := by omega
      have hlw : w.heap.size + 1 < wr.heap.size := (HS1.out.ext HR.out.1).lt
      have HNK := Lib.hid hnk
      have HLT := Lib.hid hlt
      have HXR := Lib.hid HR.out.1
      have HXE := Lib.hid (HX1.out.trans HR.out.1)
      have HNX : Hid (NodeP s ⟨up, cd, mv, ver, job⟩ → ∀ (i : Nat) n, i < q + 1 → s.nodes[i]? = some n → NodeP s n) := Lib.hid fun hp i m hi hm => by
        rcases Nat.lt_or_ge i q with h' | h'
        · exact HR.out.2 i m h' hm
        · obtain rfl : i = q := by omega
          rw [HNK.out] at hm
          cases hm
          exact hp
      clear hnk hlt hat hb HR
      by_cases h_v1 : ver < 1
      · have HNO : Hid (¬ RightP c s) := Lib.hid fun h => by have := (h.node q _ HNK.out).v1; (try dsimp only at this); omega
        have d_v1 : decide (ver < 1) = true := decide_eq_true h_v1
        clear h_v1
        go_wp2
        go_ret
        first | exact ⟨false, rfl, ⟨(fun h => by cases h), fun h => absurd h HNO.out⟩, Below.alloc HXE.out HXE.out.size _⟩ | exact .inl ⟨rfl, HNO.out, Below.alloc HXE.out HXE.out.size _⟩
      have d_v1 : decide (ver < 1) = false := decide_eq_false h_v1
      by_cases h_v9 : 9 < ver
      · have HNO : Hid (¬ RightP c s) := Lib.hid fun h => by have := (h.node q _ HNK.out).v9; (try dsimp only at this); omega
        have d_v9 : decide (9 < ver) = true := decide_eq_true h_v9
        clear h_v9
        go_wp2
        go_ret
        first | exact ⟨false, rfl, ⟨(fun h => by cases h), fun h => absurd h HNO.out⟩, Below.alloc HXE.out HXE.out.size _⟩ | exact .inl ⟨rfl, HNO.out, Below.alloc HXE.out HXE.out.size _⟩
      have d_v9 : decide (9 < ver) = false := decide_eq_false h_v9
      by_cases h_j0 : job < 0
      · have HNO : Hid (¬ RightP c s) := Lib.hid fun h => by have := (h.node q _ HNK.out).j0; (try dsimp only at this); omega
        have d_j0 : decide (job < 0) = true := decide_eq_true h_j0
        clear h_j0
        go_wp2
        go_ret
        first | exact ⟨false, rfl, ⟨(fun h => by cases h), fun h => absurd h HNO.out⟩, Below.alloc HXE.out HXE.out.size _⟩ | exact .inl ⟨rfl, HNO.out, Below.alloc HXE.out HXE.out.size _⟩
      have d_j0 : decide (job < 0) = false := decide_eq_false h_j0
      by_cases h_jl : (s.jobs.length : Int) < job
      · have HNO : Hid (¬ RightP c s) := Lib.hid fun h => by have := (h.node q _ HNK.out).jl; (try dsimp only at this); omega
        have d_jl : decide ((s.jobs.length : Int) < job) = true := decide_eq_true h_jl
        clear h_jl
        go_wp2
        go_ret
        first | exact ⟨false, rfl, ⟨(fun h => by cases h), fun h => absurd h HNO.out⟩, Below.alloc HXE.out HXE.out.size _⟩ | exact .inl ⟨rfl, HNO.out, Below.alloc HXE.out HXE.out.size _⟩
      have d_jl : decide ((s.jobs.length : Int) < job) = false := decide_eq_false h_jl
      cases mv
      · have HNX2 := Lib.hid (HNX.out ⟨by show 1 ≤ ver; omega, by show ver ≤ 9; omega, by show 0 ≤ job; omega, by show job ≤ _; omega, fun h => by cases h⟩)
        clear h_v1 h_v9 h_j0 h_jl HNX
        go_wp2_with fail
        go_roundg (s.nodes.length - (q + 1))
        case measure => have := HLT.out; omega
        case rel => exact ⟨q + 1, by go_num, HLT.out, rfl, Lib.hid ⟨Below.alloc HXR.out HXR.out.size _, HNX2.out⟩⟩
      cases up
      · have HNO : Hid (¬ RightP c s) := Lib.hid fun h => by have := (h.node q _ HNK.out).mv rfl; cases this.1
        clear h_v1 h_v9 h_j0 h_jl HNX
        go_wp2
        go_ret
        first | exact ⟨false, rfl, ⟨(fun h => by cases h), fun h => absurd h HNO.out⟩, Below.alloc HXE.out HXE.out.size _⟩ | exact .inl ⟨rfl, HNO.out, Below.alloc HXE.out HXE.out.size _⟩
      cases cd
      · have HNO : Hid (¬ RightP c s) := Lib.hid fun h => by have := (h.node q _ HNK.out).mv rfl; cases this.2.1
        clear h_v1 h_v9 h_j0 h_jl HNX
        go_wp2
        go_ret
        first | exact ⟨false, rfl, ⟨(fun h => by cases h), fun h => absurd h HNO.out⟩, Below.alloc HXE.out HXE.out.size _⟩ | exact .inl ⟨rfl, HNO.out, Below.alloc HXE.out HXE.out.size _⟩
      by_cases hj0 : job = 0
      · have e0 : (job == 0) = true := by rw [beq_iff_eq]; exact hj0
        have HNX2 := Lib.hid (HNX.out ⟨by show 1 ≤ ver; omega, by show ver ≤ 9; omega, by show 0 ≤ job; omega, by show job ≤ _; omega, fun _ => ⟨rfl, rfl, hj0⟩⟩)
        clear hj0 h_v1 h_v9 h_j0 h_jl HNX
        go_wp2_with fail
        go_roundg (s.nodes.length - (q + 1))
        case measure => have := HLT.out; omega
        case rel => exact ⟨q + 1, by go_num, HLT.out, rfl, Lib.hid ⟨Below.alloc HXR.out HXR.out.size _, HNX2.out⟩⟩
      · have e0 : (job == 0) = false := by rw [beq_eq_false_iff_ne]; exact hj0
        have HNO : Hid (¬ RightP c s) := Lib.hid fun h => by have := (h.node q _ HNK.out).mv rfl; exact hj0 this.2.2
        clear hj0 h_v1 h_v9 h_j0 h_jl HNX
        go_wp2
        go_ret
        first | exact ⟨false, rfl, ⟨(fun h => by cases h), fun h => absurd h HNO.out⟩, Below.alloc HXE.out HXE.out.size _⟩ | exact .inl ⟨rfl, HNO.out, Below.alloc HXE.out HXE.out.size _⟩
    · have d1 : decide ((q : Int) < (s.nodes.length : Int)) = false := decide_eq_false (by omega)
      have d1' : decide (q < s.nodes.length) = false := decide_eq_false hlt
      obtain rfl : q = s.nodes.length := by omega
      have HND : Hid (∀ (i : Nat) n, s.nodes[i]? = some n → NodeP s n) := Lib.hid fun i n hi => HR.out.2 i n (List.getElem?_eq_some_iff.1 hi).1 hi
      have HXr := Lib.hid HR.out.1
      have HVR : Hid (∀ (i : Nat) (n : Nd), s.nodes[i]? = some n → 1 ≤ n.version) := Lib.hid fun i n hi => (HND.out i n hi).v1
      clear HR hlt
      obtain ⟨wz, hwz⟩ : ∃ wz, wz = wr := ⟨_, rfl⟩
      go_wp2_with fail
      rw [← hwz]
      rw [← hwz] at HXr
      clear s0 s1 hwz
      obtain ⟨qn, hqn⟩ : ∃ qn : Nat, c.queues = (qn : Int) := ⟨c.queues.toNat, by have := HM2.out; omega⟩
      have HQN := Lib.hid hqn
      clear hqn d1 d1'
      go_loopg [7] qn (fun gg i wr => ∃ (q : Nat), i = .int .i64 q ∧ q ≤ qn ∧ gg = qn - q ∧ Hid (Ext w1 wr ∧ ∀ i : Nat, i < q → (drainsS s (i : Int) : Int) ≤ c.quota))
      case atStart => exact ⟨0, rfl, Nat.zero_le _, by omega, Lib.hid ⟨HXr.out, fun i h => absurd h (Nat.not_lt_zero i)⟩⟩
      case round =>
        obtain ⟨q, rfl, hq, rfl, HR⟩ := hrel
        have k1 : wr.cell? ⟨w.heap.size, 1, none⟩ = some (.int .i64 qn) := by rw [← HQN.out]; exact (HC1.out.ext HR.out.1).cell 1
        by_cases hlt : q < qn
        · have d1 : decide ((q : Int) < (qn : Int)) = true := decide_eq_true (by omega)
          have d1' : decide (q < qn) = true := decide_eq_true hlt
          have HLT := Lib.hid hlt
          have HXR := Lib.hid (HX1.out.trans HR.out.1)
          have hw1 : wrap64 ((q : Int) + 1) = (q : Int) + 1 := IntWalk.wrap64_in _ (by have := HM2.out; have := HQN.out; omega)
          have s0 : wr.cell? ⟨w.heap.size + 1, 0, none⟩ = some (.slice An s.nodes.length cn) := (HS1.out.ext HR.out.1).cell 0
          have s1 : wr.cell? ⟨w.heap.size + 1, 1, none⟩ = some (.slice Aj s.jobs.length cj) := (HS1.out.ext HR.out.1).cell 1
          have s2 : wr.cell? ⟨w.heap.size + 1, 2, none⟩ = some (.int .i64 s.goal) := (HS1.out.ext HR.out.1).cell 2
          have s3 : wr.cell? ⟨w.heap.size + 1, 3, none⟩ = some (.int .i64 s.prior) := (HS1.out.ext HR.out.1).cell 3
          have s4 : wr.cell? ⟨w.heap.size + 1, 4, none⟩ = some (.int .i64 s.mode) := (HS1.out.ext HR.out.1).cell 4
          have s5 : wr.cell? ⟨w.heap.size + 1, 5, none⟩ = some (.int .i64 s.term) := (HS1.out.ext HR.out.1).cell 5
          have k2 : wr.cell? ⟨w.heap.size, 2, none⟩ = some (.int .i64 c.quota) := (HC1.out.ext HR.out.1).cell 2
          have HK2 : Hid (∀ w', Ext wr w' → w'.cell? ⟨w.heap.size, 2, none⟩ = some (.int .i64 c.quota)) := Lib.hid fun w' h => (HC1.out.ext (HR.out.1.trans h)).cell 2
          generalize hD : (drainsS s (q : Int) : Int) = D at *
          have HDQ : Hid (∀ w', Ext w w' → Calls Tryd.prog 15 #[.agg #[.slice An s.nodes.length cn, .slice Aj s.jobs.length cj, .int .i64 s.goal, .int .i64 s.prior, .int .i64 s.mode, .int .i64 s.term], .int .i64 (q : Int)] w' fun e w'' => e = .returned (.int .i64 D) ∧ Ext w' w'') := Lib.hid (by rw [← hD]; exact fun w' h => HD.out w' (q : Int) h)
          go_wp2_with fail
          by_cases hov : c.quota < D
          · have d2 : decide (c.quota < D) = true := decide_eq_true hov
            have HNO : Hid (¬ RightP c s) := Lib.hid fun h => by
              have := h.drains q (by have := HQN.out; have := HLT.out; omega)
              omega
            clear hov
            go_region_with ((go_at_call 15); (first | (refine (HDQ.out _ HXR.out).mono ?_) | (refine (HDQ.out _ (ext_drew9 HXR.out)).mono ?_)); (rintro e9 w9 ⟨rfl, hx9⟩); (have hx9' : Ext wr w9 := Ext.of_drew hx9); (have k9 := HK2.out w9 hx9'))
            all_goals
              have HX9 := Lib.hid (HXR.out.trans hx9')
              clear hx9 hx9' k9
              go_wp2
              go_ret
              first | exact ⟨false, rfl, ⟨(fun h => by cases h), fun h => absurd h HNO.out⟩, HX9.out⟩ | exact .inl ⟨rfl, HNO.out, HX9.out⟩
          · have d2 : decide (c.quota < D) = false := decide_eq_false hov
            have HLE : Hid (∀ i : Nat, i < q + 1 → (drainsS s (i : Int) : Int) ≤ c.quota) := Lib.hid fun i hi => by
              rcases Nat.lt_or_ge i q with h' | h'
              · exact HR.out.2 i h'
              · obtain rfl : i = q := by omega
                omega
            clear hov
            go_region_with ((go_at_call 15); (first | (refine (HDQ.out _ HXR.out).mono ?_) | (refine (HDQ.out _ (ext_drew9 HXR.out)).mono ?_)); (rintro e9 w9 ⟨rfl, hx9⟩); (have hx9' : Ext wr w9 := Ext.of_drew hx9); (have k9 := HK2.out w9 hx9'))
            all_goals
              have HX9 := Lib.hid (HR.out.1.trans hx9')
              clear hx9 hx9' k9
              go_wp2
              go_roundg (qn - (q + 1))
              case measure => have := HLT.out; omega
              case rel => exact ⟨q + 1, by go_num, HLT.out, rfl, Lib.hid ⟨HX9.out, HLE.out⟩⟩
        · have d1 : decide ((q : Int) < (qn : Int)) = false := decide_eq_false (by omega)
          have d1' : decide (q < qn) = false := decide_eq_false hlt
          obtain rfl : q = qn := by omega
          have HDR : Hid (∀ i : Nat, (i : Int) < c.queues → (drainsS s (i : Int) : Int) ≤ c.quota) := Lib.hid fun i hi => HR.out.2 i (by have := HQN.out; omega)
          have HXq := Lib.hid HR.out.1
          clear HR hlt
          obtain ⟨wz, hwz⟩ : ∃ wz, wz = wr := ⟨_, rfl⟩
          go_wp2_with fail
          rw [← hwz]
          rw [← hwz] at HXq
          clear k1 hwz d1 d1'
          go_loopg [8] s.jobs.length (fun gg i wr => ∃ (q : Nat), i = .int .i64 q ∧ q ≤ s.jobs.length ∧ gg = s.jobs.length - q ∧ Hid (Ext w1 wr ∧ ∀ (i : Nat) j, i < q → s.jobs[i]? = some j → JobP c s i j))
          case atStart => exact ⟨0, rfl, Nat.zero_le _, by omega, Lib.hid ⟨HXq.out, fun i n h => absurd h (Nat.not_lt_zero i)⟩⟩
          case round =>
            obtain ⟨q, rfl, hq, rfl, HR⟩ := hrel
            have s1 : wr.cell? ⟨w.heap.size + 1, 1, none⟩ = some (.slice Aj s.jobs.length cj) := (HS1.out.ext HR.out.1).cell 1
            by_cases hlt : q < s.jobs.length
            · have d1 : decide ((q : Int) < (s.jobs.length : Int)) = true := decide_eq_true (by omega)
              have d1' : decide (q < s.jobs.length) = true := decide_eq_true hlt
              obtain ⟨j, hj⟩ : ∃ j, s.jobs[q]? = some j := ⟨_, List.getElem?_eq_getElem hlt⟩
              obtain ⟨bk, o, rfl, hb, hat⟩ := HJJ.out q j hj
              obtain ⟨c0, c1, c2, c3, c4, c5, c6, c7, c8, c9, c10, c11⟩ := hat.ext (HX1.out.trans HR.out.1) hb
              have x1 : (0 : Int) ≤ (q : Int) ∧ (q : Int) < (s.jobs.length : Int) := by omega
              have hlw : w.heap.size + 1 < wr.heap.size := (HS1.out.ext HR.out.1).lt
              have HJK := Lib.hid hj
              have HLT := Lib.hid hlt
              have HNX : Hid (JobP c s q j → ∀ (i : Nat) n, i < q + 1 → s.jobs[i]? = some n → JobP c s i n) := Lib.hid fun hp i m hi hm => by
                rcases Nat.lt_or_ge i q with h' | h'
                · exact HR.out.2 i m h' hm
                · obtain rfl : i = q := by omega
                  rw [HJK.out] at hm
                  cases hm
                  exact hp
              obtain ⟨w3, hw3⟩ : ∃ W, W = wr.alloc (.cells #[.int .i64 j.queue, .int .i64 j.prio, .int .i64 j.least, .int .i64 j.most, .int .i64 j.work, .int .i64 j.pin, .int .i64 j.phase, .int .i64 j.inc, .int .i64 j.nodes, .int .i64 j.since, .int .i64 j.til, .int .i64 j.epoch] 52) := ⟨_, rfl⟩
              have hx3 : Ext wr w3 := by rw [hw3]; exact (Below.refl _ _).alloc (Nat.le_refl _) _
              obtain ⟨gj, hgj⟩ : ∃ g, g = wr.heap.size := ⟨_, rfl⟩
              have HBJ : Hid (Blk w3 gj 52 #[.int .i64 j.queue, .int .i64 j.prio, .int .i64 j.least, .int .i64 j.most, .int .i64 j.work, .int .i64 j.pin, .int .i64 j.phase, .int .i64 j.inc, .int .i64 j.nodes, .int .i64 j.since, .int .i64 j.til, .int .i64 j.epoch]) := Lib.hid (by rw [hw3, hgj]; exact Blk.new _ _ _)
              have HX3 := Lib.hid (HR.out.1.trans hx3)
              clear hj hat hb HR hx3 hlt
              go_upto_region 18 with (fail)
              rw [← hw3, ← hgj]
              clear hw3 hgj hlw c0 c1 c2 c3 c4 c5 c6 c7 c8 c9 c10 c11 s1
              have b0 : w3.cell? ⟨gj, 0, none⟩ = some (.int .i64 j.queue) := HBJ.out.cell 0
              have b1 : w3.cell? ⟨gj, 1, none⟩ = some (.int .i64 j.prio) := HBJ.out.cell 1
              have b2 : w3.cell? ⟨gj, 2, none⟩ = some (.int .i64 j.least) := HBJ.out.cell 2
              have b3 : w3.cell? ⟨gj, 3, none⟩ = some (.int .i64 j.most) := HBJ.out.cell 3
              have b4 : w3.cell? ⟨gj, 4, none⟩ = some (.int .i64 j.work) := HBJ.out.cell 4
              have b5 : w3.cell? ⟨gj, 5, none⟩ = some (.int .i64 j.pin) := HBJ.out.cell 5
              have b6 : w3.cell? ⟨gj, 6, none⟩ = some (.int .i64 j.phase) := HBJ.out.cell 6
              have b7 : w3.cell? ⟨gj, 7, none⟩ = some (.int .i64 j.inc) := HBJ.out.cell 7
              have b8 : w3.cell? ⟨gj, 8, none⟩ = some (.int .i64 j.nodes) := HBJ.out.cell 8
              have b9 : w3.cell? ⟨gj, 9, none⟩ = some (.int .i64 j.since) := HBJ.out.cell 9
              have b10 : w3.cell? ⟨gj, 10, none⟩ = some (.int .i64 j.til) := HBJ.out.cell 10
              have b11 : w3.cell? ⟨gj, 11, none⟩ = some (.int .i64 j.epoch) := HBJ.out.cell 11
              have k0 : w3.cell? ⟨w.heap.size, 0, none⟩ = some (.int .i64 c.nodes) := (HC1.out.ext HX3.out).cell 0
              have k1 : w3.cell? ⟨w.heap.size, 1, none⟩ = some (.int .i64 c.queues) := (HC1.out.ext HX3.out).cell 1
              have k2 : w3.cell? ⟨w.heap.size, 2, none⟩ = some (.int .i64 c.quota) := (HC1.out.ext HX3.out).cell 2
              have k3 : w3.cell? ⟨w.heap.size, 3, none⟩ = some (.int .i64 c.wave) := (HC1.out.ext HX3.out).cell 3
              have k4 : w3.cell? ⟨w.heap.size, 4, none⟩ = some (.int .i64 c.lease) := (HC1.out.ext HX3.out).cell 4
              have k5 : w3.cell? ⟨w.heap.size, 5, none⟩ = some (.int .i64 c.retry) := (HC1.out.ext HX3.out).cell 5
              have k6 : w3.cell? ⟨w.heap.size, 6, none⟩ = some (.int .i64 c.deadline) := (HC1.out.ext HX3.out).cell 6
              have k7 : w3.cell? ⟨w.heap.size, 7, none⟩ = some (.int .i64 c.room) := (HC1.out.ext HX3.out).cell 7
              have k8 : w3.cell? ⟨w.heap.size, 8, none⟩ = some (.int .i64 c.disk) := (HC1.out.ext HX3.out).cell 8
              go_wp2_with fail
              refine (HAS.out j _).mono ?_
              rintro e4 w4 ⟨rfl, hx4⟩
              have HX4 := Lib.hid (HX3.out.trans hx4)
              have HB4 := Lib.hid (HBJ.out.ext hx4)
              have HXE := Lib.hid (Ext.trans HX1.out HX4.out)
              clear hx4 HX3 HBJ b0 b1 b2 b3 b4 b5 b6 b7 b8 b9 b10 b11 k0 k1 k2 k3 k4 k5 k6 k7 k8
              have b6 : w4.cell? ⟨gj, 6, none⟩ = some (.int .i64 j.phase) := HB4.out.cell 6
              have b7 : w4.cell? ⟨gj, 7, none⟩ = some (.int .i64 j.inc) := HB4.out.cell 7
              have b8 : w4.cell? ⟨gj, 8, none⟩ = some (.int .i64 j.nodes) := HB4.out.cell 8
              have b9 : w4.cell? ⟨gj, 9, none⟩ = some (.int .i64 j.since) := HB4.out.cell 9
              have b10 : w4.cell? ⟨gj, 10, none⟩ = some (.int .i64 j.til) := HB4.out.cell 10
              have b11 : w4.cell? ⟨gj, 11, none⟩ = some (.int .i64 j.epoch) := HB4.out.cell 11
              cases ha : askedJ c j
              · have HNO : Hid (¬ RightP c s) := Lib.hid fun h => by
                  have := (h.job q j HJK.out).asked
                  rw [ha] at this
                  cases this
                go_wp2
                go_ret
                first | exact ⟨false, rfl, ⟨(fun h => by cases h), fun h => absurd h HNO.out⟩, HXE.out⟩ | exact .inl ⟨rfl, HNO.out, HXE.out⟩
              by_cases h_p0 : j.phase < 0
              · have HNO : Hid (¬ RightP c s) := Lib.hid fun h => by have := (h.job q j HJK.out).p0; omega
                have d_p0 : decide (j.phase < 0) = true := decide_eq_true h_p0
                clear h_p0
                go_wp2
                go_ret
                first | exact ⟨false, rfl, ⟨(fun h => by cases h), fun h => absurd h HNO.out⟩, HXE.out⟩ | exact .inl ⟨rfl, HNO.out, HXE.out⟩
              have d_p0 : decide (j.phase < 0) = false := decide_eq_false h_p0
              by_cases h_p4 : 4 < j.phase
              · have HNO : Hid (¬ RightP c s) := Lib.hid fun h => by have := (h.job q j HJK.out).p4; omega
                have d_p4 : decide (4 < j.phase) = true := decide_eq_true h_p4
                clear h_p4
                go_wp2
                go_ret
                first | exact ⟨false, rfl, ⟨(fun h => by cases h), fun h => absurd h HNO.out⟩, HXE.out⟩ | exact .inl ⟨rfl, HNO.out, HXE.out⟩
              have d_p4 : decide (4 < j.phase) = false := decide_eq_false h_p4
              go_wp2_with fail
              refine (HNB.out _ _).mono ?_
              rintro e_ w_ ⟨rfl, rfl⟩
              cases n_inc : inR j.inc 0 1000000
              · have HNO : Hid (¬ RightP c s) := Lib.hid fun h => by
                  have := inR_iff.2 ⟨(h.job q j HJK.out).i0, (h.job q j HJK.out).i9⟩
                  rw [n_inc] at this
                  cases this
                go_wp2
                go_ret
                first | exact ⟨false, rfl, ⟨(fun h => by cases h), fun h => absurd h HNO.out⟩, HXE.out⟩ | exact .inl ⟨rfl, HNO.out, HXE.out⟩
              go_wp2_with fail
              refine (HNB.out _ _).mono ?_
              rintro e_ w_ ⟨rfl, rfl⟩
              cases n_since : inR j.since 0 1000000
              · have HNO : Hid (¬ RightP c s) := Lib.hid fun h => by
                  have := inR_iff.2 ⟨(h.job q j HJK.out).s0, (h.job q j HJK.out).s9⟩
                  rw [n_since] at this
                  cases this
                go_wp2
                go_ret
                first | exact ⟨false, rfl, ⟨(fun h => by cases h), fun h => absurd h HNO.out⟩, HXE.out⟩ | exact .inl ⟨rfl, HNO.out, HXE.out⟩
              go_wp2_with fail
              refine (HNB.out _ _).mono ?_
              rintro e_ w_ ⟨rfl, rfl⟩
              cases n_til : inR j.til 0 1000000
              · have HNO : Hid (¬ RightP c s) := Lib.hid fun h => by
                  have := inR_iff.2 ⟨(h.job q j HJK.out).t0, (h.job q j HJK.out).t9⟩
                  rw [n_til] at this
                  cases this
                go_wp2
                go_ret
                first | exact ⟨false, rfl, ⟨(fun h => by cases h), fun h => absurd h HNO.out⟩, HXE.out⟩ | exact .inl ⟨rfl, HNO.out, HXE.out⟩
              by_cases h_e0 : j.epoch < 0
              · have HNO : Hid (¬ RightP c s) := Lib.hid fun h => by have := (h.job q j HJK.out).e0; omega
                have d_e0 : decide (j.epoch < 0) = true := decide_eq_true h_e0
                clear h_e0
                go_wp2
                go_ret
                first | exact ⟨false, rfl, ⟨(fun h => by cases h), fun h => absurd h HNO.out⟩, HXE.out⟩ | exact .inl ⟨rfl, HNO.out, HXE.out⟩
              have d_e0 : decide (j.epoch < 0) = false := decide_eq_false h_e0
              by_cases h_e9 : j.inc < j.epoch
              · have HNO : Hid (¬ RightP c s) := Lib.hid fun h => by have := (h.job q j HJK.out).e9; omega
                have d_e9 : decide (j.inc < j.epoch) = true := decide_eq_true h_e9
                clear h_e9
                go_wp2
                go_ret
                first | exact ⟨false, rfl, ⟨(fun h => by cases h), fun h => absurd h HNO.out⟩, HXE.out⟩ | exact .inl ⟨rfl, HNO.out, HXE.out⟩
              have d_e9 : decide (j.inc < j.epoch) = false := decide_eq_false h_e9
              have HJQ : Hid (askedJ c j = true ∧ (0 ≤ j.phase ∧ j.phase ≤ 4) ∧ (0 ≤ j.inc ∧ j.inc ≤ 1000000) ∧ (0 ≤ j.since ∧ j.since ≤ 1000000) ∧ (0 ≤ j.til ∧ j.til ≤ 1000000) ∧ (0 ≤ j.epoch ∧ j.epoch ≤ j.inc)) := Lib.hid ⟨ha, by omega, inR_iff.1 n_inc, inR_iff.1 n_since, inR_iff.1 n_til, by omega⟩
              clear ha n_inc n_since n_til h_p0 h_p4 h_e0 h_e9
              go_upto_region 20 with (fail)
              obtain ⟨bp, hbp⟩ : ∃ bp : Bool, bp = (decide (1 ≤ j.phase) && decide (j.phase ≤ 3)) := ⟨_, rfl⟩
              have HBP := Lib.hid hbp
              have HCT1 := Lib.hid (And.intro (congrArg Value.bool hbp.symm) (rfl : w4 = w4))
              clear hbp
              go_cut [191] (fun t wx => t = .bool bp ∧ wx = w4)
              case first =>
                by_cases h1 : 1 ≤ j.phase
                · have d3 : decide (1 ≤ j.phase) = true := decide_eq_true h1
                  by_cases h3 : j.phase ≤ 3
                  · have d4 : decide (j.phase ≤ 3) = true := decide_eq_true h3
                    have HB1 : Hid (Value.bool true = .bool bp) := Lib.hid (by rw [HBP.out, d3, d4]; rfl)
                    clear h1 h3 HCT1
                    go_wp2_with fail
                    go_meet
                    exact ⟨HB1.out, rfl⟩
                  · have d4 : decide (j.phase ≤ 3) = false := decide_eq_false h3
                    have HB1 : Hid (Value.bool false = .bool bp) := Lib.hid (by rw [HBP.out, d3, d4]; rfl)
                    clear h1 h3 HCT1
                    go_wp2_with fail
                    go_meet
                    exact ⟨HB1.out, rfl⟩
                · have d3 : decide (1 ≤ j.phase) = false := decide_eq_false h1
                  have HB1 : Hid (Value.bool false = .bool bp) := Lib.hid (by rw [HBP.out, d3]; rfl)
                  clear h1 HCT1
                  go_wp2_with fail
                  go_meet
                  exact ⟨HB1.out, rfl⟩
              case rest =>
                obtain ⟨rfl, rfl⟩ := hcut
                clear HCT1
                go_upto_if 191 with (fail)
                go_cut [] (fun wx => RrCut wc s j gj wx)
                case first =>
                  cases bp
                  · have hnp : ¬ (1 ≤ j.phase ∧ j.phase ≤ 3) := fun h => by have := HBP.out; simp [h.1, h.2] at this
                    have HNP := Lib.hid hnp
                    clear hnp
                    by_cases hz : j.nodes = 0
                    · have ez : (j.nodes != 0) = false := by rw [hz]; rfl
                      have HCT : Hid (RrCut wc s j gj wc) := Lib.hid ⟨Ext.refl _, HB4.out, ⟨fun h1 h3 => absurd (And.intro h1 h3) (by exact HNP.out), fun _ => hz⟩⟩
                      clear hz
                      go_wp2_with fail
                      go_meet
                      exact HCT.out
                    · have ez : (j.nodes != 0) = true := by rw [bne_iff_ne]; exact hz
                      have HNO : Hid (¬ RightP c s) := Lib.hid fun h => hz ((h.job q j HJK.out).none_ (by exact HNP.out))
                      clear hz
                      go_wp2
                      go_ret
                      first | exact ⟨false, rfl, ⟨(fun h => by cases h), fun h => absurd h HNO.out⟩, HXE.out⟩ | exact .inl ⟨rfl, HNO.out, HXE.out⟩
                  · have hp : 1 ≤ j.phase ∧ j.phase ≤ 3 := by have := HBP.out; simpa using this.symm
                    have HP1 := Lib.hid hp.1
                    have HP3 := Lib.hid hp.2
                    clear hp
                    have s0 : wc.cell? ⟨w.heap.size + 1, 0, none⟩ = some (.slice An s.nodes.length cn) := (HS1.out.ext HX4.out).cell 0
                    have s1 : wc.cell? ⟨w.heap.size + 1, 1, none⟩ = some (.slice (some ⟨bk, o, none⟩) s.jobs.length cj) := (HS1.out.ext HX4.out).cell 1
                    have s2 : wc.cell? ⟨w.heap.size + 1, 2, none⟩ = some (.int .i64 s.goal) := (HS1.out.ext HX4.out).cell 2
                    have s3 : wc.cell? ⟨w.heap.size + 1, 3, none⟩ = some (.int .i64 s.prior) := (HS1.out.ext HX4.out).cell 3
                    have s4 : wc.cell? ⟨w.heap.size + 1, 4, none⟩ = some (.int .i64 s.mode) := (HS1.out.ext HX4.out).cell 4
                    have s5 : wc.cell? ⟨w.heap.size + 1, 5, none⟩ = some (.int .i64 s.term) := (HS1.out.ext HX4.out).cell 5
                    have b0 : wc.cell? ⟨gj, 0, none⟩ = some (.int .i64 j.queue) := HB4.out.cell 0
                    have b1 : wc.cell? ⟨gj, 1, none⟩ = some (.int .i64 j.prio) := HB4.out.cell 1
                    have b2 : wc.cell? ⟨gj, 2, none⟩ = some (.int .i64 j.least) := HB4.out.cell 2
                    have b3 : wc.cell? ⟨gj, 3, none⟩ = some (.int .i64 j.most) := HB4.out.cell 3
                    have b4 : wc.cell? ⟨gj, 4, none⟩ = some (.int .i64 j.work) := HB4.out.cell 4
                    have b5 : wc.cell? ⟨gj, 5, none⟩ = some (.int .i64 j.pin) := HB4.out.cell 5
                    go_wp2_with fail
                    refine (HFT.out j j.nodes _ HN6.out HVR.out HXE.out).mono ?_
                    rintro e5 w5 ⟨bf, rfl, hbf, hx5⟩
                    have HX5 := Lib.hid hx5
                    have HB5 := Lib.hid (HB4.out.ext hx5)
                    have HXE5 := Lib.hid (Ext.trans HXE.out hx5)
                    have HBF := Lib.hid hbf
                    clear hbf hx5 s0 s1 s2 s3 s4 s5 b0 b1 b2 b3 b4 b5
                    cases bf
                    · have HNO : Hid (¬ RightP c s) := Lib.hid fun h => by have := HBF.out.2 ((h.job q j HJK.out).fits HP1.out HP3.out); cases this
                      go_wp2
                      go_ret
                      first | exact ⟨false, rfl, ⟨(fun h => by cases h), fun h => absurd h HNO.out⟩, HXE5.out⟩ | exact .inl ⟨rfl, HNO.out, HXE5.out⟩
                    have HCT : Hid (RrCut wc s j gj w5) := Lib.hid ⟨HX5.out, HB5.out, ⟨fun _ _ => HBF.out.1 rfl, fun h => absurd ⟨HP1.out, HP3.out⟩ h⟩⟩
                    go_wp2_with fail
                    go_meet
                    exact HCT.out
                case rest =>
                  have HX5 := Lib.hid (HX4.out.trans hcut.ext)
                  have HB5 := Lib.hid hcut.blk
                  have HFN := Lib.hid hcut.fits
                  clear hcut b6 b7 b8 b9 b10 b11
                  obtain ⟨w5, hw5⟩ : ∃ W, W = wc := ⟨_, rfl⟩
                  rw [← hw5] at HX5 HB5
                  go_wp2_with fail
                  rw [← hw5]
                  clear hw5
                  go_loopg [10] s.nodes.length (fun gg i wr => ∃ (q2 : Nat), i = .int .i64 q2 ∧ q2 ≤ s.nodes.length ∧ gg = s.nodes.length - q2 ∧ Hid (Ext w5 wr ∧ ∀ (i : Nat) n, i < q2 → s.nodes[i]? = some n → OwnP q j i n))
                  case atStart => exact ⟨0, rfl, Nat.zero_le _, by omega, Lib.hid ⟨Ext.refl _, fun i n h => absurd h (Nat.not_lt_zero i)⟩⟩
                  case round =>
                    obtain ⟨q2, rfl, hq2, rfl, HR⟩ := hrel
                    have s0 : wr.cell? ⟨w.heap.size + 1, 0, none⟩ = some (.slice An s.nodes.length cn) := (HS1.out.ext (HX5.out.trans HR.out.1)).cell 0
                    by_cases hlt2 : q2 < s.nodes.length
                    · have d2 : decide ((q2 : Int) < (s.nodes.length : Int)) = true := decide_eq_true (by omega)
                      have d2' : decide (q2 < s.nodes.length) = true := decide_eq_true hlt2
                      obtain ⟨⟨up, cd, mv, ver, job⟩, hnk⟩ : ∃ n, s.nodes[q2]? = some n := ⟨_, List.getElem?_eq_getElem hlt2⟩
                      obtain ⟨bn, on, rfl, hbn, hatn⟩ := HNN.out q2 _ hnk
                      obtain ⟨n0, n1, n2, n3, n4⟩ := hatn.ext (HX1.out.trans (HX5.out.trans HR.out.1)) hbn
                      dsimp only at n0 n1 n2 n3 n4
                      have b8 : wr.cell? ⟨gj, 8, none⟩ = some (.int .i64 j.nodes) := (HB5.out.ext HR.out.1).cell 8
                      have x2 : (0 : Int) ≤ (q2 : Int) ∧ (q2 : Int) < (s.nodes.length : Int) := by omega
                      have hw1 : wrap64 ((q : Int) + 1) = (q : Int) + 1 := IntWalk.wrap64_in _ (by have := HJ24.out; have := HLT.out; omega)
                      have HNK := Lib.hid hnk
                      have HLT2 := Lib.hid hlt2
                      have HXR := Lib.hid HR.out.1
                      have HXE2 := Lib.hid (HX1.out.trans (HX5.out.trans HR.out.1))
                      have HHX := Lib.hid fun W => HHS.out j.nodes q2 (by have := HN6.out; omega) W
                      have HOX : Hid (OwnP q j q2 ⟨up, cd, mv, ver, job⟩ → ∀ (i : Nat) n, i < q2 + 1 → s.nodes[i]? = some n → OwnP q j i n) := Lib.hid fun hp i m hi hm => by
                        rcases Nat.lt_or_ge i q2 with h' | h'
                        · exact HR.out.2 i m h' hm
                        · obtain rfl : i = q2 := by omega
                          rw [HNK.out] at hm
                          cases hm
                          exact hp
                      have HRO : Hid (RightP c s → (job = (q : Int) + 1 ↔ hasS j.nodes q2 = true) ∧ (job = (q : Int) + 1 → up = true ∧ mv = false)) := Lib.hid fun h => ⟨(h.job q j HJK.out).own q2 _ HNK.out, (h.job q j HJK.out).host q2 _ HNK.out⟩
                      clear hnk hlt2 hatn hbn HR
                      obtain ⟨hs, hhs⟩ : ∃ hs, hs = hasS j.nodes q2 := ⟨_, rfl⟩
                      rw [← hhs] at HRO HHX
                      have HHE := Lib.hid hhs
                      clear hhs
                      by_cases ho : job = (q : Int) + 1
                      · have eo : (job == (q : Int) + 1) = true := by rw [beq_iff_eq]; exact ho
                        cases hs
                        · have HNO : Hid (¬ RightP c s) := Lib.hid fun h => by have := (HRO.out h).1.1 ho; cases this
                          clear ho HOX
                          go_wp2_with fail
                          refine (HHX.out _).mono ?_
                          rintro e7 w7 ⟨rfl, rfl⟩
                          go_wp2
                          go_ret
                          first | exact ⟨false, rfl, ⟨(fun h => by cases h), fun h => absurd h HNO.out⟩, HXE2.out⟩ | exact .inl ⟨rfl, HNO.out, HXE2.out⟩
                        cases up
                        · have HNO : Hid (¬ RightP c s) := Lib.hid fun h => by have := ((HRO.out h).2 ho).1; cases this
                          clear ho HOX
                          go_wp2_with fail
                          refine (HHX.out _).mono ?_
                          rintro e7 w7 ⟨rfl, rfl⟩
                          go_wp2
                          go_ret
                          first | exact ⟨false, rfl, ⟨(fun h => by cases h), fun h => absurd h HNO.out⟩, HXE2.out⟩ | exact .inl ⟨rfl, HNO.out, HXE2.out⟩
                        cases mv
                        · have HOX2 := Lib.hid (HOX.out ⟨⟨fun _ => HHE.out.symm, fun _ => ho⟩, fun _ => ⟨rfl, rfl⟩⟩)
                          clear ho HOX
                          go_wp2_with fail
                          refine (HHX.out _).mono ?_
                          rintro e7 w7 ⟨rfl, rfl⟩
                          go_wp2_with fail
                          go_roundg (s.nodes.length - (q2 + 1))
                          case measure => have := HLT2.out; omega
                          case rel => exact ⟨q2 + 1, by go_num, HLT2.out, rfl, Lib.hid ⟨HXR.out, HOX2.out⟩⟩
                        · have HNO : Hid (¬ RightP c s) := Lib.hid fun h => by have := ((HRO.out h).2 ho).2; cases this
                          clear ho HOX
                          go_wp2_with fail
                          refine (HHX.out _).mono ?_
                          rintro e7 w7 ⟨rfl, rfl⟩
                          go_wp2
                          go_ret
                          first | exact ⟨false, rfl, ⟨(fun h => by cases h), fun h => absurd h HNO.out⟩, HXE2.out⟩ | exact .inl ⟨rfl, HNO.out, HXE2.out⟩
                      · have eo : (job == (q : Int) + 1) = false := by rw [beq_eq_false_iff_ne]; exact ho
                        cases hs
                        · have HOX2 := Lib.hid (HOX.out ⟨⟨fun h => absurd h ho, fun h => by rw [← HHE.out] at h; cases h⟩, fun h => absurd h ho⟩)
                          clear ho HOX
                          go_wp2_with fail
                          refine (HHX.out _).mono ?_
                          rintro e7 w7 ⟨rfl, rfl⟩
                          go_wp2_with fail
                          go_roundg (s.nodes.length - (q2 + 1))
                          case measure => have := HLT2.out; omega
                          case rel => exact ⟨q2 + 1, by go_num, HLT2.out, rfl, Lib.hid ⟨HXR.out, HOX2.out⟩⟩
                        · have HNO : Hid (¬ RightP c s) := Lib.hid fun h => ho ((HRO.out h).1.2 rfl)
                          clear ho HOX
                          go_wp2_with fail
                          refine (HHX.out _).mono ?_
                          rintro e7 w7 ⟨rfl, rfl⟩
                          go_wp2
                          go_ret
                          first | exact ⟨false, rfl, ⟨(fun h => by cases h), fun h => absurd h HNO.out⟩, HXE2.out⟩ | exact .inl ⟨rfl, HNO.out, HXE2.out⟩
                    · have d2 : decide ((q2 : Int) < (s.nodes.length : Int)) = false := decide_eq_false (by omega)
                      have d2' : decide (q2 < s.nodes.length) = false := decide_eq_false hlt2
                      have hw1 : wrap64 ((q : Int) + 1) = (q : Int) + 1 := IntWalk.wrap64_in _ (by have := HJ24.out; have := HLT.out; omega)
                      have HJP : Hid (JobP c s q j) := Lib.hid (by
                        have own : ∀ (i : Nat) n, s.nodes[i]? = some n → OwnP q j i n := fun i n hi => HR.out.2 i n (by have := (List.getElem?_eq_some_iff.1 hi).1; omega) hi
                        have h := HJQ.out
                        exact ⟨h.1, h.2.1.1, h.2.1.2, h.2.2.1.1, h.2.2.1.2, h.2.2.2.1.1, h.2.2.2.1.2, h.2.2.2.2.1.1, h.2.2.2.2.1.2, h.2.2.2.2.2.1, h.2.2.2.2.2.2, HFN.out.1, HFN.out.2, fun i n hi => (own i n hi).1, fun i n hi => (own i n hi).2⟩)
                      have HNX2 := Lib.hid (HNX.out HJP.out)
                      have HX6 := Lib.hid (HX5.out.trans HR.out.1)
                      clear hlt2 hq2 HR HJP HNX
                      go_wp2_with fail
                      go_roundg (s.jobs.length - (q + 1))
                      case measure => have := HLT.out; omega
                      case rel => exact ⟨q + 1, by go_num, HLT.out, rfl, Lib.hid ⟨HX6.out, HNX2.out⟩⟩
            · have d1 : decide ((q : Int) < (s.jobs.length : Int)) = false := decide_eq_false (by omega)
              have d1' : decide (q < s.jobs.length) = false := decide_eq_false hlt
              have HY : Hid (RightP c s) := Lib.hid ⟨HM1.out, HNNN.out, HJ24.out, HG.out.1.1, HG.out.1.2, HG.out.2.1.1, HG.out.2.1.2, HG.out.2.2.1, HG.out.2.2.2, H4.out.1, H4.out.2, HND.out, fun k j hj => HR.out.2 k j (by have := (List.getElem?_eq_some_iff.1 hj).1; omega) hj, HDR.out⟩
              have HX6 := Lib.hid (HX1.out.trans HR.out.1)
              clear HR hlt hq
              go_wp2
              go_ret
              first | exact ⟨true, rfl, ⟨fun _ => HY.out, fun _ => rfl⟩, HX6.out⟩ | exact .inr ⟨rfl, HY.out, HX6.out⟩

end Go.Proofs.YtddhbokknbmdfaaDoor

/- The reference's layer 1: the number at a place. -/
namespace Go.Proofs.YtddhbokknbmdfaaDoor
open Go.RowKit

def GNRel (bs : List UInt8) (p : Nat) (n' s' i' : Value) : Prop :=
  ∃ (i acc st : Nat), i' = .int .i64 i ∧ n' = .int .i64 acc ∧ s' = .int .i64 st ∧ Hid (st = 128 ^ i) ∧ i ≤ 8 ∧ acc < 128 ^ i ∧ Hid (scanN (8 - i) (bs.drop (p + i)) i acc = getN (bs.drop p))

set_option maxRecDepth 100000 in
set_option maxHeartbeats 4000000 in
theorem RefGetNum_at (bs : List UInt8) (v : Value) (p : Nat) (w : World) (hr : Rd w v (bs.map B)) (hp63 : p < 9223372036854775808) :
    Calls Tryd.prog 52 #[v, .int .i64 p] w fun e w' => e = .returned (numAt bs p) ∧ Ext w w' := by
  obtain ⟨A, c, rfl, hlc, hcm, hcell⟩ := hr
  simp only [List.length_map] at *
  unfold maxLen at hcm
  by_cases hpl : p < bs.length
  · obtain ⟨b, o, rfl, hbl, hce⟩ := hcell (by omega)
    clear hcell
    go_enter Tryd.func52, Tryd.ntmps52
    go_wp2
    go_loop [7, 8, 9] (fun n' s' i' => GNRel bs p n' s' i') (fun _ _ i' => 8 - (intOf i').toNat)
    case atStart => exact ⟨0, 0, 1, rfl, rfl, rfl, rfl, by omega, by omega, rfl⟩
    case round =>
      obtain ⟨i, acc, st, rfl, rfl, rfl, hst, hi, hacc, hsc0⟩ := hrel
      have hsc := hsc0.out
      clear hsc0
      by_cases h8 : i < 8
      · by_cases hp : p + i < bs.length
        · have hc1 : w.cell? ⟨b, o + (p + i), none⟩ = some (B bs[p + i]) := hce (p + i) _ (by simp [hp])
          clear hce
          rw [show 8 - i = (7 - i) + 1 by omega, scanN_step i acc (drop_cons hp)] at hsc
          have hcl := bs[p + i].toNat_lt
          unfold B at hc1
          generalize bs[p + i].toNat = c at hc1 hsc hcl
          have hlt := group_lt i acc c h8 hacc
          have hl8 := pow128_le (show i + 1 ≤ 8 by omega)
          have hl7 := pow128_le (show i ≤ 7 by omega)
          have hst7 : st ≤ 562949953421312 := by have := hst.out; omega
          have hlen := fun hc => numB_group_len (c := c) hacc hc
          have hq : Hid (128 ^ i * (c % 128) = st * (c % 128)) := by unfold Hid; rw [hst.out]
          rw [hq.out] at hlt hsc hlen
          have hql : st * (c % 128) ≤ 71494644084506624 := Nat.le_trans (Nat.mul_le_mul hst7 (show c % 128 ≤ 127 by omega)) (by omega)
          have hqc : (st : Int) * ((c : Int) % 128) = ((st * (c % 128) : Nat) : Int) := by simp
          generalize st * (c % 128) = q at *
          have hw1 : IntKind.i64.wrap ((st : Int) * ((c : Int) % 128)) = (q : Int) := by rw [hqc]; exact IntWalk.i64_in _ (by omega)
          clear hqc
          generalize hN : acc + q = N at hsc hlt hlen
          have hNi : (acc : Int) + (q : Int) = (N : Int) := by omega
          have hw2 : IntKind.i64.wrap ((acc : Int) + (q : Int)) = (N : Int) := by rw [hNi]; exact IntWalk.i64_in _ (by omega)
          have HN := Lib.hid hN
          clear hN
          by_cases hc : 128 ≤ c
          · rw [if_pos hc] at hsc
            have hSC := Lib.hid hsc
            have HL := Lib.hid hlen
            clear hsc hlen
            clear hNi
            go_wp2
            refine ⟨⟨_, _, _, _, _, _, ⟨i + 1, N, st * 128, rfl, rfl, rfl, by unfold Hid; rw [hst.out, Nat.pow_succ], by omega, hlt, by unfold Hid; rw [← hSC.out, show 8 - (i + 1) = 7 - i by omega]; rfl⟩, rfl, rfl, rfl, rfl, by go_num, by go_num⟩, ?_⟩
            simp [intOf]; omega
          · rw [if_neg hc] at hsc
            have hln := hlen (by omega)
            clear hlen
            by_cases hn : 9007199254740992 ≤ N
            · rw [if_pos (.inl hn)] at hsc
              have hF : Hid (numAt bs p = .tuple #[.int .i64 0, .int .i64 0, .bool false]) := by unfold Hid; rw [numAt, ← hsc]
              have hno : Hid (¬ (0 ≤ (N : Int) ∧ (N : Int) < 9007199254740992)) := by unfold Hid; omega
              have hib : (((0 : Int) == (i : Int) + 1) = false) := by rw [beq_eq_false_iff_ne]; omega
              have hib2 : (((0 : Int) != (i : Int) + 1) = true) := by rw [bne_iff_ne]; omega
              clear hsc hn hln hNi
              go_wp2_with (go_at_call 99; refine (RefNum_no _ _ hno.out).mono ?_; rintro e w2 ⟨rfl, rfl⟩)
              go_ret3
              exact ⟨by rw [hF.out]; rfl, Ext.refl _⟩
            · have hnl : N < 9007199254740992 := by omega
              have hNL := Lib.hid hnl
              by_cases hc0 : c = 0 ∧ 0 < i
              · rw [if_pos (.inr hc0)] at hsc
                have hF : Hid (numAt bs p = .tuple #[.int .i64 0, .int .i64 0, .bool false]) := by unfold Hid; rw [numAt, ← hsc]
                have hne : ¬ (numB N).length = i + 1 := fun h => (hln.1 h) hc0
                have hib : (((numB N).length : Int) == (i : Int) + 1) = false := by rw [beq_eq_false_iff_ne]; omega
                have hib2 : (((numB N).length : Int) != (i : Int) + 1) = true := by rw [bne_iff_ne]; omega
                clear hsc hn hnl hln hNi hne hc0
                go_wp2_with (go_at_call 99; refine (RefNum_yes N _ hNL.out).mono ?_; rintro e w2 ⟨v2, rfl, hg2⟩; obtain ⟨A2, c2, rfl⟩ := hg2.slice_ (n := (numB N).length) (List.length_map _))
                go_ret3
                exact ⟨by rw [hF.out]; rfl, hg2.ext⟩
              · rw [if_neg (by omega)] at hsc
                have hF : Hid (numAt bs p = .tuple #[.int .i64 (N : Int), .int .i64 ((p + (i + 1) : Nat) : Int), .bool true]) := by unfold Hid; rw [numAt, ← hsc]
                have hne : (numB N).length = i + 1 := hln.2 hc0
                have hib : (((numB N).length : Int) == (i : Int) + 1) = true := by rw [beq_iff_eq]; omega
                have hib2 : (((numB N).length : Int) != (i : Int) + 1) = false := by rw [bne_eq_false_iff_eq]; omega
                clear hsc hn hnl hln hNi hne hc0
                go_wp2_with (go_at_call 99; refine (RefNum_yes N _ hNL.out).mono ?_; rintro e w2 ⟨v2, rfl, hg2⟩; obtain ⟨A2, c2, rfl⟩ := hg2.slice_ (n := (numB N).length) (List.length_map _))
                go_ret3
                exact ⟨by rw [hF.out]; simp; omega, hg2.ext⟩
        · rw [List.drop_eq_nil_of_le (by omega), show 8 - i = (7 - i) + 1 by omega, scanN] at hsc
          have hF : Hid (numAt bs p = .tuple #[.int .i64 0, .int .i64 0, .bool false]) := by unfold Hid; rw [numAt, ← hsc]
          clear hsc
          go_wp2
          go_ret3
          exact ⟨by rw [hF.out]; rfl, Ext.refl _⟩
      · rw [show 8 - i = 0 by omega, scanN] at hsc
        have hF : Hid (numAt bs p = .tuple #[.int .i64 0, .int .i64 0, .bool false]) := by unfold Hid; rw [numAt, ← hsc]
        clear hsc
        go_wp2
        go_ret3
        exact ⟨by rw [hF.out]; rfl, Ext.refl _⟩
  · have hF : Hid (numAt bs p = .tuple #[.int .i64 0, .int .i64 0, .bool false]) := by
      unfold Hid
      rw [numAt, List.drop_eq_nil_of_le (by omega)]
      rfl
    clear hcell
    go_enter Tryd.func52, Tryd.ntmps52
    go_wp2
    go_ret3
    exact ⟨by rw [hF.out]; rfl, Ext.refl _⟩

theorem RefGetNum_neg (bs : List UInt8) (v : Value) (p : Int) (w : World) (hr : Rd w v (bs.map B)) (hp : p < 0) :
    Calls Tryd.prog 52 #[v, .int .i64 p] w fun e w' => e = .returned (.tuple #[.int .i64 0, .int .i64 0, .bool false]) ∧ w = w' := by
  obtain ⟨A, c, rfl, _⟩ := hr.slice_
  go_enter Tryd.func52, Tryd.ntmps52
  go_wp2
  go_ret3
  exact ⟨rfl, rfl⟩

theorem RefGetNum_some (bs : List UInt8) (v : Value) (p n j : Nat) (w : World) (hr : Rd w v (bs.map B)) (hp63 : p < 9223372036854775808) (h : getN (bs.drop p) = some (n, j)) :
    Calls Tryd.prog 52 #[v, .int .i64 p] w fun e w' => e = .returned (.tuple #[.int .i64 n, .int .i64 ((p + j : Nat) : Int), .bool true]) ∧ Ext w w' := by
  have e : numAt bs p = .tuple #[.int .i64 n, .int .i64 ((p + j : Nat) : Int), .bool true] := by rw [numAt, h]
  rw [← e]
  exact RefGetNum_at bs v p w hr hp63

theorem RefGetNum_none (bs : List UInt8) (v : Value) (p : Nat) (w : World) (hr : Rd w v (bs.map B)) (hp63 : p < 9223372036854775808) (h : getN (bs.drop p) = none) :
    Calls Tryd.prog 52 #[v, .int .i64 p] w fun e w' => e = .returned (.tuple #[.int .i64 0, .int .i64 0, .bool false]) ∧ Ext w w' := by
  have e : numAt bs p = .tuple #[.int .i64 0, .int .i64 0, .bool false] := by rw [numAt, h]
  rw [← e]
  exact RefGetNum_at bs v p w hr hp63

end Go.Proofs.YtddhbokknbmdfaaDoor

/- The reference's layer 1: the list at a place. -/
namespace Go.Proofs.YtddhbokknbmdfaaDoor
open Go.RowKit

/-- The reference's GetList while it goes: i numbers have been taken, the next one stands at q. -/
def RGL (bs : List UInt8) (p0 c : Nat) (w : World) (v' q' i' : Value) (wr : World) : Prop :=
  ∃ (i q : Nat) (ns : List Nat), i' = .int .i64 i ∧ q' = .int .i64 q ∧ i ≤ c ∧ q ≤ bs.length ∧ i ≤ q ∧ ns.length = i ∧ readK c bs p0 = (readK (c - i) bs q).map (fun r => (ns ++ r.1, r.2)) ∧
    Grew w.heap.size 3 (.slice none 0 0) w (ns.map fun (n : Nat) => Value.int .i64 n) v' wr

set_option maxHeartbeats 2000000 in
theorem RefGetList_at (bs : List UInt8) (v : Value) (p c j : Nat) (most : Int) (w : World) (hr : Rd w v (bs.map B)) (hp63 : p < 9223372036854775808) (h : getN (bs.drop p) = some (c, j)) (hc : (c : Int) ≤ most) (hlen : bs.length ≤ 1099511627776) :
    Calls Tryd.prog 33 #[v, .int .i64 p, .int .i64 most] w (GLPost (readK c bs (p + j)) w) := by
  have hj := getN_le h
  rw [List.length_drop] at hj
  have H := Lib.hid h
  clear h
  go_enter Tryd.func33, Tryd.ntmps33
  go_wp2_with (first | (go_at_call 52; refine (RefGetNum_some bs _ p c j _ hr (by omega) H.out).mono ?_; rintro e w1 ⟨rfl, hx1⟩))
  go_loopw [12, 10, 13] (fun v' q' i' wr => RGL bs (p + j) c w1 v' q' i' wr) (fun _ _ i' _ => c - (intOf i').toNat)
  case atStart => exact ⟨0, p + j, [], rfl, by go_num, by omega, by omega, by omega, rfl, by simp, Grew.nil w1⟩
  case round =>
    obtain ⟨i, q, ns, rfl, rfl, hic, hq, hiq, hns, hrd, hg⟩ := hrel
    have hr1 := hr.ext (hx1.trans hg.ext)
    by_cases hlt : i < c
    · rw [show c - i = (c - (i + 1)) + 1 by omega, readK] at hrd
      rcases hgn : getN (bs.drop q) with _ | ⟨n, j2⟩
      · rw [hgn] at hrd
        have HG := Lib.hid hgn
        have HRD : Hid (readK c bs (p + j) = none) := by unfold Hid; simpa using hrd
        clear hgn hrd hns
        go_wp2_with (first | (go_at_call 52; refine (RefGetNum_none bs _ q _ hr1 (by omega) HG.out).mono ?_; rintro e w2 ⟨rfl, hx2⟩))
        go_ret3
        rw [HRD.out]
        exact ⟨rfl, (hx1.trans hg.ext).trans hx2⟩
      · rw [hgn] at hrd
        have hj2 := getN_le hgn
        rw [List.length_drop] at hj2
        have HG := Lib.hid hgn
        have HRD : Hid (readK c bs (p + j) = Option.map (fun r => ((ns ++ [n]) ++ r.1, r.2)) (readK (c - (i + 1)) bs (q + j2))) := by
          unfold Hid
          rw [hrd]
          rcases h : readK (c - (i + 1)) bs (q + j2) with _ | ⟨a, b⟩ <;> simp [h]
        have hns2 : Hid ((ns ++ [n]).length = i + 1) := by unfold Hid; simp [hns]
        have hll : (ns.map fun (n : Nat) => Value.int .i64 n).length < 17592186044416 := by rw [List.length_map, hns]; omega
        clear hgn hrd hns
        go_wp2_with (first | (go_at_call 52; refine (RefGetNum_some bs _ q n j2 _ hr1 (by omega) HG.out).mono ?_; rintro e w2 ⟨rfl, hx2⟩; have hg2 := hg.step hx2; have hb2 := hg2.size) | (at_builtin; refine push_int rfl _ _ rfl w1.heap.size _ _ rfl hg2.1 _ rfl rfl hll hb2 ?_; intro v' w' hg'))
        go_roundw
        case rel => exact ⟨i + 1, q + j2, ns ++ [n], by go_num, by go_num, by omega, by omega, by omega, hns2.out, HRD.out, by simpa using hg2.trans hg'⟩
        case measure => simp [intOf]; omega
    · obtain rfl : i = c := by omega
      have HRD := Lib.hid hrd
      have HNS := Lib.hid hns
      clear hrd hns
      go_wp2
      go_ret3
      rw [HRD.out, Nat.sub_self, readK]
      refine ⟨_, rfl, ?_, hx1.trans hg.ext⟩
      have := hg.rebase
      simp only [List.append_nil, List.length_map] at this ⊢
      refine ⟨this.1, ?_⟩
      rcases this.2 with h | ⟨g, cap, cur, hv, hgg, r⟩
      · exact .inl h
      · exact .inr ⟨g, cap, cur, hv, Nat.le_trans hx1.size hgg, r⟩

theorem RefGetList_first (bs : List UInt8) (v : Value) (p : Nat) (most : Int) (w : World) (hr : Rd w v (bs.map B)) (hp63 : p < 9223372036854775808) (h : getN (bs.drop p) = none) :
    Calls Tryd.prog 33 #[v, .int .i64 p, .int .i64 most] w fun e w' => e = .returned (.tuple #[.slice none 0 0, .int .i64 0, .bool false]) ∧ Ext w w' := by
  have H := Lib.hid h
  clear h
  go_enter Tryd.func33, Tryd.ntmps33
  go_wp2_with (first | (go_at_call 52; refine (RefGetNum_none bs _ p _ hr (by omega) H.out).mono ?_; rintro e w1 ⟨rfl, hx1⟩))
  go_ret3
  exact ⟨rfl, hx1⟩

theorem RefGetList_many (bs : List UInt8) (v : Value) (p c j : Nat) (most : Int) (w : World) (hr : Rd w v (bs.map B)) (hp63 : p < 9223372036854775808) (h : getN (bs.drop p) = some (c, j)) (hc : ¬ (c : Int) ≤ most) :
    Calls Tryd.prog 33 #[v, .int .i64 p, .int .i64 most] w fun e w' => e = .returned (.tuple #[.slice none 0 0, .int .i64 0, .bool false]) ∧ Ext w w' := by
  have H := Lib.hid h
  clear h
  go_enter Tryd.func33, Tryd.ntmps33
  go_wp2_with (first | (go_at_call 52; refine (RefGetNum_some bs _ p c j _ hr (by omega) H.out).mono ?_; rintro e w1 ⟨rfl, hx1⟩))
  go_ret3
  exact ⟨rfl, hx1⟩

theorem RefGetList_neg (bs : List UInt8) (v : Value) (p : Int) (most : Int) (w : World) (hr : Rd w v (bs.map B)) (hp : p < 0) :
    Calls Tryd.prog 33 #[v, .int .i64 p, .int .i64 most] w fun e w' => e = .returned (.tuple #[.slice none 0 0, .int .i64 0, .bool false]) ∧ Ext w w' := by
  have hR := Lib.hid hr
  clear hr
  go_enter Tryd.func33, Tryd.ntmps33
  go_wp2_with (first | (go_at_call 52; refine (RefGetNum_neg _ _ p _ hR.out hp).mono ?_; rintro e w1 ⟨rfl, rfl⟩))
  go_ret3
  exact ⟨rfl, Ext.refl _⟩

theorem RefGetList_any (bs : List UInt8) (v : Value) (p : Nat) (most : Int) (w : World) (hr : Rd w v (bs.map B)) (hp63 : p < 9223372036854775808) (hlen : bs.length ≤ 1099511627776) :
    Calls Tryd.prog 33 #[v, .int .i64 p, .int .i64 most] w (GLPost (listAt bs p most) w) := by
  unfold listAt
  rcases h : getN (bs.drop p) with _ | ⟨c, j⟩
  · exact RefGetList_first bs v p most w hr hp63 h
  · by_cases hc : (c : Int) ≤ most
    · simp only [hc, if_true]
      exact RefGetList_at bs v p c j most w hr hp63 h hc hlen
    · simp only [hc, if_false]
      exact RefGetList_many bs v p c j most w hr hp63 h hc

end Go.Proofs.YtddhbokknbmdfaaDoor
