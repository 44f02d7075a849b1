/- Texts that the proof of I rests on, one behind the other. -/
import Derived.Test.YtddhbokknbmdfaaDoorIQ5

/- Package book: whether a state may be. -/
namespace Go.Proofs.YtddhbokknbmdfaaDoor
open Go.RowKit

theorem ext_drew9 {B : Nat} {a w : World} (h : Below B a w) : Below B a w.drew := Below.drewN' h 1
theorem Ext.of_drew {w w' : World} (h : Ext w.drew w') : Ext w w' := Ext.trans (ext_drew9 (Ext.refl w)) h

set_option maxRecDepth 100000 in
set_option maxHeartbeats 4000000 in
theorem RightS_any (c : Cf) (vn vj : Value) (s : St) (w : World) (hr : RdNd w vn s.nodes) (hrj : RdJb w vj s.jobs) :
    Calls Tryd.prog 22 #[cfV c, stV vn vj s] w fun e w' => ∃ b, e = .returned (.bool b) ∧ (b = true ↔ RightP c s) ∧ Ext w w' := by
  have HM := Lib.hid fun w' => May_any c w'
  have HNM : Hid (∀ w' (i : Nat) n, s.nodes[i]? = some n → s.nodes.length ≤ 6 → s.jobs.length ≤ 24 → Ext w w' → Calls Tryd.prog 38 #[stV vn vj s, .int .i64 (i : Int)] w' fun e w'' => ∃ b, e = .returned (.bool b) ∧ (b = true ↔ NodeL s i n) ∧ Ext w' w'') :=
    Lib.hid fun w' i n hi hn hj hx => nodeMay_any vn vj s i n w' (hr.ext hx) (hrj.ext hx) hi hn hj
  have HJM : Hid (∀ w' (k : Nat) j, s.jobs[k]? = some j → mayC c = true → s.nodes.length ≤ 6 → s.jobs.length ≤ 24 → (∀ (i : Nat) (n : Nd), s.nodes[i]? = some n → 1 ≤ n.version) → Ext w w' → Calls Tryd.prog 39 #[cfV c, stV vn vj s, .int .i64 ((k : Int) + 1)] w' fun e w'' => ∃ b, e = .returned (.bool b) ∧ (b = true ↔ JobL c s k j) ∧ Ext w' w'') :=
    Lib.hid fun w' k j hj hm hn hl hv hx => jobMay_any c vn vj s k j w' (hr.ext hx) (hrj.ext hx) hj hm hn hl hv
  have HD : Hid (∀ w' q, Ext w w' → Calls Tryd.prog 14 #[stV vn vj s, .int .i64 q] w' fun e w'' => e = .returned (.int .i64 (drainsS s q : Int)) ∧ Ext w' w'') := Lib.hid fun w' q hx => Drains_any vn vj s q w' (hrj.ext hx)
  have HF := Lib.hid fun n lo hi w' => isFrom_any n lo hi w'
  have HV := Lib.hid fun n w' => isVersion_any n w'
  obtain ⟨An, cn, rfl, hnc, hcm⟩ := hr.slice_
  obtain ⟨Aj, cj, rfl, hjc, hjm⟩ := hrj.slice_
  have HRL : Hid (∀ b : Bool, (b = true ↔ RightL c s) → (b = true ↔ RightP c s)) := Lib.hid fun b h => h.trans RightL_iff
  obtain ⟨cc, hcc⟩ : ∃ cc : Array Value, cc = #[.int .i64 c.nodes, .int .i64 c.queues, .int .i64 c.quota, .int .i64 c.wave, .int .i64 c.lease, .int .i64 c.retry, .int .i64 c.deadline, .int .i64 c.room, .int .i64 c.disk] := ⟨_, rfl⟩
  obtain ⟨sc, hsc⟩ : ∃ sc : Array Value, sc = #[.slice An s.nodes.length cn, .slice Aj s.jobs.length cj, .int .i64 s.goal, .int .i64 s.prior, .int .i64 s.mode, .int .i64 s.term] := ⟨_, rfl⟩
  obtain ⟨W2, hW2⟩ : ∃ W2, W2 = (w.alloc (.cells cc 23)).alloc (.cells sc 30) := ⟨_, rfl⟩
  have hx2 : Ext w W2 := by rw [hW2]; exact ext2 w _ _ cc sc
  have hbs : Blk W2 (w.heap.size + 1) 30 sc := by
    have := Blk.new (w.alloc (.cells cc 23)) 30 sc
    rw [hW2]
    simpa using this
  have hbc : Blk W2 w.heap.size 23 cc := by
    have := (Blk.new w 23 cc).ext ((Below.refl _ _).alloc (Nat.le_refl _) (.cells sc 30))
    rw [hW2]
    exact this
  have HX2 := Lib.hid hx2
  have HBS := Lib.hid hbs
  have HBC := Lib.hid hbc
  unfold stV at HNM HJM HD
  unfold cfV at HM HJM
  unfold stV cfV
  clear hr hrj hx2 hbs hbc
  subst hcc hsc
  go_enter Tryd.func22, Tryd.ntmps22
  go_wp2_with fail
  rw [← hW2]
  clear hW2
  refine (HM.out _).mono ?_
  rintro e1 w1 ⟨rfl, hx1⟩
  have HX1 := Lib.hid (HX2.out.trans hx1)
  have HBS1 := Lib.hid (HBS.out.ext hx1)
  have HBC1 := Lib.hid (HBC.out.ext hx1)
  clear hx1 HX2 HBS HBC HM
  have s0 : w1.cell? ⟨w.heap.size + 1, 0, none⟩ = some (.slice An s.nodes.length cn) := HBS1.out.cell 0
  have s1 : w1.cell? ⟨w.heap.size + 1, 1, none⟩ = some (.slice Aj s.jobs.length cj) := HBS1.out.cell 1
  have s2 : w1.cell? ⟨w.heap.size + 1, 2, none⟩ = some (.int .i64 s.goal) := HBS1.out.cell 2
  have s3 : w1.cell? ⟨w.heap.size + 1, 3, none⟩ = some (.int .i64 s.prior) := HBS1.out.cell 3
  have s4 : w1.cell? ⟨w.heap.size + 1, 4, none⟩ = some (.int .i64 s.mode) := HBS1.out.cell 4
  have s5 : w1.cell? ⟨w.heap.size + 1, 5, none⟩ = some (.int .i64 s.term) := HBS1.out.cell 5
  have k0 : w1.cell? ⟨w.heap.size, 0, none⟩ = some (.int .i64 c.nodes) := HBC1.out.cell 0
  have k1 : w1.cell? ⟨w.heap.size, 1, none⟩ = some (.int .i64 c.queues) := HBC1.out.cell 1
  cases hm : mayC c
  · have HNO : Hid (¬ RightP c s) := Lib.hid fun h => by
      have := h.may
      rw [hm] at this
      cases this
    go_wp2
    go_ret
    exact ⟨false, rfl, ⟨(fun h => by cases h), fun h => absurd h HNO.out⟩, HX1.out⟩
  by_cases hl : ¬ (s.nodes.length : Int) = c.nodes
  · have HNO : Hid (¬ RightP c s) := Lib.hid fun h => hl h.nn
    have e1 : ((s.nodes.length : Int) != c.nodes) = true := by rw [bne_iff_ne]; exact hl
    clear hl
    go_wp2
    go_ret
    exact ⟨false, rfl, ⟨(fun h => by cases h), fun h => absurd h HNO.out⟩, HX1.out⟩
  replace hl := Classical.not_not.1 hl
  have e1 : ((s.nodes.length : Int) != c.nodes) = false := by rw [hl]; exact bne_self_eq_false _
  by_cases hl2 : ¬ s.jobs.length ≤ 24
  · have HNO : Hid (¬ RightP c s) := Lib.hid fun h => hl2 h.nj
    have e2 : decide ((24 : Int) < (s.jobs.length : Int)) = true := decide_eq_true (by omega)
    have e2' : decide (24 < s.jobs.length) = true := decide_eq_true (by omega)
    clear hl hl2
    go_wp2
    go_ret
    exact ⟨false, rfl, ⟨(fun h => by cases h), fun h => absurd h HNO.out⟩, HX1.out⟩
  replace hl2 := Classical.not_not.1 hl2
  have e2 : decide ((24 : Int) < (s.jobs.length : Int)) = false := decide_eq_false (by omega)
  have e2' : decide (24 < s.jobs.length) = false := decide_eq_false (by omega)
  have hm2 : (1 ≤ c.nodes ∧ c.nodes ≤ 6) ∧ (1 ≤ c.queues ∧ c.queues ≤ 3) := by
    simp only [mayC, Bool.and_eq_true, inR_iff] at hm
    exact ⟨by omega, by omega⟩
  have hn6 : s.nodes.length ≤ 6 := by omega
  have HM1 := Lib.hid hm
  have HL := Lib.hid hl
  have HL2 := Lib.hid hl2
  have HM2 := Lib.hid hm2.2
  have HN6 := Lib.hid hn6
  clear hm hl hm2 hn6
  go_wp2_with fail
  refine (HV.out _ _).mono ?_
  rintro e_ w_ ⟨rfl, rfl⟩
  cases h1 : inR s.goal 1 9
  · have HNO : Hid (¬ RightP c s) := Lib.hid fun h => by
      have := inR_iff.2 ⟨h.g1, h.g9⟩
      rw [h1] at this
      cases this
    go_wp2
    go_ret
    exact ⟨false, rfl, ⟨(fun h => by cases h), fun h => absurd h HNO.out⟩, HX1.out⟩
  go_wp2_with fail
  refine (HV.out _ _).mono ?_
  rintro e_ w_ ⟨rfl, rfl⟩
  cases h2 : inR s.prior 1 9
  · have HNO : Hid (¬ RightP c s) := Lib.hid fun h => by
      have := inR_iff.2 ⟨h.p1, h.p9⟩
      rw [h2] at this
      cases this
    go_wp2
    go_ret
    exact ⟨false, rfl, ⟨(fun h => by cases h), fun h => absurd h HNO.out⟩, HX1.out⟩
  go_wp2_with fail
  refine (HF.out _ _ _ _).mono ?_
  rintro e_ w_ ⟨rfl, rfl⟩
  cases h3 : inR s.mode 0 2
  · have HNO : Hid (¬ RightP c s) := Lib.hid fun h => by
      have := inR_iff.2 ⟨h.m0, h.m2⟩
      rw [h3] at this
      cases this
    go_wp2
    go_ret
    exact ⟨false, rfl, ⟨(fun h => by cases h), fun h => absurd h HNO.out⟩, HX1.out⟩
  go_wp2_with fail
  refine (HF.out _ _ _ _).mono ?_
  rintro e_ w_ ⟨rfl, rfl⟩
  cases h4 : inR s.term 0 1000000
  · have HNO : Hid (¬ RightP c s) := Lib.hid fun h => by
      have := inR_iff.2 ⟨h.t0, h.t9⟩
      rw [h4] at this
      cases this
    go_wp2
    go_ret
    exact ⟨false, rfl, ⟨(fun h => by cases h), fun h => absurd h HNO.out⟩, HX1.out⟩
  have H1 := Lib.hid h1
  have H2 := Lib.hid h2
  have H3 := Lib.hid h3
  have H4 := Lib.hid h4
  go_wp2_with fail
  go_loopg [50] s.nodes.length (fun gg i wr => ∃ (q : Nat), i = .int .i64 q ∧ q ≤ s.nodes.length ∧ gg = s.nodes.length - q ∧ Hid (Ext w1 wr ∧ ∀ i n, i < q → s.nodes[i]? = some n → NodeL s i n))
  case atStart => exact ⟨0, rfl, Nat.zero_le _, by omega, Lib.hid ⟨Ext.refl _, fun i n h => absurd h (Nat.not_lt_zero i)⟩⟩
  case round =>
    obtain ⟨q, rfl, hq, rfl, HR⟩ := hrel
    clear s0 s1 s2 s3 s4 s5 k0 k1
    have s0 : wr.cell? ⟨w.heap.size + 1, 0, none⟩ = some (.slice An s.nodes.length cn) := (HBS1.out.ext HR.out.1).cell 0
    have s1 : wr.cell? ⟨w.heap.size + 1, 1, none⟩ = some (.slice Aj s.jobs.length cj) := (HBS1.out.ext HR.out.1).cell 1
    by_cases hlt : q < s.nodes.length
    · have d1 : decide ((q : Int) < (s.nodes.length : Int)) = true := decide_eq_true (by omega)
      have d1' : decide (q < s.nodes.length) = true := decide_eq_true hlt
      obtain ⟨n, hnk⟩ : ∃ n, s.nodes[q]? = some n := ⟨_, List.getElem?_eq_getElem hlt⟩
      have s2 : wr.cell? ⟨w.heap.size + 1, 2, none⟩ = some (.int .i64 s.goal) := (HBS1.out.ext HR.out.1).cell 2
      have s3 : wr.cell? ⟨w.heap.size + 1, 3, none⟩ = some (.int .i64 s.prior) := (HBS1.out.ext HR.out.1).cell 3
      have s4 : wr.cell? ⟨w.heap.size + 1, 4, none⟩ = some (.int .i64 s.mode) := (HBS1.out.ext HR.out.1).cell 4
      have s5 : wr.cell? ⟨w.heap.size + 1, 5, none⟩ = some (.int .i64 s.term) := (HBS1.out.ext HR.out.1).cell 5
      have HNK := Lib.hid hnk
      have HLT := Lib.hid hlt
      clear hnk
      go_wp2_with fail
      refine (HNM.out _ q n HNK.out HN6.out HL2.out (HX1.out.trans HR.out.1)).mono ?_
      rintro e5 w5 ⟨b, rfl, hb, hx5⟩
      have HX5 := Lib.hid (HR.out.1.trans hx5)
      have HB := Lib.hid hb
      clear hx5 hb
      cases b
      · have HNO : Hid (¬ RightP c s) := Lib.hid fun h => by
          have := HB.out.2 ((RightL_iff.2 h).node q n HNK.out)
          cases this
        have HX6 := Lib.hid (HX1.out.trans HX5.out)
        go_wp2
        go_ret
        exact ⟨false, rfl, ⟨(fun h => by cases h), fun h => absurd h HNO.out⟩, HX6.out⟩
      · go_wp2
        go_roundg (s.nodes.length - (q + 1))
        case measure => have := HLT.out; omega
        case rel =>
          refine ⟨q + 1, by go_num, HLT.out, rfl, Lib.hid ⟨HX5.out, fun i m hi hm => ?_⟩⟩
          rcases Nat.lt_or_ge i q with h' | h'
          · exact HR.out.2 i m h' hm
          · obtain rfl : i = q := by omega
            rw [HNK.out] at hm
            cases hm
            exact HB.out.1 (by trivial)
    · have d1 : decide ((q : Int) < (s.nodes.length : Int)) = false := decide_eq_false (by omega)
      have d1' : decide (q < s.nodes.length) = false := decide_eq_false hlt
      obtain rfl : q = s.nodes.length := by omega
      have HND : Hid (∀ i n, s.nodes[i]? = some n → NodeL s i n) := Lib.hid fun i n hi => HR.out.2 i n (List.getElem?_eq_some_iff.1 hi).1 hi
      have HXr := Lib.hid HR.out.1
      clear HR hlt HNM
      have HVR : Hid (∀ (i : Nat) (n : Nd), s.nodes[i]? = some n → 1 ≤ n.version) := Lib.hid fun i n hi => (HND.out i n hi).1.1
      obtain ⟨wz, hwz⟩ : ∃ wz, wz = wr := ⟨_, rfl⟩
      go_wp2_with fail
      rw [← hwz]
      rw [← hwz] at HXr
      clear s0 s1 hwz
      go_loopg [61] s.jobs.length (fun gg i wr => ∃ (q : Nat), i = .int .i64 q ∧ q ≤ s.jobs.length ∧ gg = s.jobs.length - q ∧ Hid (Ext w1 wr ∧ ∀ i n, i < q → s.jobs[i]? = some n → JobL c s i n))
      case atStart => exact ⟨0, rfl, Nat.zero_le _, by omega, Lib.hid ⟨HXr.out, fun i n h => absurd h (Nat.not_lt_zero i)⟩⟩
      case round =>
        obtain ⟨q, rfl, hq, rfl, HR⟩ := hrel
        have k1 : wr.cell? ⟨w.heap.size, 1, none⟩ = some (.int .i64 c.queues) := (HBC1.out.ext HR.out.1).cell 1
        by_cases hlt : q < s.jobs.length
        · have d1 : decide ((q : Int) < (s.jobs.length : Int)) = true := decide_eq_true (by omega)
          have d1' : decide (q < s.jobs.length) = true := decide_eq_true hlt
          obtain ⟨n, hnk⟩ : ∃ n, s.jobs[q]? = some n := ⟨_, List.getElem?_eq_getElem hlt⟩
          have s0 : wr.cell? ⟨w.heap.size + 1, 0, none⟩ = some (.slice An s.nodes.length cn) := (HBS1.out.ext HR.out.1).cell 0
          have s1 : wr.cell? ⟨w.heap.size + 1, 1, none⟩ = some (.slice Aj s.jobs.length cj) := (HBS1.out.ext HR.out.1).cell 1
          have s2 : wr.cell? ⟨w.heap.size + 1, 2, none⟩ = some (.int .i64 s.goal) := (HBS1.out.ext HR.out.1).cell 2
          have s3 : wr.cell? ⟨w.heap.size + 1, 3, none⟩ = some (.int .i64 s.prior) := (HBS1.out.ext HR.out.1).cell 3
          have s4 : wr.cell? ⟨w.heap.size + 1, 4, none⟩ = some (.int .i64 s.mode) := (HBS1.out.ext HR.out.1).cell 4
          have s5 : wr.cell? ⟨w.heap.size + 1, 5, none⟩ = some (.int .i64 s.term) := (HBS1.out.ext HR.out.1).cell 5
          have k0 : wr.cell? ⟨w.heap.size, 0, none⟩ = some (.int .i64 c.nodes) := (HBC1.out.ext HR.out.1).cell 0
          have k2 : wr.cell? ⟨w.heap.size, 2, none⟩ = some (.int .i64 c.quota) := (HBC1.out.ext HR.out.1).cell 2
          have k3 : wr.cell? ⟨w.heap.size, 3, none⟩ = some (.int .i64 c.wave) := (HBC1.out.ext HR.out.1).cell 3
          have k4 : wr.cell? ⟨w.heap.size, 4, none⟩ = some (.int .i64 c.lease) := (HBC1.out.ext HR.out.1).cell 4
          have k5 : wr.cell? ⟨w.heap.size, 5, none⟩ = some (.int .i64 c.retry) := (HBC1.out.ext HR.out.1).cell 5
          have k6 : wr.cell? ⟨w.heap.size, 6, none⟩ = some (.int .i64 c.deadline) := (HBC1.out.ext HR.out.1).cell 6
          have k7 : wr.cell? ⟨w.heap.size, 7, none⟩ = some (.int .i64 c.room) := (HBC1.out.ext HR.out.1).cell 7
          have k8 : wr.cell? ⟨w.heap.size, 8, none⟩ = some (.int .i64 c.disk) := (HBC1.out.ext HR.out.1).cell 8
          have HNK := Lib.hid hnk
          have HLT := Lib.hid hlt
          have hw1 : wrap64 ((q : Int) + 1) = (q : Int) + 1 := IntWalk.wrap64_in _ (by omega)
          clear hnk
          go_wp2_with fail
          refine (HJM.out _ q n HNK.out HM1.out HN6.out HL2.out HVR.out (HX1.out.trans HR.out.1)).mono ?_
          rintro e5 w5 ⟨b, rfl, hb, hx5⟩
          have HX5 := Lib.hid (HR.out.1.trans hx5)
          have HB := Lib.hid hb
          clear hx5 hb s0 s1 s2 s3 s4 s5 k0 k1 k2 k3 k4 k5 k6 k7 k8
          cases b
          · have HNO : Hid (¬ RightP c s) := Lib.hid fun h => by
              have := HB.out.2 ((RightL_iff.2 h).job q n HNK.out)
              cases this
            have HX6 := Lib.hid (HX1.out.trans HX5.out)
            go_wp2
            go_ret
            exact ⟨false, rfl, ⟨(fun h => by cases h), fun h => absurd h HNO.out⟩, HX6.out⟩
          · go_wp2
            go_roundg (s.jobs.length - (q + 1))
            case measure => have := HLT.out; omega
            case rel =>
              refine ⟨q + 1, by go_num, HLT.out, rfl, Lib.hid ⟨HX5.out, fun i m hi hm => ?_⟩⟩
              rcases Nat.lt_or_ge i q with h' | h'
              · exact HR.out.2 i m h' hm
              · obtain rfl : i = q := by omega
                rw [HNK.out] at hm
                cases hm
                exact HB.out.1 (by trivial)
        · have d1 : decide ((q : Int) < (s.jobs.length : Int)) = false := decide_eq_false (by omega)
          have d1' : decide (q < s.jobs.length) = false := decide_eq_false hlt
          obtain rfl : q = s.jobs.length := by omega
          have HJD : Hid (∀ i n, s.jobs[i]? = some n → JobL c s i n) := Lib.hid fun i n hi => HR.out.2 i n (List.getElem?_eq_some_iff.1 hi).1 hi
          have HXq := Lib.hid HR.out.1
          clear HR hlt HJM
          obtain ⟨wz, hwz⟩ : ∃ wz, wz = wr := ⟨_, rfl⟩
          go_wp2_with fail
          rw [← hwz]
          rw [← hwz] at HXq
          clear k1 hwz
          obtain ⟨qn, hqn⟩ : ∃ qn : Nat, c.queues = (qn : Int) := ⟨c.queues.toNat, by have := HM2.out; omega⟩
          have HQN := Lib.hid hqn
          rw [hqn]
          go_loopg [73] qn (fun gg i wr => ∃ (q : Nat), i = .int .i64 q ∧ q ≤ qn ∧ gg = qn - q ∧ Hid (Ext w1 wr ∧ ∀ i : Nat, i < q → (drainsS s (i : Int) : Int) ≤ c.quota))
          case atStart => exact ⟨0, rfl, Nat.zero_le _, by omega, Lib.hid ⟨HXq.out, fun i h => absurd h (Nat.not_lt_zero i)⟩⟩
          case round =>
            obtain ⟨q, rfl, hq, rfl, HR⟩ := hrel
            by_cases hlt : q < qn
            · have d1 : decide ((q : Int) < (qn : Int)) = true := decide_eq_true (by omega)
              have d1' : decide (q < qn) = true := decide_eq_true hlt
              have HLT := Lib.hid hlt
              have HXR := Lib.hid (HX1.out.trans HR.out.1)
              have hw1 : wrap64 ((q : Int) + 1) = (q : Int) + 1 := IntWalk.wrap64_in _ (by have := HM2.out; have := HQN.out; omega)
              have s0 : wr.cell? ⟨w.heap.size + 1, 0, none⟩ = some (.slice An s.nodes.length cn) := (HBS1.out.ext HR.out.1).cell 0
              have s1 : wr.cell? ⟨w.heap.size + 1, 1, none⟩ = some (.slice Aj s.jobs.length cj) := (HBS1.out.ext HR.out.1).cell 1
              have s2 : wr.cell? ⟨w.heap.size + 1, 2, none⟩ = some (.int .i64 s.goal) := (HBS1.out.ext HR.out.1).cell 2
              have s3 : wr.cell? ⟨w.heap.size + 1, 3, none⟩ = some (.int .i64 s.prior) := (HBS1.out.ext HR.out.1).cell 3
              have s4 : wr.cell? ⟨w.heap.size + 1, 4, none⟩ = some (.int .i64 s.mode) := (HBS1.out.ext HR.out.1).cell 4
              have s5 : wr.cell? ⟨w.heap.size + 1, 5, none⟩ = some (.int .i64 s.term) := (HBS1.out.ext HR.out.1).cell 5
              have k2 : wr.cell? ⟨w.heap.size, 2, none⟩ = some (.int .i64 c.quota) := (HBC1.out.ext HR.out.1).cell 2
              have HK2 : Hid (∀ w', Ext wr w' → w'.cell? ⟨w.heap.size, 2, none⟩ = some (.int .i64 c.quota)) := Lib.hid fun w' h => (HBC1.out.ext (HR.out.1.trans h)).cell 2
              generalize hD : (drainsS s (q : Int) : Int) = D at *
              have HDQ : Hid (∀ w', Ext w w' → Calls Tryd.prog 14 #[.agg #[.slice An s.nodes.length cn, .slice Aj s.jobs.length cj, .int .i64 s.goal, .int .i64 s.prior, .int .i64 s.mode, .int .i64 s.term], .int .i64 (q : Int)] w' fun e w'' => e = .returned (.int .i64 D) ∧ Ext w' w'') := Lib.hid (by rw [← hD]; exact fun w' h => HD.out w' (q : Int) h)
              go_wp2_with fail
              by_cases hov : c.quota < D
              · have d2 : decide (c.quota < D) = true := decide_eq_true hov
                have HNO : Hid (¬ RightP c s) := Lib.hid fun h => by
                  have := h.drains q (by have := HQN.out; have := HLT.out; omega)
                  omega
                clear hov
                go_region_with ((go_at_call 14); (first | (refine (HDQ.out _ HXR.out).mono ?_) | (refine (HDQ.out _ (ext_drew9 HXR.out)).mono ?_)); (rintro e9 w9 ⟨rfl, hx9⟩); (have hx9' : Ext wr w9 := Ext.of_drew hx9); (have k9 := HK2.out w9 hx9'))
                all_goals
                  have HX9 := Lib.hid (HXR.out.trans hx9')
                  clear hx9 hx9' k9
                  go_wp2
                  go_ret
                  exact ⟨false, rfl, ⟨(fun h => by cases h), fun h => absurd h HNO.out⟩, HX9.out⟩
              · have d2 : decide (c.quota < D) = false := decide_eq_false hov
                have HLE : Hid (∀ i : Nat, i < q + 1 → (drainsS s (i : Int) : Int) ≤ c.quota) := Lib.hid fun i hi => by
                  rcases Nat.lt_or_ge i q with h' | h'
                  · exact HR.out.2 i h'
                  · obtain rfl : i = q := by omega
                    omega
                clear hov
                go_region_with ((go_at_call 14); (first | (refine (HDQ.out _ HXR.out).mono ?_) | (refine (HDQ.out _ (ext_drew9 HXR.out)).mono ?_)); (rintro e9 w9 ⟨rfl, hx9⟩); (have hx9' : Ext wr w9 := Ext.of_drew hx9); (have k9 := HK2.out w9 hx9'))
                all_goals
                  have HX9 := Lib.hid (HR.out.1.trans hx9')
                  clear hx9 hx9' k9
                  go_wp2
                  go_roundg (qn - (q + 1))
                  case measure => have := HLT.out; omega
                  case rel => exact ⟨q + 1, by go_num, HLT.out, rfl, Lib.hid ⟨HX9.out, HLE.out⟩⟩
            · have d1 : decide ((q : Int) < (qn : Int)) = false := decide_eq_false (by omega)
              have d1' : decide (q < qn) = false := decide_eq_false hlt
              obtain rfl : q = qn := by omega
              have HY : Hid (RightP c s) := Lib.hid (RightL_iff.1 ⟨HM1.out, HL.out, HL2.out, inR_iff.1 H1.out, inR_iff.1 H2.out, inR_iff.1 H3.out, inR_iff.1 H4.out, HND.out, HJD.out, fun i hi => HR.out.2 i (by have := HQN.out; omega)⟩)
              have HX6 := Lib.hid (HX1.out.trans HR.out.1)
              go_wp2
              go_ret
              exact ⟨true, rfl, ⟨fun _ => HY.out, fun _ => rfl⟩, HX6.out⟩

end Go.Proofs.YtddhbokknbmdfaaDoor

/- Package book: the page that ops are done to, in memory. -/
namespace Go.Proofs.YtddhbokknbmdfaaDoor
open Go.RowKit

def pgC (c : Cf) (vn vj : Value) (s : St) : Array Value := #[.int .i64 c.nodes, .int .i64 c.queues, .int .i64 c.quota, .int .i64 c.wave, .int .i64 c.lease, .int .i64 c.retry, .int .i64 c.deadline, .int .i64 c.room, .int .i64 c.disk, vn, vj, .int .i64 s.goal, .int .i64 s.prior, .int .i64 s.mode, .int .i64 s.term]
/-- The page at g: its fleet, its state; all in the set. -/
def Pg (F : Fp) (w : World) (g : Nat) (c : Cf) (vn vj : Value) (s : St) : Prop :=
  ObjF F w g 55 (pgC c vn vj s) [⟨45, 5, vn, s.nodes.length, nodesC s.nodes⟩, ⟨52, 12, vj, s.jobs.length, jobsC s.jobs⟩]

section
variable {F G : Fp} {w w' : World} {g : Nat} {c : Cf} {vn vj : Value} {s : St}
theorem Pg.ext (h : Pg F w g c vn vj s) (hx : Ext w w') : Pg F w' g c vn vj s := ObjF.ext h hx
theorem Pg.isIn (h : Pg F w g c vn vj s) : F.isIn w := ObjF.isIn h
theorem Pg.mono (h : Pg F w g c vn vj s) (hf : ∀ k, F k → G k) (hi : G.isIn w) : Pg G w g c vn vj s := ObjF.mono h hf hi
theorem Pg.blk (h : Pg F w g c vn vj s) : Blk w g 55 (pgC c vn vj s) := ObjF.blk h
theorem Pg.lt (h : Pg F w g c vn vj s) : g < w.heap.size := (ObjF.blk h).lt
theorem Pg.rowN (h : Pg F w g c vn vj s) : w.ownsRow 0 45 5 vn s.nodes.length (nodesC s.nodes) := (ObjF.ok h ⟨45, 5, vn, s.nodes.length, nodesC s.nodes⟩ (by simp)).1
theorem Pg.rowJ (h : Pg F w g c vn vj s) : w.ownsRow 0 52 12 vj s.jobs.length (jobsC s.jobs) := (ObjF.ok h ⟨52, 12, vj, s.jobs.length, jobsC s.jobs⟩ (by simp)).1
theorem Pg.rd (h : Pg F w g c vn vj s) : RdSt w vn vj s := ⟨RdS.own h.rowN, RdS.own h.rowJ⟩
theorem Pg.fr (h : Pg F w g c vn vj s) (i : Nat) : w.frozen? ⟨g, i, none⟩ = false := (ObjF.blk h).frozen i
/-- What a walk wants of a node. -/
theorem Pg.nodeAt (h : Pg F w g c vn vj s) {i : Nat} {n : Nd} (hi : s.nodes[i]? = some n) : ∃ b cap, vn = .slice (some ⟨b, 0, none⟩) s.nodes.length cap ∧ s.nodes.length ≤ cap ∧ cap ≤ 9223372036854775807 ∧ b < w.heap.size ∧ b ≠ g ∧ NdAt w b (i * 5) n ∧ ∀ k, w.frozen? ⟨b, k, none⟩ = false := by
  have hr := h.rowN
  have hil := (List.getElem?_eq_some_iff.1 hi).1
  rcases hr.2 with ⟨_, h0⟩ | ⟨b, cap, cur, hv, hg, hh, hn, hcap, hs, ht⟩
  · omega
  · have hoff := ObjF.off h ⟨45, 5, vn, s.nodes.length, nodesC s.nodes⟩ (by simp)
    subst hv
    refine ⟨b, cap, rfl, hn, by unfold maxLen at hcap; omega, (Array.getElem?_eq_some_iff.1 hh).1, fun e => hoff (by rw [e]; rfl), ?_, fun k => hr.frozenAt k⟩
    refine NdAt.of fun j u hu => ?_
    have hj : j < 5 := (List.getElem?_eq_some_iff.1 hu).1
    rw [hr.cellAt _ (by omega)]
    exact (flat_get Nd.len hi j hj).trans hu
theorem Pg.jobAt (h : Pg F w g c vn vj s) {i : Nat} {n : Jb} (hi : s.jobs[i]? = some n) : ∃ b cap, vj = .slice (some ⟨b, 0, none⟩) s.jobs.length cap ∧ s.jobs.length ≤ cap ∧ cap ≤ 9223372036854775807 ∧ b < w.heap.size ∧ b ≠ g ∧ JbAt w b (i * 12) n ∧ ∀ k, w.frozen? ⟨b, k, none⟩ = false := by
  have hr := h.rowJ
  have hil := (List.getElem?_eq_some_iff.1 hi).1
  rcases hr.2 with ⟨_, h0⟩ | ⟨b, cap, cur, hv, hg, hh, hn, hcap, hs, ht⟩
  · omega
  · have hoff := ObjF.off h ⟨52, 12, vj, s.jobs.length, jobsC s.jobs⟩ (by simp)
    subst hv
    refine ⟨b, cap, rfl, hn, by unfold maxLen at hcap; omega, (Array.getElem?_eq_some_iff.1 hh).1, fun e => hoff (by rw [e]; rfl), ?_, fun k => hr.frozenAt k⟩
    refine JbAt.of fun j u hu => ?_
    have hj : j < 12 := (List.getElem?_eq_some_iff.1 hu).1
    rw [hr.cellAt _ (by omega)]
    exact (flat_get Jb.len hi j hj).trans hu
theorem Pg.far (h : Pg F w g c vn vj s) : ∀ k, vn.ownBlock = some k → vj.ownBlock ≠ some k := by
  have := ObjF.apart h
  rw [List.pairwise_cons] at this
  exact this.1 ⟨52, 12, vj, s.jobs.length, jobsC s.jobs⟩ (by simp)

theorem chg_cell {b k : Nat} {u : Value} (hF : F b) : Chg F w (w.setCell ⟨b, k, none⟩ u) := (Chg.refl F w).setCell fun _ => hF
/-- A node's field is written. -/
theorem Pg.setN (h : Pg F w g c vn vj s) {i : Nat} {n n' : Nd} (hi : s.nodes[i]? = some n) {b cap : Nat} (hv : vn = .slice (some ⟨b, 0, none⟩) s.nodes.length cap) (j : Nat) (hj : j < 5) (u : Value) (hn : n'.cells = n.cells.set j u) :
    Pg F (w.setCell ⟨b, i * 5 + j, none⟩ u) g c vn vj (setN s i n') ∧ Chg F w (w.setCell ⟨b, i * 5 + j, none⟩ u) := by
  have hr := h.rowN
  have hF : F b := (ObjF.ok h ⟨45, 5, vn, s.nodes.length, nodesC s.nodes⟩ (by simp)).2 b (by rw [hv]; rfl)
  have hc := chg_cell (w := w) (k := i * 5 + j) (u := u) hF
  subst hv
  obtain ⟨h1, h2⟩ := hr.stored (i * 5 + j) u
  have hset : nodesC (s.nodes.set i n') = (nodesC s.nodes).set (i * 5 + j) u := flat_set Nd.len hi j hj u hn
  have ht := ObjF.turn (w' := w.setCell ⟨b, i * 5 + j, none⟩ u) h 0 (by simp) ⟨45, 5, .slice (some ⟨b, 0, none⟩) s.nodes.length cap, (s.nodes.set i n').length, nodesC (s.nodes.set i n')⟩ (by rw [hset, List.length_set]; exact h1)
    ((Chg.refl _ w).setCell fun _ => rfl) (fun k hk => .inl hk)
  refine ⟨?_, hc⟩
  have hm : Pg (Fp.since F w (w.setCell ⟨b, i * 5 + j, none⟩ u)) (w.setCell ⟨b, i * 5 + j, none⟩ u) g c (.slice (some ⟨b, 0, none⟩) s.nodes.length cap) vj (Go.Proofs.YtddhbokknbmdfaaDoor.setN s i n') := ht.1
  refine hm.mono (fun k hk => ?_) (h.isIn.chg hc)
  rcases hk with hk | hk
  · exact hk
  · simp at hk
    omega
/-- A job's field is written. -/
theorem Pg.setJ (h : Pg F w g c vn vj s) {i : Nat} {n n' : Jb} (hi : s.jobs[i]? = some n) {b cap : Nat} (hv : vj = .slice (some ⟨b, 0, none⟩) s.jobs.length cap) (j : Nat) (hj : j < 12) (u : Value) (hn : n'.cells = n.cells.set j u) :
    Pg F (w.setCell ⟨b, i * 12 + j, none⟩ u) g c vn vj (setJ s i n') ∧ Chg F w (w.setCell ⟨b, i * 12 + j, none⟩ u) := by
  have hr := h.rowJ
  have hF : F b := (ObjF.ok h ⟨52, 12, vj, s.jobs.length, jobsC s.jobs⟩ (by simp)).2 b (by rw [hv]; rfl)
  have hc := chg_cell (w := w) (k := i * 12 + j) (u := u) hF
  subst hv
  obtain ⟨h1, h2⟩ := hr.stored (i * 12 + j) u
  have hset : jobsC (s.jobs.set i n') = (jobsC s.jobs).set (i * 12 + j) u := flat_set Jb.len hi j hj u hn
  have ht := ObjF.turn (w' := w.setCell ⟨b, i * 12 + j, none⟩ u) h 1 (by simp) ⟨52, 12, .slice (some ⟨b, 0, none⟩) s.jobs.length cap, (s.jobs.set i n').length, jobsC (s.jobs.set i n')⟩ (by rw [hset, List.length_set]; exact h1)
    ((Chg.refl _ w).setCell fun _ => rfl) (fun k hk => .inl hk)
  refine ⟨?_, hc⟩
  have hm : Pg (Fp.since F w (w.setCell ⟨b, i * 12 + j, none⟩ u)) (w.setCell ⟨b, i * 12 + j, none⟩ u) g c vn (.slice (some ⟨b, 0, none⟩) s.jobs.length cap) (Go.Proofs.YtddhbokknbmdfaaDoor.setJ s i n') := ht.1
  refine hm.mono (fun k hk => ?_) (h.isIn.chg hc)
  rcases hk with hk | hk
  · exact hk
  · simp at hk
    omega
/-- One of the state's numbers is written. -/
theorem Pg.setG (h : Pg F w g c vn vj s) (s' : St) (k : Nat) (u : Value) (hn : s'.nodes = s.nodes) (hj : s'.jobs = s.jobs) (hc : pgC c vn vj s' = (pgC c vn vj s).setIfInBounds k u) :
    Pg F (w.setCell ⟨g, k, none⟩ u) g c vn vj s' ∧ Chg F w (w.setCell ⟨g, k, none⟩ u) := by
  have := ObjF.setCell h k u
  unfold Pg
  rw [hn, hj, hc]
  exact this
end

end Go.Proofs.YtddhbokknbmdfaaDoor

/- Package book: a page's small methods. -/
namespace Go.Proofs.YtddhbokknbmdfaaDoor
open Go.RowKit

section
variable {F : Fp} {w : World} {g : Nat} {c : Cf} {vn vj : Value} {s : St}
theorem Pg.c9 (h : Pg F w g c vn vj s) : w.cell? ⟨g, 9, none⟩ = some vn := h.blk.cell 9
theorem Pg.c10 (h : Pg F w g c vn vj s) : w.cell? ⟨g, 10, none⟩ = some vj := h.blk.cell 10
theorem Pg.c11 (h : Pg F w g c vn vj s) : w.cell? ⟨g, 11, none⟩ = some (.int .i64 s.goal) := h.blk.cell 11
theorem Pg.c12 (h : Pg F w g c vn vj s) : w.cell? ⟨g, 12, none⟩ = some (.int .i64 s.prior) := h.blk.cell 12
theorem Pg.c13 (h : Pg F w g c vn vj s) : w.cell? ⟨g, 13, none⟩ = some (.int .i64 s.mode) := h.blk.cell 13
theorem Pg.c14 (h : Pg F w g c vn vj s) : w.cell? ⟨g, 14, none⟩ = some (.int .i64 s.term) := h.blk.cell 14
theorem Pg.slN (h : Pg F w g c vn vj s) : ∃ A cap, vn = .slice A s.nodes.length cap ∧ s.nodes.length ≤ cap ∧ cap ≤ 9223372036854775807 := h.rd.nodes.slice_
theorem Pg.slJ (h : Pg F w g c vn vj s) : ∃ A cap, vj = .slice A s.jobs.length cap ∧ s.jobs.length ≤ cap ∧ cap ≤ 9223372036854775807 := h.rd.jobs.slice_
end

theorem isJob_any (F : Fp) (w : World) (g : Nat) (c : Cf) (vn vj : Value) (s : St) (a : Int) (h : Pg F w g c vn vj s) :
    Calls Tryd.prog 62 #[.pointer (some ⟨g, 0, none⟩), .int .i64 a] w fun e w' => e = .returned (.bool (inR a 1 (s.jobs.length : Int))) ∧ w = w' := by
  have HF := Lib.hid fun n lo hi w' => isFrom_any n lo hi w'
  have c10 := h.c10
  obtain ⟨A, cap, rfl, h1, h2⟩ := h.slJ
  clear h
  go_enter Tryd.func62, Tryd.ntmps62
  go_wp2_with fail
  refine (HF.out _ _ _ _).mono ?_
  rintro e1 w1 ⟨rfl, rfl⟩
  go_wp2
  go_ret
  exact ⟨rfl, rfl⟩

theorem isNode_any (F : Fp) (w : World) (g : Nat) (c : Cf) (vn vj : Value) (s : St) (a : Int) (h : Pg F w g c vn vj s) :
    Calls Tryd.prog 63 #[.pointer (some ⟨g, 0, none⟩), .int .i64 a] w fun e w' => e = .returned (.bool (inR a 0 ((s.nodes.length : Int) - 1))) ∧ w = w' := by
  have HF := Lib.hid fun n lo hi w' => isFrom_any n lo hi w'
  have c9 := h.c9
  obtain ⟨A, cap, rfl, h1, h2⟩ := h.slN
  have hw : wrap64 ((s.nodes.length : Int) - 1) = (s.nodes.length : Int) - 1 := IntWalk.wrap64_in _ (by omega)
  clear h
  go_enter Tryd.func63, Tryd.ntmps63
  go_wp2_with fail
  refine (HF.out _ _ _ _).mono ?_
  rintro e1 w1 ⟨rfl, rfl⟩
  go_wp2
  go_ret
  exact ⟨rfl, rfl⟩

theorem node_any (F : Fp) (w : World) (g : Nat) (c : Cf) (vj : Value) (s : St) (i b cap : Nat) (n : Nd) (h : Pg F w g c (.slice (some ⟨b, 0, none⟩) s.nodes.length cap) vj s) (hi : s.nodes[i]? = some n) :
    Calls Tryd.prog 104 #[.pointer (some ⟨g, 0, none⟩), .int .i64 (i : Int)] w fun e w' => e = .returned (.pointer (some ⟨b, i * 5, none⟩)) ∧ w = w' := by
  have c9 := h.c9
  have hil := (List.getElem?_eq_some_iff.1 hi).1
  clear h hi
  go_enter Tryd.func104, Tryd.ntmps104
  go_wp2
  go_ret
  exact ⟨by simp, rfl⟩

theorem job_any (F : Fp) (w : World) (g : Nat) (c : Cf) (vn : Value) (s : St) (i b cap : Nat) (n : Jb) (h : Pg F w g c vn (.slice (some ⟨b, 0, none⟩) s.jobs.length cap) s) (hi : s.jobs[i]? = some n) (hc : cap ≤ 9223372036854775807) (hn : s.jobs.length ≤ cap) :
    Calls Tryd.prog 105 #[.pointer (some ⟨g, 0, none⟩), .int .i64 ((i : Int) + 1)] w fun e w' => e = .returned (.pointer (some ⟨b, i * 12, none⟩)) ∧ w = w' := by
  have c10 := h.c10
  have hil := (List.getElem?_eq_some_iff.1 hi).1
  have hw1 : wrap64 ((i : Int) + 1 - 1) = (i : Int) := by rw [IntWalk.wrap64_in _ (by omega)]; omega
  clear h hi
  go_enter Tryd.func105, Tryd.ntmps105
  go_wp2
  go_ret
  exact ⟨by simp, rfl⟩

theorem Index_any (xs : List Int) (x : Int) (v : Value) (w : World) (hr : Rd w v (xs.map I)) (hl : xs.length ≤ 100) :
    Calls Tryd.prog 112 #[v, .int .i64 x] w fun e w' => ∃ r : Int, e = .returned (.int .i64 r) ∧ (0 ≤ r ↔ x ∈ xs) ∧ w = w' := by
  obtain ⟨A, cap, rfl, hnc, hcm⟩ := hr.sliceN (n := xs.length) (by simp)
  have HR := Lib.hid hr
  clear hr
  go_enter Tryd.func112, Tryd.ntmps112
  go_wp2_with fail
  go_loop [8] (fun i => ∃ k : Nat, i = .int .i64 k ∧ k ≤ xs.length ∧ Hid (∀ j y, j < k → xs[j]? = some y → y ≠ x)) (fun i => xs.length - (intOf i).toNat)
  case atStart => exact ⟨0, rfl, Nat.zero_le _, Lib.hid (fun j y h => absurd h (Nat.not_lt_zero j))⟩
  case round =>
    obtain ⟨k, rfl, hk, HA⟩ := hrel
    by_cases hlt : k < xs.length
    · have d1 : decide ((k : Int) < (xs.length : Int)) = true := decide_eq_true (by omega)
      have d1' : decide (k < xs.length) = true := decide_eq_true hlt
      obtain ⟨y, hy⟩ : ∃ y, xs[k]? = some y := ⟨_, List.getElem?_eq_getElem hlt⟩
      obtain ⟨b, o, rfl, _, hc⟩ := HR.out.get (by simpa using (show 0 < xs.length by omega))
      have c0 := hc k (I y) (by rw [List.getElem?_map, hy]; rfl)
      have HY := Lib.hid hy
      have HLT := Lib.hid hlt
      clear hc hy
      by_cases he : x = y
      · have e1 : (x == y) = true := by rw [he]; exact beq_self_eq_true _
        have HM : Hid (x ∈ xs) := Lib.hid (by rw [he]; exact List.mem_of_getElem? HY.out)
        clear he
        go_wp2
        go_ret
        exact ⟨(k : Int), rfl, ⟨fun _ => HM.out, fun _ => by omega⟩, rfl⟩
      · have e1 : (x == y) = false := by rw [beq_eq_false_iff_ne]; exact he
        have HE := Lib.hid he
        clear he
        go_wp2
        go_round
        case rel =>
          refine ⟨k + 1, by go_num, HLT.out, Lib.hid fun j z hj hz => ?_⟩
          rcases Nat.lt_or_ge j k with h' | h'
          · exact HA.out j z h' hz
          · obtain rfl : j = k := by omega
            rw [HY.out] at hz
            cases hz
            exact fun e => HE.out e.symm
        case measure => have := HLT.out; simp [intOf]; omega
    · have d1 : decide ((k : Int) < (xs.length : Int)) = false := decide_eq_false (by omega)
      have d1' : decide (k < xs.length) = false := decide_eq_false hlt
      obtain rfl : k = xs.length := by omega
      have HM : Hid (¬ x ∈ xs) := Lib.hid fun hm => by
        obtain ⟨j, hj, e⟩ := List.getElem_of_mem hm
        exact HA.out j x hj (by rw [List.getElem?_eq_getElem hj, e]) rfl
      go_wp2
      go_ret
      exact ⟨-1, rfl, ⟨fun h => by omega, fun h => absurd h HM.out⟩, rfl⟩

theorem Contains_any (xs : List Int) (x : Int) (v : Value) (w : World) (hr : Rd w v (xs.map I)) (hl : xs.length ≤ 100) :
    Calls Tryd.prog 109 #[v, .int .i64 x] w fun e w' => e = .returned (.bool (decide (x ∈ xs))) ∧ w = w' := by
  have HI := Lib.hid (Index_any xs x v w hr hl)
  clear hr
  go_enter Tryd.func109, Tryd.ntmps109
  go_wp2_with fail
  refine HI.out.mono ?_
  rintro e1 w1 ⟨r, rfl, hr, rfl⟩
  have HD : Hid (decide (0 ≤ r) = decide (x ∈ xs)) := Lib.hid (by rw [decide_eq_decide]; exact hr)
  clear hr
  go_wp2
  go_ret
  exact ⟨by rw [← HD.out]; rfl, rfl⟩

theorem is_any (F : Fp) (w : World) (g : Nat) (c : Cf) (vn vj : Value) (s : St) (i : Nat) (j : Jb) (xs : List Int) (v : Value) (h : Pg F w g c vn vj s) (hi : s.jobs[i]? = some j) (hr : Rd w v (xs.map I)) (hl : xs.length ≤ 100) :
    Calls Tryd.prog 102 #[.pointer (some ⟨g, 0, none⟩), .int .i64 ((i : Int) + 1), v] w fun e w' => e = .returned (.bool (decide (j.phase ∈ xs))) ∧ w = w' := by
  obtain ⟨b, cap, rfl, hnc, hcm, hb, hbg, hat, hfr⟩ := h.jobAt hi
  have HJ := Lib.hid (job_any F w g c vn s i b cap j h hi hcm hnc)
  have HC := Lib.hid (Contains_any xs j.phase v w hr hl)
  have c6 := hat.c6
  generalize decide (j.phase ∈ xs) = d at *
  clear h hi hr hat hfr hb hbg
  go_enter Tryd.func102, Tryd.ntmps102
  go_wp2_with fail
  refine HJ.out.mono ?_
  rintro e1 w1 ⟨rfl, rfl⟩
  go_wp2_with fail
  refine HC.out.mono ?_
  rintro e1 w1 ⟨rfl, rfl⟩
  go_wp2
  go_ret
  exact ⟨rfl, rfl⟩

end Go.Proofs.YtddhbokknbmdfaaDoor

/- Package book: nodes get a job, or none; a job is let go; whether nodes are free. -/
namespace Go.Proofs.YtddhbokknbmdfaaDoor
open Go.RowKit

/-- The first k nodes of the set have got the job. -/
def giveK (l : List Nd) (set job : Int) (k : Nat) : List Nd := l.mapIdx fun i n => if i < k ∧ hasS set i = true then { n with job := job } else n
theorem giveK_zero (l : List Nd) (set job : Int) : giveK l set job 0 = l := by
  unfold giveK
  apply List.ext_getElem?
  intro i
  rw [List.getElem?_mapIdx]
  cases l[i]? <;> simp
theorem giveK_len (l : List Nd) (set job : Int) (k : Nat) : (giveK l set job k).length = l.length := by unfold giveK; simp
theorem giveK_all (l : List Nd) (set job : Int) : giveK l set job l.length = giveL l set job := by
  unfold giveK giveL
  apply List.ext_getElem?
  intro i
  rw [List.getElem?_mapIdx, List.getElem?_mapIdx]
  by_cases h : i < l.length
  · simp [h]
  · rw [List.getElem?_eq_none (by omega)]; rfl
theorem giveK_get {l : List Nd} {set job : Int} {k : Nat} {n : Nd} (h : l[k]? = some n) : (giveK l set job k)[k]? = some n := by
  unfold giveK
  rw [List.getElem?_mapIdx, h]
  simp
theorem giveK_skip {l : List Nd} {set job : Int} {k : Nat} (hs : hasS set k = false) : giveK l set job (k + 1) = giveK l set job k := by
  unfold giveK
  apply List.ext_getElem?
  intro i
  rw [List.getElem?_mapIdx, List.getElem?_mapIdx]
  cases l[i]? with
  | none => rfl
  | some n =>
    simp only [Option.map_some, Option.some.injEq]
    by_cases hi : i < k
    · have h1 : i < k + 1 := by omega
      simp [hi, h1]
    · by_cases he : i = k
      · subst he
        simp [hs]
      · have h1 : ¬ i < k + 1 := by omega
        simp [hi, h1]
theorem giveK_set {l : List Nd} {set job : Int} {k : Nat} {n : Nd} (h : l[k]? = some n) (hs : hasS set k = true) : (giveK l set job k).set k { n with job := job } = giveK l set job (k + 1) := by
  unfold giveK
  apply List.ext_getElem?
  intro i
  rw [List.getElem?_set, List.getElem?_mapIdx, List.getElem?_mapIdx]
  have hk := (List.getElem?_eq_some_iff.1 h).1
  by_cases he : k = i
  · subst he
    rw [h]
    simp [hs, hk]
  · rw [if_neg he]
    cases l[i]? with
    | none => rfl
    | some m =>
      simp only [Option.map_some, Option.some.injEq]
      by_cases hi : i < k
      · have h1 : i < k + 1 := by omega
        simp [hi, h1]
      · have h1 : ¬ i < k + 1 := by omega
        simp [hi, h1]

theorem Nd.setJob (n : Nd) (job : Int) : ({ n with job := job } : Nd).cells = n.cells.set 4 (.int .i64 job) := rfl

set_option maxRecDepth 100000 in
set_option maxHeartbeats 4000000 in
theorem give_any (F : Fp) (w : World) (g : Nat) (c : Cf) (vn vj : Value) (s : St) (set job : Int) (h : Pg F w g c vn vj s) (hn : s.nodes.length ≤ 6) :
    Calls Tryd.prog 107 #[.pointer (some ⟨g, 0, none⟩), .int .i64 set, .int .i64 job] w fun e w' => e = .returned (.tuple #[]) ∧ Pg F w' g c vn vj (giveS s set job) ∧ Chg F w w' := by
  have HH := Lib.hid fun i hi w' => has_any set i hi w'
  have c9 := h.c9
  obtain ⟨A, cap, rfl, hnc, hcm⟩ := h.slN
  have HP := Lib.hid h
  clear h
  go_enter Tryd.func107, Tryd.ntmps107
  go_wp2_with fail
  go_loopg [13] s.nodes.length (fun gg i wr => ∃ (q : Nat), i = .int .i64 q ∧ q ≤ s.nodes.length ∧ gg = s.nodes.length - q ∧ Hid (Pg F wr g c (.slice A s.nodes.length cap) vj { s with nodes := giveK s.nodes set job q } ∧ Chg F w wr))
  case atStart => exact ⟨0, rfl, Nat.zero_le _, by omega, Lib.hid ⟨by rw [giveK_zero]; exact HP.out, Chg.refl _ _⟩⟩
  case round =>
    obtain ⟨q, rfl, hq, rfl, HR⟩ := hrel
    by_cases hlt : q < s.nodes.length
    · have d1 : decide ((q : Int) < (s.nodes.length : Int)) = true := decide_eq_true (by omega)
      have d1' : decide (q < s.nodes.length) = true := decide_eq_true hlt
      obtain ⟨n, hnk⟩ : ∃ n, s.nodes[q]? = some n := ⟨_, List.getElem?_eq_getElem hlt⟩
      have hq64 : q < 64 := by omega
      have HNK := Lib.hid hnk
      have HLT := Lib.hid hlt
      clear hnk
      go_wp2_with fail
      refine (HH.out q hq64 _).mono ?_
      rintro e1 w1 ⟨rfl, rfl⟩
      cases hh : hasS set q
      · have HR2 := Lib.hid (show Pg F wr g c (.slice A s.nodes.length cap) vj { s with nodes := giveK s.nodes set job (q + 1) } by rw [giveK_skip hh]; exact HR.out.1)
        go_wp2
        go_roundg (s.nodes.length - (q + 1))
        case measure => have := HLT.out; omega
        case rel => exact ⟨q + 1, by go_num, HLT.out, rfl, Lib.hid ⟨HR2.out, HR.out.2⟩⟩
      · have hl := giveK_len s.nodes set job q
        have hg1 := giveK_get (set := set) (job := job) HNK.out
        obtain ⟨b, cap2, hv, hnc2, hcm2, hb, hbg, hat, hfr⟩ := HR.out.1.nodeAt (i := q) (n := n) hg1
        simp only [hl] at hv
        injection hv with hA _ hcap
        subst hA hcap
        have HN := Lib.hid (node_any F wr g c vj { s with nodes := giveK s.nodes set job q } q b cap n (by simp only [hl]; exact HR.out.1) hg1)
        have HS := Lib.hid (HR.out.1.setN (b := b) (cap := cap) (n' := { n with job := job }) hg1 (by simp only [hl]) 4 (by omega) (.int .i64 job) (Nd.setJob n job))
        have c4 := hat.c4
        have f4 := hfr (q * 5 + 4)
        have HR2 : Hid (Pg F (wr.setCell ⟨b, q * 5 + 4, none⟩ (.int .i64 job)) g c (.slice (some ⟨b, 0, none⟩) s.nodes.length cap) vj { s with nodes := giveK s.nodes set job (q + 1) } ∧ Chg F w (wr.setCell ⟨b, q * 5 + 4, none⟩ (.int .i64 job))) := Lib.hid (by
          rw [← giveK_set HNK.out hh]
          exact ⟨HS.out.1, HR.out.2.trans HS.out.2 (fun _ _ h => h)⟩)
        clear hat hfr hb hbg hg1 HS hl
        go_wp2_with fail
        refine HN.out.mono ?_
        rintro e1 w1_ ⟨rfl, rfl⟩
        go_wp2
        go_roundg (s.nodes.length - (q + 1))
        case measure => have := HLT.out; omega
        case rel => exact ⟨q + 1, by go_num, HLT.out, rfl, HR2⟩
    · have d1 : decide ((q : Int) < (s.nodes.length : Int)) = false := decide_eq_false (by omega)
      have d1' : decide (q < s.nodes.length) = false := decide_eq_false hlt
      obtain rfl : q = s.nodes.length := by omega
      go_wp2
      go_end0
      refine ⟨rfl, ?_, HR.out.2⟩
      have := HR.out.1
      rw [giveK_all] at this
      exact this

section
variable {F : Fp} {w : World} {g : Nat} {c : Cf} {vn vj : Value} {s : St}
/-- Four fields of a job are written. -/
theorem Pg.gone (h : Pg F w g c vn vj s) {k : Nat} {j : Jb} (hj : s.jobs[k]? = some j) {b cap : Nat} (hv : vj = .slice (some ⟨b, 0, none⟩) s.jobs.length cap) (phase : Int) :
    Pg F ((((w.setCell ⟨b, k * 12 + 6, none⟩ (.int .i64 phase)).setCell ⟨b, k * 12 + 8, none⟩ (.int .i64 0)).setCell ⟨b, k * 12 + 9, none⟩ (.int .i64 0)).setCell ⟨b, k * 12 + 10, none⟩ (.int .i64 0)) g c vn vj (Go.Proofs.YtddhbokknbmdfaaDoor.setJ s k (Go.Proofs.YtddhbokknbmdfaaDoor.gone j phase)) ∧
      Chg F w ((((w.setCell ⟨b, k * 12 + 6, none⟩ (.int .i64 phase)).setCell ⟨b, k * 12 + 8, none⟩ (.int .i64 0)).setCell ⟨b, k * 12 + 9, none⟩ (.int .i64 0)).setCell ⟨b, k * 12 + 10, none⟩ (.int .i64 0)) := by
  have hk := (List.getElem?_eq_some_iff.1 hj).1
  have set_at : ∀ (l : List Jb) (x : Jb), l.length = s.jobs.length → (l.set k x)[k]? = some x := fun l x hl => by rw [List.getElem?_set_self (by omega)]
  obtain ⟨h1, e1⟩ := h.setJ (n' := { j with phase := phase }) hj hv 6 (by omega) (.int .i64 phase) rfl
  obtain ⟨h2, e2⟩ := h1.setJ (n' := { j with phase := phase, nodes := 0 }) (set_at s.jobs _ rfl) (b := b) (cap := cap) (by rw [hv]; simp [Go.Proofs.YtddhbokknbmdfaaDoor.setJ]) 8 (by omega) (.int .i64 0) rfl
  obtain ⟨h3, e3⟩ := h2.setJ (n' := { j with phase := phase, nodes := 0, since := 0 }) (set_at _ _ (by simp [Go.Proofs.YtddhbokknbmdfaaDoor.setJ])) (b := b) (cap := cap) (by rw [hv]; simp [Go.Proofs.YtddhbokknbmdfaaDoor.setJ]) 9 (by omega) (.int .i64 0) rfl
  obtain ⟨h4, e4⟩ := h3.setJ (n' := Go.Proofs.YtddhbokknbmdfaaDoor.gone j phase) (set_at _ _ (by simp [Go.Proofs.YtddhbokknbmdfaaDoor.setJ])) (b := b) (cap := cap) (by rw [hv]; simp [Go.Proofs.YtddhbokknbmdfaaDoor.setJ]) 10 (by omega) (.int .i64 0) rfl
  refine ⟨?_, ((e1.trans e2 (fun _ _ h => h)).trans e3 (fun _ _ h => h)).trans e4 (fun _ _ h => h)⟩
  simp only [Go.Proofs.YtddhbokknbmdfaaDoor.setJ, List.set_set] at h4 ⊢
  exact h4
end

set_option maxRecDepth 100000 in
set_option maxHeartbeats 4000000 in
theorem letGo_any (F : Fp) (w : World) (g : Nat) (c : Cf) (vn vj : Value) (s : St) (k : Nat) (j : Jb) (phase : Int) (h : Pg F w g c vn vj s) (hj : s.jobs[k]? = some j) (hn : s.nodes.length ≤ 6) :
    Calls Tryd.prog 103 #[.pointer (some ⟨g, 0, none⟩), .int .i64 ((k : Int) + 1), .int .i64 phase] w fun e w' => e = .returned (.tuple #[]) ∧ Pg F w' g c vn vj (letGoS s k j phase) ∧ Chg F w w' := by
  obtain ⟨b, cap, rfl, hnc, hcm, hb, hbg, hat, hfr⟩ := h.jobAt hj
  have HJ := Lib.hid (job_any F w g c vn s k b cap j h hj hcm hnc)
  have HG := Lib.hid (give_any F w g c vn (.slice (some ⟨b, 0, none⟩) s.jobs.length cap) s j.nodes 0 h hn)
  have c8 := hat.c8
  have HK := Lib.hid hj
  clear h hat hfr hj
  go_enter Tryd.func103, Tryd.ntmps103
  go_wp2_with fail
  refine HJ.out.mono ?_
  rintro e1 w1 ⟨rfl, rfl⟩
  go_wp2_with fail
  refine HG.out.mono ?_
  rintro e2 w2 ⟨rfl, hp, hc⟩
  have HC := Lib.hid hc
  have hj2 : (giveS s j.nodes 0).jobs[k]? = some j := HK.out
  have HS := Lib.hid (hp.gone hj2 (b := b) (cap := cap) rfl phase)
  obtain ⟨b', cap', hv, _, _, hb', hbg', hat', hfr'⟩ := hp.jobAt hj2
  injection hv with hA _ hcap
  injection hA with hA
  injection hA with hA
  subst hA hcap
  have c6 := hat'.c6
  have c8 := hat'.c8
  have c9 := hat'.c9
  have c10 := hat'.c10
  have f6 := hfr' (k * 12 + 6)
  have f8 := hfr' (k * 12 + 8)
  have f9 := hfr' (k * 12 + 9)
  have f10 := hfr' (k * 12 + 10)
  clear hp hc hj2 hat' hfr' hb hb' hbg hbg'
  go_wp2
  go_end0
  exact ⟨rfl, HS.out.1, HC.out.trans HS.out.2 (fun _ _ h => h)⟩

end Go.Proofs.YtddhbokknbmdfaaDoor

/- Package book: the ops of a node. -/
namespace Go.Proofs.YtddhbokknbmdfaaDoor
open Go.RowKit

/-- What an op's function leaves. -/
def MDone (F : Fp) (w : World) (g : Nat) (c : Cf) (res : Res9) (e : Ending) (w' : World) : Prop := e = .returned (.int .i64 res.2) ∧ (∃ vn vj, Pg (F.since w w') w' g c vn vj res.1) ∧ Chg F w w'
theorem MDone.of {F : Fp} {w w' : World} {g : Nat} {c : Cf} {vn vj : Value} {res : Res9} {s' : St} {er : Int} {e : Ending} (hres : res = (s', er)) (he : e = .returned (.int .i64 er)) (hp : Pg F w' g c vn vj s') (hc : Chg F w w') : MDone F w g c res e w' := by
  subst hres
  refine ⟨he, ⟨vn, vj, hp.mono (fun k hk => .inl hk) fun k hk => ?_⟩, hc⟩
  rcases hk with hk | hk
  · exact hp.isIn k hk
  · exact hk.2
theorem chg2 {F : Fp} {a b c : World} (h1 : Ext a b) (h2 : Chg F b c) : Chg F a c := (Chg.of_ext h1).trans h2 (fun _ _ h => h)
theorem chg3 {F : Fp} {a b c : World} (h1 : Chg F a b) (h2 : Chg F b c) : Chg F a c := h1.trans h2 (fun _ _ h => h)
theorem boxOp (w : World) (oc : Array Value) : Ext w (w.alloc (.cells oc 36)) ∧ Blk (w.alloc (.cells oc 36)) w.heap.size 36 oc := ⟨(Below.refl _ _).alloc (Nat.le_refl _) _, Blk.new w _ _⟩
theorem set_set_get {l : List Nd} {i : Nat} {n m : Nd} (h : l[i]? = some n) : (l.set i m)[i]? = some m := by rw [List.getElem?_set_self (List.getElem?_eq_some_iff.1 h).1]

set_option maxRecDepth 100000 in
set_option maxHeartbeats 4000000 in
theorem cordon_any (F : Fp) (w : World) (g : Nat) (c : Cf) (vn vj : Value) (s : St) (z v a3 a4 a5 a6 : Int) (i : Nat) (n : Nd) (h : Pg F w g c vn vj s) (hi : s.nodes[i]? = some n) :
    Calls Tryd.prog 79 #[.pointer (some ⟨g, 0, none⟩), .agg #[.int .i64 z, .int .i64 (i : Int), .int .i64 v, .int .i64 a3, .int .i64 a4, .int .i64 a5, .int .i64 a6]] w fun e w' => e = .returned (.int .i64 (cordonS s i n).2) ∧ (∃ vn vj, Pg (F.since w w') w' g c vn vj (cordonS s i n).1) ∧ Chg F w w' := by
  obtain ⟨hx, hbk⟩ := boxOp w #[.int .i64 z, .int .i64 (i : Int), .int .i64 v, .int .i64 a3, .int .i64 a4, .int .i64 a5, .int .i64 a6]
  obtain ⟨W1, hW1⟩ : ∃ W1, W1 = w.alloc (.cells #[.int .i64 z, .int .i64 (i : Int), .int .i64 v, .int .i64 a3, .int .i64 a4, .int .i64 a5, .int .i64 a6] 36) := ⟨_, rfl⟩
  rw [← hW1] at hx hbk
  have hp := h.ext hx
  obtain ⟨b, cap, rfl, hnc, hcm, hb, hbg, hat, hfr⟩ := hp.nodeAt hi
  have HN := Lib.hid (node_any F W1 g c vj s i b cap n hp hi)
  have HX := Lib.hid hx
  have HP := Lib.hid hp
  have HI := Lib.hid hi
  have HB := Lib.hid hbk
  have HF0 := Lib.hid hfr
  have hlw : w.heap.size ≠ b := fun e => by
    obtain ⟨b0, cap0, e0, _, _, hb0, _⟩ := h.nodeAt hi
    injection e0 with e1
    injection e1 with e1
    injection e1 with e1
    omega
  have q2 : W1.cell? ⟨w.heap.size, 2, none⟩ = some (.int .i64 v) := hbk.cell 2
  obtain ⟨c0, c1, c2, c3, c4⟩ := hat
  have f0 := hfr (i * 5)
  have f1 := hfr (i * 5 + 1)
  have f2 := hfr (i * 5 + 2)
  have f3 := hfr (i * 5 + 3)
  have f4 := hfr (i * 5 + 4)
  clear hx hp hi hfr hbk h
  have HS := Lib.hid (HP.out.setN HI.out rfl 1 (by omega) (.bool true) (n' := { n with cordon := true }) rfl)
  cases hup : n.up
  · have hr : cordonS s i n = (s, 5) := by rw [cordonS, if_neg (by rw [hup]; simp)]
    have HR := Lib.hid hr
    clear hr
    go_enter Tryd.func79, Tryd.ntmps79
    go_wp2_with fail
    rw [← hW1]
    clear hW1
    refine HN.out.mono ?_
    rintro e1 w1 ⟨rfl, rfl⟩
    go_wp2
    go_ret
    exact MDone.of (HR.out) rfl HP.out (Chg.of_ext HX.out)
  cases hco : n.cordon
  · have hr : cordonS s i n = (setN s i { n with cordon := true }, 0) := by rw [cordonS, if_pos ⟨hup, hco⟩]
    have HR := Lib.hid hr
    clear hr
    go_enter Tryd.func79, Tryd.ntmps79
    go_wp2_with fail
    rw [← hW1]
    clear hW1
    refine HN.out.mono ?_
    rintro e1 w1 ⟨rfl, rfl⟩
    go_wp2
    go_ret
    exact MDone.of (HR.out) rfl HS.out.1 (chg2 HX.out HS.out.2)
  · have hr : cordonS s i n = (s, 5) := by rw [cordonS, if_neg (by rw [hco]; simp)]
    have HR := Lib.hid hr
    clear hr
    go_enter Tryd.func79, Tryd.ntmps79
    go_wp2_with fail
    rw [← hW1]
    clear hW1
    refine HN.out.mono ?_
    rintro e1 w1 ⟨rfl, rfl⟩
    go_wp2
    go_ret
    exact MDone.of (HR.out) rfl HP.out (Chg.of_ext HX.out)

set_option maxRecDepth 100000 in
set_option maxHeartbeats 4000000 in
theorem uncordon_any (F : Fp) (w : World) (g : Nat) (c : Cf) (vn vj : Value) (s : St) (z v a3 a4 a5 a6 : Int) (i : Nat) (n : Nd) (h : Pg F w g c vn vj s) (hi : s.nodes[i]? = some n) :
    Calls Tryd.prog 80 #[.pointer (some ⟨g, 0, none⟩), .agg #[.int .i64 z, .int .i64 (i : Int), .int .i64 v, .int .i64 a3, .int .i64 a4, .int .i64 a5, .int .i64 a6]] w fun e w' => e = .returned (.int .i64 (uncordonS s i n).2) ∧ (∃ vn vj, Pg (F.since w w') w' g c vn vj (uncordonS s i n).1) ∧ Chg F w w' := by
  obtain ⟨hx, hbk⟩ := boxOp w #[.int .i64 z, .int .i64 (i : Int), .int .i64 v, .int .i64 a3, .int .i64 a4, .int .i64 a5, .int .i64 a6]
  obtain ⟨W1, hW1⟩ : ∃ W1, W1 = w.alloc (.cells #[.int .i64 z, .int .i64 (i : Int), .int .i64 v, .int .i64 a3, .int .i64 a4, .int .i64 a5, .int .i64 a6] 36) := ⟨_, rfl⟩
  rw [← hW1] at hx hbk
  have hp := h.ext hx
  obtain ⟨b, cap, rfl, hnc, hcm, hb, hbg, hat, hfr⟩ := hp.nodeAt hi
  have HN := Lib.hid (node_any F W1 g c vj s i b cap n hp hi)
  have HX := Lib.hid hx
  have HP := Lib.hid hp
  have HI := Lib.hid hi
  have HB := Lib.hid hbk
  have HF0 := Lib.hid hfr
  have hlw : w.heap.size ≠ b := fun e => by
    obtain ⟨b0, cap0, e0, _, _, hb0, _⟩ := h.nodeAt hi
    injection e0 with e1
    injection e1 with e1
    injection e1 with e1
    omega
  have q2 : W1.cell? ⟨w.heap.size, 2, none⟩ = some (.int .i64 v) := hbk.cell 2
  obtain ⟨c0, c1, c2, c3, c4⟩ := hat
  have f0 := hfr (i * 5)
  have f1 := hfr (i * 5 + 1)
  have f2 := hfr (i * 5 + 2)
  have f3 := hfr (i * 5 + 3)
  have f4 := hfr (i * 5 + 4)
  clear hx hp hi hfr hbk h
  have HS := Lib.hid (HP.out.setN HI.out rfl 1 (by omega) (.bool false) (n' := { n with cordon := false }) rfl)
  cases hco : n.cordon
  · have hr : uncordonS s i n = (s, 5) := by rw [uncordonS, if_neg (by rw [hco]; simp)]
    have HR := Lib.hid hr
    clear hr
    go_enter Tryd.func80, Tryd.ntmps80
    go_wp2_with fail
    rw [← hW1]
    clear hW1
    refine HN.out.mono ?_
    rintro e1 w1 ⟨rfl, rfl⟩
    go_wp2
    go_ret
    exact MDone.of (HR.out) rfl HP.out (Chg.of_ext HX.out)
  cases hmv : n.moving
  · have hr : uncordonS s i n = (setN s i { n with cordon := false }, 0) := by rw [uncordonS, if_pos ⟨hco, hmv⟩]
    have HR := Lib.hid hr
    clear hr
    go_enter Tryd.func80, Tryd.ntmps80
    go_wp2_with fail
    rw [← hW1]
    clear hW1
    refine HN.out.mono ?_
    rintro e1 w1 ⟨rfl, rfl⟩
    go_wp2
    go_ret
    exact MDone.of (HR.out) rfl HS.out.1 (chg2 HX.out HS.out.2)
  · have hr : uncordonS s i n = (s, 5) := by rw [uncordonS, if_neg (by rw [hmv]; simp)]
    have HR := Lib.hid hr
    clear hr
    go_enter Tryd.func80, Tryd.ntmps80
    go_wp2_with fail
    rw [← hW1]
    clear hW1
    refine HN.out.mono ?_
    rintro e1 w1 ⟨rfl, rfl⟩
    go_wp2
    go_ret
    exact MDone.of (HR.out) rfl HP.out (Chg.of_ext HX.out)

set_option maxRecDepth 100000 in
set_option maxHeartbeats 4000000 in
theorem move_any (F : Fp) (w : World) (g : Nat) (c : Cf) (vn vj : Value) (s : St) (z v a3 a4 a5 a6 : Int) (i : Nat) (n : Nd) (h : Pg F w g c vn vj s) (hi : s.nodes[i]? = some n) :
    Calls Tryd.prog 81 #[.pointer (some ⟨g, 0, none⟩), .agg #[.int .i64 z, .int .i64 (i : Int), .int .i64 v, .int .i64 a3, .int .i64 a4, .int .i64 a5, .int .i64 a6]] w fun e w' => e = .returned (.int .i64 (moveS s i n).2) ∧ (∃ vn vj, Pg (F.since w w') w' g c vn vj (moveS s i n).1) ∧ Chg F w w' := by
  obtain ⟨hx, hbk⟩ := boxOp w #[.int .i64 z, .int .i64 (i : Int), .int .i64 v, .int .i64 a3, .int .i64 a4, .int .i64 a5, .int .i64 a6]
  obtain ⟨W1, hW1⟩ : ∃ W1, W1 = w.alloc (.cells #[.int .i64 z, .int .i64 (i : Int), .int .i64 v, .int .i64 a3, .int .i64 a4, .int .i64 a5, .int .i64 a6] 36) := ⟨_, rfl⟩
  rw [← hW1] at hx hbk
  have hp := h.ext hx
  obtain ⟨b, cap, rfl, hnc, hcm, hb, hbg, hat, hfr⟩ := hp.nodeAt hi
  have HN := Lib.hid (node_any F W1 g c vj s i b cap n hp hi)
  have HX := Lib.hid hx
  have HP := Lib.hid hp
  have HI := Lib.hid hi
  have HB := Lib.hid hbk
  have HF0 := Lib.hid hfr
  have hlw : w.heap.size ≠ b := fun e => by
    obtain ⟨b0, cap0, e0, _, _, hb0, _⟩ := h.nodeAt hi
    injection e0 with e1
    injection e1 with e1
    injection e1 with e1
    omega
  have q2 : W1.cell? ⟨w.heap.size, 2, none⟩ = some (.int .i64 v) := hbk.cell 2
  obtain ⟨c0, c1, c2, c3, c4⟩ := hat
  have f0 := hfr (i * 5)
  have f1 := hfr (i * 5 + 1)
  have f2 := hfr (i * 5 + 2)
  have f3 := hfr (i * 5 + 3)
  have f4 := hfr (i * 5 + 4)
  clear hx hp hi hfr hbk h
  have HS := Lib.hid (HP.out.setN HI.out rfl 2 (by omega) (.bool true) (n' := { n with moving := true }) rfl)
  cases hup : n.up
  · have hr : moveS s i n = (s, 5) := by rw [moveS, if_neg (by rw [hup]; simp)]
    have HR := Lib.hid hr
    clear hr
    go_enter Tryd.func81, Tryd.ntmps81
    go_wp2_with fail
    rw [← hW1]
    clear hW1
    refine HN.out.mono ?_
    rintro e1 w1 ⟨rfl, rfl⟩
    go_wp2
    go_ret
    exact MDone.of (HR.out) rfl HP.out (Chg.of_ext HX.out)
  cases hco : n.cordon
  · have hr : moveS s i n = (s, 5) := by rw [moveS, if_neg (by rw [hco]; simp)]
    have HR := Lib.hid hr
    clear hr
    go_enter Tryd.func81, Tryd.ntmps81
    go_wp2_with fail
    rw [← hW1]
    clear hW1
    refine HN.out.mono ?_
    rintro e1 w1 ⟨rfl, rfl⟩
    go_wp2
    go_ret
    exact MDone.of (HR.out) rfl HP.out (Chg.of_ext HX.out)
  cases hmv : n.moving
  · by_cases hj : n.job = 0
    · have hr : moveS s i n = (setN s i { n with moving := true }, 0) := by rw [moveS, if_pos ⟨hup, hco, hmv, hj⟩]
      have HR := Lib.hid hr
      have hj1 : (n.job != 0) = false := by rw [hj]; rfl
      clear hr hj
      go_enter Tryd.func81, Tryd.ntmps81
      go_wp2_with fail
      rw [← hW1]
      clear hW1
      refine HN.out.mono ?_
      rintro e1 w1 ⟨rfl, rfl⟩
      go_wp2
      go_ret
      exact MDone.of (HR.out) rfl HS.out.1 (chg2 HX.out HS.out.2)
    · have hr : moveS s i n = (s, 5) := by rw [moveS, if_neg (fun h => hj h.2.2.2)]
      have HR := Lib.hid hr
      have hj1 : (n.job != 0) = true := by rw [bne_iff_ne]; exact hj
      clear hr hj
      go_enter Tryd.func81, Tryd.ntmps81
      go_wp2_with fail
      rw [← hW1]
      clear hW1
      refine HN.out.mono ?_
      rintro e1 w1 ⟨rfl, rfl⟩
      go_wp2
      go_ret
      exact MDone.of (HR.out) rfl HP.out (Chg.of_ext HX.out)
  · have hr : moveS s i n = (s, 5) := by rw [moveS, if_neg (by rw [hmv]; simp)]
    have HR := Lib.hid hr
    clear hr
    go_enter Tryd.func81, Tryd.ntmps81
    go_wp2_with fail
    rw [← hW1]
    clear hW1
    refine HN.out.mono ?_
    rintro e1 w1 ⟨rfl, rfl⟩
    go_wp2
    go_ret
    exact MDone.of (HR.out) rfl HP.out (Chg.of_ext HX.out)

set_option maxRecDepth 100000 in
set_option maxHeartbeats 4000000 in
theorem moved_any (F : Fp) (w : World) (g : Nat) (c : Cf) (vn vj : Value) (s : St) (z v a3 a4 a5 a6 : Int) (i : Nat) (n : Nd) (h : Pg F w g c vn vj s) (hi : s.nodes[i]? = some n) :
    Calls Tryd.prog 82 #[.pointer (some ⟨g, 0, none⟩), .agg #[.int .i64 z, .int .i64 (i : Int), .int .i64 v, .int .i64 a3, .int .i64 a4, .int .i64 a5, .int .i64 a6]] w fun e w' => e = .returned (.int .i64 (movedS s i n v).2) ∧ (∃ vn vj, Pg (F.since w w') w' g c vn vj (movedS s i n v).1) ∧ Chg F w w' := by
  obtain ⟨hx, hbk⟩ := boxOp w #[.int .i64 z, .int .i64 (i : Int), .int .i64 v, .int .i64 a3, .int .i64 a4, .int .i64 a5, .int .i64 a6]
  obtain ⟨W1, hW1⟩ : ∃ W1, W1 = w.alloc (.cells #[.int .i64 z, .int .i64 (i : Int), .int .i64 v, .int .i64 a3, .int .i64 a4, .int .i64 a5, .int .i64 a6] 36) := ⟨_, rfl⟩
  rw [← hW1] at hx hbk
  have hp := h.ext hx
  obtain ⟨b, cap, rfl, hnc, hcm, hb, hbg, hat, hfr⟩ := hp.nodeAt hi
  have HN := Lib.hid (node_any F W1 g c vj s i b cap n hp hi)
  have HX := Lib.hid hx
  have HP := Lib.hid hp
  have HI := Lib.hid hi
  have HB := Lib.hid hbk
  have HF0 := Lib.hid hfr
  have hlw : w.heap.size ≠ b := fun e => by
    obtain ⟨b0, cap0, e0, _, _, hb0, _⟩ := h.nodeAt hi
    injection e0 with e1
    injection e1 with e1
    injection e1 with e1
    omega
  have q2 : W1.cell? ⟨w.heap.size, 2, none⟩ = some (.int .i64 v) := hbk.cell 2
  obtain ⟨c0, c1, c2, c3, c4⟩ := hat
  have f0 := hfr (i * 5)
  have f1 := hfr (i * 5 + 1)
  have f2 := hfr (i * 5 + 2)
  have f3 := hfr (i * 5 + 3)
  have f4 := hfr (i * 5 + 4)
  clear hx hp hi hfr hbk h
  have HV := Lib.hid fun w' => isVersion_any v w'
  have hil := (List.getElem?_eq_some_iff.1 HI.out).1
  obtain ⟨h1, e1⟩ := HP.out.setN HI.out rfl 3 (by omega) (.int .i64 v) (n' := { n with version := v }) rfl
  obtain ⟨h2, e2⟩ := h1.setN (b := b) (cap := cap) (n := { n with version := v }) (set_set_get HI.out) (by simp [setN]) 2 (by omega) (.bool false) (n' := { n with version := v, moving := false }) rfl
  obtain ⟨h3, e3⟩ := h2.setN (b := b) (cap := cap) (n := { n with version := v, moving := false }) (set_set_get (set_set_get HI.out)) (by simp [setN]) 1 (by omega) (.bool false) (n' := { n with version := v, moving := false, cordon := false }) rfl
  simp only [setN, List.set_set] at h3
  have HS := Lib.hid (And.intro h3 (chg3 (chg3 e1 e2) e3))
  clear h1 h2 h3 e1 e2 e3
  cases hv : inR v 1 9
  · have hr : movedS s i n v = (s, 1) := by rw [movedS, if_pos hv]
    have HR := Lib.hid hr
    clear hr
    go_enter Tryd.func82, Tryd.ntmps82
    go_wp2_with fail
    rw [← hW1]
    clear hW1
    refine HN.out.mono ?_
    rintro e1 w1 ⟨rfl, rfl⟩
    go_wp2_with fail
    refine (HV.out _).mono ?_
    rintro e1 w1 ⟨rfl, rfl⟩
    go_wp2
    go_ret
    exact MDone.of (HR.out) rfl HP.out (Chg.of_ext HX.out)
  cases hmv : n.moving
  · have hr : movedS s i n v = (s, 5) := by rw [movedS, if_neg (by rw [hv]; simp), if_neg (by rw [hmv]; simp)]
    have HR := Lib.hid hr
    clear hr
    go_enter Tryd.func82, Tryd.ntmps82
    go_wp2_with fail
    rw [← hW1]
    clear hW1
    refine HN.out.mono ?_
    rintro e1 w1 ⟨rfl, rfl⟩
    go_wp2_with fail
    refine (HV.out _).mono ?_
    rintro e1 w1 ⟨rfl, rfl⟩
    go_wp2
    go_ret
    exact MDone.of (HR.out) rfl HP.out (Chg.of_ext HX.out)
  · have hr : movedS s i n v = (setN s i { n with version := v, moving := false, cordon := false }, 0) := by rw [movedS, if_neg (by rw [hv]; simp), if_pos hmv]
    have HR := Lib.hid hr
    clear hr
    go_enter Tryd.func82, Tryd.ntmps82
    go_wp2_with fail
    rw [← hW1]
    clear hW1
    refine HN.out.mono ?_
    rintro e1 w1 ⟨rfl, rfl⟩
    go_wp2_with fail
    refine (HV.out _).mono ?_
    rintro e1 w1 ⟨rfl, rfl⟩
    go_wp2
    go_ret
    exact MDone.of (HR.out) rfl HS.out.1 (chg2 HX.out HS.out.2)

set_option maxRecDepth 100000 in
set_option maxHeartbeats 4000000 in
theorem up_any (F : Fp) (w : World) (g : Nat) (c : Cf) (vn vj : Value) (s : St) (z v a3 a4 a5 a6 : Int) (i : Nat) (n : Nd) (h : Pg F w g c vn vj s) (hi : s.nodes[i]? = some n) :
    Calls Tryd.prog 71 #[.pointer (some ⟨g, 0, none⟩), .agg #[.int .i64 z, .int .i64 (i : Int), .int .i64 v, .int .i64 a3, .int .i64 a4, .int .i64 a5, .int .i64 a6]] w fun e w' => e = .returned (.int .i64 (upS s i n v).2) ∧ (∃ vn vj, Pg (F.since w w') w' g c vn vj (upS s i n v).1) ∧ Chg F w w' := by
  obtain ⟨hx, hbk⟩ := boxOp w #[.int .i64 z, .int .i64 (i : Int), .int .i64 v, .int .i64 a3, .int .i64 a4, .int .i64 a5, .int .i64 a6]
  obtain ⟨W1, hW1⟩ : ∃ W1, W1 = w.alloc (.cells #[.int .i64 z, .int .i64 (i : Int), .int .i64 v, .int .i64 a3, .int .i64 a4, .int .i64 a5, .int .i64 a6] 36) := ⟨_, rfl⟩
  rw [← hW1] at hx hbk
  have hp := h.ext hx
  obtain ⟨b, cap, rfl, hnc, hcm, hb, hbg, hat, hfr⟩ := hp.nodeAt hi
  have HN := Lib.hid (node_any F W1 g c vj s i b cap n hp hi)
  have HX := Lib.hid hx
  have HP := Lib.hid hp
  have HI := Lib.hid hi
  have HB := Lib.hid hbk
  have HF0 := Lib.hid hfr
  have hlw : w.heap.size ≠ b := fun e => by
    obtain ⟨b0, cap0, e0, _, _, hb0, _⟩ := h.nodeAt hi
    injection e0 with e1
    injection e1 with e1
    injection e1 with e1
    omega
  have q2 : W1.cell? ⟨w.heap.size, 2, none⟩ = some (.int .i64 v) := hbk.cell 2
  obtain ⟨c0, c1, c2, c3, c4⟩ := hat
  have f0 := hfr (i * 5)
  have f1 := hfr (i * 5 + 1)
  have f2 := hfr (i * 5 + 2)
  have f3 := hfr (i * 5 + 3)
  have f4 := hfr (i * 5 + 4)
  clear hx hp hi hfr hbk h
  have HV := Lib.hid fun w' => isVersion_any v w'
  obtain ⟨h1, e1⟩ := HP.out.setN HI.out rfl 0 (by omega) (.bool true) (n' := { n with up := true }) rfl
  obtain ⟨h2, e2⟩ := h1.setN (b := b) (cap := cap) (n := { n with up := true }) (set_set_get HI.out) (by simp [setN]) 3 (by omega) (.int .i64 v) (n' := { n with up := true, version := v }) rfl
  simp only [setN, List.set_set] at h2
  have HS := Lib.hid (And.intro h2 (chg3 e1 e2))
  clear h1 h2 e1 e2
  cases hv : inR v 1 9
  · have hr : upS s i n v = (s, 1) := by rw [upS, if_pos hv]
    have HR := Lib.hid hr
    clear hr
    go_enter Tryd.func71, Tryd.ntmps71
    go_wp2_with fail
    rw [← hW1]
    clear hW1
    refine HN.out.mono ?_
    rintro e1 w1 ⟨rfl, rfl⟩
    go_wp2_with fail
    refine (HV.out _).mono ?_
    rintro e1 w1 ⟨rfl, rfl⟩
    go_wp2
    go_ret
    exact MDone.of (HR.out) rfl HP.out (Chg.of_ext HX.out)
  cases hup : n.up
  · have hr : upS s i n v = (setN s i { n with up := true, version := v }, 0) := by rw [upS, if_neg (by rw [hv]; simp), if_neg (by rw [hup]; simp)]
    have HR := Lib.hid hr
    clear hr
    go_enter Tryd.func71, Tryd.ntmps71
    go_wp2_with fail
    rw [← hW1]
    clear hW1
    refine HN.out.mono ?_
    rintro e1 w1 ⟨rfl, rfl⟩
    go_wp2_with fail
    refine (HV.out _).mono ?_
    rintro e1 w1 ⟨rfl, rfl⟩
    go_wp2_with fail
    go_region
    go_wp2
    go_ret
    exact MDone.of (HR.out) rfl (ObjF.drew HS.out.1) (chg2 HX.out HS.out.2).drew
  · have hr : upS s i n v = (s, 5) := by rw [upS, if_neg (by rw [hv]; simp), if_pos hup]
    have HR := Lib.hid hr
    clear hr
    go_enter Tryd.func71, Tryd.ntmps71
    go_wp2_with fail
    rw [← hW1]
    clear hW1
    refine HN.out.mono ?_
    rintro e1 w1 ⟨rfl, rfl⟩
    go_wp2_with fail
    refine (HV.out _).mono ?_
    rintro e1 w1 ⟨rfl, rfl⟩
    go_wp2
    go_ret
    exact MDone.of (HR.out) rfl HP.out (Chg.of_ext HX.out)

theorem giveL_get {l : List Nd} {set job : Int} {i : Nat} {n : Nd} (h : l[i]? = some n) (hs : hasS set i = true) : (giveL l set job)[i]? = some { n with job := job } := by
  unfold giveL
  rw [List.getElem?_mapIdx, h]
  simp [hs]
theorem giveL_len (l : List Nd) (set job : Int) : (giveL l set job).length = l.length := by unfold giveL; simp

set_option maxRecDepth 100000 in
set_option maxHeartbeats 4000000 in
theorem down_any (F : Fp) (w : World) (g : Nat) (c : Cf) (vn vj : Value) (s : St) (z v a3 a4 a5 a6 : Int) (i : Nat) (n : Nd) (h : Pg F w g c vn vj s) (hi : s.nodes[i]? = some n) (hn : s.nodes.length ≤ 6) (hj : n.job = 0 ∨ ∃ (k : Nat) (j : Jb), n.job = (k : Int) + 1 ∧ s.jobs[k]? = some j ∧ hasS j.nodes i = true) :
    Calls Tryd.prog 70 #[.pointer (some ⟨g, 0, none⟩), .agg #[.int .i64 z, .int .i64 (i : Int), .int .i64 v, .int .i64 a3, .int .i64 a4, .int .i64 a5, .int .i64 a6]] w fun e w' => e = .returned (.int .i64 (downS s i n).2) ∧ (∃ vn vj, Pg (F.since w w') w' g c vn vj (downS s i n).1) ∧ Chg F w w' := by
  obtain ⟨hx, hbk⟩ := boxOp w #[.int .i64 z, .int .i64 (i : Int), .int .i64 v, .int .i64 a3, .int .i64 a4, .int .i64 a5, .int .i64 a6]
  obtain ⟨W1, hW1⟩ : ∃ W1, W1 = w.alloc (.cells #[.int .i64 z, .int .i64 (i : Int), .int .i64 v, .int .i64 a3, .int .i64 a4, .int .i64 a5, .int .i64 a6] 36) := ⟨_, rfl⟩
  rw [← hW1] at hx hbk
  have hp := h.ext hx
  obtain ⟨b, cap, rfl, hnc, hcm, hb, hbg, hat, hfr⟩ := hp.nodeAt hi
  have HN := Lib.hid (node_any F W1 g c vj s i b cap n hp hi)
  have HX := Lib.hid hx
  have HP := Lib.hid hp
  have HI := Lib.hid hi
  have HB := Lib.hid hbk
  have HF0 := Lib.hid hfr
  have hlw : w.heap.size ≠ b := fun e => by
    obtain ⟨b0, cap0, e0, _, _, hb0, _⟩ := h.nodeAt hi
    injection e0 with e1
    injection e1 with e1
    injection e1 with e1
    omega
  have q2 : W1.cell? ⟨w.heap.size, 2, none⟩ = some (.int .i64 v) := hbk.cell 2
  obtain ⟨c0, c1, c2, c3, c4⟩ := hat
  have f0 := hfr (i * 5)
  have f1 := hfr (i * 5 + 1)
  have f2 := hfr (i * 5 + 2)
  have f3 := hfr (i * 5 + 3)
  have f4 := hfr (i * 5 + 4)
  clear hx hp hi hfr hbk h
  cases hup : n.up
  · have hr : downS s i n = (s, 5) := by rw [downS, if_neg (by rw [hup]; simp)]
    have HR := Lib.hid hr
    clear hr
    go_enter Tryd.func70, Tryd.ntmps70
    go_wp2_with fail
    rw [← hW1]
    clear hW1
    refine HN.out.mono ?_
    rintro e1 w1 ⟨rfl, rfl⟩
    go_wp2
    go_ret
    exact MDone.of (HR.out) rfl HP.out (Chg.of_ext HX.out)
  rcases hj with hj | ⟨k, j, hj, hk, hs⟩
  · have hr : downS s i n = (setN s i { n with up := false, moving := false }, 0) := by
      have hd : dropS s n = s := by rw [dropS, hj]; rfl
      rw [downS, if_pos hup, hd]
      congr 3
      rw [hj]
    obtain ⟨h1, e1⟩ := HP.out.setN HI.out rfl 0 (by omega) (.bool false) (n' := { n with up := false }) rfl
    obtain ⟨h2, e2⟩ := h1.setN (b := b) (cap := cap) (n := { n with up := false }) (set_set_get HI.out) (by simp [setN]) 2 (by omega) (.bool false) (n' := { n with up := false, moving := false }) rfl
    simp only [setN, List.set_set] at h2
    have HS := Lib.hid (And.intro h2 (chg3 e1 e2))
    have HR := Lib.hid hr
    have hj1 : (n.job != 0) = false := by rw [hj]; rfl
    clear hr hj h1 h2 e1 e2
    go_enter Tryd.func70, Tryd.ntmps70
    go_wp2_with fail
    rw [← hW1]
    clear hW1
    refine HN.out.mono ?_
    rintro e1 w1 ⟨rfl, rfl⟩
    go_wp2
    go_ret
    exact MDone.of (HR.out) rfl HS.out.1 (chg2 HX.out HS.out.2)
  · have hdr : dropS s n = letGoS s k j 0 := by
      have h1 : jobOf s n.job = some j := by
        rw [hj, jobOf, if_pos (by omega)]
        have : ((k : Int) + 1 - 1).toNat = k := by omega
        rw [this]
        exact hk
      have h2 : (n.job - 1).toNat = k := by omega
      rw [dropS, h1]
      simp only [h2]
    have hr : downS s i n = (setN (letGoS s k j 0) i { n with up := false, moving := false, job := 0 }, 0) := by rw [downS, if_pos hup, hdr]
    have HR := Lib.hid hr
    have HL := Lib.hid (letGo_any F W1 g c (.slice (some ⟨b, 0, none⟩) s.nodes.length cap) vj s k j 0 HP.out hk hn)
    have HJ := Lib.hid hj
    have HG : Hid ((letGoS s k j 0).nodes[i]? = some { n with job := 0 }) := Lib.hid (giveL_get HI.out hs)
    have HLN : Hid ((letGoS s k j 0).nodes.length = s.nodes.length) := Lib.hid (giveL_len _ _ _)
    have hj1 : (n.job != 0) = true := by rw [hj, bne_iff_ne]; omega
    have hj2 : n.job = (k : Int) + 1 := hj
    have HJ2 := Lib.hid hj2
    clear hr hdr hj hk hs hj2
    go_enter Tryd.func70, Tryd.ntmps70
    go_wp2_with fail
    rw [← hW1]
    clear hW1
    refine HN.out.mono ?_
    rintro e1 w1 ⟨rfl, rfl⟩
    rw [HJ2.out] at c4 hj1
    go_wp2_with fail
    refine HL.out.mono ?_
    rintro e2 w2 ⟨rfl, hp2, hc2⟩
    have HC2 := Lib.hid hc2
    obtain ⟨b', cap', hv, _, _, hb', hbg', hat', hfr'⟩ := hp2.nodeAt HG.out
    injection hv with hA _ hcap
    injection hA with hA
    injection hA with hA
    subst hA hcap
    obtain ⟨h1, e1⟩ := hp2.setN (b := b) (cap := cap) HG.out (by rw [HLN.out]) 0 (by omega) (.bool false) (n' := { n with job := 0, up := false }) rfl
    obtain ⟨h2, e2⟩ := h1.setN (b := b) (cap := cap) (n := { n with job := 0, up := false }) (set_set_get HG.out) (by simp only [setN, List.length_set]; rw [HLN.out]) 2 (by omega) (.bool false) (n' := { n with job := 0, up := false, moving := false }) rfl
    simp only [setN, List.set_set] at h2
    have HS := Lib.hid (And.intro h2 (chg3 e1 e2))
    have c0 := hat'.c0
    have c2 := hat'.c2
    have f0 := hfr' (i * 5)
    have f2 := hfr' (i * 5 + 2)
    clear h1 h2 e1 e2 hat' hfr' hp2 hc2 c1 c3 c4 f1 f3 f4 q2
    go_wp2
    go_ret
    exact MDone.of HR.out rfl HS.out.1 (chg3 (chg2 HX.out HC2.out) HS.out.2)

end Go.Proofs.YtddhbokknbmdfaaDoor

/- Package book: the ops of the whole state. -/
namespace Go.Proofs.YtddhbokknbmdfaaDoor
open Go.RowKit

set_option maxRecDepth 100000 in
set_option maxHeartbeats 4000000 in
theorem pause_any (F : Fp) (w : World) (g : Nat) (c : Cf) (vn vj : Value) (s : St) (z v a2 a3 a4 a5 a6 : Int) (h : Pg F w g c vn vj s) :
    Calls Tryd.prog 67 #[.pointer (some ⟨g, 0, none⟩), .agg #[.int .i64 z, .int .i64 v, .int .i64 a2, .int .i64 a3, .int .i64 a4, .int .i64 a5, .int .i64 a6]] w fun e w' => e = .returned (.int .i64 (pauseS s).2) ∧ (∃ vn vj, Pg (F.since w w') w' g c vn vj (pauseS s).1) ∧ Chg F w w' := by
  obtain ⟨hx, hbk⟩ := boxOp w #[.int .i64 z, .int .i64 v, .int .i64 a2, .int .i64 a3, .int .i64 a4, .int .i64 a5, .int .i64 a6]
  obtain ⟨W1, hW1⟩ : ∃ W1, W1 = w.alloc (.cells #[.int .i64 z, .int .i64 v, .int .i64 a2, .int .i64 a3, .int .i64 a4, .int .i64 a5, .int .i64 a6] 36) := ⟨_, rfl⟩
  rw [← hW1] at hx hbk
  have hp := h.ext hx
  have HX := Lib.hid hx
  have HP := Lib.hid hp
  have HB := Lib.hid hbk
  have hlw : w.heap.size ≠ g := fun e => by have := h.lt; omega
  have q1 : W1.cell? ⟨w.heap.size, 1, none⟩ = some (.int .i64 v) := hbk.cell 1
  have c9 := hp.c9
  have c10 := hp.c10
  have c11 := hp.c11
  have c12 := hp.c12
  have c13 := hp.c13
  have c14 := hp.c14
  have f12 := hp.fr 12
  have f11 := hp.fr 11
  have f13 := hp.fr 13
  have f14 := hp.fr 14
  clear hx hp hbk h
  have HS := Lib.hid (HP.out.setG { s with mode := 1 } 13 (.int .i64 1) rfl rfl rfl)
  by_cases ht : s.mode = 0
  · have hr : pauseS s = ({ s with mode := 1 }, 0) := by rw [pauseS, if_pos ht]
    have d : (s.mode != 0) = false := by rw [ht]; rfl
    have HR := Lib.hid hr
    clear hr ht
    subst hW1
    go_enter Tryd.func67, Tryd.ntmps67
    go_wp2
    go_ret
    exact MDone.of HR.out rfl HS.out.1 (chg2 HX.out HS.out.2)
  · have hr : pauseS s = (s, 5) := by rw [pauseS, if_neg ht]
    have d : (s.mode != 0) = true := by rw [bne_iff_ne]; exact ht
    have HR := Lib.hid hr
    clear hr ht
    subst hW1
    go_enter Tryd.func67, Tryd.ntmps67
    go_wp2
    go_ret
    exact MDone.of HR.out rfl HP.out (Chg.of_ext HX.out)

set_option maxRecDepth 100000 in
set_option maxHeartbeats 4000000 in
theorem resume_any (F : Fp) (w : World) (g : Nat) (c : Cf) (vn vj : Value) (s : St) (z v a2 a3 a4 a5 a6 : Int) (h : Pg F w g c vn vj s) :
    Calls Tryd.prog 68 #[.pointer (some ⟨g, 0, none⟩), .agg #[.int .i64 z, .int .i64 v, .int .i64 a2, .int .i64 a3, .int .i64 a4, .int .i64 a5, .int .i64 a6]] w fun e w' => e = .returned (.int .i64 (resumeS s).2) ∧ (∃ vn vj, Pg (F.since w w') w' g c vn vj (resumeS s).1) ∧ Chg F w w' := by
  obtain ⟨hx, hbk⟩ := boxOp w #[.int .i64 z, .int .i64 v, .int .i64 a2, .int .i64 a3, .int .i64 a4, .int .i64 a5, .int .i64 a6]
  obtain ⟨W1, hW1⟩ : ∃ W1, W1 = w.alloc (.cells #[.int .i64 z, .int .i64 v, .int .i64 a2, .int .i64 a3, .int .i64 a4, .int .i64 a5, .int .i64 a6] 36) := ⟨_, rfl⟩
  rw [← hW1] at hx hbk
  have hp := h.ext hx
  have HX := Lib.hid hx
  have HP := Lib.hid hp
  have HB := Lib.hid hbk
  have hlw : w.heap.size ≠ g := fun e => by have := h.lt; omega
  have q1 : W1.cell? ⟨w.heap.size, 1, none⟩ = some (.int .i64 v) := hbk.cell 1
  have c9 := hp.c9
  have c10 := hp.c10
  have c11 := hp.c11
  have c12 := hp.c12
  have c13 := hp.c13
  have c14 := hp.c14
  have f12 := hp.fr 12
  have f11 := hp.fr 11
  have f13 := hp.fr 13
  have f14 := hp.fr 14
  clear hx hp hbk h
  have HS := Lib.hid (HP.out.setG { s with mode := 0 } 13 (.int .i64 0) rfl rfl rfl)
  by_cases ht : s.mode = 1
  · have hr : resumeS s = ({ s with mode := 0 }, 0) := by rw [resumeS, if_pos ht]
    have d : (s.mode != 1) = false := by rw [ht]; rfl
    have HR := Lib.hid hr
    clear hr ht
    subst hW1
    go_enter Tryd.func68, Tryd.ntmps68
    go_wp2
    go_ret
    exact MDone.of HR.out rfl HS.out.1 (chg2 HX.out HS.out.2)
  · have hr : resumeS s = (s, 5) := by rw [resumeS, if_neg ht]
    have d : (s.mode != 1) = true := by rw [bne_iff_ne]; exact ht
    have HR := Lib.hid hr
    clear hr ht
    subst hW1
    go_enter Tryd.func68, Tryd.ntmps68
    go_wp2
    go_ret
    exact MDone.of HR.out rfl HP.out (Chg.of_ext HX.out)

set_option maxRecDepth 100000 in
set_option maxHeartbeats 4000000 in
theorem abort_any (F : Fp) (w : World) (g : Nat) (c : Cf) (vn vj : Value) (s : St) (z v a2 a3 a4 a5 a6 : Int) (h : Pg F w g c vn vj s) :
    Calls Tryd.prog 69 #[.pointer (some ⟨g, 0, none⟩), .agg #[.int .i64 z, .int .i64 v, .int .i64 a2, .int .i64 a3, .int .i64 a4, .int .i64 a5, .int .i64 a6]] w fun e w' => e = .returned (.int .i64 (abortS s).2) ∧ (∃ vn vj, Pg (F.since w w') w' g c vn vj (abortS s).1) ∧ Chg F w w' := by
  obtain ⟨hx, hbk⟩ := boxOp w #[.int .i64 z, .int .i64 v, .int .i64 a2, .int .i64 a3, .int .i64 a4, .int .i64 a5, .int .i64 a6]
  obtain ⟨W1, hW1⟩ : ∃ W1, W1 = w.alloc (.cells #[.int .i64 z, .int .i64 v, .int .i64 a2, .int .i64 a3, .int .i64 a4, .int .i64 a5, .int .i64 a6] 36) := ⟨_, rfl⟩
  rw [← hW1] at hx hbk
  have hp := h.ext hx
  have HX := Lib.hid hx
  have HP := Lib.hid hp
  have HB := Lib.hid hbk
  have hlw : w.heap.size ≠ g := fun e => by have := h.lt; omega
  have q1 : W1.cell? ⟨w.heap.size, 1, none⟩ = some (.int .i64 v) := hbk.cell 1
  have c9 := hp.c9
  have c10 := hp.c10
  have c11 := hp.c11
  have c12 := hp.c12
  have c13 := hp.c13
  have c14 := hp.c14
  have f12 := hp.fr 12
  have f11 := hp.fr 11
  have f13 := hp.fr 13
  have f14 := hp.fr 14
  clear hx hp hbk h
  have HS := Lib.hid (HP.out.setG { s with mode := 2 } 13 (.int .i64 2) rfl rfl rfl)
  by_cases ht : s.mode = 2
  · have hr : abortS s = (s, 5) := by rw [abortS, if_pos ht]
    have d : (s.mode == 2) = true := by rw [ht]; rfl
    have HR := Lib.hid hr
    clear hr ht
    subst hW1
    go_enter Tryd.func69, Tryd.ntmps69
    go_wp2
    go_ret
    exact MDone.of HR.out rfl HP.out (Chg.of_ext HX.out)
  · have hr : abortS s = ({ s with mode := 2 }, 0) := by rw [abortS, if_neg ht]
    have d : (s.mode == 2) = false := by rw [beq_eq_false_iff_ne]; exact ht
    have HR := Lib.hid hr
    clear hr ht
    subst hW1
    go_enter Tryd.func69, Tryd.ntmps69
    go_wp2
    go_ret
    exact MDone.of HR.out rfl HS.out.1 (chg2 HX.out HS.out.2)

set_option maxRecDepth 100000 in
set_option maxHeartbeats 4000000 in
theorem newterm_any (F : Fp) (w : World) (g : Nat) (c : Cf) (vn vj : Value) (s : St) (z v a2 a3 a4 a5 a6 : Int) (h : Pg F w g c vn vj s) (ht0 : 0 ≤ s.term ∧ s.term ≤ 1000000) :
    Calls Tryd.prog 84 #[.pointer (some ⟨g, 0, none⟩), .agg #[.int .i64 z, .int .i64 v, .int .i64 a2, .int .i64 a3, .int .i64 a4, .int .i64 a5, .int .i64 a6]] w fun e w' => e = .returned (.int .i64 (newtermS s).2) ∧ (∃ vn vj, Pg (F.since w w') w' g c vn vj (newtermS s).1) ∧ Chg F w w' := by
  obtain ⟨hx, hbk⟩ := boxOp w #[.int .i64 z, .int .i64 v, .int .i64 a2, .int .i64 a3, .int .i64 a4, .int .i64 a5, .int .i64 a6]
  obtain ⟨W1, hW1⟩ : ∃ W1, W1 = w.alloc (.cells #[.int .i64 z, .int .i64 v, .int .i64 a2, .int .i64 a3, .int .i64 a4, .int .i64 a5, .int .i64 a6] 36) := ⟨_, rfl⟩
  rw [← hW1] at hx hbk
  have hp := h.ext hx
  have HX := Lib.hid hx
  have HP := Lib.hid hp
  have HB := Lib.hid hbk
  have hlw : w.heap.size ≠ g := fun e => by have := h.lt; omega
  have q1 : W1.cell? ⟨w.heap.size, 1, none⟩ = some (.int .i64 v) := hbk.cell 1
  have c9 := hp.c9
  have c10 := hp.c10
  have c11 := hp.c11
  have c12 := hp.c12
  have c13 := hp.c13
  have c14 := hp.c14
  have f12 := hp.fr 12
  have f11 := hp.fr 11
  have f13 := hp.fr 13
  have f14 := hp.fr 14
  clear hx hp hbk h
  have hw : wrap64 (s.term + 1) = s.term + 1 := IntWalk.wrap64_in _ (by omega)
  have HS := Lib.hid (HP.out.setG { s with term := s.term + 1 } 14 (.int .i64 (s.term + 1)) rfl rfl rfl)
  by_cases ht : s.term = 1000000
  · have hr : newtermS s = (s, 3) := by rw [newtermS, if_pos ht]
    have d : (s.term == 1000000) = true := by rw [ht]; rfl
    have HR := Lib.hid hr
    clear hr ht hw ht0
    subst hW1
    go_enter Tryd.func84, Tryd.ntmps84
    go_wp2
    go_ret
    exact MDone.of HR.out rfl HP.out (Chg.of_ext HX.out)
  · have hr : newtermS s = ({ s with term := s.term + 1 }, 0) := by rw [newtermS, if_neg ht]
    have d : (s.term == 1000000) = false := by rw [beq_eq_false_iff_ne]; exact ht
    have HR := Lib.hid hr
    clear hr ht
    subst hW1
    go_enter Tryd.func84, Tryd.ntmps84
    go_wp2
    go_ret
    exact MDone.of HR.out rfl HS.out.1 (chg2 HX.out HS.out.2)

set_option maxRecDepth 100000 in
set_option maxHeartbeats 4000000 in
theorem target_any (F : Fp) (w : World) (g : Nat) (c : Cf) (vn vj : Value) (s : St) (z v a2 a3 a4 a5 a6 : Int) (h : Pg F w g c vn vj s) :
    Calls Tryd.prog 66 #[.pointer (some ⟨g, 0, none⟩), .agg #[.int .i64 z, .int .i64 v, .int .i64 a2, .int .i64 a3, .int .i64 a4, .int .i64 a5, .int .i64 a6]] w fun e w' => e = .returned (.int .i64 (targetS s v).2) ∧ (∃ vn vj, Pg (F.since w w') w' g c vn vj (targetS s v).1) ∧ Chg F w w' := by
  obtain ⟨hx, hbk⟩ := boxOp w #[.int .i64 z, .int .i64 v, .int .i64 a2, .int .i64 a3, .int .i64 a4, .int .i64 a5, .int .i64 a6]
  obtain ⟨W1, hW1⟩ : ∃ W1, W1 = w.alloc (.cells #[.int .i64 z, .int .i64 v, .int .i64 a2, .int .i64 a3, .int .i64 a4, .int .i64 a5, .int .i64 a6] 36) := ⟨_, rfl⟩
  rw [← hW1] at hx hbk
  have hp := h.ext hx
  have HX := Lib.hid hx
  have HP := Lib.hid hp
  have HB := Lib.hid hbk
  have hlw : w.heap.size ≠ g := fun e => by have := h.lt; omega
  have q1 : W1.cell? ⟨w.heap.size, 1, none⟩ = some (.int .i64 v) := hbk.cell 1
  have c9 := hp.c9
  have c10 := hp.c10
  have c11 := hp.c11
  have c12 := hp.c12
  have c13 := hp.c13
  have c14 := hp.c14
  have f12 := hp.fr 12
  have f11 := hp.fr 11
  have f13 := hp.fr 13
  have f14 := hp.fr 14
  clear hx hp hbk h
  have HV := Lib.hid fun w' => isVersion_any v w'
  have HSF : Hid (∀ w2, Ext W1 w2 → Pg F (((w2.setCell ⟨g, 12, none⟩ (.int .i64 (meantS s))).setCell ⟨g, 11, none⟩ (.int .i64 v)).setCell ⟨g, 13, none⟩ (.int .i64 0)) g c vn vj { s with prior := meantS s, goal := v, mode := 0 } ∧
      Chg F w2 (((w2.setCell ⟨g, 12, none⟩ (.int .i64 (meantS s))).setCell ⟨g, 11, none⟩ (.int .i64 v)).setCell ⟨g, 13, none⟩ (.int .i64 0))) := Lib.hid fun w2 h2 => by
    obtain ⟨h1, e1⟩ := (HP.out.ext h2).setG { s with prior := meantS s } 12 (.int .i64 (meantS s)) rfl rfl rfl
    obtain ⟨h2, e2⟩ := h1.setG { s with prior := meantS s, goal := v } 11 (.int .i64 v) rfl rfl rfl
    obtain ⟨h3, e3⟩ := h2.setG { s with prior := meantS s, goal := v, mode := 0 } 13 (.int .i64 0) rfl rfl rfl
    exact ⟨h3, chg3 (chg3 e1 e2) e3⟩
  have HM := Lib.hid fun w' => Meant_any vn vj s w'
  unfold stV at HM
  obtain ⟨mt, hmt⟩ : ∃ mt, mt = meantS s := ⟨_, rfl⟩
  rw [← hmt] at HM HSF
  cases hv : inR v 1 9
  · have hr : targetS s v = (s, 1) := by rw [targetS, if_pos hv]
    have HR := Lib.hid hr
    clear hmt
    clear hr
    go_enter Tryd.func66, Tryd.ntmps66
    go_wp2_with fail
    rw [← hW1]
    clear hW1
    refine (HV.out _).mono ?_
    rintro e1 w1 ⟨rfl, rfl⟩
    go_wp2
    go_ret
    exact MDone.of HR.out rfl HP.out (Chg.of_ext HX.out)
  · have hr : targetS s v = ({ s with prior := meantS s, goal := v, mode := 0 }, 0) := by rw [targetS, if_neg (by rw [hv]; simp)]
    rw [← hmt] at hr
    have HR := Lib.hid hr
    clear hmt
    clear hr
    go_enter Tryd.func66, Tryd.ntmps66
    go_wp2_with fail
    rw [← hW1]
    clear hW1
    refine (HV.out _).mono ?_
    rintro e1 w1 ⟨rfl, rfl⟩
    go_wp2_with fail
    go_region_with ((go_at_call 12); (refine (HM.out _).mono ?_); (rintro e2 w2 ⟨rfl, hx2⟩); (first | (have hx3 : Ext W1 w2 := hx2) | (have hx3 : Ext W1 w2 := Ext.of_drew hx2)); (have hp2 := HP.out.ext hx3); (have k11 := hp2.c11); (have k12 := hp2.c12); (have k13 := hp2.c13); (have g11 := hp2.fr 11); (have g12 := hp2.fr 12); (have g13 := hp2.fr 13); (have q2 := (HB.out.ext hx3).cell 1); (have hlt2 := hp2.lt))
    all_goals
      have HS := Lib.hid (HSF.out w2 hx3)
      have HX2 := Lib.hid (HX.out.trans hx3)
      clear hx2 hx3 hp2 k11 k12 k13 g11 g12 g13 q2 hlt2
      go_wp2
      go_ret
      exact MDone.of HR.out rfl HS.out.1 (chg2 HX2.out HS.out.2)

end Go.Proofs.YtddhbokknbmdfaaDoor
