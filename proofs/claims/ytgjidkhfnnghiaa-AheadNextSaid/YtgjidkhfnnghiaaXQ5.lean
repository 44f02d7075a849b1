/- Texts that the proof of X rests on, one behind the other. -/
import Derived.Test.YtgjidkhfnnghiaaXQ1
import Derived.Test.YtgjidkhfnnghiaaXQ3
import Derived.Test.YtgjidkhfnnghiaaXQ4
import Derived.Deep.CutBlock
import Derived.Deep.DeepCutAuto

/- Package book: whether a state may be. -/
namespace Go.Proofs.Ytgjidkhfnnghiaa
open Go.RowKit

theorem ext_drew9 {B : Nat} {a w : World} (h : Below B a w) : Below B a w.drew := Below.drewN' h 1
theorem Ext.of_drew {w w' : World} (h : Ext w.drew w') : Ext w w' := Ext.trans (ext_drew9 (Ext.refl w)) h

set_option maxRecDepth 100000 in
set_option maxHeartbeats 4000000 in
theorem RightS_any (c : Cf) (vn vj : Value) (s : St) (w : World) (hr : RdNd w vn s.nodes) (hrj : RdJb w vj s.jobs) :
    Calls Try.prog 5 #[cfV c, stV vn vj s] w fun e w' => ∃ b, e = .returned (.bool b) ∧ (b = true ↔ RightP c s) ∧ Ext w w' := by
  have HM := Lib.hid fun w' => May_any c w'
  have HNM : Hid (∀ w' (i : Nat) n, s.nodes[i]? = some n → s.nodes.length ≤ 6 → s.jobs.length ≤ 24 → Ext w w' → Calls Try.prog 17 #[stV vn vj s, .int .i64 (i : Int)] w' fun e w'' => ∃ b, e = .returned (.bool b) ∧ (b = true ↔ NodeL s i n) ∧ Ext w' w'') :=
    Lib.hid fun w' i n hi hn hj hx => nodeMay_any vn vj s i n w' (hr.ext hx) (hrj.ext hx) hi hn hj
  have HJM : Hid (∀ w' (k : Nat) j, s.jobs[k]? = some j → mayC c = true → s.nodes.length ≤ 6 → s.jobs.length ≤ 24 → (∀ (i : Nat) (n : Nd), s.nodes[i]? = some n → 1 ≤ n.version) → Ext w w' → Calls Try.prog 18 #[cfV c, stV vn vj s, .int .i64 ((k : Int) + 1)] w' fun e w'' => ∃ b, e = .returned (.bool b) ∧ (b = true ↔ JobL c s k j) ∧ Ext w' w'') :=
    Lib.hid fun w' k j hj hm hn hl hv hx => jobMay_any c vn vj s k j w' (hr.ext hx) (hrj.ext hx) hj hm hn hl hv
  have HD : Hid (∀ w' q, Ext w w' → Calls Try.prog 19 #[stV vn vj s, .int .i64 q] w' fun e w'' => e = .returned (.int .i64 (drainsS s q : Int)) ∧ Ext w' w'') := Lib.hid fun w' q hx => Drains_any vn vj s q w' (hrj.ext hx)
  have HF := Lib.hid fun n lo hi w' => isFrom_any n lo hi w'
  have HV := Lib.hid fun n w' => isVersion_any n w'
  obtain ⟨An, cn, rfl, hnc, hcm⟩ := hr.slice_
  obtain ⟨Aj, cj, rfl, hjc, hjm⟩ := hrj.slice_
  have HRL : Hid (∀ b : Bool, (b = true ↔ RightL c s) → (b = true ↔ RightP c s)) := Lib.hid fun b h => h.trans RightL_iff
  obtain ⟨cc, hcc⟩ : ∃ cc : Array Value, cc = #[.int .i64 c.nodes, .int .i64 c.queues, .int .i64 c.quota, .int .i64 c.wave, .int .i64 c.lease, .int .i64 c.retry, .int .i64 c.deadline, .int .i64 c.room, .int .i64 c.disk] := ⟨_, rfl⟩
  obtain ⟨sc, hsc⟩ : ∃ sc : Array Value, sc = #[.slice An s.nodes.length cn, .slice Aj s.jobs.length cj, .int .i64 s.goal, .int .i64 s.prior, .int .i64 s.mode, .int .i64 s.term] := ⟨_, rfl⟩
  obtain ⟨W2, hW2⟩ : ∃ W2, W2 = (w.alloc (.cells cc 23)).alloc (.cells sc 27) := ⟨_, rfl⟩
  have hx2 : Ext w W2 := by rw [hW2]; exact ext2 w _ _ cc sc
  have hbs : Blk W2 (w.heap.size + 1) 27 sc := by
    have := Blk.new (w.alloc (.cells cc 23)) 27 sc
    rw [hW2]
    simpa using this
  have hbc : Blk W2 w.heap.size 23 cc := by
    have := (Blk.new w 23 cc).ext ((Below.refl _ _).alloc (Nat.le_refl _) (.cells sc 27))
    rw [hW2]
    exact this
  have HX2 := Lib.hid hx2
  have HBS := Lib.hid hbs
  have HBC := Lib.hid hbc
  unfold stV at HNM HJM HD
  unfold cfV at HM HJM
  unfold stV cfV
  clear hr hrj hx2 hbs hbc
  subst hcc hsc
  go_enter Try.func5, Try.ntmps5
  go_wp2_with fail
  rw [← hW2]
  clear hW2
  refine (HM.out _).mono ?_
  rintro e1 w1 ⟨rfl, hx1⟩
  have HX1 := Lib.hid (HX2.out.trans hx1)
  have HBS1 := Lib.hid (HBS.out.ext hx1)
  have HBC1 := Lib.hid (HBC.out.ext hx1)
  clear hx1 HX2 HBS HBC HM
  have s0 : w1.cell? ⟨w.heap.size + 1, 0, none⟩ = some (.slice An s.nodes.length cn) := HBS1.out.cell 0
  have s1 : w1.cell? ⟨w.heap.size + 1, 1, none⟩ = some (.slice Aj s.jobs.length cj) := HBS1.out.cell 1
  have s2 : w1.cell? ⟨w.heap.size + 1, 2, none⟩ = some (.int .i64 s.goal) := HBS1.out.cell 2
  have s3 : w1.cell? ⟨w.heap.size + 1, 3, none⟩ = some (.int .i64 s.prior) := HBS1.out.cell 3
  have s4 : w1.cell? ⟨w.heap.size + 1, 4, none⟩ = some (.int .i64 s.mode) := HBS1.out.cell 4
  have s5 : w1.cell? ⟨w.heap.size + 1, 5, none⟩ = some (.int .i64 s.term) := HBS1.out.cell 5
  have k0 : w1.cell? ⟨w.heap.size, 0, none⟩ = some (.int .i64 c.nodes) := HBC1.out.cell 0
  have k1 : w1.cell? ⟨w.heap.size, 1, none⟩ = some (.int .i64 c.queues) := HBC1.out.cell 1
  cases hm : mayC c
  · have HNO : Hid (¬ RightP c s) := Lib.hid fun h => by
      have := h.may
      rw [hm] at this
      cases this
    go_wp2
    go_ret
    exact ⟨false, rfl, ⟨(fun h => by cases h), fun h => absurd h HNO.out⟩, HX1.out⟩
  by_cases hl : ¬ (s.nodes.length : Int) = c.nodes
  · have HNO : Hid (¬ RightP c s) := Lib.hid fun h => hl h.nn
    have e1 : ((s.nodes.length : Int) != c.nodes) = true := by rw [bne_iff_ne]; exact hl
    clear hl
    go_wp2
    go_ret
    exact ⟨false, rfl, ⟨(fun h => by cases h), fun h => absurd h HNO.out⟩, HX1.out⟩
  replace hl := Classical.not_not.1 hl
  have e1 : ((s.nodes.length : Int) != c.nodes) = false := by rw [hl]; exact bne_self_eq_false _
  by_cases hl2 : ¬ s.jobs.length ≤ 24
  · have HNO : Hid (¬ RightP c s) := Lib.hid fun h => hl2 h.nj
    have e2 : decide ((24 : Int) < (s.jobs.length : Int)) = true := decide_eq_true (by omega)
    have e2' : decide (24 < s.jobs.length) = true := decide_eq_true (by omega)
    clear hl hl2
    go_wp2
    go_ret
    exact ⟨false, rfl, ⟨(fun h => by cases h), fun h => absurd h HNO.out⟩, HX1.out⟩
  replace hl2 := Classical.not_not.1 hl2
  have e2 : decide ((24 : Int) < (s.jobs.length : Int)) = false := decide_eq_false (by omega)
  have e2' : decide (24 < s.jobs.length) = false := decide_eq_false (by omega)
  have hm2 : (1 ≤ c.nodes ∧ c.nodes ≤ 6) ∧ (1 ≤ c.queues ∧ c.queues ≤ 3) := by
    simp only [mayC, Bool.and_eq_true, inR_iff] at hm
    exact ⟨by omega, by omega⟩
  have hn6 : s.nodes.length ≤ 6 := by omega
  have HM1 := Lib.hid hm
  have HL := Lib.hid hl
  have HL2 := Lib.hid hl2
  have HM2 := Lib.hid hm2.2
  have HN6 := Lib.hid hn6
  clear hm hl hm2 hn6
  go_wp2_with fail
  refine (HV.out _ _).mono ?_
  rintro e_ w_ ⟨rfl, rfl⟩
  cases h1 : inR s.goal 1 9
  · have HNO : Hid (¬ RightP c s) := Lib.hid fun h => by
      have := inR_iff.2 ⟨h.g1, h.g9⟩
      rw [h1] at this
      cases this
    go_wp2
    go_ret
    exact ⟨false, rfl, ⟨(fun h => by cases h), fun h => absurd h HNO.out⟩, HX1.out⟩
  go_wp2_with fail
  refine (HV.out _ _).mono ?_
  rintro e_ w_ ⟨rfl, rfl⟩
  cases h2 : inR s.prior 1 9
  · have HNO : Hid (¬ RightP c s) := Lib.hid fun h => by
      have := inR_iff.2 ⟨h.p1, h.p9⟩
      rw [h2] at this
      cases this
    go_wp2
    go_ret
    exact ⟨false, rfl, ⟨(fun h => by cases h), fun h => absurd h HNO.out⟩, HX1.out⟩
  go_wp2_with fail
  refine (HF.out _ _ _ _).mono ?_
  rintro e_ w_ ⟨rfl, rfl⟩
  cases h3 : inR s.mode 0 2
  · have HNO : Hid (¬ RightP c s) := Lib.hid fun h => by
      have := inR_iff.2 ⟨h.m0, h.m2⟩
      rw [h3] at this
      cases this
    go_wp2
    go_ret
    exact ⟨false, rfl, ⟨(fun h => by cases h), fun h => absurd h HNO.out⟩, HX1.out⟩
  go_wp2_with fail
  refine (HF.out _ _ _ _).mono ?_
  rintro e_ w_ ⟨rfl, rfl⟩
  cases h4 : inR s.term 0 1000000
  · have HNO : Hid (¬ RightP c s) := Lib.hid fun h => by
      have := inR_iff.2 ⟨h.t0, h.t9⟩
      rw [h4] at this
      cases this
    go_wp2
    go_ret
    exact ⟨false, rfl, ⟨(fun h => by cases h), fun h => absurd h HNO.out⟩, HX1.out⟩
  have H1 := Lib.hid h1
  have H2 := Lib.hid h2
  have H3 := Lib.hid h3
  have H4 := Lib.hid h4
  go_wp2_with fail
  go_loopg [50] s.nodes.length (fun gg i wr => ∃ (q : Nat), i = .int .i64 q ∧ q ≤ s.nodes.length ∧ gg = s.nodes.length - q ∧ Hid (Ext w1 wr ∧ ∀ i n, i < q → s.nodes[i]? = some n → NodeL s i n))
  case atStart => exact ⟨0, rfl, Nat.zero_le _, by omega, Lib.hid ⟨Ext.refl _, fun i n h => absurd h (Nat.not_lt_zero i)⟩⟩
  case round =>
    obtain ⟨q, rfl, hq, rfl, HR⟩ := hrel
    clear s0 s1 s2 s3 s4 s5 k0 k1
    have s0 : wr.cell? ⟨w.heap.size + 1, 0, none⟩ = some (.slice An s.nodes.length cn) := (HBS1.out.ext HR.out.1).cell 0
    have s1 : wr.cell? ⟨w.heap.size + 1, 1, none⟩ = some (.slice Aj s.jobs.length cj) := (HBS1.out.ext HR.out.1).cell 1
    by_cases hlt : q < s.nodes.length
    · have d1 : decide ((q : Int) < (s.nodes.length : Int)) = true := decide_eq_true (by omega)
      have d1' : decide (q < s.nodes.length) = true := decide_eq_true hlt
      obtain ⟨n, hnk⟩ : ∃ n, s.nodes[q]? = some n := ⟨_, List.getElem?_eq_getElem hlt⟩
      have s2 : wr.cell? ⟨w.heap.size + 1, 2, none⟩ = some (.int .i64 s.goal) := (HBS1.out.ext HR.out.1).cell 2
      have s3 : wr.cell? ⟨w.heap.size + 1, 3, none⟩ = some (.int .i64 s.prior) := (HBS1.out.ext HR.out.1).cell 3
      have s4 : wr.cell? ⟨w.heap.size + 1, 4, none⟩ = some (.int .i64 s.mode) := (HBS1.out.ext HR.out.1).cell 4
      have s5 : wr.cell? ⟨w.heap.size + 1, 5, none⟩ = some (.int .i64 s.term) := (HBS1.out.ext HR.out.1).cell 5
      have HNK := Lib.hid hnk
      have HLT := Lib.hid hlt
      clear hnk
      go_wp2_with fail
      refine (HNM.out _ q n HNK.out HN6.out HL2.out (HX1.out.trans HR.out.1)).mono ?_
      rintro e5 w5 ⟨b, rfl, hb, hx5⟩
      have HX5 := Lib.hid (HR.out.1.trans hx5)
      have HB := Lib.hid hb
      clear hx5 hb
      cases b
      · have HNO : Hid (¬ RightP c s) := Lib.hid fun h => by
          have := HB.out.2 ((RightL_iff.2 h).node q n HNK.out)
          cases this
        have HX6 := Lib.hid (HX1.out.trans HX5.out)
        go_wp2
        go_ret
        exact ⟨false, rfl, ⟨(fun h => by cases h), fun h => absurd h HNO.out⟩, HX6.out⟩
      · go_wp2
        go_roundg (s.nodes.length - (q + 1))
        case measure => have := HLT.out; omega
        case rel =>
          refine ⟨q + 1, by go_num, HLT.out, rfl, Lib.hid ⟨HX5.out, fun i m hi hm => ?_⟩⟩
          rcases Nat.lt_or_ge i q with h' | h'
          · exact HR.out.2 i m h' hm
          · obtain rfl : i = q := by omega
            rw [HNK.out] at hm
            cases hm
            exact HB.out.1 (by trivial)
    · have d1 : decide ((q : Int) < (s.nodes.length : Int)) = false := decide_eq_false (by omega)
      have d1' : decide (q < s.nodes.length) = false := decide_eq_false hlt
      obtain rfl : q = s.nodes.length := by omega
      have HND : Hid (∀ i n, s.nodes[i]? = some n → NodeL s i n) := Lib.hid fun i n hi => HR.out.2 i n (List.getElem?_eq_some_iff.1 hi).1 hi
      have HXr := Lib.hid HR.out.1
      clear HR hlt HNM
      have HVR : Hid (∀ (i : Nat) (n : Nd), s.nodes[i]? = some n → 1 ≤ n.version) := Lib.hid fun i n hi => (HND.out i n hi).1.1
      obtain ⟨wz, hwz⟩ : ∃ wz, wz = wr := ⟨_, rfl⟩
      go_wp2_with fail
      rw [← hwz]
      rw [← hwz] at HXr
      clear s0 s1 hwz
      go_loopg [61] s.jobs.length (fun gg i wr => ∃ (q : Nat), i = .int .i64 q ∧ q ≤ s.jobs.length ∧ gg = s.jobs.length - q ∧ Hid (Ext w1 wr ∧ ∀ i n, i < q → s.jobs[i]? = some n → JobL c s i n))
      case atStart => exact ⟨0, rfl, Nat.zero_le _, by omega, Lib.hid ⟨HXr.out, fun i n h => absurd h (Nat.not_lt_zero i)⟩⟩
      case round =>
        obtain ⟨q, rfl, hq, rfl, HR⟩ := hrel
        have k1 : wr.cell? ⟨w.heap.size, 1, none⟩ = some (.int .i64 c.queues) := (HBC1.out.ext HR.out.1).cell 1
        by_cases hlt : q < s.jobs.length
        · have d1 : decide ((q : Int) < (s.jobs.length : Int)) = true := decide_eq_true (by omega)
          have d1' : decide (q < s.jobs.length) = true := decide_eq_true hlt
          obtain ⟨n, hnk⟩ : ∃ n, s.jobs[q]? = some n := ⟨_, List.getElem?_eq_getElem hlt⟩
          have s0 : wr.cell? ⟨w.heap.size + 1, 0, none⟩ = some (.slice An s.nodes.length cn) := (HBS1.out.ext HR.out.1).cell 0
          have s1 : wr.cell? ⟨w.heap.size + 1, 1, none⟩ = some (.slice Aj s.jobs.length cj) := (HBS1.out.ext HR.out.1).cell 1
          have s2 : wr.cell? ⟨w.heap.size + 1, 2, none⟩ = some (.int .i64 s.goal) := (HBS1.out.ext HR.out.1).cell 2
          have s3 : wr.cell? ⟨w.heap.size + 1, 3, none⟩ = some (.int .i64 s.prior) := (HBS1.out.ext HR.out.1).cell 3
          have s4 : wr.cell? ⟨w.heap.size + 1, 4, none⟩ = some (.int .i64 s.mode) := (HBS1.out.ext HR.out.1).cell 4
          have s5 : wr.cell? ⟨w.heap.size + 1, 5, none⟩ = some (.int .i64 s.term) := (HBS1.out.ext HR.out.1).cell 5
          have k0 : wr.cell? ⟨w.heap.size, 0, none⟩ = some (.int .i64 c.nodes) := (HBC1.out.ext HR.out.1).cell 0
          have k2 : wr.cell? ⟨w.heap.size, 2, none⟩ = some (.int .i64 c.quota) := (HBC1.out.ext HR.out.1).cell 2
          have k3 : wr.cell? ⟨w.heap.size, 3, none⟩ = some (.int .i64 c.wave) := (HBC1.out.ext HR.out.1).cell 3
          have k4 : wr.cell? ⟨w.heap.size, 4, none⟩ = some (.int .i64 c.lease) := (HBC1.out.ext HR.out.1).cell 4
          have k5 : wr.cell? ⟨w.heap.size, 5, none⟩ = some (.int .i64 c.retry) := (HBC1.out.ext HR.out.1).cell 5
          have k6 : wr.cell? ⟨w.heap.size, 6, none⟩ = some (.int .i64 c.deadline) := (HBC1.out.ext HR.out.1).cell 6
          have k7 : wr.cell? ⟨w.heap.size, 7, none⟩ = some (.int .i64 c.room) := (HBC1.out.ext HR.out.1).cell 7
          have k8 : wr.cell? ⟨w.heap.size, 8, none⟩ = some (.int .i64 c.disk) := (HBC1.out.ext HR.out.1).cell 8
          have HNK := Lib.hid hnk
          have HLT := Lib.hid hlt
          have hw1 : wrap64 ((q : Int) + 1) = (q : Int) + 1 := IntWalk.wrap64_in _ (by omega)
          clear hnk
          go_wp2_with fail
          refine (HJM.out _ q n HNK.out HM1.out HN6.out HL2.out HVR.out (HX1.out.trans HR.out.1)).mono ?_
          rintro e5 w5 ⟨b, rfl, hb, hx5⟩
          have HX5 := Lib.hid (HR.out.1.trans hx5)
          have HB := Lib.hid hb
          clear hx5 hb s0 s1 s2 s3 s4 s5 k0 k1 k2 k3 k4 k5 k6 k7 k8
          cases b
          · have HNO : Hid (¬ RightP c s) := Lib.hid fun h => by
              have := HB.out.2 ((RightL_iff.2 h).job q n HNK.out)
              cases this
            have HX6 := Lib.hid (HX1.out.trans HX5.out)
            go_wp2
            go_ret
            exact ⟨false, rfl, ⟨(fun h => by cases h), fun h => absurd h HNO.out⟩, HX6.out⟩
          · go_wp2
            go_roundg (s.jobs.length - (q + 1))
            case measure => have := HLT.out; omega
            case rel =>
              refine ⟨q + 1, by go_num, HLT.out, rfl, Lib.hid ⟨HX5.out, fun i m hi hm => ?_⟩⟩
              rcases Nat.lt_or_ge i q with h' | h'
              · exact HR.out.2 i m h' hm
              · obtain rfl : i = q := by omega
                rw [HNK.out] at hm
                cases hm
                exact HB.out.1 (by trivial)
        · have d1 : decide ((q : Int) < (s.jobs.length : Int)) = false := decide_eq_false (by omega)
          have d1' : decide (q < s.jobs.length) = false := decide_eq_false hlt
          obtain rfl : q = s.jobs.length := by omega
          have HJD : Hid (∀ i n, s.jobs[i]? = some n → JobL c s i n) := Lib.hid fun i n hi => HR.out.2 i n (List.getElem?_eq_some_iff.1 hi).1 hi
          have HXq := Lib.hid HR.out.1
          clear HR hlt HJM
          obtain ⟨wz, hwz⟩ : ∃ wz, wz = wr := ⟨_, rfl⟩
          go_wp2_with fail
          rw [← hwz]
          rw [← hwz] at HXq
          clear k1 hwz
          obtain ⟨qn, hqn⟩ : ∃ qn : Nat, c.queues = (qn : Int) := ⟨c.queues.toNat, by have := HM2.out; omega⟩
          have HQN := Lib.hid hqn
          rw [hqn]
          go_loopg [73] qn (fun gg i wr => ∃ (q : Nat), i = .int .i64 q ∧ q ≤ qn ∧ gg = qn - q ∧ Hid (Ext w1 wr ∧ ∀ i : Nat, i < q → (drainsS s (i : Int) : Int) ≤ c.quota))
          case atStart => exact ⟨0, rfl, Nat.zero_le _, by omega, Lib.hid ⟨HXq.out, fun i h => absurd h (Nat.not_lt_zero i)⟩⟩
          case round =>
            obtain ⟨q, rfl, hq, rfl, HR⟩ := hrel
            by_cases hlt : q < qn
            · have d1 : decide ((q : Int) < (qn : Int)) = true := decide_eq_true (by omega)
              have d1' : decide (q < qn) = true := decide_eq_true hlt
              have HLT := Lib.hid hlt
              have HXR := Lib.hid (HX1.out.trans HR.out.1)
              have hw1 : wrap64 ((q : Int) + 1) = (q : Int) + 1 := IntWalk.wrap64_in _ (by have := HM2.out; have := HQN.out; omega)
              have s0 : wr.cell? ⟨w.heap.size + 1, 0, none⟩ = some (.slice An s.nodes.length cn) := (HBS1.out.ext HR.out.1).cell 0
              have s1 : wr.cell? ⟨w.heap.size + 1, 1, none⟩ = some (.slice Aj s.jobs.length cj) := (HBS1.out.ext HR.out.1).cell 1
              have s2 : wr.cell? ⟨w.heap.size + 1, 2, none⟩ = some (.int .i64 s.goal) := (HBS1.out.ext HR.out.1).cell 2
              have s3 : wr.cell? ⟨w.heap.size + 1, 3, none⟩ = some (.int .i64 s.prior) := (HBS1.out.ext HR.out.1).cell 3
              have s4 : wr.cell? ⟨w.heap.size + 1, 4, none⟩ = some (.int .i64 s.mode) := (HBS1.out.ext HR.out.1).cell 4
              have s5 : wr.cell? ⟨w.heap.size + 1, 5, none⟩ = some (.int .i64 s.term) := (HBS1.out.ext HR.out.1).cell 5
              have k2 : wr.cell? ⟨w.heap.size, 2, none⟩ = some (.int .i64 c.quota) := (HBC1.out.ext HR.out.1).cell 2
              have HK2 : Hid (∀ w', Ext wr w' → w'.cell? ⟨w.heap.size, 2, none⟩ = some (.int .i64 c.quota)) := Lib.hid fun w' h => (HBC1.out.ext (HR.out.1.trans h)).cell 2
              generalize hD : (drainsS s (q : Int) : Int) = D at *
              have HDQ : Hid (∀ w', Ext w w' → Calls Try.prog 19 #[.agg #[.slice An s.nodes.length cn, .slice Aj s.jobs.length cj, .int .i64 s.goal, .int .i64 s.prior, .int .i64 s.mode, .int .i64 s.term], .int .i64 (q : Int)] w' fun e w'' => e = .returned (.int .i64 D) ∧ Ext w' w'') := Lib.hid (by rw [← hD]; exact fun w' h => HD.out w' (q : Int) h)
              go_wp2_with fail
              by_cases hov : c.quota < D
              · have d2 : decide (c.quota < D) = true := decide_eq_true hov
                have HNO : Hid (¬ RightP c s) := Lib.hid fun h => by
                  have := h.drains q (by have := HQN.out; have := HLT.out; omega)
                  omega
                clear hov
                go_region_with ((go_at_call 19); (first | (refine (HDQ.out _ HXR.out).mono ?_) | (refine (HDQ.out _ (ext_drew9 HXR.out)).mono ?_)); (rintro e9 w9 ⟨rfl, hx9⟩); (have hx9' : Ext wr w9 := Ext.of_drew hx9); (have k9 := HK2.out w9 hx9'))
                all_goals
                  have HX9 := Lib.hid (HXR.out.trans hx9')
                  clear hx9 hx9' k9
                  go_wp2
                  go_ret
                  exact ⟨false, rfl, ⟨(fun h => by cases h), fun h => absurd h HNO.out⟩, HX9.out⟩
              · have d2 : decide (c.quota < D) = false := decide_eq_false hov
                have HLE : Hid (∀ i : Nat, i < q + 1 → (drainsS s (i : Int) : Int) ≤ c.quota) := Lib.hid fun i hi => by
                  rcases Nat.lt_or_ge i q with h' | h'
                  · exact HR.out.2 i h'
                  · obtain rfl : i = q := by omega
                    omega
                clear hov
                go_region_with ((go_at_call 19); (first | (refine (HDQ.out _ HXR.out).mono ?_) | (refine (HDQ.out _ (ext_drew9 HXR.out)).mono ?_)); (rintro e9 w9 ⟨rfl, hx9⟩); (have hx9' : Ext wr w9 := Ext.of_drew hx9); (have k9 := HK2.out w9 hx9'))
                all_goals
                  have HX9 := Lib.hid (HR.out.1.trans hx9')
                  clear hx9 hx9' k9
                  go_wp2
                  go_roundg (qn - (q + 1))
                  case measure => have := HLT.out; omega
                  case rel => exact ⟨q + 1, by go_num, HLT.out, rfl, Lib.hid ⟨HX9.out, HLE.out⟩⟩
            · have d1 : decide ((q : Int) < (qn : Int)) = false := decide_eq_false (by omega)
              have d1' : decide (q < qn) = false := decide_eq_false hlt
              obtain rfl : q = qn := by omega
              have HY : Hid (RightP c s) := Lib.hid (RightL_iff.1 ⟨HM1.out, HL.out, HL2.out, inR_iff.1 H1.out, inR_iff.1 H2.out, inR_iff.1 H3.out, inR_iff.1 H4.out, HND.out, HJD.out, fun i hi => HR.out.2 i (by have := HQN.out; omega)⟩)
              have HX6 := Lib.hid (HX1.out.trans HR.out.1)
              go_wp2
              go_ret
              exact ⟨true, rfl, ⟨fun _ => HY.out, fun _ => rfl⟩, HX6.out⟩

end Go.Proofs.Ytgjidkhfnnghiaa

/- The reference of layer 9: sets of nodes, the version that is meant. -/
namespace Go.Proofs.Ytgjidkhfnnghiaa
open Go.RowKit

set_option maxRecDepth 100000 in
theorem RefHas_any (set : Int) (i : Nat) (hi : i < 64) (w : World) :
    Calls Try.prog 27 #[.int .i64 set, .int .i64 (i : Int)] w fun e w' => e = .returned (.bool (hasS set i)) ∧ w = w' := by
  have h0 : (0 : Int) ≤ (i : Int) := by omega
  go_enter Try.func27, Try.ntmps27
  go_wp2
  go_ret
  exact ⟨by simp only [i64_and1]; rfl, rfl⟩

theorem RefMeant_any (vn vj : Value) (s : St) (w : World) :
    Calls Try.prog 49 #[stV vn vj s] w fun e w' => e = .returned (.int .i64 (meantS s)) ∧ Ext w w' := by
  obtain ⟨hx, hb⟩ := boxSt vn vj s w 27
  have HX := Lib.hid hx
  clear hx hb
  unfold stV meantS
  unfold stC at HX
  by_cases h : s.mode = 2
  · have d : (s.mode == 2) = true := by rw [h]; rfl
    rw [if_pos h]
    clear h
    go_enter Try.func49, Try.ntmps49
    go_wp2
    go_ret
    exact ⟨rfl, HX.out⟩
  · have d : (s.mode == 2) = false := by rw [beq_eq_false_iff_ne]; exact h
    rw [if_neg h]
    clear h
    go_enter Try.func49, Try.ntmps49
    go_wp2
    go_ret
    exact ⟨rfl, HX.out⟩

theorem many_step (set : Int) (q : Nat) : ((List.range (q + 1)).filter (hasS set)).length = ((List.range q).filter (hasS set)).length + (if hasS set q = true then 1 else 0) := by
  rw [List.range_succ, List.filter_append, List.length_append]
  congr 1
  cases h : hasS set q with
  | false => rw [List.filter_cons_of_neg (by rw [h]; simp)]; rfl
  | true => rw [List.filter_cons_of_pos h]; rfl

set_option maxRecDepth 100000 in
theorem RefMany_any (set : Int) (w : World) :
    Calls Try.prog 47 #[.int .i64 set] w fun e w' => e = .returned (.int .i64 (manyS set : Int)) ∧ w = w' := by
  have HH := Lib.hid fun i hi w' => RefHas_any set i hi w'
  obtain ⟨M, hM⟩ : ∃ M, M = manyS set := ⟨_, rfl⟩
  rw [← hM]
  have HM := Lib.hid hM
  clear hM
  go_enter Try.func47, Try.ntmps47
  go_wp2_with fail
  go_loop [3, 4] (fun n i => ∃ q : Nat, i = .int .i64 q ∧ n = .int .i64 ((((List.range q).filter (hasS set)).length : Nat) : Int) ∧ q ≤ 6) (fun _ i => 6 - (intOf i).toNat)
  case atStart => exact ⟨0, rfl, rfl, Nat.zero_le _⟩
  case round =>
    obtain ⟨q, rfl, rfl, hq⟩ := hrel
    have HST := Lib.hid (many_step set q)
    have hNq : ((List.range q).filter (hasS set)).length ≤ q := Nat.le_trans (List.length_filter_le _ _) (by simp)
    generalize hN : ((List.range q).filter (hasS set)).length = N at *
    have HN := Lib.hid hN
    clear hN
    by_cases hlt : q < 6
    · have d1 : decide ((q : Int) < 6) = true := decide_eq_true (by omega)
      have HLT := Lib.hid hlt
      have hq64 : q < 64 := by omega
      go_wp2_with fail
      refine (HH.out q hq64 _).mono ?_
      rintro e1 w1 ⟨rfl, rfl⟩
      cases hh : hasS set q
      · rw [hh, if_neg (by simp)] at HST
        go_wp2
        go_round
        case rel => exact ⟨q + 1, by go_num, by rw [HST.out]; rfl, HLT.out⟩
        case measure => have := HLT.out; simp [intOf]; omega
      · rw [hh, if_pos rfl] at HST
        have hw : wrap64 ((N : Int) + 1) = ((N + 1 : Nat) : Int) := IntWalk.wrap64_in _ (by omega)
        go_wp2
        go_round
        case rel => exact ⟨q + 1, by go_num, by rw [HST.out]; rfl, HLT.out⟩
        case measure => have := HLT.out; simp [intOf]; omega
    · have d1 : decide ((q : Int) < 6) = false := decide_eq_false (by omega)
      obtain rfl : q = 6 := by omega
      have HMN : Hid (M = N) := Lib.hid (HM.out.trans HN.out)
      go_wp2
      go_ret
      exact ⟨by rw [HMN.out]; rfl, rfl⟩

end Go.Proofs.Ytgjidkhfnnghiaa

/- The reference of layer 9: whether a node is free; whether a fleet may be. -/
namespace Go.Proofs.Ytgjidkhfnnghiaa
open Go.RowKit

set_option maxRecDepth 100000 in
theorem RefFree_any (n : Nd) (w : World) :
    Calls Try.prog 26 #[ndV n] w fun e w' => e = .returned (.bool (freeN n)) ∧ Ext w w' := by
  have HX := Lib.hid fun c1 c2 => ext2 w 37 37 c1 c2
  have HX1 := Lib.hid fun cs => (Below.refl w.heap.size w).alloc (Nat.le_refl _) (.cells cs 37)
  have hfr : ∀ b, (b = true ↔ (n.up = true ∧ n.cordon = false ∧ n.moving = false ∧ n.job = 0)) → b = freeN n := fun b hb => by
    have : freeN n = true ↔ (n.up = true ∧ n.cordon = false ∧ n.moving = false ∧ n.job = 0) := by
      unfold freeN
      cases n.up <;> cases n.cordon <;> cases n.moving <;> simp
    rw [Bool.eq_iff_iff]
    exact hb.trans this.symm
  have HF := Lib.hid hfr
  clear hfr
  unfold ndV
  cases h1 : n.up
  · have HZ := Lib.hid (HF.out false ⟨(fun h => by cases h), fun h => by rw [h1] at h; cases h.1⟩)
    go_enter Try.func26, Try.ntmps26
    go_wp2
    go_ret
    exact ⟨by rw [← HZ.out]; rfl, HX.out _ _⟩
  cases h2 : n.cordon
  · cases h3 : n.moving
    · by_cases h4 : n.job = 0
      · have HZ := Lib.hid (HF.out true ⟨(fun _ => ⟨h1, h2, h3, h4⟩), fun _ => rfl⟩)
        go_enter Try.func26, Try.ntmps26
        go_wp2
        go_ret
        exact ⟨by rw [← HZ.out]; rfl, HX.out _ _⟩
      · have HZ := Lib.hid (HF.out false ⟨(fun h => by cases h), fun h => absurd h.2.2.2 h4⟩)
        go_enter Try.func26, Try.ntmps26
        go_wp2
        go_ret
        exact ⟨by rw [← HZ.out]; rfl, HX.out _ _⟩
    · have HZ := Lib.hid (HF.out false ⟨(fun h => by cases h), fun h => by rw [h3] at h; cases h.2.2.1⟩)
      go_enter Try.func26, Try.ntmps26
      go_wp2
      go_ret
      exact ⟨by rw [← HZ.out]; rfl, HX.out _ _⟩
  · have HZ := Lib.hid (HF.out false ⟨(fun h => by cases h), fun h => by rw [h2] at h; cases h.2.1⟩)
    go_enter Try.func26, Try.ntmps26
    go_wp2
    go_ret
    exact ⟨by rw [← HZ.out]; rfl, HX.out _ _⟩

end Go.Proofs.Ytgjidkhfnnghiaa

/- Measures of loops that count up: no sum behind wrap64 in sight of the kernel. No program is named here. -/
namespace Go.Proofs.Ytgjidkhfnnghiaa
open Go.RowKit

theorem measQ {N q : Nat} (h : q < N) : N - (intOf (.int .i64 ((q : Int) + 1))).toNat < N - (intOf (.int .i64 (q : Int))).toNat := by
  simp [intOf]
  omega
theorem measZ {N : Nat} {z : Int} (h0 : 0 ≤ z) (h : z < (N : Int)) : N - (intOf (.int .i64 (z + 1))).toNat < N - (intOf (.int .i64 z)).toNat := by
  simp [intOf]
  omega
theorem Blk.six {w : World} {g : Nat} {t : TypeId} {x0 x1 x2 x3 x4 x5 : Value} (h : Blk w g t #[x0, x1, x2, x3, x4, x5]) : w.cell? ⟨g, 0, none⟩ = some x0 ∧ w.cell? ⟨g, 1, none⟩ = some x1 ∧ w.cell? ⟨g, 2, none⟩ = some x2 ∧ w.cell? ⟨g, 3, none⟩ = some x3 ∧ w.cell? ⟨g, 4, none⟩ = some x4 ∧ w.cell? ⟨g, 5, none⟩ = some x5 := ⟨h.cell 0, h.cell 1, h.cell 2, h.cell 3, h.cell 4, h.cell 5⟩

end Go.Proofs.Ytgjidkhfnnghiaa

/- The reference of layer 15: all free nodes; those of a version. -/
namespace Go.Proofs.Ytgjidkhfnnghiaa
open Go.RowKit

theorem two_pows {q : Nat} (h : q < 6) : (2 : Nat) ^ q ≤ 32 ∧ (2 : Nat) ^ (q + 1) = 2 ^ q * 2 := ⟨Nat.le_trans (Nat.pow_le_pow_right (by decide) (show q ≤ 5 by omega)) (by decide), Nat.pow_succ ..⟩

set_option maxRecDepth 100000 in
set_option maxHeartbeats 2000000 in
theorem RefOpen_any (vn vj : Value) (s : St) (w : World) (hr : RdNd w vn s.nodes) (hN : s.nodes.length ≤ 6) :
    Calls Try.prog 50 #[stV vn vj s] w fun e w' => e = .returned (.int .i64 (openN s : Int)) ∧ Ext w w' := by
  obtain ⟨hx, hb⟩ := boxSt vn vj s w 27
  unfold stV
  unfold stC at hx hb
  obtain ⟨A, c, rfl, hnc, hcm, hcell⟩ := has_cells hr
  have HC := Lib.hid hcell
  have HX := Lib.hid hx
  have HB := Lib.hid hb
  have HF := Lib.hid fun n w' => RefFree_any n w'
  obtain ⟨D, hD⟩ : ∃ D, D = openN s := ⟨_, rfl⟩
  rw [← hD]
  unfold openN at hD
  have HD := Lib.hid hD
  clear hx hb hr hcell hD
  generalize s.nodes = l at *
  go_enter Try.func50, Try.ntmps50
  go_wp2_with fail
  obtain ⟨W0, hW0⟩ : ∃ W0, W0 = w.alloc (.cells #[.slice A l.length c, vj, .int .i64 s.goal, .int .i64 s.prior, .int .i64 s.mode, .int .i64 s.term] 27) := ⟨_, rfl⟩
  rw [← hW0] at HX HB ⊢
  clear hW0
  go_loopw [3, 4, 5] (fun o b i wr => ∃ q B : Nat, i = .int .i64 q ∧ o = .int .i64 (bitsF (nodeIs l freeN) q : Int) ∧ b = .int .i64 (B : Int) ∧ B = 2 ^ q ∧ q ≤ l.length ∧ Ext W0 wr) (fun _ _ i _ => l.length - (intOf i).toNat)
  case atStart => exact ⟨0, 1, rfl, rfl, rfl, rfl, Nat.zero_le _, Ext.refl _⟩
  case round =>
    obtain ⟨q, B, rfl, rfl, rfl, hB, hq, hxr⟩ := hrel
    have HXR := Lib.hid hxr
    have HXW := Lib.hid (HX.out.trans hxr)
    have g0 := (HB.out.ext hxr).cell 0
    have hset := bitsF_lt (nodeIs l freeN) q
    have HST : Hid (bitsF (nodeIs l freeN) (q + 1) = bitsF (nodeIs l freeN) q + (if nodeIs l freeN q = true then 2 ^ q else 0)) := Lib.hid rfl
    generalize hP : bitsF (nodeIs l freeN) q = P at *
    have HP := Lib.hid hP
    clear hxr hP
    by_cases hlt : q < l.length
    · have d1 : decide ((q : Int) < (l.length : Int)) = true := decide_eq_true (by omega)
      have d1' : decide (q < l.length) = true := decide_eq_true hlt
      obtain ⟨n, hn⟩ : ∃ n, l[q]? = some n := ⟨_, List.getElem?_eq_getElem hlt⟩
      obtain ⟨b, o, rfl, hlt', hat⟩ := HC.out q n hn
      obtain ⟨c0, c1, c2, c3, c4⟩ := hat.ext HXW.out hlt'
      have hp2 := two_pows (q := q) (by omega)
      have HB2 : Hid (2 ^ (q + 1) = B * 2) := Lib.hid (by rw [hp2.2, ← hB])
      have HLT := Lib.hid hlt
      have wq : wrap64 ((q : Int) + 1) = (q : Int) + 1 := IntWalk.wrap64_in _ (by omega)
      have wb : wrap64 ((B : Int) * 2) = ((B * 2 : Nat) : Int) := IntWalk.wrap64_in _ (by omega)
      have wp : wrap64 ((P : Int) + (B : Int)) = ((P + B : Nat) : Int) := IntWalk.wrap64_in _ (by omega)
      have HN : Hid (nodeIs l freeN q = freeN n) := Lib.hid (nodeIs_at hn)
      have HBQ := Lib.hid hB
      have HFC := Lib.hid (HF.out n wr)
      unfold ndV at HFC
      clear hat hn hset hp2 hB
      go_wp2_with fail
      refine HFC.out.mono ?_
      rintro e9 w9 ⟨rfl, hx9⟩
      have HX9 := Lib.hid (HXR.out.trans hx9)
      clear hx9
      cases hf : freeN n
      · have HS : Hid (bitsF (nodeIs l freeN) (q + 1) = P) := Lib.hid (by rw [HST.out, HN.out, hf, if_neg (by simp), Nat.add_zero])
        repeat (first | go_values | go_skip | go_guarded | go_step | go_upon | (simp only []))
        go_roundw
        case rel => exact ⟨q + 1, B * 2, by first | rfl | rw [wq]; rfl, by rw [HS.out], by first | rfl | rw [wb], HB2.out.symm, HLT.out, HX9.out⟩
        case measure => have := HLT.out; simp only [intOf]; first | omega | (rw [wq]; omega)
      · have HS : Hid (bitsF (nodeIs l freeN) (q + 1) = P + B) := Lib.hid (by rw [HST.out, HN.out, hf, if_pos rfl, HBQ.out])
        repeat (first | go_values | go_skip | go_guarded | go_step | go_upon | (simp only []))
        go_roundw
        case rel => exact ⟨q + 1, B * 2, by first | rfl | rw [wq]; rfl, by rw [HS.out]; first | rfl | rw [wp], by first | rfl | rw [wb], HB2.out.symm, HLT.out, HX9.out⟩
        case measure => have := HLT.out; simp only [intOf]; first | omega | (rw [wq]; omega)
    · have d1 : decide ((q : Int) < (l.length : Int)) = false := decide_eq_false (by omega)
      have d1' : decide (q < l.length) = false := decide_eq_false hlt
      have HE : Hid (D = P) := Lib.hid (by rw [HD.out, ← HP.out, show q = l.length by omega])
      go_wp2
      go_ret
      exact ⟨by rw [HE.out]; rfl, HXW.out⟩

set_option maxRecDepth 100000 in
set_option maxHeartbeats 4000000 in
theorem RefOf_any (vn vj : Value) (s : St) (set v : Int) (w : World) (hr : RdNd w vn s.nodes) (hN : s.nodes.length ≤ 6) :
    Calls Try.prog 48 #[stV vn vj s, .int .i64 set, .int .i64 v] w fun e w' => e = .returned (.int .i64 (ofN s set v : Int)) ∧ Ext w w' := by
  obtain ⟨hx, hb⟩ := boxSt vn vj s w 27
  unfold stV
  unfold stC at hx hb
  obtain ⟨A, c, rfl, hnc, hcm, hcell⟩ := has_cells hr
  have HC := Lib.hid hcell
  have HX := Lib.hid hx
  have HB := Lib.hid hb
  have HH := Lib.hid fun i hi w' => RefHas_any set i hi w'
  obtain ⟨D, hD⟩ : ∃ D, D = ofN s set v := ⟨_, rfl⟩
  rw [← hD]
  unfold ofN ofTo at hD
  generalize s.nodes = l at *
  obtain ⟨F, hF⟩ : ∃ F : Nat → Bool, F = (fun i => hasS set i && nodeIs l (fun n => hostN n && decide (n.version = v)) i) := ⟨_, rfl⟩
  rw [← hF] at hD
  have HD := Lib.hid hD
  have HFF : Hid (∀ q n, l[q]? = some n → F q = (hasS set q && (hostN n && decide (n.version = v)))) := Lib.hid fun q n hn => by rw [hF]; show (hasS set q && nodeIs l _ q) = _; rw [nodeIs_at hn]
  clear hx hb hr hcell hD hF
  go_enter Try.func48, Try.ntmps48
  go_wp2_with fail
  obtain ⟨W0, hW0⟩ : ∃ W0, W0 = w.alloc (.cells #[.slice A l.length c, vj, .int .i64 s.goal, .int .i64 s.prior, .int .i64 s.mode, .int .i64 s.term] 27) := ⟨_, rfl⟩
  rw [← hW0] at HX HB ⊢
  clear hW0
  go_loopw [7, 8, 9] (fun o b i wr => ∃ q B : Nat, i = .int .i64 q ∧ o = .int .i64 (bitsF F q : Int) ∧ b = .int .i64 (B : Int) ∧ B = 2 ^ q ∧ q ≤ l.length ∧ Ext W0 wr) (fun _ _ i _ => l.length - (intOf i).toNat)
  case atStart => exact ⟨0, 1, rfl, rfl, rfl, rfl, Nat.zero_le _, Ext.refl _⟩
  case round =>
    obtain ⟨q, B, rfl, rfl, rfl, hB, hq, hxr⟩ := hrel
    have HXR := Lib.hid hxr
    have HXW := Lib.hid (HX.out.trans hxr)
    have g0 := (HB.out.ext hxr).cell 0
    have hset := bitsF_lt F q
    have HST : Hid (bitsF F (q + 1) = bitsF F q + (if F q = true then 2 ^ q else 0)) := Lib.hid rfl
    generalize hP : bitsF F q = P at *
    have HP := Lib.hid hP
    clear hxr hP
    by_cases hlt : q < l.length
    · have d1 : decide ((q : Int) < (l.length : Int)) = true := decide_eq_true (by omega)
      have d1' : decide (q < l.length) = true := decide_eq_true hlt
      obtain ⟨n, hn⟩ : ∃ n, l[q]? = some n := ⟨_, List.getElem?_eq_getElem hlt⟩
      obtain ⟨b, o, rfl, hlt', hat⟩ := HC.out q n hn
      obtain ⟨c0, c1, c2, c3, c4⟩ := hat.ext HXW.out hlt'
      have hp2 := two_pows (q := q) (by omega)
      have HB2 : Hid (2 ^ (q + 1) = B * 2) := Lib.hid (by rw [hp2.2, ← hB])
      have HLT := Lib.hid hlt
      have wq : wrap64 ((q : Int) + 1) = (q : Int) + 1 := IntWalk.wrap64_in _ (by omega)
      have wb : wrap64 ((B : Int) * 2) = ((B * 2 : Nat) : Int) := IntWalk.wrap64_in _ (by omega)
      have wp : wrap64 ((P : Int) + (B : Int)) = ((P + B : Nat) : Int) := IntWalk.wrap64_in _ (by omega)
      have HFQ : Hid (F q = (hasS set q && (hostN n && decide (n.version = v)))) := Lib.hid (HFF.out q n hn)
      have HBQ := Lib.hid hB
      have hq64 : q < 64 := by omega
      have HX9 : Hid (Ext W0 (wr.alloc (.cells #[.bool n.up, .bool n.cordon, .bool n.moving, .int .i64 n.version, .int .i64 n.job] 37))) := Lib.hid (HXR.out.trans ((Below.refl _ wr).alloc (Nat.le_refl _) _))
      have HHC := Lib.hid (HH.out q hq64 (wr.alloc (.cells #[.bool n.up, .bool n.cordon, .bool n.moving, .int .i64 n.version, .int .i64 n.job] 37)))
      clear hat hn hset hp2 hB hq64
      go_wp2_with fail
      refine HHC.out.mono ?_
      rintro e9 w9 ⟨rfl, rfl⟩
      clear c0 c1 c2 c3 c4
      obtain ⟨c0, c1, c2, c3, c4⟩ : (wr.alloc (.cells #[.bool n.up, .bool n.cordon, .bool n.moving, .int .i64 n.version, .int .i64 n.job] 37)).cell? ⟨wr.heap.size, 0, none⟩ = some (.bool n.up) ∧ (wr.alloc (.cells #[.bool n.up, .bool n.cordon, .bool n.moving, .int .i64 n.version, .int .i64 n.job] 37)).cell? ⟨wr.heap.size, 1, none⟩ = some (.bool n.cordon) ∧ (wr.alloc (.cells #[.bool n.up, .bool n.cordon, .bool n.moving, .int .i64 n.version, .int .i64 n.job] 37)).cell? ⟨wr.heap.size, 2, none⟩ = some (.bool n.moving) ∧ (wr.alloc (.cells #[.bool n.up, .bool n.cordon, .bool n.moving, .int .i64 n.version, .int .i64 n.job] 37)).cell? ⟨wr.heap.size, 3, none⟩ = some (.int .i64 n.version) ∧ True := by have hbk := Blk.new wr 37 #[.bool n.up, .bool n.cordon, .bool n.moving, .int .i64 n.version, .int .i64 n.job]; exact ⟨hbk.cell 0, hbk.cell 1, hbk.cell 2, hbk.cell 3, True.intro⟩
      obtain ⟨wn, hwn⟩ : ∃ wn, wn = wr.alloc (.cells #[.bool n.up, .bool n.cordon, .bool n.moving, .int .i64 n.version, .int .i64 n.job] 37) := ⟨_, rfl⟩
      rw [← hwn] at c0 c1 c2 c3 HX9 ⊢
      clear hwn HHC
      cases h1 : hasS set q
      · have HS : Hid (bitsF F (q + 1) = P) := Lib.hid (by rw [HST.out, HFQ.out]; simp [hostN, h1])
        repeat (first | go_values | go_skip | go_guarded | go_step | go_upon | (simp only []))
        go_roundw
        case rel => exact ⟨q + 1, B * 2, by first | rfl | rw [wq]; rfl, by rw [HS.out], by first | rfl | rw [wb], HB2.out.symm, HLT.out, HX9.out⟩
        case measure => have := HLT.out; simp only [intOf]; first | omega | (rw [wq]; omega)
      · cases h2 : n.up
        · rw [h2] at c0
          have HS : Hid (bitsF F (q + 1) = P) := Lib.hid (by rw [HST.out, HFQ.out]; simp [hostN, h1, h2])
          repeat (first | go_values | go_skip | go_guarded | go_step | go_upon | (simp only []))
          go_roundw
          case rel => exact ⟨q + 1, B * 2, by first | rfl | rw [wq]; rfl, by rw [HS.out], by first | rfl | rw [wb], HB2.out.symm, HLT.out, HX9.out⟩
          case measure => have := HLT.out; simp only [intOf]; first | omega | (rw [wq]; omega)
        · rw [h2] at c0
          cases h3 : n.cordon
          · rw [h3] at c1
            cases h4 : n.moving
            · rw [h4] at c2
              by_cases h5 : n.version = v
              · have e5 : (n.version == v) = true := by rw [h5]; simp
                have HS : Hid (bitsF F (q + 1) = P + B) := Lib.hid (by rw [HST.out, HFQ.out]; simp [hostN, h1, h2, h3, h4, h5]; exact HBQ.out.symm)
                repeat (first | go_values | go_skip | go_guarded | go_step | go_upon | (simp only []))
                go_roundw
                case rel => exact ⟨q + 1, B * 2, by first | rfl | rw [wq]; rfl, by rw [HS.out]; first | rfl | rw [wp], by first | rfl | rw [wb], HB2.out.symm, HLT.out, HX9.out⟩
                case measure => have := HLT.out; simp only [intOf]; first | omega | (rw [wq]; omega)
              · have e5 : (n.version == v) = false := by simpa using h5
                have HS : Hid (bitsF F (q + 1) = P) := Lib.hid (by rw [HST.out, HFQ.out]; simp [hostN, h1, h2, h3, h4, h5])
                repeat (first | go_values | go_skip | go_guarded | go_step | go_upon | (simp only []))
                go_roundw
                case rel => exact ⟨q + 1, B * 2, by first | rfl | rw [wq]; rfl, by rw [HS.out], by first | rfl | rw [wb], HB2.out.symm, HLT.out, HX9.out⟩
                case measure => have := HLT.out; simp only [intOf]; first | omega | (rw [wq]; omega)
            · rw [h4] at c2
              have HS : Hid (bitsF F (q + 1) = P) := Lib.hid (by rw [HST.out, HFQ.out]; simp [hostN, h1, h2, h3, h4])
              repeat (first | go_values | go_skip | go_guarded | go_step | go_upon | (simp only []))
              go_roundw
              case rel => exact ⟨q + 1, B * 2, by first | rfl | rw [wq]; rfl, by rw [HS.out], by first | rfl | rw [wb], HB2.out.symm, HLT.out, HX9.out⟩
              case measure => have := HLT.out; simp only [intOf]; first | omega | (rw [wq]; omega)
          · rw [h3] at c1
            have HS : Hid (bitsF F (q + 1) = P) := Lib.hid (by rw [HST.out, HFQ.out]; simp [hostN, h1, h2, h3])
            repeat (first | go_values | go_skip | go_guarded | go_step | go_upon | (simp only []))
            go_roundw
            case rel => exact ⟨q + 1, B * 2, by first | rfl | rw [wq]; rfl, by rw [HS.out], by first | rfl | rw [wb], HB2.out.symm, HLT.out, HX9.out⟩
            case measure => have := HLT.out; simp only [intOf]; first | omega | (rw [wq]; omega)
    · have d1 : decide ((q : Int) < (l.length : Int)) = false := decide_eq_false (by omega)
      have d1' : decide (q < l.length) = false := decide_eq_false hlt
      have HE : Hid (D = P) := Lib.hid (by rw [HD.out, ← HP.out, show q = l.length by omega])
      go_wp2
      go_ret
      exact ⟨by rw [HE.out]; rfl, HXW.out⟩

end Go.Proofs.Ytgjidkhfnnghiaa

/- The reference of layer 16: a job's end; the nodes at a time. -/
namespace Go.Proofs.Ytgjidkhfnnghiaa
open Go.RowKit

set_option maxRecDepth 100000 in
set_option maxHeartbeats 8000000 in
theorem RefEnd_any (vn vj : Value) (s : St) (job now : Int) (w : World) (hr : RdJb w vj s.jobs) (_hJ : s.jobs.length ≤ 24) (hw : ∀ (i : Nat) (x : Jb), s.jobs[i]? = some x → 0 ≤ x.work ∧ x.work ≤ 1000 ∧ 0 ≤ x.since ∧ x.since ≤ 1000000) (hn0 : 0 ≤ now) (hn1 : now ≤ 1000000) :
    Calls Try.prog 45 #[stV vn vj s, .int .i64 job, .int .i64 now] w fun e w' => e = .returned (.int .i64 (endS s job now)) ∧ Ext w w' := by
  obtain ⟨hx, hb⟩ := boxSt vn vj s w 27
  unfold stV
  unfold stC at hx hb
  obtain ⟨A, c, rfl, hnc, hcm, hcell⟩ := jobs_cells hr
  have HC := Lib.hid hcell
  have h1 := hb.cell 1
  obtain ⟨E, hE⟩ : ∃ z, z = endS s job now := ⟨_, rfl⟩
  rw [← hE]
  have HE := Lib.hid hE
  have HX := Lib.hid hx
  clear hx hb hr hcell hE
  by_cases j1 : job < 1
  · have HZ : Hid (E = -1) := Lib.hid (by rw [HE.out]; exact endS_none (.inl j1))
    have d1 : decide (job < 1) = true := decide_eq_true j1
    clear j1
    go_enter Try.func45, Try.ntmps45
    go_wp2
    go_ret
    exact ⟨by rw [HZ.out]; rfl, HX.out⟩
  · have d1 : decide (job < 1) = false := decide_eq_false j1
    by_cases j2 : (s.jobs.length : Int) < job
    · have HZ : Hid (E = -1) := Lib.hid (by rw [HE.out]; exact endS_none (.inr j2))
      have d2 : decide ((s.jobs.length : Int) < job) = true := decide_eq_true j2
      clear j1 j2
      go_enter Try.func45, Try.ntmps45
      go_wp2
      go_ret
      exact ⟨by rw [HZ.out]; rfl, HX.out⟩
    · have d2 : decide ((s.jobs.length : Int) < job) = false := decide_eq_false j2
      obtain ⟨i, hi⟩ : ∃ i : Nat, job = (i : Int) + 1 := ⟨(job - 1).toNat, by omega⟩
      have hil : i < s.jobs.length := by omega
      obtain ⟨x, hxi⟩ : ∃ x, s.jobs[i]? = some x := ⟨_, List.getElem?_eq_getElem hil⟩
      obtain ⟨b, o, rfl, hlt, hat⟩ := HC.out i x hxi
      obtain ⟨q0, q1, q2, q3, q4, q5, q6, q7, q8, q9, q10, q11⟩ := hat.ext HX.out hlt
      have wp : wrap64 (job - 1) = (i : Int) := by rw [IntWalk.wrap64_in _ (by omega)]; omega
      have d5 : decide (i < s.jobs.length) = true := decide_eq_true hil
      obtain ⟨b0, b1, b2, b3⟩ := hw i x hxi
      have HEX : Hid (E = endJ x now) := Lib.hid (by rw [HE.out, endS_at hi hxi])
      have HX2 := Lib.hid (fun cs => Ext.trans HX.out ((Below.refl _ (w.alloc (.cells #[vn, .slice (some ⟨b, o, none⟩) s.jobs.length c, .int .i64 s.goal, .int .i64 s.prior, .int .i64 s.mode, .int .i64 s.term] 27))).alloc (Nat.le_refl _) (.cells cs 39)))
      have ww1 : wrap64 (now + x.work) = now + x.work := IntWalk.wrap64_in _ (by omega)
      have ww2 : wrap64 (x.since + x.work) = x.since + x.work := IntWalk.wrap64_in _ (by omega)
      clear hat hlt hxi hi j1 j2 HC HE
      by_cases p1 : x.phase = 1
      · have e1 : (x.phase == 1) = true := by rw [p1]; rfl
        have e2 : (x.phase == 2) = false := by rw [p1]; rfl
        have e3 : (x.phase == 3) = false := by rw [p1]; rfl
        have a2 : ¬ now + x.work < now := by omega
        have f1 : decide (0 ≤ now + x.work) = true := decide_eq_true (by omega)
        have f2 : decide (now + x.work < now) = false := decide_eq_false a2
        have HZ : Hid (E = now + x.work) := Lib.hid (by rw [HEX.out]; unfold endJ; rw [show endE x now = now + x.work by unfold endE; rw [if_pos p1]]; exact if_neg (fun h => a2 h.2))
        go_enter Try.func45, Try.ntmps45
        go_wp2
        go_ret
        exact ⟨by rw [HZ.out]; rfl, HX2.out _⟩
      · have e1 : (x.phase == 1) = false := by simpa using p1
        by_cases p2 : x.phase = 2
        · have e2 : (x.phase == 2) = true := by rw [p2]; rfl
          have e3 : (x.phase == 3) = false := by rw [p2]; rfl
          by_cases a2 : x.since + x.work < now
          · have f1 : decide (0 ≤ x.since + x.work) = true := decide_eq_true (by omega)
            have f2 : decide (x.since + x.work < now) = true := decide_eq_true a2
            have HZ : Hid (E = now) := Lib.hid (by rw [HEX.out]; unfold endJ; rw [show endE x now = x.since + x.work by unfold endE; rw [if_neg p1, if_pos p2]]; exact if_pos ⟨by omega, a2⟩)
            go_enter Try.func45, Try.ntmps45
            go_wp2
            go_ret
            exact ⟨by rw [HZ.out]; rfl, HX2.out _⟩
          · have f1 : decide (0 ≤ x.since + x.work) = true := decide_eq_true (by omega)
            have f2 : decide (x.since + x.work < now) = false := decide_eq_false a2
            have HZ : Hid (E = x.since + x.work) := Lib.hid (by rw [HEX.out]; unfold endJ; rw [show endE x now = x.since + x.work by unfold endE; rw [if_neg p1, if_pos p2]]; exact if_neg (fun h => a2 h.2))
            go_enter Try.func45, Try.ntmps45
            go_wp2
            go_ret
            exact ⟨by rw [HZ.out]; rfl, HX2.out _⟩
        · have e2 : (x.phase == 2) = false := by simpa using p2
          by_cases p3 : x.phase = 3
          · have e3 : (x.phase == 3) = true := by rw [p3]; rfl
            by_cases a1 : x.til < 0
            · have f1 : decide (0 ≤ x.til) = false := decide_eq_false (by omega)
              have HZ : Hid (E = x.til) := Lib.hid (by rw [HEX.out]; unfold endJ; rw [show endE x now = x.til by unfold endE; rw [if_neg p1, if_neg p2, if_pos p3]]; exact if_neg (fun h => absurd h.1 (by omega)))
              go_enter Try.func45, Try.ntmps45
              go_wp2
              go_ret
              exact ⟨by rw [HZ.out]; rfl, HX2.out _⟩
            · by_cases a2 : x.til < now
              · have f1 : decide (0 ≤ x.til) = true := decide_eq_true (by omega)
                have f2 : decide (x.til < now) = true := decide_eq_true a2
                have HZ : Hid (E = now) := Lib.hid (by rw [HEX.out]; unfold endJ; rw [show endE x now = x.til by unfold endE; rw [if_neg p1, if_neg p2, if_pos p3]]; exact if_pos ⟨by omega, a2⟩)
                go_enter Try.func45, Try.ntmps45
                go_wp2
                go_ret
                exact ⟨by rw [HZ.out]; rfl, HX2.out _⟩
              · have f1 : decide (0 ≤ x.til) = true := decide_eq_true (by omega)
                have f2 : decide (x.til < now) = false := decide_eq_false a2
                have HZ : Hid (E = x.til) := Lib.hid (by rw [HEX.out]; unfold endJ; rw [show endE x now = x.til by unfold endE; rw [if_neg p1, if_neg p2, if_pos p3]]; exact if_neg (fun h => a2 h.2))
                go_enter Try.func45, Try.ntmps45
                go_wp2
                go_ret
                exact ⟨by rw [HZ.out]; rfl, HX2.out _⟩
          · have e3 : (x.phase == 3) = false := by simpa using p3
            have HZ : Hid (E = -1) := Lib.hid (by rw [HEX.out]; unfold endJ; rw [show endE x now = -1 by unfold endE; rw [if_neg p1, if_neg p2, if_neg p3]]; exact if_neg (fun h => absurd h.1 (by decide)))
            go_enter Try.func45, Try.ntmps45
            go_wp2
            go_ret
            exact ⟨by rw [HZ.out]; rfl, HX2.out _⟩

set_option maxRecDepth 100000 in
set_option maxHeartbeats 8000000 in
theorem RefAt_any (vn vj : Value) (s : St) (now time : Int) (w : World) (hrn : RdNd w vn s.nodes) (hr : RdJb w vj s.jobs) (hS : OkS s) (hn0 : 0 ≤ now) (hn1 : now ≤ 1000000) :
    Calls Try.prog 46 #[stV vn vj s, .int .i64 now, .int .i64 time] w fun e w' => e = .returned (.int .i64 (atN s now time : Int)) ∧ Ext w w' := by
  have HRJ := Lib.hid hr
  obtain ⟨hx, hb⟩ := boxSt vn vj s w 27
  have HEN : Hid (∀ job W, Ext w W → Calls Try.prog 45 #[stV vn vj s, .int .i64 job, .int .i64 now] W fun e w' => e = .returned (.int .i64 (endS s job now)) ∧ Ext W w') := Lib.hid fun job W hW => RefEnd_any vn vj s job now W (HRJ.out.ext hW) hS.nj hS.jobs hn0 hn1
  unfold stV at HEN
  unfold stV
  unfold stC at hx hb
  have hN := hS.nn
  obtain ⟨A, c, rfl, hnc, hcm, hcell⟩ := has_cells hrn
  have HC := Lib.hid hcell
  have HX := Lib.hid hx
  have HB := Lib.hid hb
  have HF := Lib.hid fun n w' => RefFree_any n w'
  obtain ⟨D, hD⟩ : ∃ D, D = atN s now time := ⟨_, rfl⟩
  rw [← hD]
  unfold atN at hD
  obtain ⟨F, hF⟩ : ∃ F : Nat → Bool, F = nodeIs s.nodes (thenN s now time) := ⟨_, rfl⟩
  rw [← hF] at hD
  have HD := Lib.hid hD
  have HFF : Hid (∀ q n, s.nodes[q]? = some n → F q = (freeN n || (decide (0 ≤ endS s n.job now) && decide (endS s n.job now ≤ time)))) := Lib.hid fun q n hn => by rw [hF, nodeIs_at hn]; rfl
  clear hx hb hr hrn hcell hD hF
  go_enter Try.func46, Try.ntmps46
  go_wp2_with fail
  obtain ⟨W0, hW0⟩ : ∃ W0, W0 = w.alloc (.cells #[.slice A s.nodes.length c, vj, .int .i64 s.goal, .int .i64 s.prior, .int .i64 s.mode, .int .i64 s.term] 27) := ⟨_, rfl⟩
  rw [← hW0] at HX HB ⊢
  clear hW0
  go_loopw [7, 8, 9] (fun o b i wr => ∃ q B : Nat, i = .int .i64 q ∧ o = .int .i64 (bitsF F q : Int) ∧ b = .int .i64 (B : Int) ∧ B = 2 ^ q ∧ q ≤ s.nodes.length ∧ Ext W0 wr) (fun _ _ i _ => s.nodes.length - (intOf i).toNat)
  case atStart => exact ⟨0, 1, rfl, rfl, rfl, rfl, Nat.zero_le _, Ext.refl _⟩
  case round =>
    obtain ⟨q, B, rfl, rfl, rfl, hB, hq, hxr⟩ := hrel
    have HXR := Lib.hid hxr
    have HXW := Lib.hid (HX.out.trans hxr)
    have HBR := Lib.hid (HB.out.ext hxr)
    have g0 := HBR.out.cell 0
    have hset := bitsF_lt F q
    have HST : Hid (bitsF F (q + 1) = bitsF F q + (if F q = true then 2 ^ q else 0)) := Lib.hid rfl
    generalize hP : bitsF F q = P at *
    have HP := Lib.hid hP
    clear hxr hP
    by_cases hlt : q < s.nodes.length
    · have d1 : decide ((q : Int) < (s.nodes.length : Int)) = true := decide_eq_true (by omega)
      have d1' : decide (q < s.nodes.length) = true := decide_eq_true hlt
      obtain ⟨n, hn⟩ : ∃ n, s.nodes[q]? = some n := ⟨_, List.getElem?_eq_getElem hlt⟩
      obtain ⟨b, o, rfl, hlt', hat⟩ := HC.out q n hn
      obtain ⟨c0, c1, c2, c3, c4⟩ := hat.ext HXW.out hlt'
      have hp2 := two_pows (q := q) (by omega)
      have HB2 : Hid (2 ^ (q + 1) = B * 2) := Lib.hid (by rw [hp2.2, ← hB])
      have HLT := Lib.hid hlt
      have wq : wrap64 ((q : Int) + 1) = (q : Int) + 1 := IntWalk.wrap64_in _ (by omega)
      have wb : wrap64 ((B : Int) * 2) = ((B * 2 : Nat) : Int) := IntWalk.wrap64_in _ (by omega)
      have wp : wrap64 ((P : Int) + (B : Int)) = ((P + B : Nat) : Int) := IntWalk.wrap64_in _ (by omega)
      have HFQ := Lib.hid (HFF.out q n hn)
      have HBQ := Lib.hid hB
      have HXN := Lib.hid ((Below.refl _ wr).alloc (Nat.le_refl _) (.cells #[.bool n.up, .bool n.cordon, .bool n.moving, .int .i64 n.version, .int .i64 n.job] 37))
      have HBN := Lib.hid (Blk.new wr 37 #[.bool n.up, .bool n.cordon, .bool n.moving, .int .i64 n.version, .int .i64 n.job])
      clear hat hn hset hp2 hB
      go_upto_region 6 with (fail)
      obtain ⟨wn, hwn⟩ : ∃ wn, wn = wr.alloc (.cells #[.bool n.up, .bool n.cordon, .bool n.moving, .int .i64 n.version, .int .i64 n.job] 37) := ⟨_, rfl⟩
      rw [← hwn] at HXN HBN ⊢
      clear hwn g0 c0 c1 c2 c3 c4
      have HXN : Hid (Ext wr wn) := HXN
      have HB6 := Lib.hid (HBR.out.ext HXN.out)
      have g0 := HB6.out.cell 0
      have g1 := HB6.out.cell 1
      have g2 := HB6.out.cell 2
      have g3 := HB6.out.cell 3
      have g4 := HB6.out.cell 4
      have g5 := HB6.out.cell 5
      have c4 := HBN.out.cell 4
      have HEC := Lib.hid (HEN.out n.job wn (Ext.trans HXW.out HXN.out))
      obtain ⟨E, hE⟩ : ∃ E, E = endS s n.job now := ⟨_, rfl⟩
      rw [← hE] at HFQ HEC
      clear hE
      go_wp2_with fail
      refine HEC.out.mono ?_
      rintro e1 w1 ⟨rfl, hx1⟩
      have HX1 := Lib.hid (Ext.trans HXR.out (Ext.trans HXN.out hx1))
      have HBM := Lib.hid (HBN.out.ext hx1)
      clear g0 g1 g2 g3 g4 g5 c4 hx1 HEC
      have c0 := HBM.out.cell 0
      have c1 := HBM.out.cell 1
      have c2 := HBM.out.cell 2
      have c3 := HBM.out.cell 3
      have c4 := HBM.out.cell 4
      have HFC := Lib.hid (HF.out n w1)
      unfold ndV at HFC
      repeat (first | go_values | go_skip | go_guarded | go_step | go_upon | (simp only []))
      refine HFC.out.mono ?_
      rintro e2 w2 ⟨rfl, hx2⟩
      have HX2 := Lib.hid (Ext.trans HX1.out hx2)
      clear hx2 HFC
      cases hf : freeN n
      · by_cases a1 : 0 ≤ E
        · have f1 : decide (0 ≤ E) = true := decide_eq_true a1
          by_cases a2 : E ≤ time
          · have f2 : decide (E ≤ time) = true := decide_eq_true a2
            have HS : Hid (bitsF F (q + 1) = P + B) := Lib.hid (by rw [HST.out, HFQ.out]; simp [hf, a1, a2]; exact HBQ.out.symm)
            repeat (first | go_values | go_skip | go_guarded | go_step | go_upon | (simp only []))
            go_roundw
            case rel => exact ⟨q + 1, B * 2, by first | rfl | rw [wq]; rfl, by rw [HS.out]; first | rfl | rw [wp], by first | rfl | rw [wb], HB2.out.symm, HLT.out, HX2.out⟩
            case measure => have := HLT.out; simp only [intOf]; first | omega | (rw [wq]; omega)
          · have f2 : decide (E ≤ time) = false := decide_eq_false a2
            have HS : Hid (bitsF F (q + 1) = P) := Lib.hid (by rw [HST.out, HFQ.out]; simp [hf, a1, a2])
            repeat (first | go_values | go_skip | go_guarded | go_step | go_upon | (simp only []))
            go_roundw
            case rel => exact ⟨q + 1, B * 2, by first | rfl | rw [wq]; rfl, by rw [HS.out], by first | rfl | rw [wb], HB2.out.symm, HLT.out, HX2.out⟩
            case measure => have := HLT.out; simp only [intOf]; first | omega | (rw [wq]; omega)
        · have f1 : decide (0 ≤ E) = false := decide_eq_false a1
          have HS : Hid (bitsF F (q + 1) = P) := Lib.hid (by rw [HST.out, HFQ.out]; simp [hf, a1])
          repeat (first | go_values | go_skip | go_guarded | go_step | go_upon | (simp only []))
          go_roundw
          case rel => exact ⟨q + 1, B * 2, by first | rfl | rw [wq]; rfl, by rw [HS.out], by first | rfl | rw [wb], HB2.out.symm, HLT.out, HX2.out⟩
          case measure => have := HLT.out; simp only [intOf]; first | omega | (rw [wq]; omega)
      · have HS : Hid (bitsF F (q + 1) = P + B) := Lib.hid (by rw [HST.out, HFQ.out]; simp [hf]; exact HBQ.out.symm)
        repeat (first | go_values | go_skip | go_guarded | go_step | go_upon | (simp only []))
        go_roundw
        case rel => exact ⟨q + 1, B * 2, by first | rfl | rw [wq]; rfl, by rw [HS.out]; first | rfl | rw [wp], by first | rfl | rw [wb], HB2.out.symm, HLT.out, HX2.out⟩
        case measure => have := HLT.out; simp only [intOf]; first | omega | (rw [wq]; omega)
    · have d1 : decide ((q : Int) < (s.nodes.length : Int)) = false := decide_eq_false (by omega)
      have d1' : decide (q < s.nodes.length) = false := decide_eq_false hlt
      have HE : Hid (D = P) := Lib.hid (by rw [HD.out, ← HP.out, show q = s.nodes.length by omega])
      go_wp2
      go_ret
      exact ⟨by rw [HE.out]; rfl, HXW.out⟩

end Go.Proofs.Ytgjidkhfnnghiaa

/- Package fit: how many nodes a set has; its lowest. -/
namespace Go.Proofs.Ytgjidkhfnnghiaa
open Go.RowKit

set_option maxRecDepth 100000 in
theorem Count_any (m : Nat) (h : m < 64) (w : World) :
    Calls Try.prog 58 #[.int .i64 (m : Int)] w fun e w' => e = .returned (.int .i64 (manyS (m : Int) : Int)) ∧ w = w' := by
  have hall : ∀ m : Nat, m < 64 → ∀ w : World, Calls Try.prog 93 #[.int .u64 (m : Int)] w fun e w' => e = .returned (.int .i64 (manyS (m : Int) : Int)) ∧ w = w' := by
    intro m h w
    go_enter Try.func93, Try.ntmps93
    go_wp2
    go_ret
    refine ⟨?_, rfl⟩
    refine congrArg (fun n => Ending.returned (.int .i64 n)) ?_
    clear w
    revert m
    decide +kernel
  have hall2 : ∀ W, Calls Try.prog 71 #[.int .u64 (m : Int)] W fun e w' => e = .returned (.int .i64 (manyS (m : Int) : Int)) ∧ W = w' := by
    intro W
    have HC := Lib.hid (hall m h W)
    generalize manyS (m : Int) = k at *
    go_enter Try.func71, Try.ntmps71
    go_wp2_with fail
    refine HC.out.mono ?_
    rintro e1 w1 ⟨rfl, rfl⟩
    go_wp2
    go_ret
    exact ⟨rfl, rfl⟩
  have HC := Lib.hid hall2
  have ha := and_all m h
  clear hall hall2
  generalize manyS (m : Int) = k at *
  go_enter Try.func58, Try.ntmps58
  go_wp2_with fail
  refine (HC.out _).mono ?_
  rintro e1 w1 ⟨rfl, rfl⟩
  go_wp2
  go_ret
  exact ⟨rfl, rfl⟩

set_option maxRecDepth 100000 in
set_option maxHeartbeats 2000000 in
theorem lowest_any (r n : Nat) (h : r < 64) (hn : n ≤ 6) (w : World) :
    Calls Try.prog 60 #[.int .i64 (r : Int), .int .i64 (n : Int)] w fun e w' => e = .returned (.int .i64 (bits .andNot .i64 (r : Int) (dropN r n : Int))) ∧ w = w' := by
  have HD : Hid (∀ k, dropN r k < 64 ∧ bits .and .i64 (dropN r k : Int) (wrap64 ((dropN r k : Int) - 1)) = (dropN r (k + 1) : Int)) := Lib.hid fun k => ⟨dropN_lt h, by rw [and_less _ (dropN_lt h)]; rfl⟩
  clear h
  go_enter Try.func60, Try.ntmps60
  go_wp2_with fail
  go_loop [5, 8] (fun x i => ∃ q : Nat, i = .int .i64 (q : Int) ∧ x = .int .i64 (dropN r q : Int) ∧ q ≤ n) (fun _ i => n - (intOf i).toNat)
  case atStart => exact ⟨0, rfl, rfl, Nat.zero_le _⟩
  case round =>
    obtain ⟨q, rfl, rfl, hq⟩ := hrel
    by_cases hlt : q < n
    · have d1 : decide ((q : Int) < (n : Int)) = true := decide_eq_true (by omega)
      have d1' : decide (q < n) = true := decide_eq_true hlt
      have HLT := Lib.hid hlt
      have hb := (HD.out q).2
      have HQ1 : Hid (-9223372036854775808 ≤ (q : Int) + 1 ∧ (q : Int) + 1 ≤ 9223372036854775807) := Lib.hid (by omega)
      have wq : wrap64 ((q : Int) + 1) = (q : Int) + 1 := IntWalk.wrap64_in _ HQ1.out
      obtain ⟨D2, hD2⟩ : ∃ z, z = dropN r (q + 1) := ⟨_, rfl⟩
      obtain ⟨D, hD⟩ : ∃ z, z = dropN r q := ⟨_, rfl⟩
      rw [← hD, ← hD2] at hb
      rw [← hD]
      have HD2 := Lib.hid hD2
      clear hlt hq hn hD hD2
      go_wp2
      go_round
      case rel => exact ⟨q + 1, by first | (rw [wq]; rfl) | rfl, by rw [HD2.out], HLT.out⟩
      case measure => first | (rw [wq]; exact measQ HLT.out) | exact measQ HLT.out
    · have d1 : decide ((q : Int) < (n : Int)) = false := decide_eq_false (by omega)
      have d1' : decide (q < n) = false := decide_eq_false hlt
      obtain rfl : q = n := by omega
      go_wp2
      go_ret
      exact ⟨rfl, rfl⟩

end Go.Proofs.Ytgjidkhfnnghiaa

/- Package fit: the set of the nodes of which something holds; all free nodes. -/
namespace Go.Proofs.Ytgjidkhfnnghiaa
open Go.RowKit

set_option maxRecDepth 100000 in
set_option maxHeartbeats 4000000 in
theorem thoseFree_any (vn vj : Value) (s : St) (w : World) (hr : RdNd w vn s.nodes) (hN : s.nodes.length ≤ 6) :
    Calls Try.prog 52 #[stV vn vj s, .func (.func 53) #[] #[]] w fun e w' => e = .returned (.int .i64 (bitsF (nodeIs s.nodes freeN) s.nodes.length : Int)) ∧ Ext w w' := by
  obtain ⟨hx, hb⟩ := boxSt vn vj s w 27
  unfold stV
  unfold stC at hx hb
  obtain ⟨A, c, rfl, hnc, hcm, hcell⟩ := has_cells hr
  have HC := Lib.hid hcell
  have HX := Lib.hid hx
  have HB := Lib.hid hb
  have HF := Lib.hid fun n w' => Free_any n w'
  obtain ⟨F, hF⟩ : ∃ F : Nat → Bool, F = nodeIs s.nodes freeN := ⟨_, rfl⟩
  rw [← hF]
  have HFF : Hid (∀ q n, s.nodes[q]? = some n → F q = freeN n) := Lib.hid fun q n hn => by rw [hF, nodeIs_at hn]
  clear hx hb hr hcell hF
  go_enter Try.func52, Try.ntmps52
  go_wp2_with fail
  obtain ⟨W0, hW0⟩ : ∃ W0, W0 = w.alloc (.cells #[.slice A s.nodes.length c, vj, .int .i64 s.goal, .int .i64 s.prior, .int .i64 s.mode, .int .i64 s.term] 27) := ⟨_, rfl⟩
  rw [← hW0] at HX HB ⊢
  clear hW0
  go_loopw [5, 11] (fun o i wr => ∃ q : Nat, i = .int .i64 q ∧ o = .int .i64 (bitsF F q : Int) ∧ q ≤ s.nodes.length ∧ Ext W0 wr) (fun _ i _ => s.nodes.length - (intOf i).toNat)
  case atStart => exact ⟨0, rfl, rfl, Nat.zero_le _, Ext.refl _⟩
  case round =>
    obtain ⟨q, rfl, rfl, hq, hxr⟩ := hrel
    have HXR : Hid (Ext W0 wr) := Lib.hid hxr
    have HXW : Hid (Ext w wr) := Lib.hid (Ext.trans HX.out hxr)
    have hset := bitsF_lt F q
    have HST : Hid (bitsF F (q + 1) = bitsF F q + (if F q = true then 2 ^ q else 0)) := Lib.hid rfl
    generalize hP : bitsF F q = P at *
    have HP := Lib.hid hP
    clear hxr hP
    by_cases hlt : q < s.nodes.length
    · have d1 : decide ((q : Int) < (s.nodes.length : Int)) = true := decide_eq_true (by omega)
      have d1' : decide (q < s.nodes.length) = true := decide_eq_true hlt
      obtain ⟨n, hn⟩ : ∃ n, s.nodes[q]? = some n := ⟨_, List.getElem?_eq_getElem hlt⟩
      obtain ⟨b, o, rfl, hlt', hat⟩ := HC.out q n hn
      obtain ⟨c0, c1, c2, c3, c4⟩ := hat.ext HXW.out hlt'
      have hp2 := two_pows (q := q) (by omega)
      have HLT := Lib.hid hlt
      have HOB : Hid (bits .or .i64 (P : Int) (wrap64 (2 ^ min q 64)) = ((P + 2 ^ q : Nat) : Int)) := Lib.hid (by rw [Nat.min_eq_left (by omega)]; exact or_bit q (by omega) P (by omega) hset)
      have wq : wrap64 ((q : Int) + 1) = (q : Int) + 1 := IntWalk.wrap64_in _ (by omega)
      have HFQ := Lib.hid (HFF.out q n hn)
      have HXN : Hid (Ext wr (wr.alloc (.cells #[.bool n.up, .bool n.cordon, .bool n.moving, .int .i64 n.version, .int .i64 n.job] 37))) := Lib.hid ((Below.refl _ wr).alloc (Nat.le_refl _) (.cells #[.bool n.up, .bool n.cordon, .bool n.moving, .int .i64 n.version, .int .i64 n.job] 37))
      have HBN := Lib.hid (Blk.new wr 37 #[.bool n.up, .bool n.cordon, .bool n.moving, .int .i64 n.version, .int .i64 n.job])
      clear hat hn hset hp2
      go_upto_region 5 with (fail)
      obtain ⟨wn, hwn⟩ : ∃ wn, wn = wr.alloc (.cells #[.bool n.up, .bool n.cordon, .bool n.moving, .int .i64 n.version, .int .i64 n.job] 37) := ⟨_, rfl⟩
      rw [← hwn] at HXN HBN ⊢
      clear hwn c0 c1 c2 c3 c4 hlt hq
      have c0 := HBN.out.cell 0
      have c1 := HBN.out.cell 1
      have c2 := HBN.out.cell 2
      have c3 := HBN.out.cell 3
      have c4 := HBN.out.cell 4
      have HFC := Lib.hid (HF.out n wn)
      unfold ndV at HFC
      go_wp2_with fail
      refine HFC.out.mono ?_
      rintro e2 w2 ⟨rfl, hx2⟩
      have HX2 : Hid (Ext W0 w2) := Lib.hid (Ext.trans HXR.out (Ext.trans HXN.out hx2))
      clear hx2 HFC
      have ho := HOB.out
      cases hf : freeN n
      · have HS : Hid (bitsF F (q + 1) = P) := Lib.hid (by rw [HST.out, HFQ.out, hf]; rfl)
        clear hf
        repeat (first | go_values | go_skip | go_guarded | go_step | go_upon | (simp only []))
        go_roundw
        case rel => exact ⟨q + 1, by first | (rw [wq]; rfl) | rfl, by rw [HS.out], HLT.out, HX2.out⟩
        case measure => first | (rw [wq]; exact measQ HLT.out) | exact measQ HLT.out
      · have HS : Hid (bitsF F (q + 1) = P + 2 ^ q) := Lib.hid (by rw [HST.out, HFQ.out, hf]; rfl)
        clear hf
        repeat (first | go_values | go_skip | go_guarded | go_step | go_upon | (simp only []))
        go_roundw
        case rel => exact ⟨q + 1, by first | (rw [wq]; rfl) | rfl, by rw [HS.out]; first | rfl | rw [ho], HLT.out, HX2.out⟩
        case measure => first | (rw [wq]; exact measQ HLT.out) | exact measQ HLT.out
    · have d1 : decide ((q : Int) < (s.nodes.length : Int)) = false := decide_eq_false (by omega)
      have d1' : decide (q < s.nodes.length) = false := decide_eq_false hlt
      have HE : Hid (bitsF F s.nodes.length = P) := Lib.hid (by rw [← HP.out, show q = s.nodes.length by omega])
      go_wp2
      go_ret
      exact ⟨by rw [HE.out]; rfl, HXW.out⟩

set_option maxRecDepth 100000 in
theorem Open_any (vn vj : Value) (s : St) (w : World) (hr : RdNd w vn s.nodes) (hN : s.nodes.length ≤ 6) :
    Calls Try.prog 31 #[stV vn vj s] w fun e w' => e = .returned (.int .i64 (openN s : Int)) ∧ Ext w w' := by
  obtain ⟨hx, hb⟩ := boxSt vn vj s w 27
  have HC : Hid (∀ W, Ext w W → Calls Try.prog 52 #[stV vn vj s, .func (.func 53) #[] #[]] W fun e w' => e = .returned (.int .i64 (openN s : Int)) ∧ Ext W w') := Lib.hid fun W hW => thoseFree_any vn vj s W (hr.ext hW) hN
  unfold stV at HC
  unfold stV
  unfold stC at hx hb
  have HX := Lib.hid hx
  have HB := Lib.hid hb
  clear hx hb
  go_enter Try.func31, Try.ntmps31
  go_upto_region 1 with (fail)
  obtain ⟨W0, hW0⟩ : ∃ W0, W0 = w.alloc (.cells #[vn, vj, .int .i64 s.goal, .int .i64 s.prior, .int .i64 s.mode, .int .i64 s.term] 27) := ⟨_, rfl⟩
  rw [← hW0] at HX HB ⊢
  clear hW0
  obtain ⟨g0, g1, g2, g3, g4, g5⟩ := Blk.six HB.out
  have HCC := Lib.hid (HC.out W0 HX.out)
  go_wp2_with fail
  refine HCC.out.mono ?_
  rintro e1 w1 ⟨rfl, hx1⟩
  have HX1 : Hid (Ext w w1) := Lib.hid (Ext.trans HX.out hx1)
  clear hx1 HCC
  go_wp2
  go_ret
  exact ⟨rfl, HX1.out⟩

end Go.Proofs.Ytgjidkhfnnghiaa

/- Package fit: is there such a job; Now, over Pick. -/
namespace Go.Proofs.Ytgjidkhfnnghiaa
open Go.RowKit

set_option maxRecDepth 100000 in
theorem fitJob_any (vn vj : Value) (s : St) (job : Int) (w : World) (hr : RdJb w vj s.jobs) :
    Calls Try.prog 51 #[stV vn vj s, .int .i64 job] w fun e w' => e = .returned (.bool (decide (1 ≤ job) && decide (job ≤ (s.jobs.length : Int)))) ∧ Ext w w' := by
  obtain ⟨hx, hb⟩ := boxSt vn vj s w 27
  unfold stV
  unfold stC at hx hb
  obtain ⟨A, c, rfl, hnc, hcm, -⟩ := jobs_cells hr
  have h1 := hb.cell 1
  have HX := Lib.hid hx
  clear hx hb hr
  by_cases j1 : 1 ≤ job
  · have d1 : decide (1 ≤ job) = true := decide_eq_true j1
    by_cases j2 : job ≤ (s.jobs.length : Int)
    · have d2 : decide (job ≤ (s.jobs.length : Int)) = true := decide_eq_true j2
      rw [d1, d2]
      clear j1 j2
      go_enter Try.func51, Try.ntmps51
      go_wp2
      go_ret
      exact ⟨rfl, HX.out⟩
    · have d2 : decide (job ≤ (s.jobs.length : Int)) = false := decide_eq_false j2
      rw [d1, d2]
      clear j1 j2
      go_enter Try.func51, Try.ntmps51
      go_wp2
      go_ret
      exact ⟨rfl, HX.out⟩
  · have d1 : decide (1 ≤ job) = false := decide_eq_false j1
    rw [d1, Bool.false_and]
    clear j1
    go_enter Try.func51, Try.ntmps51
    go_wp2
    go_ret
    exact ⟨rfl, HX.out⟩

/-- What a job must be for package fit to pick as the document has it. -/
structure OkP (x : Jb) : Prop where
  pin : 0 ≤ x.pin
  m0 : 0 ≤ x.most
  m6 : x.most ≤ 6
/-- What Now wants of Pick. -/
def PickFit : Prop := ∀ (vn vj : Value) (s : St) (x : Jb) (m : Nat) (w : World), RdNd w vn s.nodes → s.nodes.length ≤ 6 → m < 64 → OkP x →
  Calls Try.prog 35 #[stV vn vj s, jbV x, .int .i64 (m : Int)] w fun e w' => e = .returned (.tuple #[.int .i64 (pickS s x (m : Int)).1, .bool (pickS s x (m : Int)).2]) ∧ Ext w w'

set_option maxRecDepth 100000 in
set_option maxHeartbeats 8000000 in
theorem Now_over (hP : PickFit) (vn vj : Value) (s : St) (job : Int) (w : World) (hrn : RdNd w vn s.nodes) (hr : RdJb w vj s.jobs) (hN : s.nodes.length ≤ 6) (hJ : s.jobs.length ≤ 1000) (hok : ∀ (i : Nat) (x : Jb), s.jobs[i]? = some x → OkP x) :
    Calls Try.prog 30 #[stV vn vj s, .int .i64 job] w fun e w' => e = .returned (.tuple #[.int .i64 (nowS s job).1, .bool (nowS s job).2]) ∧ Ext w w' := by
  have HRN := Lib.hid hrn
  have HRJ := Lib.hid hr
  obtain ⟨hx, hb⟩ := boxSt vn vj s w 27
  have HOP : Hid (∀ W, Ext w W → Calls Try.prog 31 #[stV vn vj s] W fun e w' => e = .returned (.int .i64 (openN s : Int)) ∧ Ext W w') := Lib.hid fun W hW => Open_any vn vj s W (HRN.out.ext hW) hN
  have HIJ : Hid (∀ W, Ext w W → Calls Try.prog 51 #[stV vn vj s, .int .i64 job] W fun e w' => e = .returned (.bool (decide (1 ≤ job) && decide (job ≤ (s.jobs.length : Int)))) ∧ Ext W w') := Lib.hid fun W hW => fitJob_any vn vj s job W (HRJ.out.ext hW)
  have hopen : openN s < 64 := Nat.lt_of_lt_of_le (bitsF_lt _ _) (Nat.pow_le_pow_right (by decide) hN)
  have HPI : Hid (∀ x W, OkP x → Ext w W → Calls Try.prog 35 #[stV vn vj s, jbV x, .int .i64 (openN s : Int)] W fun e w' => e = .returned (.tuple #[.int .i64 (pickS s x (openN s : Int)).1, .bool (pickS s x (openN s : Int)).2]) ∧ Ext W w') := Lib.hid fun x W hx hW => hP vn vj s x (openN s) W (HRN.out.ext hW) hN hopen hx
  unfold stV at HOP HPI HIJ
  unfold jbV at HPI
  unfold stV
  unfold stC at hx hb
  obtain ⟨A, c, rfl, hnc, hcm, hcell⟩ := jobs_cells hr
  have HC := Lib.hid hcell
  obtain ⟨PK, hPK⟩ : ∃ z, z = nowS s job := ⟨_, rfl⟩
  rw [← hPK]
  have HP := Lib.hid hPK
  have HX := Lib.hid hx
  have HB := Lib.hid hb
  clear hx hb hr hcell hPK hrn HRN HRJ hopen hP
  go_enter Try.func30, Try.ntmps30
  go_upto_region 1 with (fail)
  obtain ⟨W0, hW0⟩ : ∃ W0, W0 = w.alloc (.cells #[vn, .slice A s.jobs.length c, .int .i64 s.goal, .int .i64 s.prior, .int .i64 s.mode, .int .i64 s.term] 27) := ⟨_, rfl⟩
  rw [← hW0] at HX HB ⊢
  clear hW0
  obtain ⟨g0, g1, g2, g3, g4, g5⟩ := Blk.six HB.out
  have HIC := Lib.hid (HIJ.out W0 HX.out)
  go_wp2_with fail
  refine HIC.out.mono ?_
  rintro e1 w1 ⟨rfl, hx1⟩
  have HX1 : Hid (Ext W0 w1) := Lib.hid hx1
  have HXW : Hid (Ext w w1) := Lib.hid (Ext.trans HX.out hx1)
  have HB1 := Lib.hid (HB.out.ext hx1)
  clear hx1 HIC g0 g1 g2 g3 g4 g5
  by_cases j1 : 1 ≤ job ∧ job ≤ (s.jobs.length : Int)
  · obtain ⟨i, hi⟩ : ∃ i : Nat, job = (i : Int) + 1 := ⟨(job - 1).toNat, by omega⟩
    have hil : i < s.jobs.length := by omega
    obtain ⟨x, hxi⟩ : ∃ x, s.jobs[i]? = some x := ⟨_, List.getElem?_eq_getElem hil⟩
    obtain ⟨b, o, rfl, hlt, hat⟩ := HC.out i x hxi
    have d6 : (i : Int) < (s.jobs.length : Int) := by omega
    have d7 : (0 : Int) ≤ (i : Int) := by omega
    have HOK := Lib.hid (hok i x hxi)
    have e0 : (decide (1 ≤ job) && decide (job ≤ (s.jobs.length : Int))) = true := by rw [decide_eq_true j1.1, decide_eq_true j1.2]; rfl
    have HAT := Lib.hid hat
    have HLT := Lib.hid hlt
    have HNA := Lib.hid (nowS_at hi hxi)
    have HDL : Hid (decide (i < s.jobs.length) = true) := Lib.hid (decide_eq_true hil)
    have HWP : Hid (wrap64 (job - 1) = (i : Int)) := Lib.hid (by rw [IntWalk.wrap64_in _ (by omega)]; omega)
    have g1 := HB1.out.cell 1
    have q6 := (hat.ext HXW.out hlt).c6
    clear hat hlt hxi hi hil j1 HC
    have wp := HWP.out
    have d5 := HDL.out
    simp only [e0]
    by_cases hph : x.phase = 0
    · have HZ : Hid (PK = pickS s x (openN s : Int)) := Lib.hid (by rw [HP.out, HNA.out, if_pos hph])
      have e6 : (x.phase != 0) = false := by rw [hph]; rfl
      have HPC := Lib.hid (fun W hW => HPI.out x W HOK.out hW)
      clear hph
      go_upto_region 3 with (fail)
      clear wp e6 q6 g1 e0 d5
      have wp2 : IntKind.i64.wrap (job - 1) = (i : Int) := (IntWalk.i64_left _).trans HWP.out
      refine held_begin (by kernel_rfl) ?_
      refine held_more (S' := fun W' : World => Ext w1 W') (fun _ _ => True.intro) ?_
      have hSx : (fun W' : World => Ext w1 W') w1.drew := Below.drewN' (Ext.refl w1) 1
      refine held_take (i := 0) (v := ?_) rfl (by kernel_rfl) (by kernel_rfl) (by kernel_rfl) (by rfl) (by first | assumption | exact True.intro) ?_ ?_
      rotate_left
      · (intro W hSw; obtain ⟨g0, g1, g2, g3, g4, g5⟩ := Blk.six (HB1.out.ext hSw); obtain ⟨q0, q1, q2, q3, q4, q5, q6, q7, q8, q9, q10, q11⟩ := HAT.out.ext (Ext.trans HXW.out hSw) HLT.out; go_simp; (try with_reducible rfl))
      try simp only [Act.put, List.setIfInBounds_toArray, List.set_cons_zero, List.set_cons_succ]
      refine held_take (i := 1) (v := ?_) rfl (by kernel_rfl) (by kernel_rfl) (by kernel_rfl) (by rfl) (by first | assumption | exact True.intro) ?_ ?_
      rotate_left
      · (intro W hSw; obtain ⟨g0, g1, g2, g3, g4, g5⟩ := Blk.six (HB1.out.ext hSw); obtain ⟨q0, q1, q2, q3, q4, q5, q6, q7, q8, q9, q10, q11⟩ := HAT.out.ext (Ext.trans HXW.out hSw) HLT.out; go_simp; (try with_reducible rfl))
      try simp only [Act.put, List.setIfInBounds_toArray, List.set_cons_zero, List.set_cons_succ]
      refine held_take (i := 2) (v := ?_) rfl (by kernel_rfl) (by kernel_rfl) (by kernel_rfl) (by rfl) (by first | assumption | exact True.intro) ?_ ?_
      rotate_left
      · (intro W hSw; obtain ⟨g0, g1, g2, g3, g4, g5⟩ := Blk.six (HB1.out.ext hSw); obtain ⟨q0, q1, q2, q3, q4, q5, q6, q7, q8, q9, q10, q11⟩ := HAT.out.ext (Ext.trans HXW.out hSw) HLT.out; go_simp; (try with_reducible rfl))
      try simp only [Act.put, List.setIfInBounds_toArray, List.set_cons_zero, List.set_cons_succ]
      refine held_take (i := 3) (v := ?_) rfl (by kernel_rfl) (by kernel_rfl) (by kernel_rfl) (by rfl) (by first | assumption | exact True.intro) ?_ ?_
      rotate_left
      · (intro W hSw; obtain ⟨g0, g1, g2, g3, g4, g5⟩ := Blk.six (HB1.out.ext hSw); obtain ⟨q0, q1, q2, q3, q4, q5, q6, q7, q8, q9, q10, q11⟩ := HAT.out.ext (Ext.trans HXW.out hSw) HLT.out; go_simp; (try with_reducible rfl))
      try simp only [Act.put, List.setIfInBounds_toArray, List.set_cons_zero, List.set_cons_succ]
      refine held_take (i := 4) (v := ?_) rfl (by kernel_rfl) (by kernel_rfl) (by kernel_rfl) (by rfl) (by first | assumption | exact True.intro) ?_ ?_
      rotate_left
      · (intro W hSw; obtain ⟨g0, g1, g2, g3, g4, g5⟩ := Blk.six (HB1.out.ext hSw); obtain ⟨q0, q1, q2, q3, q4, q5, q6, q7, q8, q9, q10, q11⟩ := HAT.out.ext (Ext.trans HXW.out hSw) HLT.out; go_simp; (try with_reducible rfl))
      try simp only [Act.put, List.setIfInBounds_toArray, List.set_cons_zero, List.set_cons_succ]
      refine held_take (i := 5) (v := ?_) rfl (by kernel_rfl) (by kernel_rfl) (by kernel_rfl) (by rfl) (by first | assumption | exact True.intro) ?_ ?_
      rotate_left
      · (intro W hSw; obtain ⟨g0, g1, g2, g3, g4, g5⟩ := Blk.six (HB1.out.ext hSw); obtain ⟨q0, q1, q2, q3, q4, q5, q6, q7, q8, q9, q10, q11⟩ := HAT.out.ext (Ext.trans HXW.out hSw) HLT.out; go_simp; (try with_reducible rfl))
      try simp only [Act.put, List.setIfInBounds_toArray, List.set_cons_zero, List.set_cons_succ]
      refine held_take (i := 6) (v := ?_) rfl (by kernel_rfl) (by kernel_rfl) (by kernel_rfl) (by rfl) (by first | assumption | exact True.intro) ?_ ?_
      rotate_left
      · (intro W hSw; obtain ⟨g0, g1, g2, g3, g4, g5⟩ := Blk.six (HB1.out.ext hSw); obtain ⟨q0, q1, q2, q3, q4, q5, q6, q7, q8, q9, q10, q11⟩ := HAT.out.ext (Ext.trans HXW.out hSw) HLT.out; go_simp; (try with_reducible rfl))
      try simp only [Act.put, List.setIfInBounds_toArray, List.set_cons_zero, List.set_cons_succ]
      refine held_take (i := 7) (v := ?_) rfl (by kernel_rfl) (by kernel_rfl) (by kernel_rfl) (by rfl) (by first | assumption | exact True.intro) ?_ ?_
      rotate_left
      · (intro W hSw; obtain ⟨g0, g1, g2, g3, g4, g5⟩ := Blk.six (HB1.out.ext hSw); obtain ⟨q0, q1, q2, q3, q4, q5, q6, q7, q8, q9, q10, q11⟩ := HAT.out.ext (Ext.trans HXW.out hSw) HLT.out; go_simp; (try with_reducible rfl))
      try simp only [Act.put, List.setIfInBounds_toArray, List.set_cons_zero, List.set_cons_succ]
      clear hSx
      refine held_op (i := 8) (by kernel_rfl) rfl (fun K hK => ?_)
      go_simp
      go_at_call 31
      refine (HOP.out _ (Ext.trans HXW.out (Below.drewN' (Ext.refl w1) 1))).mono ?_
      rintro e3 w3 ⟨rfl, hx3⟩
      have HX3 : Hid (Ext w1 w3) := Lib.hid (Ext.trans (Below.drewN' (Ext.refl w1) 1) hx3)
      clear hx3
      refine hK _ _ (HX3.out) (fun hSx => ?_)
      clear hK K
      try simp only [Act.put, List.setIfInBounds_toArray, List.set_cons_zero, List.set_cons_succ]
      clear hSx
      refine held_op (i := 9) (by kernel_rfl) rfl (fun K hK => ?_)
      go_simp
      go_at_call 35
      refine (HPC.out _ (Ext.trans HXW.out HX3.out)).mono ?_
      rintro e4 w4 ⟨rfl, hx4⟩
      have HX4 : Hid (Ext w1 w4) := Lib.hid (Ext.trans HX3.out hx4)
      clear hx4
      refine hK _ _ (HX4.out) (fun hSx => ?_)
      clear hK K
      try simp only [Act.put, List.setIfInBounds_toArray, List.set_cons_zero, List.set_cons_succ]
      refine held_take (i := 10) (v := ?_) rfl (by kernel_rfl) (by kernel_rfl) (by kernel_rfl) (by rfl) (by first | assumption | exact True.intro) ?_ ?_
      rotate_left
      · (intro W hSw; go_simp; (try with_reducible rfl))
      try simp only [Act.put, List.setIfInBounds_toArray, List.set_cons_zero, List.set_cons_succ]
      refine held_take (i := 11) (v := ?_) rfl (by kernel_rfl) (by kernel_rfl) (by kernel_rfl) (by rfl) (by first | assumption | exact True.intro) ?_ ?_
      rotate_left
      · (intro W hSw; go_simp; (try with_reducible rfl))
      try simp only [Act.put, List.setIfInBounds_toArray, List.set_cons_zero, List.set_cons_succ]
      refine held_take (i := 12) (v := ?_) rfl (by kernel_rfl) (by kernel_rfl) (by kernel_rfl) (by rfl) (by first | assumption | exact True.intro) ?_ ?_
      rotate_left
      · (intro W hSw; go_simp; (try with_reducible rfl))
      try simp only [Act.put, List.setIfInBounds_toArray, List.set_cons_zero, List.set_cons_succ]
      refine held_take (i := 13) (v := ?_) rfl (by kernel_rfl) (by kernel_rfl) (by kernel_rfl) (by rfl) (by first | assumption | exact True.intro) ?_ ?_
      rotate_left
      · (intro W hSw; go_simp; (try with_reducible rfl))
      try simp only [Act.put, List.setIfInBounds_toArray, List.set_cons_zero, List.set_cons_succ]
      clear hSx
      refine wpAnyH_done (by kernel_rfl) ?_ _
      refine NoPanic.normal ?_
      go_wp2
      go_ret2
      exact ⟨by rw [HZ.out]; rfl, Ext.trans HXW.out HX4.out⟩
    · have HZ : Hid (PK = (0, false)) := Lib.hid (by rw [HP.out, HNA.out, if_neg hph])
      have e6 : (x.phase != 0) = true := by simp only [bne_iff_ne, ne_eq]; exact hph
      clear hph
      go_wp2
      go_ret2
      exact ⟨by rw [HZ.out]; rfl, HXW.out⟩
  · have HZ : Hid (PK = (0, false)) := Lib.hid (by rw [HP.out]; exact nowS_none (by omega))
    have e0 : (decide (1 ≤ job) && decide (job ≤ (s.jobs.length : Int))) = false := by
      by_cases h : 1 ≤ job
      · rw [decide_eq_false (fun h2 => j1 ⟨h, h2⟩), Bool.and_false]
      · rw [decide_eq_false h, Bool.false_and]
    clear j1
    simp only [e0]
    go_wp2
    go_ret2
    exact ⟨by rw [HZ.out]; rfl, HXW.out⟩

end Go.Proofs.Ytgjidkhfnnghiaa

/- Package ahead: a job's end. -/
namespace Go.Proofs.Ytgjidkhfnnghiaa
open Go.RowKit

/-- What the state must be for package ahead. -/
structure OkA (s : St) : Prop where
  ok : OkS s
  own : OwnS s
  jobs : ∀ (i : Nat) (x : Jb), s.jobs[i]? = some x → OkP x ∧ 1 ≤ x.work ∧ 0 ≤ x.til ∧ x.til ≤ 1000000 ∧ 0 ≤ x.nodes ∧ x.nodes < 64
theorem OkA.of_right {c : Cf} {s : St} (h : RightP c s) : OkA s := by
  have hl := h.len
  have hm := h.may
  have hnn := h.nn
  simp only [mayC, Bool.and_eq_true, inR_iff] at hm
  have hj : ∀ (i : Nat) (x : Jb), s.jobs[i]? = some x → (1 ≤ x.least ∧ x.least ≤ x.most) ∧ x.most ≤ c.nodes ∧ (1 ≤ x.work ∧ x.work ≤ 1000) ∧ (0 ≤ x.pin ∧ x.pin ≤ 9) := fun i x hx => by
    have ha := (h.job i x hx).asked
    simp only [askedJ, Bool.and_eq_true, inR_iff, decide_eq_true_iff] at ha
    omega
  refine ⟨⟨hl.2, h.nj, fun i x hx => ?_⟩, OwnS.of_right h, fun i x hx => ?_⟩
  · have h1 := hj i x hx
    have h2 := h.job i x hx
    exact ⟨by omega, by omega, h2.s0, h2.s9⟩
  · have h1 := hj i x hx
    have h2 := h.job i x hx
    have h3 := h2.lt64 hl.2
    exact ⟨⟨by omega, by omega, by omega⟩, by omega, h2.t0, h2.t9, h3.1, h3.2⟩

set_option maxRecDepth 100000 in
set_option maxHeartbeats 8000000 in
theorem End_any (vn vj : Value) (s : St) (job now : Int) (w : World) (hr : RdJb w vj s.jobs) (hA : OkA s) (hn0 : 0 ≤ now) (hn1 : now ≤ 1000000) :
    Calls Try.prog 12 #[stV vn vj s, .int .i64 job, .int .i64 now] w fun e w' => e = .returned (.int .i64 (endS s job now)) ∧ Ext w w' := by
  have hJ := hA.ok.nj
  obtain ⟨hx, hb⟩ := boxSt vn vj s w 27
  unfold stV
  unfold stC at hx hb
  obtain ⟨A, c, rfl, hnc, hcm, hcell⟩ := jobs_cells hr
  have HC := Lib.hid hcell
  have h1 := hb.cell 1
  obtain ⟨E, hE⟩ : ∃ z, z = endS s job now := ⟨_, rfl⟩
  rw [← hE]
  have HE := Lib.hid hE
  have HX := Lib.hid hx
  clear hx hb hr hcell hE
  by_cases j1 : job < 1
  · have HZ : Hid (E = -1) := Lib.hid (by rw [HE.out]; exact endS_none (.inl j1))
    have d1 : decide (job < 1) = true := decide_eq_true j1
    clear j1
    go_enter Try.func12, Try.ntmps12
    go_wp2
    go_ret
    exact ⟨by rw [HZ.out]; rfl, HX.out⟩
  · have d1 : decide (job < 1) = false := decide_eq_false j1
    by_cases j2 : (s.jobs.length : Int) < job
    · have HZ : Hid (E = -1) := Lib.hid (by rw [HE.out]; exact endS_none (.inr j2))
      have d2 : decide ((s.jobs.length : Int) < job) = true := decide_eq_true j2
      clear j1 j2
      go_enter Try.func12, Try.ntmps12
      go_wp2
      go_ret
      exact ⟨by rw [HZ.out]; rfl, HX.out⟩
    · have d2 : decide ((s.jobs.length : Int) < job) = false := decide_eq_false j2
      obtain ⟨i, hi⟩ : ∃ i : Nat, job = (i : Int) + 1 := ⟨(job - 1).toNat, by omega⟩
      have hil : i < s.jobs.length := by omega
      obtain ⟨x, hxi⟩ : ∃ x, s.jobs[i]? = some x := ⟨_, List.getElem?_eq_getElem hil⟩
      obtain ⟨b, o, rfl, hlt, hat⟩ := HC.out i x hxi
      obtain ⟨q0, q1, q2, q3, q4, q5, q6, q7, q8, q9, q10, q11⟩ := hat.ext HX.out hlt
      have wp : wrap64 (job - 1) = (i : Int) := by rw [IntWalk.wrap64_in _ (by omega)]; omega
      have d5 : decide (i < s.jobs.length) = true := decide_eq_true hil
      obtain ⟨b0, b1, b2, b3⟩ := hA.ok.jobs i x hxi
      obtain ⟨-, b4, b5, b6, -, -⟩ := hA.jobs i x hxi
      have HEX : Hid (E = endJ x now) := Lib.hid (by rw [HE.out, endS_at hi hxi])
      obtain ⟨W0, hW0⟩ : ∃ W, W = w.alloc (.cells #[vn, .slice (some ⟨b, o, none⟩) s.jobs.length c, .int .i64 s.goal, .int .i64 s.prior, .int .i64 s.mode, .int .i64 s.term] 27) := ⟨_, rfl⟩
      have HX2 : Hid (∀ cs, Ext w (W0.alloc (.cells cs 39))) := Lib.hid (fun cs => by rw [hW0]; exact Ext.trans HX.out ((Below.refl _ _).alloc (Nat.le_refl _) _))
      have ww1 : wrap64 (now + x.work) = now + x.work := IntWalk.wrap64_in _ (by omega)
      have ww2 : wrap64 (x.since + x.work) = x.since + x.work := IntWalk.wrap64_in _ (by omega)
      clear hat hlt hxi hi j1 j2 HC HE
      by_cases p1 : x.phase = 1
      · have e1 : (x.phase == 1) = true := by rw [p1]; rfl
        have e2 : (x.phase == 2) = false := by rw [p1]; rfl
        have e3 : (x.phase == 3) = false := by rw [p1]; rfl
        have HZ : Hid (E = now + x.work) := Lib.hid (by rw [HEX.out]; unfold endJ; rw [show endE x now = now + x.work by unfold endE; rw [if_pos p1]]; exact if_neg (fun h => by omega))
        go_enter Try.func12, Try.ntmps12
        go_wp2
        go_ret
        exact ⟨by rw [HZ.out]; rfl, by rw [← hW0]; exact HX2.out _⟩
      · by_cases p2 : x.phase = 2
        · by_cases a2 : x.since + x.work < now
          · have e1 : (x.phase == 1) = false := by rw [p2]; rfl
            have e2 : (x.phase == 2) = true := by rw [p2]; rfl
            have e3 : (x.phase == 3) = false := by rw [p2]; rfl
            have f2 : decide (now < x.since + x.work) = false := decide_eq_false (by omega)
            have HZ : Hid (E = now) := Lib.hid (by rw [HEX.out]; unfold endJ; rw [show endE x now = x.since + x.work by unfold endE; rw [if_neg p1, if_pos p2]]; exact if_pos ⟨by omega, a2⟩)
            go_enter Try.func12, Try.ntmps12
            go_wp2
            go_ret
            exact ⟨by rw [HZ.out]; rfl, by rw [← hW0]; exact HX2.out _⟩
          · by_cases a3 : now < x.since + x.work
            · have e1 : (x.phase == 1) = false := by rw [p2]; rfl
              have e2 : (x.phase == 2) = true := by rw [p2]; rfl
              have e3 : (x.phase == 3) = false := by rw [p2]; rfl
              have f2 : decide (now < x.since + x.work) = true := decide_eq_true a3
              have HZ : Hid (E = x.since + x.work) := Lib.hid (by rw [HEX.out]; unfold endJ; rw [show endE x now = x.since + x.work by unfold endE; rw [if_neg p1, if_pos p2]]; exact if_neg (fun h => a2 h.2))
              go_enter Try.func12, Try.ntmps12
              go_wp2
              go_ret
              exact ⟨by rw [HZ.out]; rfl, by rw [← hW0]; exact HX2.out _⟩
            · have e1 : (x.phase == 1) = false := by rw [p2]; rfl
              have e2 : (x.phase == 2) = true := by rw [p2]; rfl
              have e3 : (x.phase == 3) = false := by rw [p2]; rfl
              have f2 : decide (now < x.since + x.work) = false := decide_eq_false a3
              have HZ : Hid (E = now) := Lib.hid (by rw [HEX.out]; unfold endJ; rw [show endE x now = x.since + x.work by unfold endE; rw [if_neg p1, if_pos p2]]; rw [if_neg (fun h => a2 h.2)]; omega)
              go_enter Try.func12, Try.ntmps12
              go_wp2
              go_ret
              exact ⟨by rw [HZ.out]; rfl, by rw [← hW0]; exact HX2.out _⟩
        · by_cases p3 : x.phase = 3
          · by_cases a2 : x.til < now
            · have e1 : (x.phase == 1) = false := by rw [p3]; rfl
              have e2 : (x.phase == 2) = false := by rw [p3]; rfl
              have e3 : (x.phase == 3) = true := by rw [p3]; rfl
              have f2 : decide (now < x.til) = false := decide_eq_false (by omega)
              have HZ : Hid (E = now) := Lib.hid (by rw [HEX.out]; unfold endJ; rw [show endE x now = x.til by unfold endE; rw [if_neg p1, if_neg p2, if_pos p3]]; exact if_pos ⟨by omega, a2⟩)
              go_enter Try.func12, Try.ntmps12
              go_wp2
              go_ret
              exact ⟨by rw [HZ.out]; rfl, by rw [← hW0]; exact HX2.out _⟩
            · by_cases a3 : now < x.til
              · have e1 : (x.phase == 1) = false := by rw [p3]; rfl
                have e2 : (x.phase == 2) = false := by rw [p3]; rfl
                have e3 : (x.phase == 3) = true := by rw [p3]; rfl
                have f2 : decide (now < x.til) = true := decide_eq_true a3
                have HZ : Hid (E = x.til) := Lib.hid (by rw [HEX.out]; unfold endJ; rw [show endE x now = x.til by unfold endE; rw [if_neg p1, if_neg p2, if_pos p3]]; exact if_neg (fun h => a2 h.2))
                go_enter Try.func12, Try.ntmps12
                go_wp2
                go_ret
                exact ⟨by rw [HZ.out]; rfl, by rw [← hW0]; exact HX2.out _⟩
              · have e1 : (x.phase == 1) = false := by rw [p3]; rfl
                have e2 : (x.phase == 2) = false := by rw [p3]; rfl
                have e3 : (x.phase == 3) = true := by rw [p3]; rfl
                have f2 : decide (now < x.til) = false := decide_eq_false a3
                have HZ : Hid (E = now) := Lib.hid (by rw [HEX.out]; unfold endJ; rw [show endE x now = x.til by unfold endE; rw [if_neg p1, if_neg p2, if_pos p3]]; rw [if_neg (fun h => a2 h.2)]; omega)
                go_enter Try.func12, Try.ntmps12
                go_wp2
                go_ret
                exact ⟨by rw [HZ.out]; rfl, by rw [← hW0]; exact HX2.out _⟩
          · have e1 : (x.phase == 1) = false := by simpa using p1
            have e2 : (x.phase == 2) = false := by simpa using p2
            have e3 : (x.phase == 3) = false := by simpa using p3
            have HZ : Hid (E = -1) := Lib.hid (by rw [HEX.out]; unfold endJ; rw [show endE x now = -1 by unfold endE; rw [if_neg p1, if_neg p2, if_neg p3]]; exact if_neg (fun h => absurd h.1 (by decide)))
            go_enter Try.func12, Try.ntmps12
            go_wp2
            go_ret
            exact ⟨by rw [HZ.out]; rfl, by rw [← hW0]; exact HX2.out _⟩

end Go.Proofs.Ytgjidkhfnnghiaa
