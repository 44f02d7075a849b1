/- Texts that the proof of T rests on, one behind the other. -/
import Derived.Test.YtddhbokknbmdfabTQ9

/- Layer 13's statement AgentLease, walked. -/
namespace Go.Proofs.Ytddhbokknbmdfab
open Go.RowKit

theorem rightM_kind' {m : Ms} (h : rightM m = true) : 1 ≤ m.kind ∧ m.kind ≤ 6 := by
  unfold rightM at h
  simp only [Bool.and_eq_true, decide_eq_true_eq] at h
  exact h.1.2
theorem act_fenced (a : Ag) (now : Int) : fencedA (actA a now) now = false := by
  unfold actA
  split
  · rename_i h; unfold fencedA; rw [h]; rfl
  · split
    · unfold fencedA looseA; simp
    · split
      · unfold fencedA looseA; simp
      · rename_i h1
        split
        · rename_i h2
          unfold fencedA
          have : ¬ a.lease ≤ now := fun h => h1 ⟨.inr (.inl h2), h⟩
          simp [this]
        · rename_i h2
          unfold fencedA
          simp [h2]
theorem isA_mode {a : Ag} {m : Ms} {k : Int} (h : isA a m k = true) : a.mode = k ∧ a.job = m.job ∧ a.inc = m.inc := by
  unfold isA at h
  simp only [Bool.and_eq_true, decide_eq_true_eq] at h
  exact ⟨h.1.1, h.1.2, h.2⟩
theorem take_lease (a : Ag) (m : Ms) (now : Int) (sv : Bool) (hg : goesA a m = true) (h1 : m.kind ≠ 1) (h0 : a.mode ≠ 0) (h3 : ¬ (m.kind = 3 ∧ a.mode = 1)) :
    a.lease ≤ (takeA a m now sv).lease ∧ (takeA a m now sv).job = a.job ∧ (takeA a m now sv).inc = a.inc := by
  unfold takeA
  rw [if_pos hg]
  unfold doA
  rw [if_neg h1]
  split
  · rw [if_neg (fun h => h0 h.1)]
    split
    · exact ⟨Int.le_max_left _ _, rfl, rfl⟩
    · exact ⟨Int.le_refl _, rfl, rfl⟩
  · split
    · rename_i hk
      rw [if_neg (fun h : isA (toldA a m) m 1 = true => h3 ⟨hk, (isA_mode h).1⟩)]
      split
      · exact ⟨Int.le_max_left _ _, rfl, rfl⟩
      · exact ⟨Int.le_refl _, rfl, rfl⟩
    · split
      · split <;> exact ⟨Int.le_refl _, rfl, rfl⟩
      · rw [if_neg (fun h => h0 h.1)]
        exact ⟨Int.le_refl _, rfl, rfl⟩

set_option maxRecDepth 100000 in
set_option maxHeartbeats 1000000 in
theorem AgentLease_calls (a : Ag) (m : Ms) (now : Int) (w : World) : Calls Try.prog 3 #[agV a, msV m, .int .i64 now] w fun e w' => e = .returned (.bool true) ∧ Ext w w' := by
  obtain ⟨h1, h2, hx⟩ := two_new w #[.bool a.up, .int .i64 a.term, .int .i64 a.gen, .int .i64 a.mode, .int .i64 a.job, .int .i64 a.inc, .int .i64 a.ver, .int .i64 a.lease, .int .i64 a.worked, .int .i64 a.aim] #[.int .i64 m.node, .int .i64 m.kind, .int .i64 m.term, .int .i64 m.gen, .int .i64 m.job, .int .i64 m.inc, .int .i64 m.ver, .int .i64 m.epoch, .int .i64 m.til, .int .i64 m.mode, .int .i64 m.work] 23 25
  obtain ⟨W, hW⟩ : ∃ W, W = (w.alloc (.cells #[.bool a.up, .int .i64 a.term, .int .i64 a.gen, .int .i64 a.mode, .int .i64 a.job, .int .i64 a.inc, .int .i64 a.ver, .int .i64 a.lease, .int .i64 a.worked, .int .i64 a.aim] 23)).alloc (.cells #[.int .i64 m.node, .int .i64 m.kind, .int .i64 m.term, .int .i64 m.gen, .int .i64 m.job, .int .i64 m.inc, .int .i64 m.ver, .int .i64 m.epoch, .int .i64 m.til, .int .i64 m.mode, .int .i64 m.work] 25) := ⟨_, rfl⟩
  rw [← hW] at h1 h2 hx
  have HA : Hid (AgAt W w.heap.size a) := Lib.hid ⟨h1⟩
  have HM : Hid (MsAt W (w.heap.size + 1) m) := Lib.hid ⟨h2⟩
  have HX := Lib.hid hx
  clear h1 h2 hx
  unfold agV msV
  go_enter Try.func3, Try.ntmps3
  go_wp2_with fail
  rw [← hW]
  clear hW
  refine (alive13_any W).mono ?_
  rintro e0 w0 ⟨rfl, hx⟩
  replace HA := Lib.hid (HA.out.ext hx)
  replace HM := Lib.hid (HM.out.ext hx)
  replace HX := Lib.hid (HX.out.trans hx)
  clear hx
  have HR := Lib.hid (RefRight13_any a w0)
  unfold agV at HR
  obtain ⟨c0, c1, c2, c3, c4, c5, c6, c7, c8, c9⟩ := HA.out.cells
  cases hra : rightA a with
  | false =>
    rw [hra] at HR
    clear hra
    go_wp2_with fail
    refine HR.out.mono ?_
    rintro e1 w1 ⟨rfl, hx⟩
    have HX1 := Lib.hid (HX.out.trans hx)
    clear hx
    go_wp2
    go_ret
    exact ⟨rfl, HX1.out⟩
  | true =>
  have HRA := Lib.hid hra
  rw [hra] at HR
  clear hra
  go_wp2_with fail
  refine HR.out.mono ?_
  rintro e1 w1 ⟨rfl, hx⟩
  replace HA := Lib.hid (HA.out.ext hx)
  replace HM := Lib.hid (HM.out.ext hx)
  replace HX := Lib.hid (HX.out.trans hx)
  clear hx HR c0 c1 c2 c3 c4 c5 c6 c7 c8 c9
  have HR := Lib.hid (RefRight12_any m w1)
  unfold msV at HR
  obtain ⟨m0, m1, m2, m3, m4, m5, m6, m7, m8, m9, m10⟩ := HM.out.cells
  cases hrm : rightM m with
  | false =>
    rw [hrm] at HR
    clear hrm
    go_wp2_with fail
    refine HR.out.mono ?_
    rintro e2 w2 ⟨rfl, hx⟩
    have HX1 := Lib.hid (HX.out.trans hx)
    clear hx
    go_wp2
    go_ret
    exact ⟨rfl, HX1.out⟩
  | true =>
  have HRM := Lib.hid hrm
  rw [hrm] at HR
  clear hrm
  go_wp2_with fail
  refine HR.out.mono ?_
  rintro e2 w2 ⟨rfl, hx⟩
  replace HA := Lib.hid (HA.out.ext hx)
  replace HM := Lib.hid (HM.out.ext hx)
  replace HX := Lib.hid (HX.out.trans hx)
  clear hx HR m0 m1 m2 m3 m4 m5 m6 m7 m8 m9 m10
  obtain ⟨HWK⟩ : Nonempty (Hid (0 ≤ a.worked ∧ a.worked ≤ 1000000000)) := ⟨Lib.hid (by have h := HRA.out; unfold rightA at h; have h := of_decide_eq_true h; omega)⟩
  have HAC := Lib.hid (Act_any a now w2 (by have := HWK.out.1; omega))
  obtain ⟨c, hc⟩ : ∃ x, x = actA a now := ⟨_, rfl⟩
  have HFN := Lib.hid (act_fenced a now)
  rw [← hc] at HAC HFN
  unfold agV at HAC
  clear hc
  obtain ⟨c0, c1, c2, c3, c4, c5, c6, c7, c8, c9⟩ := HA.out.cells
  go_wp2_with fail
  refine HAC.out.mono ?_
  rintro e3 w3 ⟨rfl, hx⟩
  have HFC := Lib.hid (Fenced_any c now w3)
  rw [HFN.out] at HFC
  unfold agV at HFC
  replace HA := Lib.hid (HA.out.ext hx)
  replace HM := Lib.hid (HM.out.ext hx)
  replace HX := Lib.hid (HX.out.trans hx)
  clear hx c0 c1 c2 c3 c4 c5 c6 c7 c8 c9 HAC HFN
  go_wp2_with fail
  refine HFC.out.mono ?_
  rintro e4 w4 ⟨rfl, hx⟩
  replace HA := Lib.hid (HA.out.ext hx)
  replace HM := Lib.hid (HM.out.ext hx)
  replace HX := Lib.hid (HX.out.trans hx)
  clear hx HFC
  have HTK := Lib.hid (Take_nil a m 0 now w4 (by have := rightM_kind' HRM.out; omega) HWK.out.1 (by have := HWK.out.2; omega))
  obtain ⟨b, hb⟩ : ∃ x, x = takeA a m now (nilS a m now) := ⟨_, rfl⟩
  obtain ⟨t, ht⟩ : ∃ x, x = (if goesA a m = true then tellA (takeA a m now (nilS a m now)) 0 else zMs) := ⟨_, rfl⟩
  obtain ⟨g, hg⟩ : ∃ x, x = goesA a m := ⟨_, rfl⟩
  have HL : Hid (g = true → m.kind ≠ 1 → a.mode ≠ 0 → ¬ (m.kind = 3 ∧ a.mode = 1) → a.lease ≤ b.lease ∧ b.job = a.job ∧ b.inc = a.inc) := Lib.hid (by rw [hg, hb]; exact take_lease a m now _)
  rw [← ht, ← hb, ← hg] at HTK
  unfold agV msV at HTK
  clear ht hb hg
  obtain ⟨c0, c1, c2, c3, c4, c5, c6, c7, c8, c9⟩ := HA.out.cells
  obtain ⟨m0, m1, m2, m3, m4, m5, m6, m7, m8, m9, m10⟩ := HM.out.cells
  go_wp2_with fail
  refine HTK.out.mono ?_
  rintro e5 w5 ⟨rfl, hx⟩
  replace HA := Lib.hid (HA.out.ext hx)
  replace HM := Lib.hid (HM.out.ext hx)
  replace HX := Lib.hid (HX.out.trans hx)
  clear hx HTK c0 c1 c2 c3 c4 c5 c6 c7 c8 c9 m0 m1 m2 m3 m4 m5 m6 m7 m8 m9 m10
  obtain ⟨b7, b8, hx⟩ := two_new w5 #[.bool b.up, .int .i64 b.term, .int .i64 b.gen, .int .i64 b.mode, .int .i64 b.job, .int .i64 b.inc, .int .i64 b.ver, .int .i64 b.lease, .int .i64 b.worked, .int .i64 b.aim] #[.int .i64 t.node, .int .i64 t.kind, .int .i64 t.term, .int .i64 t.gen, .int .i64 t.job, .int .i64 t.inc, .int .i64 t.ver, .int .i64 t.epoch, .int .i64 t.til, .int .i64 t.mode, .int .i64 t.work] 23 25
  obtain ⟨w6, hw6⟩ : ∃ W, W = (w5.alloc (.cells #[.bool b.up, .int .i64 b.term, .int .i64 b.gen, .int .i64 b.mode, .int .i64 b.job, .int .i64 b.inc, .int .i64 b.ver, .int .i64 b.lease, .int .i64 b.worked, .int .i64 b.aim] 23)).alloc (.cells #[.int .i64 t.node, .int .i64 t.kind, .int .i64 t.term, .int .i64 t.gen, .int .i64 t.job, .int .i64 t.inc, .int .i64 t.ver, .int .i64 t.epoch, .int .i64 t.til, .int .i64 t.mode, .int .i64 t.work] 25) := ⟨_, rfl⟩
  rw [← hw6] at b7 b8 hx
  have HB := Lib.hid b7
  replace HA := Lib.hid (HA.out.ext hx)
  replace HM := Lib.hid (HM.out.ext hx)
  replace HX := Lib.hid (HX.out.trans hx)
  clear b7 b8 hx
  go_upto_region 8 with (fail)
  rw [← hw6]
  clear hw6
  obtain ⟨c0, c1, c2, c3, c4, c5, c6, c7, c8, c9⟩ := HA.out.cells
  obtain ⟨-, k1, -, -, -, -, -, -, -, -, -⟩ := HM.out.cells
  have kb4 : w6.cell? ⟨w5.heap.size, 4, none⟩ = some (.int .i64 b.job) := HB.out.cell 4
  have kb5 : w6.cell? ⟨w5.heap.size, 5, none⟩ = some (.int .i64 b.inc) := HB.out.cell 5
  have kb7 : w6.cell? ⟨w5.heap.size, 7, none⟩ = some (.int .i64 b.lease) := HB.out.cell 7
  cases g with
  | false =>
    go_wp2
    go_ret
    exact ⟨rfl, HX.out⟩
  | true =>
    by_cases h1 : m.kind = 1
    · have d1 : (m.kind == 1) = true := by rw [h1]; rfl
      clear h1
      go_wp2
      go_ret
      exact ⟨rfl, HX.out⟩
    · have d1 : (m.kind == 1) = false := by simpa using h1
      by_cases h2 : a.mode = 0
      · have d2 : (a.mode == 0) = true := by rw [h2]; rfl
        clear h1 h2
        go_wp2
        go_ret
        exact ⟨rfl, HX.out⟩
      · have d2 : (a.mode == 0) = false := by simpa using h2
        by_cases h3 : m.kind = 3
        · have d3 : (m.kind == 3) = true := by rw [h3]; rfl
          by_cases h4 : a.mode = 1
          · have d4 : (a.mode == 1) = true := by rw [h4]; rfl
            clear h1 h2 h3 h4
            go_wp2
            go_ret
            exact ⟨rfl, HX.out⟩
          · have d4 : (a.mode == 1) = false := by simpa using h4
            obtain ⟨l1, l2, l3⟩ := HL.out rfl h1 h2 (by omega)
            have e1 : decide (a.lease ≤ b.lease) = true := decide_eq_true l1
            have e2 : (b.job == a.job) = true := by rw [l2]; simp
            have e3 : (b.inc == a.inc) = true := by rw [l3]; simp
            have e3' : (b.inc == a.inc) = true := e3
            clear h1 h2 h3 h4 l1 l2 l3
            go_wp2
            go_ret
            exact ⟨rfl, HX.out⟩
        · have d3 : (m.kind == 3) = false := by simpa using h3
          obtain ⟨l1, l2, l3⟩ := HL.out rfl h1 h2 (by omega)
          have e1 : decide (a.lease ≤ b.lease) = true := decide_eq_true l1
          have e2 : (b.job == a.job) = true := by rw [l2]; simp
          have e3 : (b.inc == a.inc) = true := by rw [l3]; simp
          have e3' : (b.inc == a.inc) = true := e3
          clear h1 h2 h3 l1 l2 l3
          go_wp2
          go_ret
          exact ⟨rfl, HX.out⟩

end Go.Proofs.Ytddhbokknbmdfab
