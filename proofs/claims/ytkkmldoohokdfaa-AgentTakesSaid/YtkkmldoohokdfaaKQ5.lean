/- Texts that the proof of K rests on, one behind the other. -/
import Derived.Test.YtkkmldoohokdfaaKQ4
import Derived.Test.YtkkmldoohokdfaaRows
import Derived.Lib.MinMax
import Derived.Deep.DeepCutAuto
import Derived.Deep.QuietTactic
import Derived.BigQuiet
import Derived.Deep.LoopGhost
import Derived.Deep.RegionWith
import Derived.Outline

/- Package agent: the calls that take no order. -/
namespace Go.Proofs.Ytkkmldoohokdfaa
open Go.RowKit

def agA (a : Ag) : Array Value := #[.bool a.up, .int .i64 a.term, .int .i64 a.gen, .int .i64 a.mode, .int .i64 a.job, .int .i64 a.inc, .int .i64 a.ver, .int .i64 a.lease, .int .i64 a.worked, .int .i64 a.aim]
def msA (m : Ms) : Array Value := #[.int .i64 m.node, .int .i64 m.kind, .int .i64 m.term, .int .i64 m.gen, .int .i64 m.job, .int .i64 m.inc, .int .i64 m.ver, .int .i64 m.epoch, .int .i64 m.til, .int .i64 m.mode, .int .i64 m.work]
def zA : Array Value := #[.bool false, .int .i64 0, .int .i64 0, .int .i64 0, .int .i64 0, .int .i64 0, .int .i64 0, .int .i64 0, .int .i64 0, .int .i64 0]
def zM : Array Value := #[.int .i64 0, .int .i64 0, .int .i64 0, .int .i64 0, .int .i64 0, .int .i64 0, .int .i64 0, .int .i64 0, .int .i64 0, .int .i64 0, .int .i64 0]
theorem agA_size (a : Ag) : (agA a).size = 10 := rfl
theorem agA_one (a : Ag) : (agA a).all (·.oneCell') = true := by simp [agA, Value.oneCell']
theorem msA_one (m : Ms) : (msA m).all (·.oneCell') = true := by simp [msA, Value.oneCell']
theorem infoA (a : Ag) : (Try.prog.info? 56).map (·.size) = some (agA a).size := by kernel_rfl
theorem infoM (m : Ms) : (Try.prog.info? 49).map (·.size) = some (msA m).size := by kernel_rfl
abbrev TA : TypeId := 56
abbrev TM : TypeId := 49

/-- An agent's block, in whatever cells it is written out. -/
structure AgAt (w : World) (g : Nat) (a : Ag) : Prop where
  blk : Blk w g 56 #[.bool a.up, .int .i64 a.term, .int .i64 a.gen, .int .i64 a.mode, .int .i64 a.job, .int .i64 a.inc, .int .i64 a.ver, .int .i64 a.lease, .int .i64 a.worked, .int .i64 a.aim]
structure MsAt (w : World) (g : Nat) (m : Ms) : Prop where
  blk : Blk w g 49 #[.int .i64 m.node, .int .i64 m.kind, .int .i64 m.term, .int .i64 m.gen, .int .i64 m.job, .int .i64 m.inc, .int .i64 m.ver, .int .i64 m.epoch, .int .i64 m.til, .int .i64 m.mode, .int .i64 m.work]
theorem AgAt.ext {w w' : World} {g : Nat} {a : Ag} (h : AgAt w g a) (hx : Ext w w') : AgAt w' g a := ⟨h.blk.ext hx⟩
theorem MsAt.ext {w w' : World} {g : Nat} {a : Ms} (h : MsAt w g a) (hx : Ext w w') : MsAt w' g a := ⟨h.blk.ext hx⟩
theorem AgAt.chg {w w' : World} {F : Fp} {g : Nat} {a : Ag} (h : AgAt w g a) (hc : Chg F w w') (hg : ¬ F g) : AgAt w' g a := ⟨(hc.block g h.blk.lt hg).trans h.blk⟩
theorem MsAt.chg {w w' : World} {F : Fp} {g : Nat} {a : Ms} (h : MsAt w g a) (hc : Chg F w w') (hg : ¬ F g) : MsAt w' g a := ⟨(hc.block g h.blk.lt hg).trans h.blk⟩

/-- It lets its job go. -/
theorem letGo_any (g : Nat) (a : Ag) (w : World) (h : AgAt w g a) :
    Calls Try.prog 80 #[.pointer (some ⟨g, 0, none⟩)] w fun e w' => e = .returned (.tuple #[]) ∧ AgAt w' g (looseA a) ∧ Chg (fun k => k = g) w w' := by
  have c3 : w.cell? ⟨g, 3, none⟩ = some (.int .i64 a.mode) := h.blk.cell 3
  have c4 : w.cell? ⟨g, 4, none⟩ = some (.int .i64 a.job) := h.blk.cell 4
  have c5 : w.cell? ⟨g, 5, none⟩ = some (.int .i64 a.inc) := h.blk.cell 5
  have c7 : w.cell? ⟨g, 7, none⟩ = some (.int .i64 a.lease) := h.blk.cell 7
  have c8 : w.cell? ⟨g, 8, none⟩ = some (.int .i64 a.worked) := h.blk.cell 8
  have f3 := h.blk.frozen 3
  have f4 := h.blk.frozen 4
  have f5 := h.blk.frozen 5
  have f7 := h.blk.frozen 7
  have f8 := h.blk.frozen 8
  have hq := (((((WB.start h.blk).set 3 (.int .i64 0)).set 4 (.int .i64 0)).set 5 (.int .i64 0)).set 7 (.int .i64 0)).set 8 (.int .i64 0)
  simp only [List.setIfInBounds_toArray, List.set_cons_zero, List.set_cons_succ] at hq
  have HQ := Lib.hid hq
  clear hq h
  go_enter Try.func80, Try.ntmps80
  go_wp2
  go_end0
  exact ⟨rfl, ⟨HQ.out.blk⟩, HQ.out.chg⟩

theorem hasJob_any (a : Ag) (w : World) :
    Calls Try.prog 81 #[agV a] w fun e w' => e = .returned (.bool (decide (a.mode = 1 ∨ a.mode = 2 ∨ a.mode = 3))) ∧ Ext w w' := by
  have HX := Lib.hid (Ext.alloc_ w (.cells #[.bool a.up, .int .i64 a.term, .int .i64 a.gen, .int .i64 a.mode, .int .i64 a.job, .int .i64 a.inc, .int .i64 a.ver, .int .i64 a.lease, .int .i64 a.worked, .int .i64 a.aim] 56))
  unfold agV
  by_cases h1 : a.mode = 1
  · have d1 : (a.mode == 1) = true := by rw [h1]; rfl
    have HE : Hid (decide (a.mode = 1 ∨ a.mode = 2 ∨ a.mode = 3) = true) := Lib.hid (decide_eq_true (.inl h1))
    clear h1
    go_enter Try.func81, Try.ntmps81
    go_wp2
    go_ret
    exact ⟨by rw [HE.out]; rfl, HX.out⟩
  have d1 : (a.mode == 1) = false := by simpa using h1
  by_cases h2 : a.mode = 2
  · have d2 : (a.mode == 2) = true := by rw [h2]; rfl
    have HE : Hid (decide (a.mode = 1 ∨ a.mode = 2 ∨ a.mode = 3) = true) := Lib.hid (decide_eq_true (.inr (.inl h2)))
    clear h1 h2
    go_enter Try.func81, Try.ntmps81
    go_wp2
    go_ret
    exact ⟨by rw [HE.out]; rfl, HX.out⟩
  have d2 : (a.mode == 2) = false := by simpa using h2
  by_cases h3 : a.mode = 3
  · have d3 : (a.mode == 3) = true := by rw [h3]; rfl
    have HE : Hid (decide (a.mode = 1 ∨ a.mode = 2 ∨ a.mode = 3) = true) := Lib.hid (decide_eq_true (.inr (.inr h3)))
    clear h1 h2 h3
    go_enter Try.func81, Try.ntmps81
    go_wp2
    go_ret
    exact ⟨by rw [HE.out]; rfl, HX.out⟩
  have d3 : (a.mode == 3) = false := by simpa using h3
  have HE : Hid (decide (a.mode = 1 ∨ a.mode = 2 ∨ a.mode = 3) = false) := Lib.hid (decide_eq_false (by omega))
  clear h1 h2 h3
  go_enter Try.func81, Try.ntmps81
  go_wp2
  go_ret
  exact ⟨by rw [HE.out]; rfl, HX.out⟩

theorem isVersion_any (n : Int) (w : World) :
    Calls Try.prog 108 #[.int .i64 n] w fun e w' => e = .returned (.bool (decide (1 ≤ n ∧ n ≤ 9))) ∧ w = w' := by
  obtain ⟨z, hz⟩ : ∃ z, z = decide (1 ≤ n ∧ n ≤ 9) := ⟨_, rfl⟩
  rw [← hz]
  by_cases h1 : 1 ≤ n
  · have d1 : decide ((1 : Int) ≤ n) = true := decide_eq_true h1
    have HE : Hid (z = decide (n ≤ 9)) := Lib.hid (by rw [hz]; simp [h1])
    clear h1 hz
    go_enter Try.func108, Try.ntmps108
    go_wp2
    go_ret
    exact ⟨by rw [HE.out]; rfl, rfl⟩
  · have d1 : decide ((1 : Int) ≤ n) = false := decide_eq_false h1
    have HE : Hid (z = false) := Lib.hid (by rw [hz]; simp [h1])
    clear h1 hz
    go_enter Try.func108, Try.ntmps108
    go_wp2
    go_ret
    exact ⟨by rw [HE.out]; rfl, rfl⟩

theorem isElder_any (a : Ag) (m : Ms) (w : World) :
    Calls Try.prog 76 #[msV m, agV a] w fun e w' => e = .returned (.bool (elderA a m)) ∧ Ext w w' := by
  have HX := Lib.hid ((Ext.alloc_ w (.cells #[.int .i64 m.node, .int .i64 m.kind, .int .i64 m.term, .int .i64 m.gen, .int .i64 m.job, .int .i64 m.inc, .int .i64 m.ver, .int .i64 m.epoch, .int .i64 m.til, .int .i64 m.mode, .int .i64 m.work] 49)).trans (Ext.alloc_ _ (.cells #[.bool a.up, .int .i64 a.term, .int .i64 a.gen, .int .i64 a.mode, .int .i64 a.job, .int .i64 a.inc, .int .i64 a.ver, .int .i64 a.lease, .int .i64 a.worked, .int .i64 a.aim] 56)))
  unfold agV msV
  by_cases h1 : m.term < a.term
  · have d1 : decide (m.term < a.term) = true := decide_eq_true h1
    have HE : Hid (elderA a m = true) := Lib.hid (by unfold elderA; rw [d1]; rfl)
    clear h1
    go_enter Try.func76, Try.ntmps76
    go_wp2
    go_ret
    exact ⟨by rw [HE.out]; rfl, HX.out⟩
  have d1 : decide (m.term < a.term) = false := decide_eq_false h1
  by_cases h2 : m.term = a.term
  · have d2 : (m.term == a.term) = true := by rw [h2]; simp
    have HE : Hid (elderA a m = decide (m.gen < a.gen)) := Lib.hid (by unfold elderA; rw [d1, decide_eq_true h2]; rfl)
    clear h1 h2
    go_enter Try.func76, Try.ntmps76
    go_wp2
    go_ret
    exact ⟨by rw [HE.out]; rfl, HX.out⟩
  have d2 : (m.term == a.term) = false := by simpa using h2
  have HE : Hid (elderA a m = false) := Lib.hid (by unfold elderA; rw [d1, decide_eq_false h2]; rfl)
  clear h1 h2
  go_enter Try.func76, Try.ntmps76
  go_wp2
  go_ret
  exact ⟨by rw [HE.out]; rfl, HX.out⟩

theorem Fenced_any (a : Ag) (now : Int) (w : World) :
    Calls Try.prog 73 #[agV a, .int .i64 now] w fun e w' => e = .returned (.bool (fencedA a now)) ∧ Ext w w' := by
  have HX := Lib.hid (Ext.alloc_ w (.cells #[.bool a.up, .int .i64 a.term, .int .i64 a.gen, .int .i64 a.mode, .int .i64 a.job, .int .i64 a.inc, .int .i64 a.ver, .int .i64 a.lease, .int .i64 a.worked, .int .i64 a.aim] 56))
  unfold agV
  cases h0 : a.up with
  | false =>
    have HE : Hid (fencedA a now = false) := Lib.hid (by unfold fencedA; rw [h0]; rfl)
    rw [h0] at HX
    clear h0
    go_enter Try.func73, Try.ntmps73
    go_wp2
    go_ret
    exact ⟨by rw [HE.out]; rfl, HX.out⟩
  | true =>
  have HU := Lib.hid h0
  rw [h0] at HX
  clear h0
  by_cases h1 : a.mode = 2
  · have d1 : (a.mode == 2) = true := by rw [h1]; rfl
    have HE : Hid (fencedA a now = decide (a.lease ≤ now)) := Lib.hid (by unfold fencedA; rw [HU.out, decide_eq_true h1]; rfl)
    clear h1
    go_enter Try.func73, Try.ntmps73
    go_wp2
    go_ret
    exact ⟨by rw [HE.out]; rfl, HX.out⟩
  have d1 : (a.mode == 2) = false := by simpa using h1
  have HE : Hid (fencedA a now = false) := Lib.hid (by unfold fencedA; rw [HU.out, decide_eq_false h1]; rfl)
  clear h1
  go_enter Try.func73, Try.ntmps73
  go_wp2
  go_ret
  exact ⟨by rw [HE.out]; rfl, HX.out⟩

end Go.Proofs.Ytkkmldoohokdfaa

/- Package agent: New, Tell, Fail, Back, Act. -/
namespace Go.Proofs.Ytkkmldoohokdfaa
open Go.RowKit

theorem looseA_up (a : Ag) : (looseA a).up = a.up := rfl
/-- A block's cells, one by one. -/
theorem AgAt.cells {w : World} {g : Nat} {a : Ag} (h : AgAt w g a) : w.cell? ⟨g, 0, none⟩ = some (.bool a.up) ∧ w.cell? ⟨g, 1, none⟩ = some (.int .i64 a.term) ∧ w.cell? ⟨g, 2, none⟩ = some (.int .i64 a.gen) ∧ w.cell? ⟨g, 3, none⟩ = some (.int .i64 a.mode) ∧ w.cell? ⟨g, 4, none⟩ = some (.int .i64 a.job) ∧ w.cell? ⟨g, 5, none⟩ = some (.int .i64 a.inc) ∧ w.cell? ⟨g, 6, none⟩ = some (.int .i64 a.ver) ∧ w.cell? ⟨g, 7, none⟩ = some (.int .i64 a.lease) ∧ w.cell? ⟨g, 8, none⟩ = some (.int .i64 a.worked) ∧ w.cell? ⟨g, 9, none⟩ = some (.int .i64 a.aim) :=
  ⟨h.blk.cell 0, h.blk.cell 1, h.blk.cell 2, h.blk.cell 3, h.blk.cell 4, h.blk.cell 5, h.blk.cell 6, h.blk.cell 7, h.blk.cell 8, h.blk.cell 9⟩
theorem MsAt.cells {w : World} {g : Nat} {m : Ms} (h : MsAt w g m) : w.cell? ⟨g, 0, none⟩ = some (.int .i64 m.node) ∧ w.cell? ⟨g, 1, none⟩ = some (.int .i64 m.kind) ∧ w.cell? ⟨g, 2, none⟩ = some (.int .i64 m.term) ∧ w.cell? ⟨g, 3, none⟩ = some (.int .i64 m.gen) ∧ w.cell? ⟨g, 4, none⟩ = some (.int .i64 m.job) ∧ w.cell? ⟨g, 5, none⟩ = some (.int .i64 m.inc) ∧ w.cell? ⟨g, 6, none⟩ = some (.int .i64 m.ver) ∧ w.cell? ⟨g, 7, none⟩ = some (.int .i64 m.epoch) ∧ w.cell? ⟨g, 8, none⟩ = some (.int .i64 m.til) ∧ w.cell? ⟨g, 9, none⟩ = some (.int .i64 m.mode) ∧ w.cell? ⟨g, 10, none⟩ = some (.int .i64 m.work) :=
  ⟨h.blk.cell 0, h.blk.cell 1, h.blk.cell 2, h.blk.cell 3, h.blk.cell 4, h.blk.cell 5, h.blk.cell 6, h.blk.cell 7, h.blk.cell 8, h.blk.cell 9, h.blk.cell 10⟩

theorem infoA_ : (Try.prog.info? 56).map (·.size) = some 10 := by kernel_rfl
theorem infoM_ : (Try.prog.info? 49).map (·.size) = some 11 := by kernel_rfl

set_option maxRecDepth 100000 in
theorem NewA_any (w : World) : Calls Try.prog 40 #[] w fun e w' => e = .returned (agV newA) ∧ Ext w w' := by
  have HB := Lib.hid (Blk.new w 56 #[.bool false, .int .i64 0, .int .i64 0, .int .i64 0, .int .i64 0, .int .i64 0, .int .i64 0, .int .i64 0, .int .i64 0, .int .i64 0])
  have HX := Lib.hid (Ext.alloc_ w (.cells #[.bool false, .int .i64 0, .int .i64 0, .int .i64 0, .int .i64 0, .int .i64 0, .int .i64 0, .int .i64 0, .int .i64 0, .int .i64 0] 56))
  have HI := Lib.hid infoA_
  have HO : Hid ((#[.bool true, .int .i64 0, .int .i64 0, .int .i64 0, .int .i64 0, .int .i64 0, .int .i64 1, .int .i64 0, .int .i64 0, .int .i64 0] : Array Value).all (·.oneCell') = true) := Lib.hid (by simp [Value.oneCell'])
  go_enter Try.func40, Try.ntmps40
  go_wp2_with (refine wpList_storeB rfl 56 _ _ rfl w.heap.size #[.bool true, .int .i64 0, .int .i64 0, .int .i64 0, .int .i64 0, .int .i64 0, .int .i64 1, .int .i64 0, .int .i64 0, .int .i64 0] rfl rfl 56 _ HB.out HI.out rfl HO.out w.heap.size w HX.out (Nat.le_refl _) ?_; intro w2 hb2 hx2)
  exact bodyPost_ret (results_cell_row rfl _ _ w.heap.size 56 _ (0, 0) _ rfl hb2 rfl rfl (by kernel_rfl)) rfl ⟨rfl, hx2⟩

set_option maxRecDepth 100000 in
theorem Tell_any (a : Ag) (node : Int) (w : World) : Calls Try.prog 38 #[agV a, .int .i64 node] w fun e w' => e = .returned (msV (tellA a node)) ∧ Ext w w' := by
  have HX1 := Lib.hid (Ext.alloc_ w (.cells #[.bool a.up, .int .i64 a.term, .int .i64 a.gen, .int .i64 a.mode, .int .i64 a.job, .int .i64 a.inc, .int .i64 a.ver, .int .i64 a.lease, .int .i64 a.worked, .int .i64 a.aim] 56))
  have HB := Lib.hid (Blk.new (w.alloc (.cells #[.bool a.up, .int .i64 a.term, .int .i64 a.gen, .int .i64 a.mode, .int .i64 a.job, .int .i64 a.inc, .int .i64 a.ver, .int .i64 a.lease, .int .i64 a.worked, .int .i64 a.aim] 56)) 49 #[.int .i64 0, .int .i64 0, .int .i64 0, .int .i64 0, .int .i64 0, .int .i64 0, .int .i64 0, .int .i64 0, .int .i64 0, .int .i64 0, .int .i64 0])
  have HX := Lib.hid (HX1.out.trans (Ext.alloc_ (w.alloc (.cells #[.bool a.up, .int .i64 a.term, .int .i64 a.gen, .int .i64 a.mode, .int .i64 a.job, .int .i64 a.inc, .int .i64 a.ver, .int .i64 a.lease, .int .i64 a.worked, .int .i64 a.aim] 56)) (.cells #[.int .i64 0, .int .i64 0, .int .i64 0, .int .i64 0, .int .i64 0, .int .i64 0, .int .i64 0, .int .i64 0, .int .i64 0, .int .i64 0, .int .i64 0] 49)))
  have hz : (w.alloc (.cells #[.bool a.up, .int .i64 a.term, .int .i64 a.gen, .int .i64 a.mode, .int .i64 a.job, .int .i64 a.inc, .int .i64 a.ver, .int .i64 a.lease, .int .i64 a.worked, .int .i64 a.aim] 56)).heap.size = w.heap.size + 1 := by simp
  rw [hz] at HB
  clear hz
  have HI := Lib.hid infoM_
  have HO := Lib.hid (msA_one (tellA a node))
  unfold agV
  go_enter Try.func38, Try.ntmps38
  go_wp2_with (refine wpList_storeB rfl 49 _ _ rfl (w.heap.size + 1) (msA (tellA a node)) rfl rfl 49 _ HB.out HI.out rfl HO.out w.heap.size w HX.out (Nat.le_succ _) ?_; intro w2 hb2 hx2)
  exact bodyPost_ret (results_cell_row rfl _ _ (w.heap.size + 1) 49 _ (0, 0) _ rfl hb2 rfl rfl (by kernel_rfl)) rfl ⟨rfl, hx2⟩

end Go.Proofs.Ytkkmldoohokdfaa

/- Package agent: Fail, Back. -/
namespace Go.Proofs.Ytkkmldoohokdfaa
open Go.RowKit

/-- The two blocks that a call makes ahead of all: its argument's, its result's. -/
theorem two_new (w : World) (c1 c2 : Array Value) (T1 T2 : TypeId) : Blk ((w.alloc (.cells c1 T1)).alloc (.cells c2 T2)) w.heap.size T1 c1 ∧ Blk ((w.alloc (.cells c1 T1)).alloc (.cells c2 T2)) (w.heap.size + 1) T2 c2 ∧ Ext w ((w.alloc (.cells c1 T1)).alloc (.cells c2 T2)) := by
  have h := Blk.new (w.alloc (.cells c1 T1)) T2 c2
  rw [show (w.alloc (.cells c1 T1)).heap.size = w.heap.size + 1 by simp] at h
  exact ⟨(Blk.new w T1 c1).alloc _, h, (Ext.alloc_ w _).trans (Ext.alloc_ _ _)⟩

set_option maxRecDepth 100000 in
theorem Back_any (a : Ag) (w : World) : Calls Try.prog 43 #[agV a] w fun e w' => e = .returned (agV (backA a)) ∧ Ext w w' := by
  obtain ⟨h1, h2, hx⟩ := two_new w #[.bool true, .int .i64 a.term, .int .i64 a.gen, .int .i64 a.mode, .int .i64 a.job, .int .i64 a.inc, .int .i64 a.ver, .int .i64 a.lease, .int .i64 a.worked, .int .i64 a.aim] #[.bool false, .int .i64 0, .int .i64 0, .int .i64 0, .int .i64 0, .int .i64 0, .int .i64 0, .int .i64 0, .int .i64 0, .int .i64 0] 56 56
  obtain ⟨w2, hw2⟩ : ∃ W, W = (w.alloc (.cells #[.bool true, .int .i64 a.term, .int .i64 a.gen, .int .i64 a.mode, .int .i64 a.job, .int .i64 a.inc, .int .i64 a.ver, .int .i64 a.lease, .int .i64 a.worked, .int .i64 a.aim] 56)).alloc (.cells #[.bool false, .int .i64 0, .int .i64 0, .int .i64 0, .int .i64 0, .int .i64 0, .int .i64 0, .int .i64 0, .int .i64 0, .int .i64 0] 56) := ⟨_, rfl⟩
  rw [← hw2] at h1 h2 hx
  have HA : Hid (AgAt w2 w.heap.size (backA a)) := Lib.hid ⟨h1⟩
  have HB := Lib.hid h2
  have HX := Lib.hid hx
  have HI := Lib.hid infoA_
  have HO := Lib.hid (agA_one (backA a))
  clear h1 h2 hx
  unfold agV
  go_enter Try.func43, Try.ntmps43
  go_upto_region 2 with (fail)
  rw [← hw2]
  clear hw2
  obtain ⟨c0, c1, c2, c3, c4, c5, c6, c7, c8, c9⟩ := HA.out.cells
  go_wp2_with (refine wpList_storeB rfl 56 _ _ rfl (w.heap.size + 1) (agA (backA a)) rfl rfl 56 _ HB.out HI.out rfl HO.out w.heap.size w HX.out (Nat.le_succ _) ?_; intro w3 hb3 hx3)
  exact bodyPost_ret (results_cell_row rfl _ _ (w.heap.size + 1) 56 _ (0, 0) _ rfl hb3 rfl rfl (by kernel_rfl)) rfl ⟨rfl, hx3⟩

set_option maxRecDepth 100000 in
theorem Fail_any (a : Ag) (w : World) : Calls Try.prog 42 #[agV a] w fun e w' => e = .returned (agV (failA a)) ∧ Ext w w' := by
  obtain ⟨h1, h2, hx⟩ := two_new w #[.bool false, .int .i64 a.term, .int .i64 a.gen, .int .i64 a.mode, .int .i64 a.job, .int .i64 a.inc, .int .i64 a.ver, .int .i64 a.lease, .int .i64 a.worked, .int .i64 0] #[.bool false, .int .i64 0, .int .i64 0, .int .i64 0, .int .i64 0, .int .i64 0, .int .i64 0, .int .i64 0, .int .i64 0, .int .i64 0] 56 56
  obtain ⟨w2, hw2⟩ : ∃ W, W = (w.alloc (.cells #[.bool false, .int .i64 a.term, .int .i64 a.gen, .int .i64 a.mode, .int .i64 a.job, .int .i64 a.inc, .int .i64 a.ver, .int .i64 a.lease, .int .i64 a.worked, .int .i64 0] 56)).alloc (.cells #[.bool false, .int .i64 0, .int .i64 0, .int .i64 0, .int .i64 0, .int .i64 0, .int .i64 0, .int .i64 0, .int .i64 0, .int .i64 0] 56) := ⟨_, rfl⟩
  rw [← hw2] at h1 h2 hx
  have HA := Lib.hid (letGo_any w.heap.size { a with up := false, aim := 0 } w2 ⟨h1⟩)
  have HB := Lib.hid h2
  have HX := Lib.hid hx
  have HI := Lib.hid infoA_
  have HO := Lib.hid (agA_one (failA a))
  clear h1 h2 hx
  unfold agV
  go_enter Try.func42, Try.ntmps42
  go_upto_region 2 with (fail)
  rw [← hw2]
  clear hw2
  go_wp2_with fail
  refine HA.out.mono ?_
  rintro e3 w3 ⟨rfl, ha, hc⟩
  obtain ⟨c0, c1, c2, c3, c4, c5, c6, c7, c8, c9⟩ := ha.cells
  have HB3 : Hid (Blk w3 (w.heap.size + 1) 56 #[.bool false, .int .i64 0, .int .i64 0, .int .i64 0, .int .i64 0, .int .i64 0, .int .i64 0, .int .i64 0, .int .i64 0, .int .i64 0]) := Lib.hid ((hc.block _ HB.out.lt (by intro h; have h : w.heap.size + 1 = w.heap.size := h; omega)).trans HB.out)
  have HX3 := Lib.hid (hc.ext HX.out (fun k hk => by have hk : k = w.heap.size := hk; omega))
  clear ha hc HB HX
  go_wp2_with (refine wpList_storeB rfl 56 _ _ rfl (w.heap.size + 1) (agA (failA a)) rfl rfl 56 _ HB3.out HI.out rfl HO.out w.heap.size w HX3.out (Nat.le_succ _) ?_; intro w4 hb4 hx4)
  exact bodyPost_ret (results_cell_row rfl _ _ (w.heap.size + 1) 56 _ (0, 0) _ rfl hb4 rfl rfl (by kernel_rfl)) rfl ⟨rfl, hx4⟩

end Go.Proofs.Ytkkmldoohokdfaa

/- The reference's Right: of messages, of agents. -/
namespace Go.Proofs.Ytkkmldoohokdfaa
open Go.RowKit

def rightA (a : Ag) : Bool := decide (0 ≤ a.term ∧ a.term ≤ 1000000 ∧ 0 ≤ a.gen ∧ a.gen ≤ 1000000 ∧ 0 ≤ a.job ∧ a.job ≤ 24 ∧ 0 ≤ a.inc ∧ a.inc ≤ 1000000 ∧ 0 ≤ a.lease ∧ a.lease ≤ 1000000 ∧ 0 ≤ a.mode ∧ a.mode ≤ 4 ∧ 1 ≤ a.ver ∧ a.ver ≤ 9 ∧ 0 ≤ a.worked ∧ a.worked ≤ 1000000 ∧ 0 ≤ a.aim ∧ a.aim ≤ 9)

set_option maxRecDepth 100000 in
set_option maxHeartbeats 2000000 in
theorem RefRight13_any (a : Ag) (w : World) : Calls Try.prog 34 #[agV a] w fun e w' => e = .returned (.bool (rightA a)) ∧ Ext w w' := by
  have HX := Lib.hid (Ext.alloc_ w (.cells #[.bool a.up, .int .i64 a.term, .int .i64 a.gen, .int .i64 a.mode, .int .i64 a.job, .int .i64 a.inc, .int .i64 a.ver, .int .i64 a.lease, .int .i64 a.worked, .int .i64 a.aim] 56))
  obtain ⟨z, hz⟩ : ∃ z, z = rightA a := ⟨_, rfl⟩
  rw [← hz]
  unfold rightA at hz
  unfold agV
  by_cases h0 : 0 ≤ a.term
  rotate_left
  · have d0 : decide (a.term < 0) = true := decide_eq_true (by omega)
    have HE : Hid (z = false) := Lib.hid (hz.trans (decide_eq_false (by omega)))
    clear hz h0
    go_enter Try.func34, Try.ntmps34
    go_wp2
    go_ret
    exact ⟨by rw [HE.out]; rfl, HX.out⟩
  have d0 : decide (a.term < 0) = false := decide_eq_false (by omega)
  by_cases h1 : a.term ≤ 1000000
  rotate_left
  · have d1 : decide ((1000000 : Int) < a.term) = true := decide_eq_true (by omega)
    have HE : Hid (z = false) := Lib.hid (hz.trans (decide_eq_false (by omega)))
    clear hz h0 h1
    go_enter Try.func34, Try.ntmps34
    go_wp2
    go_ret
    exact ⟨by rw [HE.out]; rfl, HX.out⟩
  have d1 : decide ((1000000 : Int) < a.term) = false := decide_eq_false (by omega)
  by_cases h2 : 0 ≤ a.gen
  rotate_left
  · have d2 : decide (a.gen < 0) = true := decide_eq_true (by omega)
    have HE : Hid (z = false) := Lib.hid (hz.trans (decide_eq_false (by omega)))
    clear hz h0 h1 h2
    go_enter Try.func34, Try.ntmps34
    go_wp2
    go_ret
    exact ⟨by rw [HE.out]; rfl, HX.out⟩
  have d2 : decide (a.gen < 0) = false := decide_eq_false (by omega)
  by_cases h3 : a.gen ≤ 1000000
  rotate_left
  · have d3 : decide ((1000000 : Int) < a.gen) = true := decide_eq_true (by omega)
    have HE : Hid (z = false) := Lib.hid (hz.trans (decide_eq_false (by omega)))
    clear hz h0 h1 h2 h3
    go_enter Try.func34, Try.ntmps34
    go_wp2
    go_ret
    exact ⟨by rw [HE.out]; rfl, HX.out⟩
  have d3 : decide ((1000000 : Int) < a.gen) = false := decide_eq_false (by omega)
  by_cases h4 : 0 ≤ a.job
  rotate_left
  · have d4 : decide (a.job < 0) = true := decide_eq_true (by omega)
    have HE : Hid (z = false) := Lib.hid (hz.trans (decide_eq_false (by omega)))
    clear hz h0 h1 h2 h3 h4
    go_enter Try.func34, Try.ntmps34
    go_wp2
    go_ret
    exact ⟨by rw [HE.out]; rfl, HX.out⟩
  have d4 : decide (a.job < 0) = false := decide_eq_false (by omega)
  by_cases h5 : a.job ≤ 24
  rotate_left
  · have d5 : decide ((24 : Int) < a.job) = true := decide_eq_true (by omega)
    have HE : Hid (z = false) := Lib.hid (hz.trans (decide_eq_false (by omega)))
    clear hz h0 h1 h2 h3 h4 h5
    go_enter Try.func34, Try.ntmps34
    go_wp2
    go_ret
    exact ⟨by rw [HE.out]; rfl, HX.out⟩
  have d5 : decide ((24 : Int) < a.job) = false := decide_eq_false (by omega)
  by_cases h6 : 0 ≤ a.inc
  rotate_left
  · have d6 : decide (a.inc < 0) = true := decide_eq_true (by omega)
    have HE : Hid (z = false) := Lib.hid (hz.trans (decide_eq_false (by omega)))
    clear hz h0 h1 h2 h3 h4 h5 h6
    go_enter Try.func34, Try.ntmps34
    go_wp2
    go_ret
    exact ⟨by rw [HE.out]; rfl, HX.out⟩
  have d6 : decide (a.inc < 0) = false := decide_eq_false (by omega)
  by_cases h7 : a.inc ≤ 1000000
  rotate_left
  · have d7 : decide ((1000000 : Int) < a.inc) = true := decide_eq_true (by omega)
    have HE : Hid (z = false) := Lib.hid (hz.trans (decide_eq_false (by omega)))
    clear hz h0 h1 h2 h3 h4 h5 h6 h7
    go_enter Try.func34, Try.ntmps34
    go_wp2
    go_ret
    exact ⟨by rw [HE.out]; rfl, HX.out⟩
  have d7 : decide ((1000000 : Int) < a.inc) = false := decide_eq_false (by omega)
  by_cases h8 : 0 ≤ a.lease
  rotate_left
  · have d8 : decide (a.lease < 0) = true := decide_eq_true (by omega)
    have HE : Hid (z = false) := Lib.hid (hz.trans (decide_eq_false (by omega)))
    clear hz h0 h1 h2 h3 h4 h5 h6 h7 h8
    go_enter Try.func34, Try.ntmps34
    go_wp2
    go_ret
    exact ⟨by rw [HE.out]; rfl, HX.out⟩
  have d8 : decide (a.lease < 0) = false := decide_eq_false (by omega)
  by_cases h9 : a.lease ≤ 1000000
  rotate_left
  · have d9 : decide ((1000000 : Int) < a.lease) = true := decide_eq_true (by omega)
    have HE : Hid (z = false) := Lib.hid (hz.trans (decide_eq_false (by omega)))
    clear hz h0 h1 h2 h3 h4 h5 h6 h7 h8 h9
    go_enter Try.func34, Try.ntmps34
    go_wp2
    go_ret
    exact ⟨by rw [HE.out]; rfl, HX.out⟩
  have d9 : decide ((1000000 : Int) < a.lease) = false := decide_eq_false (by omega)
  by_cases h10 : 0 ≤ a.mode
  rotate_left
  · have d10 : decide ((0 : Int) ≤ a.mode) = false := decide_eq_false (by omega)
    have HE : Hid (z = false) := Lib.hid (hz.trans (decide_eq_false (by omega)))
    clear hz h0 h1 h2 h3 h4 h5 h6 h7 h8 h9 h10
    go_enter Try.func34, Try.ntmps34
    go_wp2
    go_ret
    exact ⟨by rw [HE.out]; rfl, HX.out⟩
  have d10 : decide ((0 : Int) ≤ a.mode) = true := decide_eq_true (by omega)
  by_cases h11 : a.mode ≤ 4
  rotate_left
  · have d11 : decide (a.mode ≤ 4) = false := decide_eq_false (by omega)
    have HE : Hid (z = false) := Lib.hid (hz.trans (decide_eq_false (by omega)))
    clear hz h0 h1 h2 h3 h4 h5 h6 h7 h8 h9 h10 h11
    go_enter Try.func34, Try.ntmps34
    go_wp2
    go_ret
    exact ⟨by rw [HE.out]; rfl, HX.out⟩
  have d11 : decide (a.mode ≤ 4) = true := decide_eq_true (by omega)
  by_cases h12 : 1 ≤ a.ver
  rotate_left
  · have d12 : decide ((1 : Int) ≤ a.ver) = false := decide_eq_false (by omega)
    have HE : Hid (z = false) := Lib.hid (hz.trans (decide_eq_false (by omega)))
    clear hz h0 h1 h2 h3 h4 h5 h6 h7 h8 h9 h10 h11 h12
    go_enter Try.func34, Try.ntmps34
    go_wp2
    go_ret
    exact ⟨by rw [HE.out]; rfl, HX.out⟩
  have d12 : decide ((1 : Int) ≤ a.ver) = true := decide_eq_true (by omega)
  by_cases h13 : a.ver ≤ 9
  rotate_left
  · have d13 : decide (a.ver ≤ 9) = false := decide_eq_false (by omega)
    have HE : Hid (z = false) := Lib.hid (hz.trans (decide_eq_false (by omega)))
    clear hz h0 h1 h2 h3 h4 h5 h6 h7 h8 h9 h10 h11 h12 h13
    go_enter Try.func34, Try.ntmps34
    go_wp2
    go_ret
    exact ⟨by rw [HE.out]; rfl, HX.out⟩
  have d13 : decide (a.ver ≤ 9) = true := decide_eq_true (by omega)
  by_cases h14 : 0 ≤ a.worked
  rotate_left
  · have d14 : decide ((0 : Int) ≤ a.worked) = false := decide_eq_false (by omega)
    have HE : Hid (z = false) := Lib.hid (hz.trans (decide_eq_false (by omega)))
    clear hz h0 h1 h2 h3 h4 h5 h6 h7 h8 h9 h10 h11 h12 h13 h14
    go_enter Try.func34, Try.ntmps34
    go_wp2
    go_ret
    exact ⟨by rw [HE.out]; rfl, HX.out⟩
  have d14 : decide ((0 : Int) ≤ a.worked) = true := decide_eq_true (by omega)
  by_cases h15 : a.worked ≤ 1000000
  rotate_left
  · have d15 : decide (a.worked ≤ 1000000) = false := decide_eq_false (by omega)
    have HE : Hid (z = false) := Lib.hid (hz.trans (decide_eq_false (by omega)))
    clear hz h0 h1 h2 h3 h4 h5 h6 h7 h8 h9 h10 h11 h12 h13 h14 h15
    go_enter Try.func34, Try.ntmps34
    go_wp2
    go_ret
    exact ⟨by rw [HE.out]; rfl, HX.out⟩
  have d15 : decide (a.worked ≤ 1000000) = true := decide_eq_true (by omega)
  by_cases h16 : 0 ≤ a.aim
  rotate_left
  · have d16 : decide ((0 : Int) ≤ a.aim) = false := decide_eq_false (by omega)
    have HE : Hid (z = false) := Lib.hid (hz.trans (decide_eq_false (by omega)))
    clear hz h0 h1 h2 h3 h4 h5 h6 h7 h8 h9 h10 h11 h12 h13 h14 h15 h16
    go_enter Try.func34, Try.ntmps34
    go_wp2
    go_ret
    exact ⟨by rw [HE.out]; rfl, HX.out⟩
  have d16 : decide ((0 : Int) ≤ a.aim) = true := decide_eq_true (by omega)
  by_cases h17 : a.aim ≤ 9
  rotate_left
  · have d17 : decide (a.aim ≤ 9) = false := decide_eq_false (by omega)
    have HE : Hid (z = false) := Lib.hid (hz.trans (decide_eq_false (by omega)))
    clear hz h0 h1 h2 h3 h4 h5 h6 h7 h8 h9 h10 h11 h12 h13 h14 h15 h16 h17
    go_enter Try.func34, Try.ntmps34
    go_wp2
    go_ret
    exact ⟨by rw [HE.out]; rfl, HX.out⟩
  have d17 : decide (a.aim ≤ 9) = true := decide_eq_true (by omega)
  have HE : Hid (z = true) := Lib.hid (hz.trans (decide_eq_true (by omega)))
  clear hz h0 h1 h2 h3 h4 h5 h6 h7 h8 h9 h10 h11 h12 h13 h14 h15 h16 h17
  go_enter Try.func34, Try.ntmps34
  go_wp2
  go_ret
  exact ⟨by rw [HE.out]; rfl, HX.out⟩

set_option maxRecDepth 100000 in
set_option maxHeartbeats 2000000 in
theorem RefNums12_any (m : Ms) (w : World) : Calls Try.prog 68 #[msV m] w fun e w' => ∃ v, e = .returned v ∧ Rd w' v ((msL m).map I) ∧ Ext w w' := by
  have HX : Hid (∀ cs T, Ext w ((w.alloc (.cells #[.int .i64 m.node, .int .i64 m.kind, .int .i64 m.term, .int .i64 m.gen, .int .i64 m.job, .int .i64 m.inc, .int .i64 m.ver, .int .i64 m.epoch, .int .i64 m.til, .int .i64 m.mode, .int .i64 m.work] 49)).alloc (.cells cs T))) := Lib.hid fun cs T => (Ext.alloc_ w _).trans (Ext.alloc_ _ _)
  have hr := Rd.lit (w.alloc (.cells #[.int .i64 m.node, .int .i64 m.kind, .int .i64 m.term, .int .i64 m.gen, .int .i64 m.job, .int .i64 m.inc, .int .i64 m.ver, .int .i64 m.epoch, .int .i64 m.til, .int .i64 m.mode, .int .i64 m.work] 49)) #[.int .i64 m.node, .int .i64 m.kind, .int .i64 m.term, .int .i64 m.gen, .int .i64 m.job, .int .i64 m.inc, .int .i64 m.ver, .int .i64 m.epoch, .int .i64 m.til, .int .i64 m.mode, .int .i64 m.work] 3 (show 11 ≤ maxLen by decide)
  rw [show (w.alloc (.cells #[.int .i64 m.node, .int .i64 m.kind, .int .i64 m.term, .int .i64 m.gen, .int .i64 m.job, .int .i64 m.inc, .int .i64 m.ver, .int .i64 m.epoch, .int .i64 m.til, .int .i64 m.mode, .int .i64 m.work] 49)).heap.size = w.heap.size + 1 by simp] at hr
  have HR := Lib.hid hr
  clear hr
  unfold msV
  go_enter Try.func68, Try.ntmps68
  go_wp2
  go_ret
  exact ⟨.slice (some ⟨w.heap.size + 1, 0, none⟩) 11 11, rfl, HR.out, HX.out _ _⟩

theorem rightM_eq (m : Ms) : rightM m = (decide (m.node < 6) && (decide (1 ≤ m.kind) && decide (m.kind ≤ 6)) && (msL m).all okN) := rfl
theorem okN_false {n : Int} (h : n < 0 ∨ 1000000 < n) : okN n = false := by unfold okN; rcases h with h | h; (rw [decide_eq_false (by omega)]; rfl); (rw [decide_eq_false (p := n ≤ 1000000) (by omega)]; simp)
theorem okN_true {n : Int} (h : 0 ≤ n ∧ n ≤ 1000000) : okN n = true := by unfold okN; rw [decide_eq_true h.1, decide_eq_true h.2]; rfl

set_option maxRecDepth 100000 in
set_option maxHeartbeats 4000000 in
theorem RefRight12_any (m : Ms) (w : World) : Calls Try.prog 30 #[msV m] w fun e w' => e = .returned (.bool (rightM m)) ∧ Ext w w' := by
  obtain ⟨W, hW⟩ : ∃ W, W = w.alloc (.cells #[.int .i64 m.node, .int .i64 m.kind, .int .i64 m.term, .int .i64 m.gen, .int .i64 m.job, .int .i64 m.inc, .int .i64 m.ver, .int .i64 m.epoch, .int .i64 m.til, .int .i64 m.mode, .int .i64 m.work] 49) := ⟨_, rfl⟩
  have hb : MsAt W w.heap.size m := by rw [hW]; exact ⟨Blk.new _ _ _⟩
  have hx : Ext w W := by rw [hW]; exact Ext.alloc_ _ _
  have HB := Lib.hid hb
  have HX := Lib.hid hx
  have HN := Lib.hid (RefNums12_any m W)
  unfold msV at HN
  obtain ⟨z, hz⟩ : ∃ z, z = rightM m := ⟨_, rfl⟩
  rw [← hz]
  have HZ := Lib.hid hz
  obtain ⟨L, hL⟩ : ∃ L, L = msL m := ⟨_, rfl⟩
  have HL := Lib.hid hL
  have HLN : Hid (L.length = 11) := Lib.hid (by rw [hL]; rfl)
  rw [← hL] at HN
  clear hb hx hz hL
  unfold msV
  go_enter Try.func30, Try.ntmps30
  go_upto_region 1 with (fail)
  rw [← hW]
  clear hW
  obtain ⟨m0, m1, m2, m3, m4, m5, m6, m7, m8, m9, m10⟩ := HB.out.cells
  go_wp2_with fail
  refine HN.out.mono ?_
  rintro e1 w1 ⟨v, rfl, hr, hx1⟩
  obtain ⟨A, c, hv, hlc, hcm, hcell⟩ := hr
  rw [List.length_map, HLN.out] at hv hlc hcell
  subst hv
  obtain ⟨b, o, rfl, hb1, hce⟩ := hcell (by decide)
  have HCE : Hid (∀ k x, L[k]? = some x → w1.cell? ⟨b, o + k, none⟩ = some (.int .i64 x)) := Lib.hid fun k x hx => hce k (I x) (by rw [List.getElem?_map, hx]; rfl)
  have HX1 := Lib.hid (HX.out.trans hx1)
  have HB1 := Lib.hid (HB.out.ext hx1)
  clear hcell hce hx1 m0 m1 m2 m3 m4 m5 m6 m7 m8 m9 m10 HN hb1
  unfold maxLen at hcm
  go_wp2_with fail
  go_loopw [4] (fun i wr => wr = w1 ∧ ∃ k : Nat, i = .int .i64 k ∧ k ≤ 11 ∧ Hid ((L.take k).all okN = true)) (fun i _ => 11 - (intOf i).toNat)
  case atStart => exact ⟨rfl, 0, rfl, Nat.zero_le _, Lib.hid rfl⟩
  case round =>
    obtain ⟨rfl, k, rfl, hk, HK⟩ := hrel
    by_cases hlt : k < 11
    · have e1 : decide ((k : Int) < 11) = true := decide_eq_true (by omega)
      have e1' : decide (k < 11) = true := decide_eq_true hlt
      obtain ⟨n, hn⟩ : ∃ n, L[k]? = some n := ⟨_, List.getElem?_eq_getElem (by rw [HLN.out]; exact hlt)⟩
      have cn := HCE.out k n hn
      have x1 : (0 : Int) ≤ (k : Int) ∧ (k : Int) < 11 := by omega
      have HTK : Hid ((L.take (k + 1)).all okN = okN n) := Lib.hid (by rw [List.take_add_one, hn, List.all_append, HK.out]; simp)
      have HNM := Lib.hid (List.mem_of_getElem? hn)
      have HLT := Lib.hid hlt
      clear hn hlt
      by_cases h0 : n < 0
      · have d0 : decide (n < 0) = true := decide_eq_true h0
        have HF : Hid (z = false) := Lib.hid (by
          rw [HZ.out, rightM_eq, ← HL.out]
          have : L.all okN = false := by
            cases ha : L.all okN with
            | false => rfl
            | true => have h9 := List.all_eq_true.1 ha n HNM.out; rw [okN_false (by omega)] at h9; cases h9
          rw [this, Bool.and_false])
        clear h0
        go_wp2
        go_ret
        exact ⟨by rw [HF.out]; rfl, HX1.out⟩
      have d0 : decide (n < 0) = false := decide_eq_false h0
      by_cases h9 : 1000000 < n
      · have d9 : decide ((1000000 : Int) < n) = true := decide_eq_true h9
        have HF : Hid (z = false) := Lib.hid (by
          rw [HZ.out, rightM_eq, ← HL.out]
          have : L.all okN = false := by
            cases ha : L.all okN with
            | false => rfl
            | true => have h8 := List.all_eq_true.1 ha n HNM.out; rw [okN_false (by omega)] at h8; cases h8
          rw [this, Bool.and_false])
        clear h0 h9
        go_wp2
        go_ret
        exact ⟨by rw [HF.out]; rfl, HX1.out⟩
      have d9 : decide ((1000000 : Int) < n) = false := decide_eq_false h9
      have HK2 : Hid ((L.take (k + 1)).all okN = true) := Lib.hid (by rw [HTK.out]; exact okN_true (by omega))
      have hwq : wrap64 ((k : Int) + 1) = (k : Int) + 1 := IntWalk.wrap64_in _ (by omega)
      clear h0 h9
      go_wp2
      go_roundw
      case rel => first | exact ⟨rfl, k + 1, by go_num, HLT.out, HK2⟩ | exact ⟨trivial, k + 1, by go_num, HLT.out, HK2⟩
      case measure => simp [intOf]; have := HLT.out; omega
    · obtain rfl : k = 11 := by omega
      have e1 : decide ((11 : Int) < 11) = false := by decide
      have HA : Hid (z = (decide (m.node < 6) && (decide (1 ≤ m.kind) && decide (m.kind ≤ 6)))) := Lib.hid (by rw [HZ.out, rightM_eq, ← HL.out]; have h := HK.out; rw [List.take_of_length_le (by rw [HLN.out]; exact Nat.le_refl _)] at h; rw [h, Bool.and_true])
      have m0 := HB1.out.cells.1
      have m1 := HB1.out.cells.2.1
      clear hk hlt HK
      by_cases q0 : m.node ≤ 5
      · have d0 : decide (m.node ≤ 5) = true := decide_eq_true q0
        by_cases q1 : 1 ≤ m.kind
        · have d1 : decide ((1 : Int) ≤ m.kind) = true := decide_eq_true q1
          have HF : Hid (z = decide (m.kind ≤ 6)) := Lib.hid (by rw [HA.out]; rw [decide_eq_true (show m.node < 6 by omega), decide_eq_true q1]; rfl)
          clear q0 q1
          go_wp2
          go_ret
          exact ⟨by rw [HF.out]; rfl, HX1.out⟩
        · have d1 : decide ((1 : Int) ≤ m.kind) = false := decide_eq_false q1
          have HF : Hid (z = false) := Lib.hid (by rw [HA.out]; rw [decide_eq_false q1, Bool.false_and, Bool.and_false])
          clear q0 q1
          go_wp2
          go_ret
          exact ⟨by rw [HF.out]; rfl, HX1.out⟩
      · have d0 : decide (m.node ≤ 5) = false := decide_eq_false q0
        have HF : Hid (z = false) := Lib.hid (by rw [HA.out]; rw [decide_eq_false (show ¬ m.node < 6 by omega)]; rfl)
        clear q0
        go_wp2
        go_ret
        exact ⟨by rw [HF.out]; rfl, HX1.out⟩

end Go.Proofs.Ytkkmldoohokdfaa

/- Slices of numbers in this translation's numbers. -/
namespace Go.Proofs.Ytkkmldoohokdfaa
open Go.RowKit

theorem Try.infoInt : (Try.prog.info? 3).map (fun i => (i.zero, i.size, i.bytes)) = some (some (.int .i64 0), 1, 8) := by kernel_rfl

/-- 'l = append(l, x)', l a row of numbers of the call's own. -/
theorem push_int {w : World} {ops : Array Oper} {rest : List Oper} {o : Oper} {a : Act} {Q : Exit → Act → World → Prop} {gx : Nat} (hgd : o.guard = none) (s x : Operand)
    (ho : o.op = .call { callee := .builtin .append, args := #[s, x], argTypes := #[103, 103] })
    (base : Nat) (v : Value) (xs : List Value) (hs : a.eval s = v) (hown : w.ownsRow base 3 1 v xs.length xs) (u : Value) (h1 : u.oneCell' = true)
    (hx : a.eval x = .slice (some ⟨gx, 0, none⟩) 1 1) (hlen : xs.length < 17592186044416) (hbase : base ≤ w.heap.size)
    (h : ∀ v' w', Grew base 3 v w (xs ++ [u]) v' w' → wpList Try.prog ops Q rest (a.put o.dst v') w') (hgx : gx = w.heap.size := by simp) : wpList Try.prog ops Q (o :: rest) a (w.alloc (.cells #[u] 3)) := by
  subst hgx
  exact wpList_push hgd s x 103 ho base 3 (.int .i64 0) 8 Try.underlying103 Try.infoInt rfl v xs hs hown u h1 hx (by unfold maxLen; omega) (by omega) hbase h

end Go.Proofs.Ytkkmldoohokdfaa

/- Slices of bytes in this translation's numbers: what one element takes; the laws at an append. -/
namespace Go.Proofs.Ytkkmldoohokdfaa
open Go.RowKit

theorem Try.infoU8 : (Try.prog.info? 5).map (fun i => (i.zero, i.size, i.bytes)) = some (some (.int .u8 0), 1, 1) := by kernel_rfl

/-- 'b = append(b, x)', b a row of bytes of the call's own. -/
theorem push_u8 {w : World} {ops : Array Oper} {rest : List Oper} {o : Oper} {a : Act} {Q : Exit → Act → World → Prop} {gx : Nat} (hgd : o.guard = none) (s x : Operand)
    (ho : o.op = .call { callee := .builtin .append, args := #[s, x], argTypes := #[27, 27] })
    (base : Nat) (v : Value) (xs : List Value) (hs : a.eval s = v) (hown : w.ownsRow base 5 1 v xs.length xs) (u : Value) (h1 : u.oneCell' = true)
    (hx : a.eval x = .slice (some ⟨gx, 0, none⟩) 1 1) (hlen : xs.length < 140737488355328) (hbase : base ≤ w.heap.size)
    (h : ∀ v' w', Grew base 5 v w (xs ++ [u]) v' w' → wpList Try.prog ops Q rest (a.put o.dst v') w') (hgx : gx = w.heap.size := by simp) : wpList Try.prog ops Q (o :: rest) a (w.alloc (.cells #[u] 5)) := by
  subst hgx
  exact wpList_push hgd s x 27 ho base 5 (.int .u8 0) 1 Try.underlying27 Try.infoU8 rfl v xs hs hown u h1 hx (by unfold maxLen; omega) (by omega) hbase h

/-- 'b = append(b, c...)', c what reads as a list of bytes. -/
theorem app_u8 {w : World} {ops : Array Oper} {rest : List Oper} {o : Oper} {a : Act} {Q : Exit → Act → World → Prop} (hgd : o.guard = none) (s x : Operand)
    (ho : o.op = .call { callee := .builtin .append, args := #[s, x], argTypes := #[27, 27] })
    (base : Nat) (v : Value) (xs : List Value) (hs : a.eval s = v) (hown : w.ownsRow base 5 1 v xs.length xs) (u : Value) (ys : List UInt8) (hx : a.eval x = u) (hr : Rd w u (ys.map B))
    (hbytes : xs.length + ys.length ≤ 140737488355328) (hbase : base ≤ w.heap.size)
    (h : ∀ v' w', Grew base 5 v w (xs ++ ys.map B) v' w' → wpList Try.prog ops Q rest (a.put o.dst v') w') : wpList Try.prog ops Q (o :: rest) a w :=
  wpList_appendRd hgd s x 27 ho base 5 (.int .u8 0) 1 Try.underlying27 Try.infoU8 rfl v xs hs hown u _ hx hr (bytes_oneCell ys) (by unfold maxLen; simp; omega) (by simp; omega) hbase h

end Go.Proofs.Ytkkmldoohokdfaa

/- Layer 1, package code: a number's bytes. -/
namespace Go.Proofs.Ytkkmldoohokdfaa
open Go.RowKit

theorem isNum_yes (n : Int) (w : World) (h0 : 0 ≤ n) (h1 : n < 9007199254740992) :
    Calls Try.prog 96 #[.int .i64 n] w fun e w' => e = .returned (.bool true) ∧ w = w' := by
  go_enter Try.func96, Try.ntmps96
  go_wp2
  go_ret
  exact ⟨rfl, rfl⟩

theorem isNum_no (n : Int) (w : World) (h : ¬ (0 ≤ n ∧ n < 9007199254740992)) :
    Calls Try.prog 96 #[.int .i64 n] w fun e w' => e = .returned (.bool false) ∧ w = w' := by
  by_cases h0 : 0 ≤ n
  · have h1 : 9007199254740992 ≤ n := by omega
    have h2 : decide (n < 9007199254740992) = false := by simp; omega
    clear h
    go_enter Try.func96, Try.ntmps96
    go_wp2
    go_ret
    exact ⟨rfl, rfl⟩
  · clear h
    go_enter Try.func96, Try.ntmps96
    go_wp2
    go_ret
    exact ⟨rfl, rfl⟩

set_option maxRecDepth 100000 in
set_option maxHeartbeats 1000000 in
theorem addNum_any (base : Nat) (v : Value) (l : List UInt8) (n : Nat) (w : World) (hown : w.ownsRow base 5 1 v (l.map B).length (l.map B)) (hb : base ≤ w.heap.size)
    (hn : n < 9223372036854775808) (hl : l.length ≤ 140737488355318) :
    Calls Try.prog 95 #[v, .int .i64 n] w fun e w' => ∃ v', e = .returned v' ∧ Grew base 5 v w ((l ++ numB n).map B) v' w' := by
  obtain ⟨i0, hi, hz0, hz1, hz2⟩ := info_parts Try.infoU8
  have hlen := numB_len10 hn
  go_enter Try.func95, Try.ntmps95
  go_wp2
  go_loopw [0, 1] (fun v' n' wr => ∃ (m : Nat) (l' : List UInt8), n' = .int .i64 m ∧ m ≤ n ∧ l' ++ numB m = l ++ numB n ∧ Grew base 5 v w (l'.map B) v' wr) (fun _ n' _ => (intOf n').toNat)
  case atStart => exact ⟨n, l, rfl, Nat.le_refl _, rfl, Grew.start hown⟩
  case round =>
    obtain ⟨m, l', rfl, hmn, hmm, hg⟩ := hrel
    have hlt : (List.map B l').length < 140737488355328 := by
      have := congrArg List.length hmm
      have := numB_pos m
      simp only [List.length_append, List.length_map] at *
      omega
    have hbw : base ≤ wr.heap.size := Nat.le_trans hb hg.size
    have hML := Lib.hid hmm
    clear hmm
    by_cases h128 : m < 128
    · go_wp2_with (at_builtin; refine push_u8 rfl _ _ rfl base _ _ rfl hg.1 _ rfl rfl hlt hbw ?_; intro v' w' hg')
      go_ret
      refine ⟨_, rfl, ?_⟩
      have hgg := hg.trans hg'
      rw [← hML.out, numB_lo h128, List.map_append]
      rw [B_eq (n := (m : Int)) (u := UInt8.ofNat m) (by rw [u8_toNat]; omega)] at hgg
      exact hgg
    · have ho := or128 m
      have hO := Lib.hid ho
      clear ho
      go_wp2_with (at_builtin; refine push_u8 rfl _ _ rfl base _ _ rfl hg.1 _ rfl rfl hlt hbw ?_; intro v' w' hg')
      go_roundw
      case rel =>
        have hgg := hg.trans hg'
        rw [B_eq hO.out] at hgg
        refine ⟨m / 128, l' ++ [UInt8.ofNat (m % 128 + 128)], by go_num, by omega, ?_, by simpa using hgg⟩
        rw [← hML.out, numB_hi h128]
        simp
      case measure => simp [intOf]; omega

theorem Num_yes (n : Nat) (w : World) (hn : n < 9007199254740992) :
    Calls Try.prog 92 #[.int .i64 n] w fun e w' => ∃ v', e = .returned v' ∧ Grew w.heap.size 5 (.slice none 0 0) w ((numB n).map B) v' w' := by
  go_enter Try.func92, Try.ntmps92
  go_wp2_with (first | (go_at_call 96; refine (isNum_yes _ _ (by omega) (by omega)).mono ?_; rintro e w' ⟨rfl, rfl⟩) | (go_at_call 95; refine (addNum_any w.heap.size _ [] _ _ (World.ownsRow_nil _ _ _ _) (Nat.le_refl _) (by omega) (by simp)).mono ?_; rintro e w' ⟨v', rfl, hg⟩))
  go_ret
  exact ⟨_, rfl, hg⟩

theorem Num_no (n : Int) (w : World) (hn : ¬ (0 ≤ n ∧ n < 9007199254740992)) :
    Calls Try.prog 92 #[.int .i64 n] w fun e w' => e = .returned (.slice none 0 0) ∧ w = w' := by
  have H := Lib.hid hn
  clear hn
  go_enter Try.func92, Try.ntmps92
  go_wp2_with (first | (go_at_call 96; refine (isNum_no _ _ H.out).mono ?_; rintro e w' ⟨rfl, rfl⟩))
  go_ret
  exact ⟨rfl, rfl⟩

end Go.Proofs.Ytkkmldoohokdfaa

/- Layer 1: what its lists and what is read at a place come to, as values. -/
namespace Go.Proofs.Ytkkmldoohokdfaa
open Go.RowKit

/-- What GetNum answers at a place from 0 on. -/
def numAt (bs : List UInt8) (p : Nat) : Value := match getN (bs.drop p) with
  | some (n, j) => .tuple #[.int .i64 (n : Int), .int .i64 ((p + j : Nat) : Int), .bool true]
  | none => .tuple #[.int .i64 0, .int .i64 0, .bool false]

def ListPost (l : List Int) (w : World) (e : Ending) (w' : World) : Prop :=
  (∃ v, e = .returned v ∧ l.all isNumB = true ∧ Grew w.heap.size 5 (.slice none 0 0) w ((listB l).map B) v w') ∨ (e = .returned (.slice none 0 0) ∧ l.all isNumB = false ∧ Ext w w')

/-- What GetList answers. -/
def GLPost (r : Option (List Nat × Nat)) (w : World) (e : Ending) (w' : World) : Prop := match r with
  | some (l, q) => ∃ v', e = .returned (.tuple #[v', .int .i64 (q : Int), .bool true]) ∧ w'.ownsRow w.heap.size 3 1 v' l.length (l.map fun (n : Nat) => Value.int .i64 n) ∧ Ext w w'
  | none => e = .returned (.tuple #[.slice none 0 0, .int .i64 0, .bool false]) ∧ Ext w w'

end Go.Proofs.Ytkkmldoohokdfaa

/- Layer 1, package code: a list's bytes. -/
namespace Go.Proofs.Ytkkmldoohokdfaa
open Go.RowKit

set_option maxRecDepth 100000 in
set_option maxHeartbeats 2000000 in
theorem List_any (l : List Int) (v : Value) (w : World) (hr : Rd w v (l.map I)) (hl : l.length * 8 ≤ 140737488351232) :
    Calls Try.prog 70 #[v] w (ListPost l w) := by
  obtain ⟨A, c, rfl, hlc, hcm, hcell⟩ := hr
  simp only [List.length_map] at *
  unfold maxLen at hcm
  have hlen := numB_len8 (n := l.length) (by omega)
  go_enter Try.func70, Try.ntmps70
  go_wp2_with (go_at_call 95; refine (addNum_any w.heap.size _ [] _ _ (World.ownsRow_nil _ _ _ _) (Nat.le_refl _) (by omega) (by simp)).mono ?_; rintro e w' ⟨v', rfl, hg0⟩)
  go_loopw [3, 11] (fun v' i' wr => ∃ (k : Nat), i' = .int .i64 k ∧ k ≤ l.length ∧ (l.take k).all isNumB = true ∧ Grew w.heap.size 5 (.slice none 0 0) w ((numB l.length ++ numsB (l.take k)).map B) v' wr) (fun _ i' _ => l.length - (intOf i').toNat)
  case atStart => exact ⟨0, rfl, by omega, rfl, by simpa [numsB] using hg0⟩
  case round =>
    obtain ⟨k, rfl, hk, hall, hg⟩ := hrel
    have hbnd := numsB_len _ hall
    rw [List.length_take, Nat.min_eq_left hk] at hbnd
    have hlt : (numB l.length ++ numsB (l.take k)).length ≤ 140737488355318 := by simp only [List.length_append]; omega
    have HA := Lib.hid hall
    clear hall
    by_cases hlt2 : k < l.length
    · obtain ⟨b, o, rfl, hbl, hce⟩ := hcell (by omega)
      have hc1 : wr.cell? ⟨b, o + k, none⟩ = some (I l[k]) := (hg.ext.cell (p := ⟨b, o + k, none⟩) hbl).trans (hce k _ (by simp [hlt2]))
      clear hce hcell
      by_cases hn : isNumB l[k] = true
      · have H := Lib.hid (isNumB_iff.1 hn)
        obtain ⟨m, hm, hm2⟩ := isNum_some H.out
        have HL := Lib.hid hm
        rw [hm] at hc1
        unfold I at hc1
        clear hm hn
        go_wp2_with (first | (go_at_call 96; refine (isNum_yes _ _ (by omega) (by omega)).mono ?_; rintro e w' ⟨rfl, rfl⟩) | (go_at_call 95; refine (addNum_any w.heap.size _ _ _ _ hg.1 hg.size (by omega) hlt).mono ?_; rintro e w' ⟨v', rfl, hg2⟩))
        go_roundw
        case rel =>
          refine ⟨k + 1, by go_num, by omega, all_take_snoc hlt2 HA.out (isNumB_iff.2 H.out), ?_⟩
          rw [take_snoc l k hlt2, numsB_snoc, HL.out, Int.toNat_natCast, ← List.append_assoc]
          exact hg.trans hg2
        case measure => simp [intOf]; omega
      · have H := Lib.hid (isNumB_not (Bool.eq_false_iff.2 hn))
        unfold I at hc1
        clear hn
        go_wp2_with (first | (go_at_call 96; refine (isNum_no _ _ H.out).mono ?_; rintro e w' ⟨rfl, rfl⟩))
        go_ret
        exact .inr ⟨rfl, all_false_at hlt2 (Bool.eq_false_iff.2 fun h => H.out (isNumB_iff.1 h)), hg.ext⟩
    · have hkl : k = l.length := by omega
      subst hkl
      go_wp2
      go_ret
      rw [List.take_length] at hg HA
      exact .inl ⟨_, rfl, HA.out, hg⟩

end Go.Proofs.Ytkkmldoohokdfaa

/- Layer 2, the reference: the register behind some bytes, the sum, and a number's four bytes. -/
namespace Go.Proofs.Ytkkmldoohokdfaa
open Go.RowKit

set_option maxHeartbeats 1000000 in
theorem Behind_any (l : List UInt8) (v : Value) (r : BitVec 32) (w : World) (hr : Rd w v (l.map B)) :
    Calls Try.prog 112 #[.int .i64 (r.toNat : Int), v] w fun e w' => e = .returned (.int .i64 ((crcAll r l).toNat : Int)) ∧ w = w' := by
  obtain ⟨A, c, rfl, hlc, hcm, hca⟩ := hr
  simp only [List.length_map] at *
  unfold maxLen at hcm
  go_enter Try.func112, Try.ntmps112
  go_wp2
  go_loop [0, 5] (fun s i => ∃ k : Nat, k ≤ l.length ∧ i = .int .i64 k ∧ s = .int .i64 ((crcAll r (l.take k)).toNat : Int)) (fun _ i => l.length - (intOf i).toNat)
  case atStart => exact ⟨0, Nat.zero_le _, rfl, rfl⟩
  case round =>
    obtain ⟨k, hk, rfl, rfl⟩ := hrel
    by_cases hlt : k < l.length
    · obtain ⟨b, o, rfl, hb, hc1⟩ := hca (by omega)
      have e1 : w.cell? ⟨b, o + k, none⟩ = some (B l[k]) := hc1 k _ (by simp [hlt])
      clear hc1 hca
      have hs := crcAll_snoc hlt r
      have HS := Lib.hid hs
      clear hs
      generalize hx : l[k] = x at e1
      have HX := Lib.hid hx
      clear hx
      simp only [B] at e1
      generalize crcAll r (List.take k l) = q at *
      have hxo := xorI64 q x
      have hx8 : x.toNat ≤ 255 := by have := x.toNat_lt; omega
      generalize hy : q ^^^ BitVec.ofNat 32 x.toNat = y at hxo
      have HY := Lib.hid hy
      clear hy
      go_wp2
      clear hxo
      go_loop [0, 6] (fun s i => ∃ j : Nat, j ≤ 8 ∧ i = .int .i64 j ∧ s = .int .i64 ((crcBits j y).toNat : Int)) (fun _ i => 8 - (intOf i).toNat)
      case atStart => exact ⟨0, Nat.zero_le _, rfl, rfl⟩
      case round =>
        obtain ⟨j, hj, rfl, rfl⟩ := hrel
        by_cases hlj : j < 8
        · have hbs := crcBits_succ j y
          have HB := Lib.hid hbs
          clear hbs
          generalize crcBits j y = z at *
          have hz : z.toNat ≤ 4294967295 := by have := z.isLt; omega
          rcases Nat.mod_two_eq_zero_or_one z.toNat with h0 | h1
          · have hev := crcBit_even h0
            have HE := Lib.hid hev
            have hlow : ((z.toNat : Int) % 2 == 1) = false := by rw [beq_eq_false_iff_ne]; omega
            clear hev h0
            go_wp2
            go_round
            case rel => exact ⟨j + 1, by omega, by go_num, by rw [HB.out, ← HE.out]; go_num⟩
            case measure => simp [intOf]; omega
          · have hod := polyI64 h1
            have hlow : ((z.toNat : Int) % 2 == 1) = true := by rw [beq_iff_eq]; omega
            clear h1
            go_wp2
            go_round
            case rel => exact ⟨j + 1, by omega, by go_num, by rw [HB.out]⟩
            case measure => simp [intOf]; omega
        · obtain rfl : j = 8 := by omega
          go_wp2
          go_round
          case rel => exact ⟨k + 1, by omega, by go_num, by rw [HS.out, HX.out]; rw [crcByte, HY.out]⟩
          case measure => simp [intOf]; omega
    · obtain rfl : k = l.length := by omega
      rw [List.take_length]
      go_wp2
      go_ret
      exact ⟨rfl, rfl⟩

theorem RefPut_any (n : Int) (w : World) (_h0 : -9223372036854775808 ≤ n) (_h1 : n ≤ 9223372036854775807) :
    Calls Try.prog 97 #[.int .i64 n] w fun e w' => ∃ v', e = .returned v' ∧ Rd w' v' ((putB n).map B) ∧ Ext w w' := by
  go_enter Try.func97, Try.ntmps97
  go_wp2
  go_ret
  obtain ⟨e1, e2, e3, e4⟩ := ref_put n
  rw [e1, e2, e3, e4]
  have h := Rd.litB w (putB n) #[Value.int .u8 (n / 16777216 % 256), Value.int .u8 (n / 65536 % 256), Value.int .u8 (n / 256 % 256), Value.int .u8 (n % 256)] 5 4 w.heap.size (by simp [putB]) (by simp only [putB, B, u8_mod, List.map_cons, List.map_nil]) rfl rfl
  exact ⟨_, rfl, h, (Below.refl _ _).alloc (Nat.le_refl _) _⟩

theorem RefOf_any (l : List UInt8) (v : Value) (w : World) (hr : Rd w v (l.map B)) :
    Calls Try.prog 98 #[v] w fun e w' => e = .returned (.int .i64 ((crcOf l).toNat : Int)) ∧ w = w' := by
  have hq : (4294967295 : Int) - ((crcAll (~~~ 0#32) l).toNat : Int) = ((crcOf l).toNat : Int) := by rw [crcOf, not_nat]; have := (crcAll (~~~ 0#32) l).isLt; omega
  have hb : (crcAll (~~~ 0#32) l).toNat ≤ 4294967295 := by have := (crcAll (~~~ 0#32) l).isLt; omega
  have H := Lib.hid hq
  clear hq
  go_enter Try.func98, Try.ntmps98
  go_wp2_with fail
  refine (Behind_any l v (~~~ 0#32) _ hr).mono ?_
  rintro e w' ⟨rfl, rfl⟩
  go_wp2
  go_ret
  exact ⟨by rw [← H.out]; rfl, rfl⟩

end Go.Proofs.Ytkkmldoohokdfaa

/- The reference's layer 1: a number's bytes. -/
namespace Go.Proofs.Ytkkmldoohokdfaa
open Go.RowKit

theorem RefIs_yes (n : Int) (w : World) (h0 : 0 ≤ n) (h1 : n < 9007199254740992) :
    Calls Try.prog 99 #[.int .i64 n] w fun e w' => e = .returned (.bool true) ∧ w = w' := by
  go_enter Try.func99, Try.ntmps99
  go_wp2
  go_ret
  exact ⟨rfl, rfl⟩

theorem RefIs_no (n : Int) (w : World) (h : ¬ (0 ≤ n ∧ n < 9007199254740992)) :
    Calls Try.prog 99 #[.int .i64 n] w fun e w' => e = .returned (.bool false) ∧ w = w' := by
  by_cases h0 : 0 ≤ n
  · have h1 : 9007199254740992 ≤ n := by omega
    have h2 : decide (n < 9007199254740992) = false := by simp; omega
    clear h
    go_enter Try.func99, Try.ntmps99
    go_wp2
    go_ret
    exact ⟨rfl, rfl⟩
  · clear h
    go_enter Try.func99, Try.ntmps99
    go_wp2
    go_ret
    exact ⟨rfl, rfl⟩

theorem RefNum_no (n : Int) (w : World) (hn : ¬ (0 ≤ n ∧ n < 9007199254740992)) :
    Calls Try.prog 79 #[.int .i64 n] w fun e w' => e = .returned (.slice none 0 0) ∧ w = w' := by
  have H := Lib.hid hn
  clear hn
  go_enter Try.func79, Try.ntmps79
  go_wp2
  refine wp_loop_rounds 1 ?_
  rw [rounds_succ]
  go_wp2_with (first | (go_at_call 99; refine (RefIs_no _ _ H.out).mono ?_; rintro e w' ⟨rfl, rfl⟩))
  go_ret
  exact ⟨rfl, rfl⟩

def ifz : Nat → Nat
  | 0 => 1
  | _ + 1 => 0

/-- The reference's bytes while it goes: of n, l has been put, m is left; the last byte is without its bit. -/
def NumSt (n : Nat) (l : List UInt8) (m : Nat) : Prop :=
  (l = [] ∧ m = n) ∨ ∃ l0 c, l = l0 ++ [c] ∧ c.toNat < 128 ∧ ((m = 0 ∧ l = numB n) ∨ (0 < m ∧ l0 ++ (c + 128) :: numB m = numB n))

theorem u8_add128 {c : UInt8} (h : c.toNat < 128) : ((c + 128).toNat : Int) = (c.toNat : Int) + 128 := by
  rw [UInt8.toNat_add]
  have : (128 : UInt8).toNat = 128 := rfl
  omega

theorem u8_ofNat_add (m : Nat) : UInt8.ofNat (m % 128) + 128 = UInt8.ofNat (m % 128 + 128) := by
  apply UInt8.toNat_inj.1
  rw [UInt8.toNat_add, u8_toNat, u8_toNat]
  have : (128 : UInt8).toNat = 128 := rfl
  omega

theorem numB_end (m : Nat) (pre : List UInt8) : (m / 128 = 0 → pre ++ [UInt8.ofNat (m % 128)] = pre ++ numB m) ∧ (0 < m / 128 → pre ++ (UInt8.ofNat (m % 128) + 128) :: numB (m / 128) = pre ++ numB m) := by
  refine ⟨fun h => ?_, fun h => ?_⟩
  · rw [numB_lo (by omega), Nat.mod_eq_of_lt (by omega)]
  · rw [numB_hi (n := m) (by omega), u8_ofNat_add]

theorem NumSt.first (n : Nat) : NumSt n [UInt8.ofNat (n % 128)] (n / 128) := by
  have he := numB_end n []
  refine .inr ⟨[], _, rfl, by rw [u8_toNat]; omega, ?_⟩
  rcases Nat.eq_zero_or_pos (n / 128) with h | h
  · exact .inl ⟨h, by simpa using he.1 h⟩
  · exact .inr ⟨h, by simpa using he.2 h⟩

theorem NumSt.next {n m : Nat} {l0 : List UInt8} {c : UInt8} (h : l0 ++ (c + 128) :: numB m = numB n) : NumSt n ((l0 ++ [c + 128]) ++ [UInt8.ofNat (m % 128)]) (m / 128) := by
  have he := numB_end m (l0 ++ [c + 128])
  refine .inr ⟨l0 ++ [c + 128], _, rfl, by rw [u8_toNat]; omega, ?_⟩
  rcases Nat.eq_zero_or_pos (m / 128) with h0 | h0
  · refine .inl ⟨h0, ?_⟩
    rw [he.1 h0, ← h]
    simp
  · refine .inr ⟨h0, ?_⟩
    rw [he.2 h0, ← h]
    simp

set_option maxRecDepth 100000 in
set_option maxHeartbeats 2000000 in
theorem RefNum_yes (n : Nat) (w : World) (hn : n < 9007199254740992) :
    Calls Try.prog 79 #[.int .i64 n] w fun e w' => ∃ v', e = .returned v' ∧ Grew w.heap.size 5 (.slice none 0 0) w ((numB n).map B) v' w' := by
  go_enter Try.func79, Try.ntmps79
  go_wp2
  go_loopw [0, 3, 4] (fun n' v' i' wr => ∃ (m : Nat) (l : List UInt8), n' = .int .i64 m ∧ i' = .int .i64 l.length ∧ m < 9007199254740992 ∧ NumSt n l m ∧ Grew w.heap.size 5 (.slice none 0 0) w (l.map B) v' wr) (fun n' _ i' _ => (intOf n').toNat + ifz (intOf i').toNat)
  case atStart => exact ⟨n, [], rfl, rfl, hn, .inl ⟨rfl, rfl⟩, Grew.nil w⟩
  case round =>
    obtain ⟨m, l, rfl, rfl, hm, hst, hg⟩ := hrel
    rcases hst with ⟨rfl, rfl⟩ | ⟨l0, c, rfl, hc, hst⟩
    · have hbw := hg.size
      simp only [List.length_nil]
      go_wp2_with (first | (go_at_call 99; refine (RefIs_yes _ _ (by omega) (by omega)).mono ?_; rintro e w' ⟨rfl, rfl⟩) | (at_builtin; refine push_u8 rfl _ _ rfl w.heap.size _ _ rfl hg.1 _ rfl rfl (by simp) hbw ?_; intro v' w' hg'))
      go_roundw
      case rel =>
        have hgg := hg.trans hg'
        rw [B_eq (u := UInt8.ofNat (m % 128)) (by rw [u8_toNat]; omega)] at hgg
        exact ⟨m / 128, [UInt8.ofNat (m % 128)], by go_num, rfl, by omega, NumSt.first m, by simpa using hgg⟩
      case measure => simp [intOf, ifz]; omega
    · have hlb : l0.length < 8 := by
        have h8 := numB_len8 hn
        rcases hst with ⟨_, h⟩ | ⟨_, h⟩
        · have := congrArg List.length h
          simp only [List.length_append, List.length_singleton] at this
          omega
        · have := congrArg List.length h
          simp only [List.length_append, List.length_cons] at this
          omega
      have hib : ((l0.length : Int) + 1 == 0) = false := by rw [beq_eq_false_iff_ne]; omega
      simp only [List.length_append, List.length_singleton, Int.natCast_add, Int.natCast_one]
      rcases hst with ⟨rfl, hfin⟩ | ⟨hpos, hst⟩
      · have hF := Lib.hid hfin
        clear hfin
        simp only [Int.natCast_zero]
        go_wp2_with (first | (go_at_call 99; refine (RefIs_yes _ _ (by omega) (by omega)).mono ?_; rintro e w' ⟨rfl, rfl⟩))
        go_ret
        exact ⟨_, rfl, by rw [← hF.out]; exact hg⟩
      · have hS := Lib.hid hst
        clear hst
        obtain ⟨g, cap, rfl, hcap, hgb, hgl⟩ := hg.form (by simp)
        have hc1 : wr.cell? ⟨g, l0.length, none⟩ = some (.int .u8 (c.toNat : Int)) := by
          rw [hg.cellAt _ (by simp)]
          simp
        have hf1 := hg.frozenAt l0.length
        have hcc : (c.toNat : Int) < 128 := by omega
        have HC := Lib.hid (u8_add128 hc)
        have hg2 := hg.set l0.length (.int .u8 ((c.toNat : Int) + 128))
        have hbw := hg2.size
        rw [show ((l0 ++ [c]).map B).set l0.length (.int .u8 ((c.toNat : Int) + 128)) = (l0 ++ [c + 128]).map B by
          rw [B_eq (u := c + 128) HC.out.symm]
          simp [List.set_append_right]] at hg2
        have hlt : ((l0 ++ [c + 128]).map B).length < 140737488355328 := by simp; omega
        generalize hcn : c.toNat = cn at hc1 hcc hc hg2 hbw
        have HCN := Lib.hid hcn
        clear hcn
        rw [List.length_map, List.length_append, List.length_singleton] at hg2 ⊢
        go_wp2_with (first | (go_at_call 99; refine (RefIs_yes _ _ (by omega) (by omega)).mono ?_; rintro e w' ⟨rfl, rfl⟩) | (at_builtin; refine push_u8 rfl _ _ rfl w.heap.size _ _ rfl hg2.1 _ rfl rfl hlt hbw ?_; intro v' w' hg'))
        go_roundw
        case rel =>
          have hgg := hg2.trans hg'
          rw [B_eq (u := UInt8.ofNat (m % 128)) (by rw [u8_toNat]; omega)] at hgg
          exact ⟨m / 128, (l0 ++ [c + 128]) ++ [UInt8.ofNat (m % 128)], by go_num, by simp; omega, by omega, NumSt.next hS.out, by simpa using hgg⟩
        case measure =>
          simp only [intOf]
          rw [show ((l0.length : Int) + 1 + 1).toNat = l0.length + 1 + 1 by omega, show ((l0.length : Int) + 1).toNat = l0.length + 1 by omega, ifz, ifz]
          omega

end Go.Proofs.Ytkkmldoohokdfaa

/- The reference's words for 'the same bytes'. -/
namespace Go.Proofs.Ytkkmldoohokdfaa
open Go.RowKit

set_option maxHeartbeats 1000000 in
theorem Bytes_any (xs ys : List UInt8) (u v : Value) (w : World) (hu : Rd w u (xs.map B)) (hv : Rd w v (ys.map B)) :
    Calls Try.prog 23 #[u, v] w fun e w' => e = .returned (.bool (decide (xs = ys))) ∧ ∃ n, w' = w.drewN n := by
  obtain ⟨A, c, rfl, hlc, hcm, hca⟩ := hu
  obtain ⟨A', c', rfl, hlc', hcm', hcb⟩ := hv
  simp only [List.length_map] at *
  unfold maxLen at hcm hcm'
  by_cases hl : xs.length = ys.length
  · have HL := Lib.hid hl
    rw [hl] at hlc hca ⊢
    clear hl
    go_enter Try.func23, Try.ntmps23
    go_wp2
    go_loopw [5] (fun i' wr => ∃ i k : Nat, i' = .int .i64 i ∧ i ≤ ys.length ∧ xs.take i = ys.take i ∧ wr = w.drewN k) (fun i' _ => ys.length - (intOf i').toNat)
    case atStart => exact ⟨0, 0, rfl, by omega, rfl, rfl⟩
    case round =>
      obtain ⟨i, k, rfl, hi, htk, rfl⟩ := hrel
      have HT := Lib.hid htk
      clear htk
      by_cases hlt : i < ys.length
      · have hlx : i < xs.length := by have := HL.out; omega
        obtain ⟨b, o, rfl, hb, hc1⟩ := hca (by omega)
        obtain ⟨b', o', rfl, hb', hc2⟩ := hcb (by omega)
        have e1 : w.cell? ⟨b, o + i, none⟩ = some (B xs[i]) := hc1 i _ (by simp [hlx])
        have e2 : w.cell? ⟨b', o' + i, none⟩ = some (B ys[i]) := hc2 i _ (by simp [hlt])
        clear hc1 hc2 hca hcb
        generalize hx : xs[i] = x at e1
        generalize hy : ys[i] = y at e2
        have HX := Lib.hid hx
        have HY := Lib.hid hy
        clear hx hy
        simp only [B] at e1 e2
        by_cases hxy : x = y
        · subst hxy
          go_wp2
          go_quiet (fail)
          go_wp2
          go_roundw
          case rel => exact ⟨i + 1, _, by go_num, by omega, by rw [take_snoc _ _ hlx, take_snoc _ _ hlt, HT.out, HX.out, HY.out], rfl⟩
          case measure => simp [intOf]; omega
        · have hne : ((x.toNat : Int) == (y.toNat : Int)) = false := by rw [beq_eq_false_iff_ne]; intro e; exact hxy (by first | exact UInt8.toNat_inj.1 (by omega) | omega)
          have hne2 : ((x.toNat : Int) != (y.toNat : Int)) = true := by rw [bne_iff_ne]; intro e; exact hxy (by first | exact UInt8.toNat_inj.1 (by omega) | omega)
          have HN := Lib.hid hxy
          clear hxy
          go_wp2
          go_quiet (fail)
          go_wp2
          go_ret
          refine ⟨?_, _, World.drewN_drewN _ _ _⟩
          rw [decide_eq_false (fun e => HN.out (by rw [← HX.out, ← HY.out]; simp only [e]))]
          rfl
      · obtain rfl : i = ys.length := by omega
        go_wp2
        go_ret
        refine ⟨?_, _, rfl⟩
        have := HT.out
        rw [List.take_length, ← HL.out, List.take_length] at this
        rw [decide_eq_true this]
        rfl
  · have hlb : ((xs.length : Int) == (ys.length : Int)) = false := by rw [beq_eq_false_iff_ne]; omega
    have H := Lib.hid hl
    clear hl
    go_enter Try.func23, Try.ntmps23
    go_wp2
    go_ret
    exact ⟨by rw [decide_eq_false (fun e => H.out (by rw [e]))]; rfl, 0, rfl⟩

end Go.Proofs.Ytkkmldoohokdfaa

/- Layer 3, the reference: a payload's frame. -/
namespace Go.Proofs.Ytkkmldoohokdfaa
open Go.RowKit

theorem B_one : Value.int .u8 1 = B 1 := rfl

set_option maxHeartbeats 1000000 in
theorem RefFrame_yes (p : List UInt8) (v : Value) (w : World) (hr : Rd w v (p.map B)) (hp : 1 ≤ p.length ∧ p.length ≤ 4000) :
    Calls Try.prog 71 #[v] w fun e w' => ∃ v', e = .returned v' ∧ Grew w.heap.size 5 (.slice none 0 0) w ((frameB p).map B) v' w' := by
  obtain ⟨A, c, rfl, hlc, hcm⟩ := hr.sliceN (List.length_map _)
  unfold maxLen at hcm
  have hl8 := numB_len8 (n := p.length) (by omega)
  have hd1 : decide ((p.length : Int) < 1) = false := by simp; omega
  have hd2 : decide (4000 < (p.length : Int)) = false := by simp; omega
  have hs1 : ((crcOf p).toNat : Int) ≤ 9223372036854775807 := by have := (crcOf p).isLt; omega
  have hs0 : -9223372036854775808 ≤ ((crcOf p).toNat : Int) := by omega
  have hle := hp.2
  have HP := Lib.hid hp
  have hp2 : p.length < 9007199254740992 := by omega
  clear hp
  go_enter Try.func71, Try.ntmps71
  go_wp2_with fail
  refine (RefNum_yes p.length _ hp2).mono ?_
  rintro e w2 ⟨v2, rfl, hg2⟩
  obtain ⟨A2, c2, rfl⟩ := hg2.slice_ (n := (numB p.length).length) (List.length_map _)
  have hr2 := Rd.own hg2.own
  have hx2 := hg2.ext
  have hp2 := hr.ext hx2
  clear hg2
  go_wp2_with (first | (at_builtin; refine app_u8 rfl _ _ rfl w2.heap.size _ [] rfl (World.ownsRow_nil _ _ _ _) _ (numB p.length) rfl hr2 (by simp; omega) (Nat.le_refl _) ?_; intro v3 w3 hg3; rw [List.nil_append] at hg3; obtain ⟨A3, c3, rfl⟩ := hg3.slice_ (n := (numB p.length).length) (by rw [List.length_map])) | (at_builtin; refine app_u8 rfl _ _ rfl w2.heap.size _ _ rfl hg3.1 _ p rfl (hp2.ext hg3.ext) (by rw [List.length_map]; omega) hg3.size ?_; intro v4 w4 hh4; have hg4 := hg3.trans hh4; rw [← List.map_append] at hg4; obtain ⟨A4, c4, rfl⟩ := hg4.slice_ (n := (numB p.length).length + p.length) (by rw [List.length_map, List.length_append]); clear hh4))
  have hp4 := hp2.ext hg4.ext
  refine (RefOf_any p _ _ hp4).mono ?_
  rintro e w5 ⟨rfl, rfl⟩
  go_wp2_with fail
  refine (RefPut_any _ _ hs0 hs1).mono ?_
  rintro e w5 ⟨v5, rfl, hr5, hx5⟩
  obtain ⟨A5, c5, rfl, _, _⟩ := hr5.sliceN (n := 4) rfl
  have hg5 := hg4.step hx5
  clear hg3 hg4 hp4 hx5
  go_wp2_with (first | (at_builtin; refine app_u8 rfl _ _ rfl w2.heap.size _ _ rfl hg5.1 _ (putB ((crcOf p).toNat : Int)) rfl hr5 (by rw [List.length_map, List.length_append, putB_len]; omega) hg5.size ?_; intro v6 w6 hh6; have hg6 := hg5.trans hh6; rw [← List.map_append] at hg6; obtain ⟨A6, c6, rfl⟩ := hg6.slice_ (n := (numB p.length).length + p.length + 4) (by rw [List.length_map, List.length_append, List.length_append, putB_len]); clear hh6) | (at_builtin; refine push_u8 rfl _ _ rfl w2.heap.size _ _ rfl hg6.1 _ rfl rfl (by rw [List.length_map, List.length_append, List.length_append, putB_len]; omega) hg6.size ?_; intro v7 w7 hg7))
  have hg8 := hg6.trans hg7
  rw [B_one] at hg8
  go_ret
  refine ⟨_, rfl, ?_⟩
  have e : (frameB p).map B = List.map B (numB p.length ++ p ++ putB ((crcOf p).toNat : Int)) ++ [B 1] := by
    rw [frameB_yes HP.out]
    simp
  rw [e]
  exact Grew.from_ext hx2 hg8

theorem RefFrame_no (p : List UInt8) (v : Value) (w : World) (hr : Rd w v (p.map B)) (hp : ¬ (1 ≤ p.length ∧ p.length ≤ 4000)) :
    Calls Try.prog 71 #[v] w fun e w' => e = .returned (.slice none 0 0) ∧ w = w' := by
  obtain ⟨A, c, rfl, hlc, hcm⟩ := hr.sliceN (List.length_map _)
  unfold maxLen at hcm
  by_cases h1 : p.length < 1
  · have hd1 : decide ((p.length : Int) < 1) = true := by simp; omega
    clear hp
    go_enter Try.func71, Try.ntmps71
    go_wp2
    go_ret
    exact ⟨rfl, rfl⟩
  · have hd1 : decide ((p.length : Int) < 1) = false := by simp; omega
    have hd2 : decide (4000 < (p.length : Int)) = true := by simp; omega
    clear hp
    go_enter Try.func71, Try.ntmps71
    go_wp2
    go_ret
    exact ⟨rfl, rfl⟩

theorem RefFrame_any (p : List UInt8) (v : Value) (w : World) (hr : Rd w v (p.map B)) :
    Calls Try.prog 71 #[v] w fun e w' => ∃ v', e = .returned v' ∧ Grew w.heap.size 5 (.slice none 0 0) w ((frameB p).map B) v' w' := by
  by_cases hp : 1 ≤ p.length ∧ p.length ≤ 4000
  · exact RefFrame_yes p v w hr hp
  · refine (RefFrame_no p v w hr hp).mono ?_
    rintro e w' ⟨rfl, rfl⟩
    rw [frameB_no hp]
    exact ⟨_, rfl, Grew.nil w⟩

end Go.Proofs.Ytkkmldoohokdfaa

/- The reference's layer 1: the number at a place. -/
namespace Go.Proofs.Ytkkmldoohokdfaa
open Go.RowKit

def GNRel (bs : List UInt8) (p : Nat) (n' s' i' : Value) : Prop :=
  ∃ (i acc st : Nat), i' = .int .i64 i ∧ n' = .int .i64 acc ∧ s' = .int .i64 st ∧ Hid (st = 128 ^ i) ∧ i ≤ 8 ∧ acc < 128 ^ i ∧ Hid (scanN (8 - i) (bs.drop (p + i)) i acc = getN (bs.drop p))

set_option maxRecDepth 100000 in
set_option maxHeartbeats 4000000 in
theorem RefGetNum_at (bs : List UInt8) (v : Value) (p : Nat) (w : World) (hr : Rd w v (bs.map B)) (hp63 : p < 9223372036854775808) :
    Calls Try.prog 90 #[v, .int .i64 p] w fun e w' => e = .returned (numAt bs p) ∧ Ext w w' := by
  obtain ⟨A, c, rfl, hlc, hcm, hcell⟩ := hr
  simp only [List.length_map] at *
  unfold maxLen at hcm
  by_cases hpl : p < bs.length
  · obtain ⟨b, o, rfl, hbl, hce⟩ := hcell (by omega)
    clear hcell
    go_enter Try.func90, Try.ntmps90
    go_wp2
    go_loop [7, 8, 9] (fun n' s' i' => GNRel bs p n' s' i') (fun _ _ i' => 8 - (intOf i').toNat)
    case atStart => exact ⟨0, 0, 1, rfl, rfl, rfl, rfl, by omega, by omega, rfl⟩
    case round =>
      obtain ⟨i, acc, st, rfl, rfl, rfl, hst, hi, hacc, hsc0⟩ := hrel
      have hsc := hsc0.out
      clear hsc0
      by_cases h8 : i < 8
      · by_cases hp : p + i < bs.length
        · have hc1 : w.cell? ⟨b, o + (p + i), none⟩ = some (B bs[p + i]) := hce (p + i) _ (by simp [hp])
          clear hce
          rw [show 8 - i = (7 - i) + 1 by omega, scanN_step i acc (drop_cons hp)] at hsc
          have hcl := bs[p + i].toNat_lt
          unfold B at hc1
          generalize bs[p + i].toNat = c at hc1 hsc hcl
          have hlt := group_lt i acc c h8 hacc
          have hl8 := pow128_le (show i + 1 ≤ 8 by omega)
          have hl7 := pow128_le (show i ≤ 7 by omega)
          have hst7 : st ≤ 562949953421312 := by have := hst.out; omega
          have hlen := fun hc => numB_group_len (c := c) hacc hc
          have hq : Hid (128 ^ i * (c % 128) = st * (c % 128)) := by unfold Hid; rw [hst.out]
          rw [hq.out] at hlt hsc hlen
          have hql : st * (c % 128) ≤ 71494644084506624 := Nat.le_trans (Nat.mul_le_mul hst7 (show c % 128 ≤ 127 by omega)) (by omega)
          have hqc : (st : Int) * ((c : Int) % 128) = ((st * (c % 128) : Nat) : Int) := by simp
          generalize st * (c % 128) = q at *
          have hw1 : IntKind.i64.wrap ((st : Int) * ((c : Int) % 128)) = (q : Int) := by rw [hqc]; exact IntWalk.i64_in _ (by omega)
          clear hqc
          generalize hN : acc + q = N at hsc hlt hlen
          have hNi : (acc : Int) + (q : Int) = (N : Int) := by omega
          have hw2 : IntKind.i64.wrap ((acc : Int) + (q : Int)) = (N : Int) := by rw [hNi]; exact IntWalk.i64_in _ (by omega)
          have HN := Lib.hid hN
          clear hN
          by_cases hc : 128 ≤ c
          · rw [if_pos hc] at hsc
            have hSC := Lib.hid hsc
            have HL := Lib.hid hlen
            clear hsc hlen
            clear hNi
            go_wp2
            refine ⟨⟨_, _, _, _, _, _, ⟨i + 1, N, st * 128, rfl, rfl, rfl, by unfold Hid; rw [hst.out, Nat.pow_succ], by omega, hlt, by unfold Hid; rw [← hSC.out, show 8 - (i + 1) = 7 - i by omega]; rfl⟩, rfl, rfl, rfl, rfl, by go_num, by go_num⟩, ?_⟩
            simp [intOf]; omega
          · rw [if_neg hc] at hsc
            have hln := hlen (by omega)
            clear hlen
            by_cases hn : 9007199254740992 ≤ N
            · rw [if_pos (.inl hn)] at hsc
              have hF : Hid (numAt bs p = .tuple #[.int .i64 0, .int .i64 0, .bool false]) := by unfold Hid; rw [numAt, ← hsc]
              have hno : Hid (¬ (0 ≤ (N : Int) ∧ (N : Int) < 9007199254740992)) := by unfold Hid; omega
              have hib : (((0 : Int) == (i : Int) + 1) = false) := by rw [beq_eq_false_iff_ne]; omega
              have hib2 : (((0 : Int) != (i : Int) + 1) = true) := by rw [bne_iff_ne]; omega
              clear hsc hn hln hNi
              go_wp2_with (go_at_call 79; refine (RefNum_no _ _ hno.out).mono ?_; rintro e w2 ⟨rfl, rfl⟩)
              go_ret3
              exact ⟨by rw [hF.out]; rfl, Ext.refl _⟩
            · have hnl : N < 9007199254740992 := by omega
              have hNL := Lib.hid hnl
              by_cases hc0 : c = 0 ∧ 0 < i
              · rw [if_pos (.inr hc0)] at hsc
                have hF : Hid (numAt bs p = .tuple #[.int .i64 0, .int .i64 0, .bool false]) := by unfold Hid; rw [numAt, ← hsc]
                have hne : ¬ (numB N).length = i + 1 := fun h => (hln.1 h) hc0
                have hib : (((numB N).length : Int) == (i : Int) + 1) = false := by rw [beq_eq_false_iff_ne]; omega
                have hib2 : (((numB N).length : Int) != (i : Int) + 1) = true := by rw [bne_iff_ne]; omega
                clear hsc hn hnl hln hNi hne hc0
                go_wp2_with (go_at_call 79; refine (RefNum_yes N _ hNL.out).mono ?_; rintro e w2 ⟨v2, rfl, hg2⟩; obtain ⟨A2, c2, rfl⟩ := hg2.slice_ (n := (numB N).length) (List.length_map _))
                go_ret3
                exact ⟨by rw [hF.out]; rfl, hg2.ext⟩
              · rw [if_neg (by omega)] at hsc
                have hF : Hid (numAt bs p = .tuple #[.int .i64 (N : Int), .int .i64 ((p + (i + 1) : Nat) : Int), .bool true]) := by unfold Hid; rw [numAt, ← hsc]
                have hne : (numB N).length = i + 1 := hln.2 hc0
                have hib : (((numB N).length : Int) == (i : Int) + 1) = true := by rw [beq_iff_eq]; omega
                have hib2 : (((numB N).length : Int) != (i : Int) + 1) = false := by rw [bne_eq_false_iff_eq]; omega
                clear hsc hn hnl hln hNi hne hc0
                go_wp2_with (go_at_call 79; refine (RefNum_yes N _ hNL.out).mono ?_; rintro e w2 ⟨v2, rfl, hg2⟩; obtain ⟨A2, c2, rfl⟩ := hg2.slice_ (n := (numB N).length) (List.length_map _))
                go_ret3
                exact ⟨by rw [hF.out]; simp; omega, hg2.ext⟩
        · rw [List.drop_eq_nil_of_le (by omega), show 8 - i = (7 - i) + 1 by omega, scanN] at hsc
          have hF : Hid (numAt bs p = .tuple #[.int .i64 0, .int .i64 0, .bool false]) := by unfold Hid; rw [numAt, ← hsc]
          clear hsc
          go_wp2
          go_ret3
          exact ⟨by rw [hF.out]; rfl, Ext.refl _⟩
      · rw [show 8 - i = 0 by omega, scanN] at hsc
        have hF : Hid (numAt bs p = .tuple #[.int .i64 0, .int .i64 0, .bool false]) := by unfold Hid; rw [numAt, ← hsc]
        clear hsc
        go_wp2
        go_ret3
        exact ⟨by rw [hF.out]; rfl, Ext.refl _⟩
  · have hF : Hid (numAt bs p = .tuple #[.int .i64 0, .int .i64 0, .bool false]) := by
      unfold Hid
      rw [numAt, List.drop_eq_nil_of_le (by omega)]
      rfl
    clear hcell
    go_enter Try.func90, Try.ntmps90
    go_wp2
    go_ret3
    exact ⟨by rw [hF.out]; rfl, Ext.refl _⟩

theorem RefGetNum_neg (bs : List UInt8) (v : Value) (p : Int) (w : World) (hr : Rd w v (bs.map B)) (hp : p < 0) :
    Calls Try.prog 90 #[v, .int .i64 p] w fun e w' => e = .returned (.tuple #[.int .i64 0, .int .i64 0, .bool false]) ∧ w = w' := by
  obtain ⟨A, c, rfl, _⟩ := hr.slice_
  go_enter Try.func90, Try.ntmps90
  go_wp2
  go_ret3
  exact ⟨rfl, rfl⟩

theorem RefGetNum_some (bs : List UInt8) (v : Value) (p n j : Nat) (w : World) (hr : Rd w v (bs.map B)) (hp63 : p < 9223372036854775808) (h : getN (bs.drop p) = some (n, j)) :
    Calls Try.prog 90 #[v, .int .i64 p] w fun e w' => e = .returned (.tuple #[.int .i64 n, .int .i64 ((p + j : Nat) : Int), .bool true]) ∧ Ext w w' := by
  have e : numAt bs p = .tuple #[.int .i64 n, .int .i64 ((p + j : Nat) : Int), .bool true] := by rw [numAt, h]
  rw [← e]
  exact RefGetNum_at bs v p w hr hp63

theorem RefGetNum_none (bs : List UInt8) (v : Value) (p : Nat) (w : World) (hr : Rd w v (bs.map B)) (hp63 : p < 9223372036854775808) (h : getN (bs.drop p) = none) :
    Calls Try.prog 90 #[v, .int .i64 p] w fun e w' => e = .returned (.tuple #[.int .i64 0, .int .i64 0, .bool false]) ∧ Ext w w' := by
  have e : numAt bs p = .tuple #[.int .i64 0, .int .i64 0, .bool false] := by rw [numAt, h]
  rw [← e]
  exact RefGetNum_at bs v p w hr hp63

end Go.Proofs.Ytkkmldoohokdfaa

/- Layer 3, the reference: what stands at a place. -/
namespace Go.Proofs.Ytkkmldoohokdfaa
open Go.RowKit

/-- What Get answers. -/
def GetPost (bs : List UInt8) (i : Int) (w : World) (e : Ending) (w' : World) : Prop :=
  ∃ v', e = .returned (.tuple #[v', .int .i64 (getF bs i).2.1, .int .i64 (getF bs i).2.2]) ∧ Grew w.heap.size 5 (.slice none 0 0) w ((getF bs i).1.map B) v' w'

theorem GetPost.none_ {bs : List UInt8} {i : Int} {w w' : World} {t : Int} (h : getF bs i = ([], i, t)) (hx : Ext w w') : GetPost bs i w (.returned (.tuple #[.slice none 0 0, .int .i64 i, .int .i64 t])) w' := by
  rw [GetPost, h]
  exact ⟨_, rfl, (Grew.nil w).step hx⟩

theorem RefGet_low (bs : List UInt8) (v : Value) (i : Int) (w : World) (hr : Rd w v (bs.map B)) (h : i < 0 ∨ (bs.length : Int) < i) : Calls Try.prog 66 #[v, .int .i64 i] w (GetPost bs i w) := by
  obtain ⟨A, c, rfl, hlc, hcm⟩ := hr.sliceN (List.length_map _)
  unfold maxLen at hcm
  have hp := GetPost.none_ (w := w) (getF_low h) (Ext.refl w)
  have HP := Lib.hid hp
  clear hp
  by_cases h0 : i < 0
  · clear h
    go_enter Try.func66, Try.ntmps66
    go_wp2
    go_ret3
    exact HP.out
  · have h1 : decide ((bs.length : Int) < i) = true := by simp; omega
    clear h
    go_enter Try.func66, Try.ntmps66
    go_wp2
    go_ret3
    exact HP.out

theorem RefGet_done (bs : List UInt8) (v : Value) (w : World) (hr : Rd w v (bs.map B)) : Calls Try.prog 66 #[v, .int .i64 (bs.length : Int)] w (GetPost bs (bs.length : Int) w) := by
  obtain ⟨A, c, rfl, hlc, hcm⟩ := hr.sliceN (List.length_map _)
  unfold maxLen at hcm
  have hp := GetPost.none_ (w := w) (getF_done bs) (Ext.refl w)
  have HP := Lib.hid hp
  clear hp
  go_enter Try.func66, Try.ntmps66
  go_wp2
  go_ret3
  exact HP.out

theorem RefGet_nought (bs : List UInt8) (v : Value) (k : Nat) (w : World) (hr : Rd w v (bs.map B)) (h : k < bs.length) (h0 : bs[k] = 0) : Calls Try.prog 66 #[v, .int .i64 (k : Int)] w (GetPost bs (k : Int) w) := by
  obtain ⟨A, c, rfl, hlc, hcm⟩ := hr.sliceN (List.length_map _)
  unfold maxLen at hcm
  have hp := GetPost.none_ (w := w) (getF_nought h h0) (Ext.refl w)
  have HP := Lib.hid hp
  clear hp
  obtain ⟨b, o, rfl, hb, hc⟩ := hr.get (by rw [List.length_map]; omega)
  have e1 : w.cell? ⟨b, o + k, none⟩ = some (.int .u8 0) := hc k _ (by rw [List.getElem?_map, List.getElem?_eq_getElem h, h0]; rfl)
  clear hc h0
  go_enter Try.func66, Try.ntmps66
  go_wp2
  go_ret3
  exact HP.out

theorem RefGet_num (bs : List UInt8) (v : Value) (k : Nat) (w : World) (hr : Rd w v (bs.map B)) (h : k < bs.length) (h0 : bs[k] ≠ 0) (hg : getN (bs.drop k) = none) : Calls Try.prog 66 #[v, .int .i64 (k : Int)] w (GetPost bs (k : Int) w) := by
  obtain ⟨A, c, rfl, hlc, hcm⟩ := hr.sliceN (List.length_map _)
  unfold maxLen at hcm
  have hf : getF bs (k : Int) = ([], (k : Int), 2) := by rw [getF_there h h0, frameAt_none hg]
  have HF := Lib.hid hf
  have HG := Lib.hid hg
  clear hf hg
  have hr0 := hr
  obtain ⟨b, o, rfl, hb, hc⟩ := hr0.get (by rw [List.length_map]; omega)
  have e1 : w.cell? ⟨b, o + k, none⟩ = some (B bs[k]) := hc k _ (by rw [List.getElem?_map, List.getElem?_eq_getElem h]; rfl)
  have hne : ((bs[k].toNat : Int) == 0) = false := by rw [beq_eq_false_iff_ne]; intro e; exact h0 (UInt8.toNat_inj.1 (by show bs[k].toNat = 0; omega))
  generalize bs[k] = x at *
  simp only [B] at e1
  clear hc h0
  go_enter Try.func66, Try.ntmps66
  go_wp2_with fail
  refine (RefGetNum_none bs _ k _ hr (by omega) HG.out).mono ?_
  rintro e w1 ⟨rfl, hx1⟩
  go_wp2
  go_ret3
  exact GetPost.none_ HF.out hx1

set_option maxHeartbeats 400000 in
theorem RefGet_size (bs : List UInt8) (v : Value) (k n j : Nat) (w : World) (hr : Rd w v (bs.map B)) (h : k < bs.length) (h0 : bs[k] ≠ 0) (hg : getN (bs.drop k) = some (n, j)) (hn : n < 1 ∨ (1 ≤ n ∧ 4000 < n) ∨ (1 ≤ n ∧ n ≤ 4000 ∧ bs.length < k + j + n)) : Calls Try.prog 66 #[v, .int .i64 (k : Int)] w (GetPost bs (k : Int) w) := by
  obtain ⟨A, c, rfl, hlc, hcm⟩ := hr.sliceN (List.length_map _)
  unfold maxLen at hcm
  have hle := getN_le hg
  rw [List.length_drop] at hle
  have hf : getF bs (k : Int) = ([], (k : Int), 2) := by rw [getF_there h h0, frameAt_no hg (by rw [List.length_drop]; omega)]
  have HF := Lib.hid hf
  have HG := Lib.hid hg
  clear hf hg
  have hr0 := hr
  obtain ⟨b, o, rfl, hb, hc⟩ := hr0.get (by rw [List.length_map]; omega)
  have e1 : w.cell? ⟨b, o + k, none⟩ = some (B bs[k]) := hc k _ (by rw [List.getElem?_map, List.getElem?_eq_getElem h]; rfl)
  have hne : ((bs[k].toNat : Int) == 0) = false := by rw [beq_eq_false_iff_ne]; intro e; exact h0 (UInt8.toNat_inj.1 (by show bs[k].toNat = 0; omega))
  generalize bs[k] = x at *
  simp only [B] at e1
  clear hc h0
  rcases hn with hn | ⟨hn1, hn2⟩ | ⟨hn1, hn2, hn3⟩
  all_goals
    go_enter Try.func66, Try.ntmps66
    go_wp2_with fail
    refine (RefGetNum_some bs _ k n j _ hr (by omega) HG.out).mono ?_
    rintro e w1 ⟨rfl, hx1⟩
    go_wp2
    go_ret3
    exact GetPost.none_ HF.out hx1

set_option maxHeartbeats 2000000 in
theorem RefGet_frame (bs : List UInt8) (v : Value) (k n j : Nat) (w : World) (hr : Rd w v (bs.map B)) (h : k < bs.length) (h0 : bs[k] ≠ 0) (hg : getN (bs.drop k) = some (n, j)) (hn : 1 ≤ n ∧ n ≤ 4000 ∧ k + j + n ≤ bs.length) : Calls Try.prog 66 #[v, .int .i64 (k : Int)] w (GetPost bs (k : Int) w) := by
  obtain ⟨A, c, rfl, hlc, hcm⟩ := hr.sliceN (List.length_map _)
  unfold maxLen at hcm
  have hle := getN_le hg
  rw [List.length_drop] at hle
  obtain ⟨p, hp⟩ : ∃ p, p = ((bs.drop k).drop j).take n := ⟨_, rfl⟩
  have hpl : p.length = n := by rw [hp, List.length_take, List.length_drop, List.length_drop]; omega
  have hfl : (frameB p).length = j + n + 5 := by
    rw [frameB_len (by omega), hpl, getN_get hg, List.length_take, List.length_drop]
    omega
  have hcut := hr.cut (k + j) n (by rw [List.length_map]; omega)
  rw [if_neg (by omega), ← List.map_drop, ← List.map_take, ← List.drop_drop, ← hp] at hcut
  have hno : (¬ (j + n + 5 ≤ bs.length - k)) → getF bs (k : Int) = ([], (k : Int), 2) := fun hc => by
    rw [getF_there h h0, frameAt_no hg (by rw [List.length_drop]; omega)]
  have hno2 : (frameB p = (bs.drop k).take (j + n + 5)) = False → getF bs (k : Int) = ([], (k : Int), 2) := fun hc => by
    rw [getF_there h h0, frameAt_no hg (by rw [← hp]; intro hh; rw [← hc]; exact hh.2.2.symm)]
  have hyes : j + n + 5 ≤ bs.length - k → frameB p = (bs.drop k).take (j + n + 5) → getF bs (k : Int) = (p, (k : Int) + ((j + n + 5 : Nat) : Int), 1) := fun hc he => by
    rw [getF_there h h0, frameAt_yes hg (by rw [List.length_drop, ← hp]; exact ⟨⟨hn.1, hn.2.1⟩, by omega, he.symm⟩), ← hp]
  have HNO := Lib.hid hno
  have HNO2 := Lib.hid hno2
  have HYES := Lib.hid hyes
  have HG := Lib.hid hg
  have HFL := Lib.hid hfl
  have HPL := Lib.hid hpl
  clear hno hno2 hyes hg hfl hp
  have hr0 := hr
  obtain ⟨b, o, rfl, hb, hc⟩ := hr0.get (by rw [List.length_map]; omega)
  have e1 : w.cell? ⟨b, o + k, none⟩ = some (B bs[k]) := hc k _ (by rw [List.getElem?_map, List.getElem?_eq_getElem h]; rfl)
  have hne : ((bs[k].toNat : Int) == 0) = false := by rw [beq_eq_false_iff_ne]; intro e; exact h0 (UInt8.toNat_inj.1 (by show bs[k].toNat = 0; omega))
  generalize bs[k] = x at *
  simp only [B] at e1
  clear hc h0 hpl
  simp only [Option.map_some, Addr.add_lit] at hcut
  obtain ⟨hn1, hn2, hn3⟩ := hn
  go_enter Try.func66, Try.ntmps66
  go_wp2_with fail
  refine (RefGetNum_some bs _ k n j _ hr (by omega) HG.out).mono ?_
  rintro e w1 ⟨rfl, hx1⟩
  have hcut1 : Rd (w1.alloc (.cells #[] 5)) (.slice (some ⟨b, o + (k + j), none⟩) (k + j + n - (k + j)) (c - (k + j))) (p.map B) := by
    rw [show k + j + n - (k + j) = n by omega]
    exact hcut.ext (hx1.alloc hx1.size (.cells #[] 5))
  go_wp2_with (at_builtin; refine app_u8 rfl _ _ rfl w1.heap.size _ [] rfl (own_none _ _ _ rfl) _ p rfl hcut1 (by simp; have := HPL.out; omega) (by simp) ?_; intro v2 w2 hg2; rw [List.nil_append] at hg2; have hg3 := Grew.from_empty rfl hg2; obtain ⟨A3, c3, rfl⟩ := hg3.slice_ (n := n) (by rw [List.length_map, HPL.out]); clear hg2)
  have hr3 := Rd.own hg3.own
  refine (RefFrame_any p _ _ hr3).mono ?_
  rintro e w4 ⟨v4, rfl, hg4⟩
  obtain ⟨A4, c4, rfl⟩ := hg4.slice_ (n := j + n + 5) (by rw [List.length_map, HFL.out])
  have hx4 := Ext.trans hx1 (Ext.trans hg3.ext hg4.ext)
  have hg5 := Grew.from_ext hx1 (hg3.step hg4.ext)
  have hr4 := Rd.own hg4.own
  clear hg3 hg4 hr3 hcut hcut1
  by_cases hl : j + n + 5 ≤ bs.length - k
  · have hcut := (hr.ext hx4).cut k (j + n + 5) (by rw [List.length_map]; omega)
    rw [if_neg (by omega), ← List.map_drop, ← List.map_take] at hcut
    simp only [Option.map_some, Addr.add_lit] at hcut
    have hyes := HYES.out hl
    have HYES := Lib.hid hyes
    clear hyes HNO
    go_wp2_with fail
    refine (Bytes_any _ _ _ _ _ hr4 hcut).mono ?_
    rintro e w6 ⟨rfl, n6, rfl⟩
    by_cases hd : frameB p = (bs.drop k).take (j + n + 5)
    · have hf := HYES.out hd
      have HF := Lib.hid hf
      rw [decide_eq_true hd]
      clear hf HYES HNO2 hd
      go_wp2
      go_ret3
      rw [GetPost, HF.out]
      exact ⟨_, by go_num, hg5.step (Below.drewN' (Ext.refl _) _)⟩
    · have hf := HNO2.out (eq_false hd)
      have HF := Lib.hid hf
      rw [decide_eq_false hd]
      clear hf HYES HNO2 hd
      go_wp2
      go_ret3
      exact GetPost.none_ HF.out (Below.drewN' hx4 _)
  · have hf := HNO.out hl
    have HF := Lib.hid hf
    clear hf HNO HNO2 HYES
    go_wp2
    go_ret3
    exact GetPost.none_ HF.out hx4

theorem RefFrameGet_any (bs : List UInt8) (v : Value) (i : Int) (w : World) (hr : Rd w v (bs.map B)) : Calls Try.prog 66 #[v, .int .i64 i] w (GetPost bs i w) := by
  by_cases hi : i < 0 ∨ (bs.length : Int) < i
  · exact RefGet_low bs v i w hr hi
  · obtain ⟨k, rfl⟩ : ∃ k : Nat, i = k := ⟨i.toNat, by omega⟩
    by_cases he : k = bs.length
    · rw [he]
      exact RefGet_done bs v w hr
    · have hk : k < bs.length := by omega
      by_cases h0 : bs[k] = 0
      · exact RefGet_nought bs v k w hr hk h0
      · rcases hg : getN (bs.drop k) with _ | ⟨n, j⟩
        · exact RefGet_num bs v k w hr hk h0 hg
        · by_cases hn : 1 ≤ n ∧ n ≤ 4000 ∧ k + j + n ≤ bs.length
          · exact RefGet_frame bs v k n j w hr hk h0 hg hn
          · exact RefGet_size bs v k n j w hr hk h0 hg (by omega)

end Go.Proofs.Ytkkmldoohokdfaa

/- Layer 3: what Put and Get of package frame answer. -/
namespace Go.Proofs.Ytkkmldoohokdfaa
open Go.RowKit

def BytesRd (w : World) (l : List UInt8) (e : Ending) (w' : World) : Prop := ∃ v', e = .returned v' ∧ Rd w' v' (l.map B) ∧ Ext w w'
def GetRd (bs : List UInt8) (i : Int) (w : World) (e : Ending) (w' : World) : Prop :=
  ∃ v', e = .returned (.tuple #[v', .int .i64 (getF bs i).2.1, .int .i64 (getF bs i).2.2]) ∧ Rd w' v' ((getF bs i).1.map B) ∧ Ext w w'

theorem GetRd.of_post {bs : List UInt8} {i : Int} {w w' : World} {e : Ending} (h : GetPost bs i w e w') : GetRd bs i w e w' := by
  obtain ⟨v', he, hg⟩ := h
  exact ⟨v', he, Rd.own hg.own, hg.ext⟩
theorem BytesRd.of_grew {l : List UInt8} {w w' : World} {e : Ending} (h : ∃ v', e = .returned v' ∧ Grew w.heap.size 5 (.slice none 0 0) w (l.map B) v' w') : BytesRd w l e w' := by
  obtain ⟨v', he, hg⟩ := h
  exact ⟨v', he, Rd.own hg.own, hg.ext⟩

end Go.Proofs.Ytkkmldoohokdfaa
