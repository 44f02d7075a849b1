/- Texts that the proof of Y rests on, one behind the other. -/
import Derived.Test.YtddhbokknbmdfaaYQ4
import Derived.Test.YtddhbokknbmdfaaRows
import Derived.Lib.MinMax
import Derived.Deep.DeepCutAuto
import Derived.BigQuiet
import Derived.StillTailTactics
import Derived.Deep.RegionHeld3
import Derived.Deep.QuietTactic

/- Package agent: the calls that take no order. -/
namespace Go.Proofs.Ytddhbokknbmdfaa
open Go.RowKit

def agA (a : Ag) : Array Value := #[.bool a.up, .int .i64 a.term, .int .i64 a.gen, .int .i64 a.mode, .int .i64 a.job, .int .i64 a.inc, .int .i64 a.ver, .int .i64 a.lease, .int .i64 a.worked, .int .i64 a.aim]
def msA (m : Ms) : Array Value := #[.int .i64 m.node, .int .i64 m.kind, .int .i64 m.term, .int .i64 m.gen, .int .i64 m.job, .int .i64 m.inc, .int .i64 m.ver, .int .i64 m.epoch, .int .i64 m.til, .int .i64 m.mode, .int .i64 m.work]
def zA : Array Value := #[.bool false, .int .i64 0, .int .i64 0, .int .i64 0, .int .i64 0, .int .i64 0, .int .i64 0, .int .i64 0, .int .i64 0, .int .i64 0]
def zM : Array Value := #[.int .i64 0, .int .i64 0, .int .i64 0, .int .i64 0, .int .i64 0, .int .i64 0, .int .i64 0, .int .i64 0, .int .i64 0, .int .i64 0, .int .i64 0]
theorem agA_size (a : Ag) : (agA a).size = 10 := rfl
theorem agA_one (a : Ag) : (agA a).all (·.oneCell') = true := by simp [agA, Value.oneCell']
theorem msA_one (m : Ms) : (msA m).all (·.oneCell') = true := by simp [msA, Value.oneCell']
theorem infoA (a : Ag) : (Try.prog.info? 81).map (·.size) = some (agA a).size := by kernel_rfl
theorem infoM (m : Ms) : (Try.prog.info? 49).map (·.size) = some (msA m).size := by kernel_rfl
abbrev TA : TypeId := 81
abbrev TM : TypeId := 49

/-- An agent's block, in whatever cells it is written out. -/
structure AgAt (w : World) (g : Nat) (a : Ag) : Prop where
  blk : Blk w g 81 #[.bool a.up, .int .i64 a.term, .int .i64 a.gen, .int .i64 a.mode, .int .i64 a.job, .int .i64 a.inc, .int .i64 a.ver, .int .i64 a.lease, .int .i64 a.worked, .int .i64 a.aim]
structure MsAt (w : World) (g : Nat) (m : Ms) : Prop where
  blk : Blk w g 49 #[.int .i64 m.node, .int .i64 m.kind, .int .i64 m.term, .int .i64 m.gen, .int .i64 m.job, .int .i64 m.inc, .int .i64 m.ver, .int .i64 m.epoch, .int .i64 m.til, .int .i64 m.mode, .int .i64 m.work]
theorem AgAt.ext {w w' : World} {g : Nat} {a : Ag} (h : AgAt w g a) (hx : Ext w w') : AgAt w' g a := ⟨h.blk.ext hx⟩
theorem MsAt.ext {w w' : World} {g : Nat} {a : Ms} (h : MsAt w g a) (hx : Ext w w') : MsAt w' g a := ⟨h.blk.ext hx⟩
theorem AgAt.chg {w w' : World} {F : Fp} {g : Nat} {a : Ag} (h : AgAt w g a) (hc : Chg F w w') (hg : ¬ F g) : AgAt w' g a := ⟨(hc.block g h.blk.lt hg).trans h.blk⟩
theorem MsAt.chg {w w' : World} {F : Fp} {g : Nat} {a : Ms} (h : MsAt w g a) (hc : Chg F w w') (hg : ¬ F g) : MsAt w' g a := ⟨(hc.block g h.blk.lt hg).trans h.blk⟩

/-- It lets its job go. -/
theorem letGo_any (g : Nat) (a : Ag) (w : World) (h : AgAt w g a) :
    Calls Try.prog 95 #[.pointer (some ⟨g, 0, none⟩)] w fun e w' => e = .returned (.tuple #[]) ∧ AgAt w' g (looseA a) ∧ Chg (fun k => k = g) w w' := by
  have c3 : w.cell? ⟨g, 3, none⟩ = some (.int .i64 a.mode) := h.blk.cell 3
  have c4 : w.cell? ⟨g, 4, none⟩ = some (.int .i64 a.job) := h.blk.cell 4
  have c5 : w.cell? ⟨g, 5, none⟩ = some (.int .i64 a.inc) := h.blk.cell 5
  have c7 : w.cell? ⟨g, 7, none⟩ = some (.int .i64 a.lease) := h.blk.cell 7
  have c8 : w.cell? ⟨g, 8, none⟩ = some (.int .i64 a.worked) := h.blk.cell 8
  have f3 := h.blk.frozen 3
  have f4 := h.blk.frozen 4
  have f5 := h.blk.frozen 5
  have f7 := h.blk.frozen 7
  have f8 := h.blk.frozen 8
  have hq := (((((WB.start h.blk).set 3 (.int .i64 0)).set 4 (.int .i64 0)).set 5 (.int .i64 0)).set 7 (.int .i64 0)).set 8 (.int .i64 0)
  simp only [List.setIfInBounds_toArray, List.set_cons_zero, List.set_cons_succ] at hq
  have HQ := Lib.hid hq
  clear hq h
  go_enter Try.func95, Try.ntmps95
  go_wp2
  go_end0
  exact ⟨rfl, ⟨HQ.out.blk⟩, HQ.out.chg⟩

theorem hasJob_any (a : Ag) (w : World) :
    Calls Try.prog 96 #[agV a] w fun e w' => e = .returned (.bool (decide (a.mode = 1 ∨ a.mode = 2 ∨ a.mode = 3))) ∧ Ext w w' := by
  have HX := Lib.hid (Ext.alloc_ w (.cells #[.bool a.up, .int .i64 a.term, .int .i64 a.gen, .int .i64 a.mode, .int .i64 a.job, .int .i64 a.inc, .int .i64 a.ver, .int .i64 a.lease, .int .i64 a.worked, .int .i64 a.aim] 81))
  unfold agV
  by_cases h1 : a.mode = 1
  · have d1 : (a.mode == 1) = true := by rw [h1]; rfl
    have HE : Hid (decide (a.mode = 1 ∨ a.mode = 2 ∨ a.mode = 3) = true) := Lib.hid (decide_eq_true (.inl h1))
    clear h1
    go_enter Try.func96, Try.ntmps96
    go_wp2
    go_ret
    exact ⟨by rw [HE.out]; rfl, HX.out⟩
  have d1 : (a.mode == 1) = false := by simpa using h1
  by_cases h2 : a.mode = 2
  · have d2 : (a.mode == 2) = true := by rw [h2]; rfl
    have HE : Hid (decide (a.mode = 1 ∨ a.mode = 2 ∨ a.mode = 3) = true) := Lib.hid (decide_eq_true (.inr (.inl h2)))
    clear h1 h2
    go_enter Try.func96, Try.ntmps96
    go_wp2
    go_ret
    exact ⟨by rw [HE.out]; rfl, HX.out⟩
  have d2 : (a.mode == 2) = false := by simpa using h2
  by_cases h3 : a.mode = 3
  · have d3 : (a.mode == 3) = true := by rw [h3]; rfl
    have HE : Hid (decide (a.mode = 1 ∨ a.mode = 2 ∨ a.mode = 3) = true) := Lib.hid (decide_eq_true (.inr (.inr h3)))
    clear h1 h2 h3
    go_enter Try.func96, Try.ntmps96
    go_wp2
    go_ret
    exact ⟨by rw [HE.out]; rfl, HX.out⟩
  have d3 : (a.mode == 3) = false := by simpa using h3
  have HE : Hid (decide (a.mode = 1 ∨ a.mode = 2 ∨ a.mode = 3) = false) := Lib.hid (decide_eq_false (by omega))
  clear h1 h2 h3
  go_enter Try.func96, Try.ntmps96
  go_wp2
  go_ret
  exact ⟨by rw [HE.out]; rfl, HX.out⟩

theorem isVersion_any (n : Int) (w : World) :
    Calls Try.prog 121 #[.int .i64 n] w fun e w' => e = .returned (.bool (decide (1 ≤ n ∧ n ≤ 9))) ∧ w = w' := by
  obtain ⟨z, hz⟩ : ∃ z, z = decide (1 ≤ n ∧ n ≤ 9) := ⟨_, rfl⟩
  rw [← hz]
  by_cases h1 : 1 ≤ n
  · have d1 : decide ((1 : Int) ≤ n) = true := decide_eq_true h1
    have HE : Hid (z = decide (n ≤ 9)) := Lib.hid (by rw [hz]; simp [h1])
    clear h1 hz
    go_enter Try.func121, Try.ntmps121
    go_wp2
    go_ret
    exact ⟨by rw [HE.out]; rfl, rfl⟩
  · have d1 : decide ((1 : Int) ≤ n) = false := decide_eq_false h1
    have HE : Hid (z = false) := Lib.hid (by rw [hz]; simp [h1])
    clear h1 hz
    go_enter Try.func121, Try.ntmps121
    go_wp2
    go_ret
    exact ⟨by rw [HE.out]; rfl, rfl⟩

theorem isElder_any (a : Ag) (m : Ms) (w : World) :
    Calls Try.prog 91 #[msV m, agV a] w fun e w' => e = .returned (.bool (elderA a m)) ∧ Ext w w' := by
  have HX := Lib.hid ((Ext.alloc_ w (.cells #[.int .i64 m.node, .int .i64 m.kind, .int .i64 m.term, .int .i64 m.gen, .int .i64 m.job, .int .i64 m.inc, .int .i64 m.ver, .int .i64 m.epoch, .int .i64 m.til, .int .i64 m.mode, .int .i64 m.work] 49)).trans (Ext.alloc_ _ (.cells #[.bool a.up, .int .i64 a.term, .int .i64 a.gen, .int .i64 a.mode, .int .i64 a.job, .int .i64 a.inc, .int .i64 a.ver, .int .i64 a.lease, .int .i64 a.worked, .int .i64 a.aim] 81)))
  unfold agV msV
  by_cases h1 : m.term < a.term
  · have d1 : decide (m.term < a.term) = true := decide_eq_true h1
    have HE : Hid (elderA a m = true) := Lib.hid (by unfold elderA; rw [d1]; rfl)
    clear h1
    go_enter Try.func91, Try.ntmps91
    go_wp2
    go_ret
    exact ⟨by rw [HE.out]; rfl, HX.out⟩
  have d1 : decide (m.term < a.term) = false := decide_eq_false h1
  by_cases h2 : m.term = a.term
  · have d2 : (m.term == a.term) = true := by rw [h2]; simp
    have HE : Hid (elderA a m = decide (m.gen < a.gen)) := Lib.hid (by unfold elderA; rw [d1, decide_eq_true h2]; rfl)
    clear h1 h2
    go_enter Try.func91, Try.ntmps91
    go_wp2
    go_ret
    exact ⟨by rw [HE.out]; rfl, HX.out⟩
  have d2 : (m.term == a.term) = false := by simpa using h2
  have HE : Hid (elderA a m = false) := Lib.hid (by unfold elderA; rw [d1, decide_eq_false h2]; rfl)
  clear h1 h2
  go_enter Try.func91, Try.ntmps91
  go_wp2
  go_ret
  exact ⟨by rw [HE.out]; rfl, HX.out⟩

theorem Fenced_any (a : Ag) (now : Int) (w : World) :
    Calls Try.prog 88 #[agV a, .int .i64 now] w fun e w' => e = .returned (.bool (fencedA a now)) ∧ Ext w w' := by
  have HX := Lib.hid (Ext.alloc_ w (.cells #[.bool a.up, .int .i64 a.term, .int .i64 a.gen, .int .i64 a.mode, .int .i64 a.job, .int .i64 a.inc, .int .i64 a.ver, .int .i64 a.lease, .int .i64 a.worked, .int .i64 a.aim] 81))
  unfold agV
  cases h0 : a.up with
  | false =>
    have HE : Hid (fencedA a now = false) := Lib.hid (by unfold fencedA; rw [h0]; rfl)
    rw [h0] at HX
    clear h0
    go_enter Try.func88, Try.ntmps88
    go_wp2
    go_ret
    exact ⟨by rw [HE.out]; rfl, HX.out⟩
  | true =>
  have HU := Lib.hid h0
  rw [h0] at HX
  clear h0
  by_cases h1 : a.mode = 2
  · have d1 : (a.mode == 2) = true := by rw [h1]; rfl
    have HE : Hid (fencedA a now = decide (a.lease ≤ now)) := Lib.hid (by unfold fencedA; rw [HU.out, decide_eq_true h1]; rfl)
    clear h1
    go_enter Try.func88, Try.ntmps88
    go_wp2
    go_ret
    exact ⟨by rw [HE.out]; rfl, HX.out⟩
  have d1 : (a.mode == 2) = false := by simpa using h1
  have HE : Hid (fencedA a now = false) := Lib.hid (by unfold fencedA; rw [HU.out, decide_eq_false h1]; rfl)
  clear h1
  go_enter Try.func88, Try.ntmps88
  go_wp2
  go_ret
  exact ⟨by rw [HE.out]; rfl, HX.out⟩

end Go.Proofs.Ytddhbokknbmdfaa

/- Package agent: New, Tell, Fail, Back, Act. -/
namespace Go.Proofs.Ytddhbokknbmdfaa
open Go.RowKit

theorem looseA_up (a : Ag) : (looseA a).up = a.up := rfl
/-- A block's cells, one by one. -/
theorem AgAt.cells {w : World} {g : Nat} {a : Ag} (h : AgAt w g a) : w.cell? ⟨g, 0, none⟩ = some (.bool a.up) ∧ w.cell? ⟨g, 1, none⟩ = some (.int .i64 a.term) ∧ w.cell? ⟨g, 2, none⟩ = some (.int .i64 a.gen) ∧ w.cell? ⟨g, 3, none⟩ = some (.int .i64 a.mode) ∧ w.cell? ⟨g, 4, none⟩ = some (.int .i64 a.job) ∧ w.cell? ⟨g, 5, none⟩ = some (.int .i64 a.inc) ∧ w.cell? ⟨g, 6, none⟩ = some (.int .i64 a.ver) ∧ w.cell? ⟨g, 7, none⟩ = some (.int .i64 a.lease) ∧ w.cell? ⟨g, 8, none⟩ = some (.int .i64 a.worked) ∧ w.cell? ⟨g, 9, none⟩ = some (.int .i64 a.aim) :=
  ⟨h.blk.cell 0, h.blk.cell 1, h.blk.cell 2, h.blk.cell 3, h.blk.cell 4, h.blk.cell 5, h.blk.cell 6, h.blk.cell 7, h.blk.cell 8, h.blk.cell 9⟩
theorem MsAt.cells {w : World} {g : Nat} {m : Ms} (h : MsAt w g m) : w.cell? ⟨g, 0, none⟩ = some (.int .i64 m.node) ∧ w.cell? ⟨g, 1, none⟩ = some (.int .i64 m.kind) ∧ w.cell? ⟨g, 2, none⟩ = some (.int .i64 m.term) ∧ w.cell? ⟨g, 3, none⟩ = some (.int .i64 m.gen) ∧ w.cell? ⟨g, 4, none⟩ = some (.int .i64 m.job) ∧ w.cell? ⟨g, 5, none⟩ = some (.int .i64 m.inc) ∧ w.cell? ⟨g, 6, none⟩ = some (.int .i64 m.ver) ∧ w.cell? ⟨g, 7, none⟩ = some (.int .i64 m.epoch) ∧ w.cell? ⟨g, 8, none⟩ = some (.int .i64 m.til) ∧ w.cell? ⟨g, 9, none⟩ = some (.int .i64 m.mode) ∧ w.cell? ⟨g, 10, none⟩ = some (.int .i64 m.work) :=
  ⟨h.blk.cell 0, h.blk.cell 1, h.blk.cell 2, h.blk.cell 3, h.blk.cell 4, h.blk.cell 5, h.blk.cell 6, h.blk.cell 7, h.blk.cell 8, h.blk.cell 9, h.blk.cell 10⟩

theorem infoA_ : (Try.prog.info? 81).map (·.size) = some 10 := by kernel_rfl
theorem infoM_ : (Try.prog.info? 49).map (·.size) = some 11 := by kernel_rfl

set_option maxRecDepth 100000 in
theorem NewA_any (w : World) : Calls Try.prog 60 #[] w fun e w' => e = .returned (agV newA) ∧ Ext w w' := by
  have HB := Lib.hid (Blk.new w 81 #[.bool false, .int .i64 0, .int .i64 0, .int .i64 0, .int .i64 0, .int .i64 0, .int .i64 0, .int .i64 0, .int .i64 0, .int .i64 0])
  have HX := Lib.hid (Ext.alloc_ w (.cells #[.bool false, .int .i64 0, .int .i64 0, .int .i64 0, .int .i64 0, .int .i64 0, .int .i64 0, .int .i64 0, .int .i64 0, .int .i64 0] 81))
  have HI := Lib.hid infoA_
  have HO : Hid ((#[.bool true, .int .i64 0, .int .i64 0, .int .i64 0, .int .i64 0, .int .i64 0, .int .i64 1, .int .i64 0, .int .i64 0, .int .i64 0] : Array Value).all (·.oneCell') = true) := Lib.hid (by simp [Value.oneCell'])
  go_enter Try.func60, Try.ntmps60
  go_wp2_with (refine wpList_storeB rfl 81 _ _ rfl w.heap.size #[.bool true, .int .i64 0, .int .i64 0, .int .i64 0, .int .i64 0, .int .i64 0, .int .i64 1, .int .i64 0, .int .i64 0, .int .i64 0] rfl rfl 81 _ HB.out HI.out rfl HO.out w.heap.size w HX.out (Nat.le_refl _) ?_; intro w2 hb2 hx2)
  exact bodyPost_ret (results_cell_row rfl _ _ w.heap.size 81 _ (0, 0) _ rfl hb2 rfl rfl (by kernel_rfl)) rfl ⟨rfl, hx2⟩

set_option maxRecDepth 100000 in
theorem Tell_any (a : Ag) (node : Int) (w : World) : Calls Try.prog 58 #[agV a, .int .i64 node] w fun e w' => e = .returned (msV (tellA a node)) ∧ Ext w w' := by
  have HX1 := Lib.hid (Ext.alloc_ w (.cells #[.bool a.up, .int .i64 a.term, .int .i64 a.gen, .int .i64 a.mode, .int .i64 a.job, .int .i64 a.inc, .int .i64 a.ver, .int .i64 a.lease, .int .i64 a.worked, .int .i64 a.aim] 81))
  have HB := Lib.hid (Blk.new (w.alloc (.cells #[.bool a.up, .int .i64 a.term, .int .i64 a.gen, .int .i64 a.mode, .int .i64 a.job, .int .i64 a.inc, .int .i64 a.ver, .int .i64 a.lease, .int .i64 a.worked, .int .i64 a.aim] 81)) 49 #[.int .i64 0, .int .i64 0, .int .i64 0, .int .i64 0, .int .i64 0, .int .i64 0, .int .i64 0, .int .i64 0, .int .i64 0, .int .i64 0, .int .i64 0])
  have HX := Lib.hid (HX1.out.trans (Ext.alloc_ (w.alloc (.cells #[.bool a.up, .int .i64 a.term, .int .i64 a.gen, .int .i64 a.mode, .int .i64 a.job, .int .i64 a.inc, .int .i64 a.ver, .int .i64 a.lease, .int .i64 a.worked, .int .i64 a.aim] 81)) (.cells #[.int .i64 0, .int .i64 0, .int .i64 0, .int .i64 0, .int .i64 0, .int .i64 0, .int .i64 0, .int .i64 0, .int .i64 0, .int .i64 0, .int .i64 0] 49)))
  have hz : (w.alloc (.cells #[.bool a.up, .int .i64 a.term, .int .i64 a.gen, .int .i64 a.mode, .int .i64 a.job, .int .i64 a.inc, .int .i64 a.ver, .int .i64 a.lease, .int .i64 a.worked, .int .i64 a.aim] 81)).heap.size = w.heap.size + 1 := by simp
  rw [hz] at HB
  clear hz
  have HI := Lib.hid infoM_
  have HO := Lib.hid (msA_one (tellA a node))
  unfold agV
  go_enter Try.func58, Try.ntmps58
  go_wp2_with (refine wpList_storeB rfl 49 _ _ rfl (w.heap.size + 1) (msA (tellA a node)) rfl rfl 49 _ HB.out HI.out rfl HO.out w.heap.size w HX.out (Nat.le_succ _) ?_; intro w2 hb2 hx2)
  exact bodyPost_ret (results_cell_row rfl _ _ (w.heap.size + 1) 49 _ (0, 0) _ rfl hb2 rfl rfl (by kernel_rfl)) rfl ⟨rfl, hx2⟩

end Go.Proofs.Ytddhbokknbmdfaa

/- Package agent: Fail, Back. -/
namespace Go.Proofs.Ytddhbokknbmdfaa
open Go.RowKit

/-- The two blocks that a call makes ahead of all: its argument's, its result's. -/
theorem two_new (w : World) (c1 c2 : Array Value) (T1 T2 : TypeId) : Blk ((w.alloc (.cells c1 T1)).alloc (.cells c2 T2)) w.heap.size T1 c1 ∧ Blk ((w.alloc (.cells c1 T1)).alloc (.cells c2 T2)) (w.heap.size + 1) T2 c2 ∧ Ext w ((w.alloc (.cells c1 T1)).alloc (.cells c2 T2)) := by
  have h := Blk.new (w.alloc (.cells c1 T1)) T2 c2
  rw [show (w.alloc (.cells c1 T1)).heap.size = w.heap.size + 1 by simp] at h
  exact ⟨(Blk.new w T1 c1).alloc _, h, (Ext.alloc_ w _).trans (Ext.alloc_ _ _)⟩

set_option maxRecDepth 100000 in
theorem Back_any (a : Ag) (w : World) : Calls Try.prog 63 #[agV a] w fun e w' => e = .returned (agV (backA a)) ∧ Ext w w' := by
  obtain ⟨h1, h2, hx⟩ := two_new w #[.bool true, .int .i64 a.term, .int .i64 a.gen, .int .i64 a.mode, .int .i64 a.job, .int .i64 a.inc, .int .i64 a.ver, .int .i64 a.lease, .int .i64 a.worked, .int .i64 a.aim] #[.bool false, .int .i64 0, .int .i64 0, .int .i64 0, .int .i64 0, .int .i64 0, .int .i64 0, .int .i64 0, .int .i64 0, .int .i64 0] 81 81
  obtain ⟨w2, hw2⟩ : ∃ W, W = (w.alloc (.cells #[.bool true, .int .i64 a.term, .int .i64 a.gen, .int .i64 a.mode, .int .i64 a.job, .int .i64 a.inc, .int .i64 a.ver, .int .i64 a.lease, .int .i64 a.worked, .int .i64 a.aim] 81)).alloc (.cells #[.bool false, .int .i64 0, .int .i64 0, .int .i64 0, .int .i64 0, .int .i64 0, .int .i64 0, .int .i64 0, .int .i64 0, .int .i64 0] 81) := ⟨_, rfl⟩
  rw [← hw2] at h1 h2 hx
  have HA : Hid (AgAt w2 w.heap.size (backA a)) := Lib.hid ⟨h1⟩
  have HB := Lib.hid h2
  have HX := Lib.hid hx
  have HI := Lib.hid infoA_
  have HO := Lib.hid (agA_one (backA a))
  clear h1 h2 hx
  unfold agV
  go_enter Try.func63, Try.ntmps63
  go_upto_region 2 with (fail)
  rw [← hw2]
  clear hw2
  obtain ⟨c0, c1, c2, c3, c4, c5, c6, c7, c8, c9⟩ := HA.out.cells
  go_wp2_with (refine wpList_storeB rfl 81 _ _ rfl (w.heap.size + 1) (agA (backA a)) rfl rfl 81 _ HB.out HI.out rfl HO.out w.heap.size w HX.out (Nat.le_succ _) ?_; intro w3 hb3 hx3)
  exact bodyPost_ret (results_cell_row rfl _ _ (w.heap.size + 1) 81 _ (0, 0) _ rfl hb3 rfl rfl (by kernel_rfl)) rfl ⟨rfl, hx3⟩

set_option maxRecDepth 100000 in
theorem Fail_any (a : Ag) (w : World) : Calls Try.prog 62 #[agV a] w fun e w' => e = .returned (agV (failA a)) ∧ Ext w w' := by
  obtain ⟨h1, h2, hx⟩ := two_new w #[.bool false, .int .i64 a.term, .int .i64 a.gen, .int .i64 a.mode, .int .i64 a.job, .int .i64 a.inc, .int .i64 a.ver, .int .i64 a.lease, .int .i64 a.worked, .int .i64 0] #[.bool false, .int .i64 0, .int .i64 0, .int .i64 0, .int .i64 0, .int .i64 0, .int .i64 0, .int .i64 0, .int .i64 0, .int .i64 0] 81 81
  obtain ⟨w2, hw2⟩ : ∃ W, W = (w.alloc (.cells #[.bool false, .int .i64 a.term, .int .i64 a.gen, .int .i64 a.mode, .int .i64 a.job, .int .i64 a.inc, .int .i64 a.ver, .int .i64 a.lease, .int .i64 a.worked, .int .i64 0] 81)).alloc (.cells #[.bool false, .int .i64 0, .int .i64 0, .int .i64 0, .int .i64 0, .int .i64 0, .int .i64 0, .int .i64 0, .int .i64 0, .int .i64 0] 81) := ⟨_, rfl⟩
  rw [← hw2] at h1 h2 hx
  have HA := Lib.hid (letGo_any w.heap.size { a with up := false, aim := 0 } w2 ⟨h1⟩)
  have HB := Lib.hid h2
  have HX := Lib.hid hx
  have HI := Lib.hid infoA_
  have HO := Lib.hid (agA_one (failA a))
  clear h1 h2 hx
  unfold agV
  go_enter Try.func62, Try.ntmps62
  go_upto_region 2 with (fail)
  rw [← hw2]
  clear hw2
  go_wp2_with fail
  refine HA.out.mono ?_
  rintro e3 w3 ⟨rfl, ha, hc⟩
  obtain ⟨c0, c1, c2, c3, c4, c5, c6, c7, c8, c9⟩ := ha.cells
  have HB3 : Hid (Blk w3 (w.heap.size + 1) 81 #[.bool false, .int .i64 0, .int .i64 0, .int .i64 0, .int .i64 0, .int .i64 0, .int .i64 0, .int .i64 0, .int .i64 0, .int .i64 0]) := Lib.hid ((hc.block _ HB.out.lt (by intro h; have h : w.heap.size + 1 = w.heap.size := h; omega)).trans HB.out)
  have HX3 := Lib.hid (hc.ext HX.out (fun k hk => by have hk : k = w.heap.size := hk; omega))
  clear ha hc HB HX
  go_wp2_with (refine wpList_storeB rfl 81 _ _ rfl (w.heap.size + 1) (agA (failA a)) rfl rfl 81 _ HB3.out HI.out rfl HO.out w.heap.size w HX3.out (Nat.le_succ _) ?_; intro w4 hb4 hx4)
  exact bodyPost_ret (results_cell_row rfl _ _ (w.heap.size + 1) 81 _ (0, 0) _ rfl hb4 rfl rfl (by kernel_rfl)) rfl ⟨rfl, hx4⟩

end Go.Proofs.Ytddhbokknbmdfaa

/- Package agent: Act. -/
namespace Go.Proofs.Ytddhbokknbmdfaa
open Go.RowKit

set_option maxRecDepth 100000 in
set_option maxHeartbeats 2000000 in
theorem Act_any (a : Ag) (now : Int) (w : World) (hwk : -9223372036854775808 ≤ a.worked) : Calls Try.prog 61 #[agV a, .int .i64 now] w fun e w' => e = .returned (agV (actA a now)) ∧ Ext w w' := by
  have HWK := Lib.hid hwk
  clear hwk
  obtain ⟨R, hR⟩ : ∃ R, R = actA a now := ⟨_, rfl⟩
  rw [← hR]
  unfold actA at hR
  unfold agV
  cases h0 : a.up with
  | false =>
    rw [if_pos h0] at hR
    have HE := Lib.hid hR
    obtain ⟨h1, h2, hx⟩ := two_new w #[.bool false, .int .i64 a.term, .int .i64 a.gen, .int .i64 a.mode, .int .i64 a.job, .int .i64 a.inc, .int .i64 a.ver, .int .i64 a.lease, .int .i64 a.worked, .int .i64 a.aim] #[.bool false, .int .i64 0, .int .i64 0, .int .i64 0, .int .i64 0, .int .i64 0, .int .i64 0, .int .i64 0, .int .i64 0, .int .i64 0] 81 81
    obtain ⟨w2, hw2⟩ : ∃ W, W = (w.alloc (.cells #[.bool false, .int .i64 a.term, .int .i64 a.gen, .int .i64 a.mode, .int .i64 a.job, .int .i64 a.inc, .int .i64 a.ver, .int .i64 a.lease, .int .i64 a.worked, .int .i64 a.aim] 81)).alloc (.cells #[.bool false, .int .i64 0, .int .i64 0, .int .i64 0, .int .i64 0, .int .i64 0, .int .i64 0, .int .i64 0, .int .i64 0, .int .i64 0] 81) := ⟨_, rfl⟩
    rw [← hw2] at h1 h2 hx
    have HA : Hid (AgAt w2 w.heap.size (a)) := Lib.hid ⟨by rw [h0]; exact h1⟩
    have HB := Lib.hid h2
    have HX := Lib.hid hx
    clear h1 h2 hx
    have HU := Lib.hid h0
    clear h0 hR
    go_enter Try.func61, Try.ntmps61
    go_upto_region 2 with (fail)
    rw [← hw2]
    clear hw2
    obtain ⟨c0, c1, c2, c3, c4, c5, c6, c7, c8, c9⟩ := HA.out.cells
    rw [HU.out] at c0
    have HO := Lib.hid (agA_one ({ a with up := false }))
    have HI := Lib.hid infoA_
    go_wp2_with (refine wpList_storeB rfl 81 _ _ rfl (w.heap.size + 1) (agA ({ a with up := false })) rfl rfl 81 _ HB.out HI.out rfl HO.out w.heap.size w HX.out (Nat.le_succ _) ?_; intro wz hbz hxz)
    exact bodyPost_ret (results_cell_row rfl _ _ (w.heap.size + 1) 81 _ (0, 0) _ rfl hbz rfl rfl (by kernel_rfl)) rfl ⟨by rw [HE.out, HU.out]; rfl, hxz⟩
  | true =>
    rw [if_neg (by rw [h0]; decide)] at hR
    have HU := Lib.hid h0
    by_cases h4 : a.mode = 4
    · have d4 : (a.mode == 4) = true := by rw [h4]; rfl
      rw [if_pos h4] at hR
      have HE := Lib.hid hR
      obtain ⟨h1, h2, hx⟩ := two_new w #[.bool true, .int .i64 a.term, .int .i64 a.gen, .int .i64 a.mode, .int .i64 a.job, .int .i64 a.inc, .int .i64 a.aim, .int .i64 a.lease, .int .i64 a.worked, .int .i64 0] #[.bool false, .int .i64 0, .int .i64 0, .int .i64 0, .int .i64 0, .int .i64 0, .int .i64 0, .int .i64 0, .int .i64 0, .int .i64 0] 81 81
      obtain ⟨w2, hw2⟩ : ∃ W, W = (w.alloc (.cells #[.bool true, .int .i64 a.term, .int .i64 a.gen, .int .i64 a.mode, .int .i64 a.job, .int .i64 a.inc, .int .i64 a.aim, .int .i64 a.lease, .int .i64 a.worked, .int .i64 0] 81)).alloc (.cells #[.bool false, .int .i64 0, .int .i64 0, .int .i64 0, .int .i64 0, .int .i64 0, .int .i64 0, .int .i64 0, .int .i64 0, .int .i64 0] 81) := ⟨_, rfl⟩
      rw [← hw2] at h1 h2 hx
      have HA : Hid (AgAt w2 w.heap.size ({ a with ver := a.aim, aim := 0 })) := Lib.hid ⟨by show Blk w2 w.heap.size _ #[.bool a.up, _, _, _, _, _, _, _, _, _]; rw [h0]; exact h1⟩
      have HB := Lib.hid h2
      have HX := Lib.hid hx
      clear h1 h2 hx
      clear h0 h4 hR
      go_enter Try.func61, Try.ntmps61
      go_upto_region 5 with (fail)
      rw [← hw2]
      clear hw2
      have HC := Lib.hid (letGo_any w.heap.size ({ a with ver := a.aim, aim := 0 }) _ HA.out)
      go_wp2_with fail
      refine HC.out.mono ?_
      rintro e3 w3 ⟨rfl, ha, hc⟩
      obtain ⟨c0, c1, c2, c3, c4, c5, c6, c7, c8, c9⟩ := ha.cells
      have HB3 : Hid (Blk w3 (w.heap.size + 1) 81 #[.bool false, .int .i64 0, .int .i64 0, .int .i64 0, .int .i64 0, .int .i64 0, .int .i64 0, .int .i64 0, .int .i64 0, .int .i64 0]) := Lib.hid ((hc.block _ HB.out.lt (by intro h; have h : w.heap.size + 1 = w.heap.size := h; omega)).trans HB.out)
      have HX3 := Lib.hid (hc.ext HX.out (fun k hk => by have hk : k = w.heap.size := hk; omega))
      clear ha hc
      rw [show (looseA { a with ver := a.aim, aim := 0 }).up = true from HU.out] at c0
      have HO := Lib.hid (agA_one ({ looseA { a with ver := a.aim, aim := 0 } with up := true }))
      have HI := Lib.hid infoA_
      go_wp2_with (refine wpList_storeB rfl 81 _ _ rfl (w.heap.size + 1) (agA ({ looseA { a with ver := a.aim, aim := 0 } with up := true })) rfl rfl 81 _ HB3.out HI.out rfl HO.out w.heap.size w HX3.out (Nat.le_succ _) ?_; intro wz hbz hxz)
      exact bodyPost_ret (results_cell_row rfl _ _ (w.heap.size + 1) 81 _ (0, 0) _ rfl hbz rfl rfl (by kernel_rfl)) rfl ⟨by rw [HE.out, show (looseA { a with ver := a.aim, aim := 0 }).up = true from HU.out]; rfl, hxz⟩
    have d4 : (a.mode == 4) = false := by simpa using h4
    rw [if_neg h4] at hR
    obtain ⟨h1, h2, hx⟩ := two_new w #[.bool true, .int .i64 a.term, .int .i64 a.gen, .int .i64 a.mode, .int .i64 a.job, .int .i64 a.inc, .int .i64 a.ver, .int .i64 a.lease, .int .i64 a.worked, .int .i64 a.aim] #[.bool false, .int .i64 0, .int .i64 0, .int .i64 0, .int .i64 0, .int .i64 0, .int .i64 0, .int .i64 0, .int .i64 0, .int .i64 0] 81 81
    obtain ⟨w2, hw2⟩ : ∃ W, W = (w.alloc (.cells #[.bool true, .int .i64 a.term, .int .i64 a.gen, .int .i64 a.mode, .int .i64 a.job, .int .i64 a.inc, .int .i64 a.ver, .int .i64 a.lease, .int .i64 a.worked, .int .i64 a.aim] 81)).alloc (.cells #[.bool false, .int .i64 0, .int .i64 0, .int .i64 0, .int .i64 0, .int .i64 0, .int .i64 0, .int .i64 0, .int .i64 0, .int .i64 0] 81) := ⟨_, rfl⟩
    rw [← hw2] at h1 h2 hx
    have HA : Hid (AgAt w2 w.heap.size (a)) := Lib.hid ⟨by rw [h0]; exact h1⟩
    have HB := Lib.hid h2
    have HX := Lib.hid hx
    clear h1 h2 hx
    have HJ := Lib.hid (hasJob_any a w2)
    obtain ⟨j, hj⟩ : ∃ j, j = decide (a.mode = 1 ∨ a.mode = 2 ∨ a.mode = 3) := ⟨_, rfl⟩
    rw [← hj] at HJ
    unfold agV at HJ
    rw [h0] at HJ
    have hj2 : ((a.mode = 1 ∨ a.mode = 2 ∨ a.mode = 3) ∧ a.lease ≤ now) ↔ (j && decide (a.lease ≤ now)) = true := by rw [hj, Bool.and_eq_true, decide_eq_true_eq, decide_eq_true_eq]
    clear h0 hj
    go_enter Try.func61, Try.ntmps61
    go_upto_region 6 with (fail)
    rw [← hw2]
    clear hw2
    obtain ⟨c0, c1, c2, c3, c4, c5, c6, c7, c8, c9⟩ := HA.out.cells
    rw [HU.out] at c0
    go_wp2_with fail
    refine HJ.out.mono ?_
    rintro e2 wj ⟨rfl, hxj⟩
    replace HA := Lib.hid (HA.out.ext hxj)
    replace HB := Lib.hid (HB.out.ext hxj)
    replace HX := Lib.hid (HX.out.trans hxj)
    clear hxj HJ c0 c1 c2 c3 c4 c5 c6 c7 c8 c9
    by_cases hl : (j && decide (a.lease ≤ now)) = true
    · rw [if_pos (hj2.2 hl)] at hR
      have HE := Lib.hid hR
      have e1 : j = true := by cases j with | true => rfl | false => cases hl
      subst e1
      have e2 : decide (a.lease ≤ now) = true := by simpa using hl
      have c7 := HA.out.cells.2.2.2.2.2.2.2.1
      clear hl hR hj2 h4
      have HC := Lib.hid (letGo_any w.heap.size a _ HA.out)
      go_wp2_with fail
      refine HC.out.mono ?_
      rintro e3 w3 ⟨rfl, ha, hc⟩
      clear c7
      obtain ⟨c0, c1, c2, c3, c4, c5, c6, c7, c8, c9⟩ := ha.cells
      have HB3 : Hid (Blk w3 (w.heap.size + 1) 81 #[.bool false, .int .i64 0, .int .i64 0, .int .i64 0, .int .i64 0, .int .i64 0, .int .i64 0, .int .i64 0, .int .i64 0, .int .i64 0]) := Lib.hid ((hc.block _ HB.out.lt (by intro h; have h : w.heap.size + 1 = w.heap.size := h; omega)).trans HB.out)
      have HX3 := Lib.hid (hc.ext HX.out (fun k hk => by have hk : k = w.heap.size := hk; omega))
      clear ha hc
      rw [show (looseA a).up = true from HU.out] at c0
      have HO := Lib.hid (agA_one ({ looseA a with up := true }))
      have HI := Lib.hid infoA_
      go_wp2_with (refine wpList_storeB rfl 81 _ _ rfl (w.heap.size + 1) (agA ({ looseA a with up := true })) rfl rfl 81 _ HB3.out HI.out rfl HO.out w.heap.size w HX3.out (Nat.le_succ _) ?_; intro wz hbz hxz)
      exact bodyPost_ret (results_cell_row rfl _ _ (w.heap.size + 1) 81 _ (0, 0) _ rfl hbz rfl rfl (by kernel_rfl)) rfl ⟨by rw [HE.out, show (looseA a).up = true from HU.out]; rfl, hxz⟩
    rw [if_neg (fun hc => hl (hj2.1 hc))] at hR
    clear hj2
    by_cases h2 : a.mode = 2
    · have d2 : (a.mode == 2) = true := by rw [h2]; rfl
      rw [if_pos h2] at hR
      obtain ⟨k, hk⟩ : ∃ k, k = min a.worked 999 := ⟨_, rfl⟩
      have HK : Hid (-9223372036854775809 < k ∧ k ≤ 999) := Lib.hid (by rw [hk]; have := HWK.out; omega)
      have hmn : min a.worked 999 = k := hk.symm
      rw [← hk] at hR
      have HE := Lib.hid hR
      clear hR h2 h4 hk
      cases j with
      | false =>
        clear hl
        have c3 := HA.out.cells.2.2.2.1
        have c8 := HA.out.cells.2.2.2.2.2.2.2.2.1
        have f8 := HA.out.blk.frozen 8
        have hw1 : IntKind.i64.wrap (1 + k) = 1 + k := IntWalk.i64_in _ (by have := HK.out; omega)
        have hw1' : wrap64 (1 + k) = 1 + k := IntWalk.wrap64_in _ (by have := HK.out; omega)
        have hq := (WB.start HA.out.blk).set 8 (.int .i64 (1 + k))
        simp only [List.setIfInBounds_toArray, List.set_cons_zero, List.set_cons_succ] at hq
        obtain ⟨wy, hwy⟩ : ∃ W, W = wj.setCell ⟨w.heap.size, 8, none⟩ (.int .i64 (1 + k)) := ⟨_, rfl⟩
        rw [← hwy] at hq
        have HA4 : Hid (AgAt wy w.heap.size { a with worked := 1 + k }) := Lib.hid ⟨hq.blk⟩
        have HB4 : Hid (Blk wy (w.heap.size + 1) 81 #[.bool false, .int .i64 0, .int .i64 0, .int .i64 0, .int .i64 0, .int .i64 0, .int .i64 0, .int .i64 0, .int .i64 0, .int .i64 0]) := Lib.hid ((hq.chg.block _ HB.out.lt (by intro h; have h : w.heap.size + 1 = w.heap.size := h; omega)).trans HB.out)
        have HX4 := Lib.hid (hq.ext HX.out (Nat.le_refl _))
        clear hq
        go_upto_region 10 with (fail)
        rw [← hwy]
        clear hwy c3 c8 f8
        obtain ⟨c0, c1, c2, c3, c4, c5, c6, c7, c8, c9⟩ := HA4.out.cells
        rw [show ({ a with worked := 1 + k } : Ag).up = true from HU.out] at c0
        have HO := Lib.hid (agA_one ({ a with worked := 1 + k, up := true }))
        have HI := Lib.hid infoA_
        go_wp2_with (refine wpList_storeB rfl 81 _ _ rfl (w.heap.size + 1) (agA ({ a with worked := 1 + k, up := true })) rfl rfl 81 _ HB4.out HI.out rfl HO.out w.heap.size w HX4.out (Nat.le_succ _) ?_; intro wz hbz hxz)
        exact bodyPost_ret (results_cell_row rfl _ _ (w.heap.size + 1) 81 _ (0, 0) _ rfl hbz rfl rfl (by kernel_rfl)) rfl ⟨by rw [HE.out, show ({ a with worked := 1 + k } : Ag).up = true from HU.out]; rfl, hxz⟩
      | true =>
        have e2 : decide (a.lease ≤ now) = false := by simpa using hl
        have c7 := HA.out.cells.2.2.2.2.2.2.2.1
        clear hl
        have c3 := HA.out.cells.2.2.2.1
        have c8 := HA.out.cells.2.2.2.2.2.2.2.2.1
        have f8 := HA.out.blk.frozen 8
        have hw1 : IntKind.i64.wrap (1 + k) = 1 + k := IntWalk.i64_in _ (by have := HK.out; omega)
        have hw1' : wrap64 (1 + k) = 1 + k := IntWalk.wrap64_in _ (by have := HK.out; omega)
        have hq := (WB.start HA.out.blk).set 8 (.int .i64 (1 + k))
        simp only [List.setIfInBounds_toArray, List.set_cons_zero, List.set_cons_succ] at hq
        obtain ⟨wy, hwy⟩ : ∃ W, W = wj.setCell ⟨w.heap.size, 8, none⟩ (.int .i64 (1 + k)) := ⟨_, rfl⟩
        rw [← hwy] at hq
        have HA4 : Hid (AgAt wy w.heap.size { a with worked := 1 + k }) := Lib.hid ⟨hq.blk⟩
        have HB4 : Hid (Blk wy (w.heap.size + 1) 81 #[.bool false, .int .i64 0, .int .i64 0, .int .i64 0, .int .i64 0, .int .i64 0, .int .i64 0, .int .i64 0, .int .i64 0, .int .i64 0]) := Lib.hid ((hq.chg.block _ HB.out.lt (by intro h; have h : w.heap.size + 1 = w.heap.size := h; omega)).trans HB.out)
        have HX4 := Lib.hid (hq.ext HX.out (Nat.le_refl _))
        clear hq
        go_upto_region 10 with (fail)
        rw [← hwy]
        clear hwy c3 c8 f8
        obtain ⟨c0, c1, c2, c3, c4, c5, c6, c7, c8, c9⟩ := HA4.out.cells
        rw [show ({ a with worked := 1 + k } : Ag).up = true from HU.out] at c0
        have HO := Lib.hid (agA_one ({ a with worked := 1 + k, up := true }))
        have HI := Lib.hid infoA_
        go_wp2_with (refine wpList_storeB rfl 81 _ _ rfl (w.heap.size + 1) (agA ({ a with worked := 1 + k, up := true })) rfl rfl 81 _ HB4.out HI.out rfl HO.out w.heap.size w HX4.out (Nat.le_succ _) ?_; intro wz hbz hxz)
        exact bodyPost_ret (results_cell_row rfl _ _ (w.heap.size + 1) 81 _ (0, 0) _ rfl hbz rfl rfl (by kernel_rfl)) rfl ⟨by rw [HE.out, show ({ a with worked := 1 + k } : Ag).up = true from HU.out]; rfl, hxz⟩
    · have d2 : (a.mode == 2) = false := by simpa using h2
      rw [if_neg h2] at hR
      have HE := Lib.hid hR
      clear hR h2 h4
      cases j with
      | false =>
        clear hl
        have c3 := HA.out.cells.2.2.2.1
        have c8 := HA.out.cells.2.2.2.2.2.2.2.2.1
        have f8 := HA.out.blk.frozen 8
        go_upto_region 10 with (fail)
        clear c3 c8 f8
        obtain ⟨c0, c1, c2, c3, c4, c5, c6, c7, c8, c9⟩ := HA.out.cells
        rw [HU.out] at c0
        have HO := Lib.hid (agA_one ({ a with up := true }))
        have HI := Lib.hid infoA_
        go_wp2_with (refine wpList_storeB rfl 81 _ _ rfl (w.heap.size + 1) (agA ({ a with up := true })) rfl rfl 81 _ HB.out HI.out rfl HO.out w.heap.size w HX.out (Nat.le_succ _) ?_; intro wz hbz hxz)
        exact bodyPost_ret (results_cell_row rfl _ _ (w.heap.size + 1) 81 _ (0, 0) _ rfl hbz rfl rfl (by kernel_rfl)) rfl ⟨by rw [HE.out, HU.out]; rfl, hxz⟩
      | true =>
        have e2 : decide (a.lease ≤ now) = false := by simpa using hl
        have c7 := HA.out.cells.2.2.2.2.2.2.2.1
        clear hl
        have c3 := HA.out.cells.2.2.2.1
        have c8 := HA.out.cells.2.2.2.2.2.2.2.2.1
        have f8 := HA.out.blk.frozen 8
        go_upto_region 10 with (fail)
        clear c3 c8 f8
        obtain ⟨c0, c1, c2, c3, c4, c5, c6, c7, c8, c9⟩ := HA.out.cells
        rw [HU.out] at c0
        have HO := Lib.hid (agA_one ({ a with up := true }))
        have HI := Lib.hid infoA_
        go_wp2_with (refine wpList_storeB rfl 81 _ _ rfl (w.heap.size + 1) (agA ({ a with up := true })) rfl rfl 81 _ HB.out HI.out rfl HO.out w.heap.size w HX.out (Nat.le_succ _) ?_; intro wz hbz hxz)
        exact bodyPost_ret (results_cell_row rfl _ _ (w.heap.size + 1) 81 _ (0, 0) _ rfl hbz rfl rfl (by kernel_rfl)) rfl ⟨by rw [HE.out, HU.out]; rfl, hxz⟩

end Go.Proofs.Ytddhbokknbmdfaa

/- Package agent: what an order does to an agent: the closures. -/
namespace Go.Proofs.Ytddhbokknbmdfaa
open Go.RowKit

/-- The blocks that the closures share: the agent's pointer, the order, the time. -/
structure CapAt (w : World) (g p4 p5 p6 : Nat) (m : Ms) (now : Int) : Prop where
  ptr : Blk w p4 132 #[.pointer (some ⟨g, 0, none⟩)]
  msg : MsAt w p5 m
  time : Blk w p6 3 #[.int .i64 now]
  off : g ≠ p4 ∧ g ≠ p5 ∧ g ≠ p6
theorem CapAt.chg {w w' : World} {F : Fp} {g p4 p5 p6 : Nat} {m : Ms} {now : Int} (h : CapAt w g p4 p5 p6 m now) (hc : Chg F w w') (h4 : ¬ F p4) (h5 : ¬ F p5) (h6 : ¬ F p6) : CapAt w' g p4 p5 p6 m now :=
  ⟨(hc.block p4 h.ptr.lt h4).trans h.ptr, h.msg.chg hc h5, (hc.block p6 h.time.lt h6).trans h.time, h.off⟩
theorem CapAt.ext {w w' : World} {g p4 p5 p6 : Nat} {m : Ms} {now : Int} (h : CapAt w g p4 p5 p6 m now) (hx : Ext w w') : CapAt w' g p4 p5 p6 m now := h.chg (F := fun _ => False) (Chg.of_ext hx) (fun h => h) (fun h => h) (fun h => h)
theorem CapAt.own {w w' : World} {g p4 p5 p6 : Nat} {m : Ms} {now : Int} (h : CapAt w g p4 p5 p6 m now) (hc : Chg (fun k => k = g) w w') : CapAt w' g p4 p5 p6 m now := h.chg hc (fun e => h.off.1 e.symm) (fun e => h.off.2.1 e.symm) (fun e => h.off.2.2 e.symm)

set_option maxRecDepth 100000 in
set_option maxHeartbeats 1000000 in
theorem is13_any (g p4 p5 p6 : Nat) (a : Ag) (m : Ms) (now k : Int) (w : World) (ha : AgAt w g a) (hc : CapAt w g p4 p5 p6 m now) :
    Calls Try.prog 113 #[.int .i64 k, .pointer (some ⟨p4, 0, none⟩), .pointer (some ⟨p5, 0, none⟩)] w fun e w' => e = .returned (.bool (isA a m k)) ∧ Ext w w' := by
  obtain ⟨c0, c1, c2, c3, c4, c5, c6, c7, c8, c9⟩ := ha.cells
  obtain ⟨m0, m1, m2, m3, m4, m5, m6, m7, m8, m9, m10⟩ := hc.msg.cells
  have q0 := hc.ptr.cell1
  clear ha hc c0 c1 c2 c6 c7 c8 c9 m0 m1 m2 m3 m6 m7 m8 m9 m10
  by_cases h1 : a.mode = k
  · have d1 : (a.mode == k) = true := by rw [h1]; simp
    by_cases h2 : a.job = m.job
    · have d2 : (a.job == m.job) = true := by rw [h2]; simp
      by_cases h3 : a.inc = m.inc
      · have d3 : (a.inc == m.inc) = true := by rw [h3]; simp
        have HE : Hid (isA a m k = true) := Lib.hid (by unfold isA; rw [decide_eq_true h1, decide_eq_true h2, decide_eq_true h3]; rfl)
        clear h1 h2 h3
        go_enter Try.func113, Try.ntmps113
        go_wp2
        go_quiet (fail)
        go_wp2
        go_ret
        exact ⟨by rw [HE.out]; rfl, Below.drewN' (Ext.refl w) _⟩
      · have d3 : (a.inc == m.inc) = false := by simpa using h3
        have HE : Hid (isA a m k = false) := Lib.hid (by unfold isA; rw [decide_eq_true h1, decide_eq_true h2, decide_eq_false h3]; rfl)
        clear h1 h2 h3
        go_enter Try.func113, Try.ntmps113
        go_wp2
        go_quiet (fail)
        go_wp2
        go_ret
        exact ⟨by rw [HE.out]; rfl, Below.drewN' (Ext.refl w) _⟩
    · have d2 : (a.job == m.job) = false := by simpa using h2
      have HE : Hid (isA a m k = false) := Lib.hid (by unfold isA; rw [decide_eq_true h1, decide_eq_false h2]; rfl)
      clear h1 h2
      go_enter Try.func113, Try.ntmps113
      go_wp2
      go_quiet (fail)
      go_wp2
      go_ret
      exact ⟨by rw [HE.out]; rfl, Below.drewN' (Ext.refl w) _⟩
  · have d1 : (a.mode == k) = false := by simpa using h1
    have HE : Hid (isA a m k = false) := Lib.hid (by unfold isA; rw [decide_eq_false h1]; rfl)
    clear h1
    go_enter Try.func113, Try.ntmps113
    go_wp2
    go_quiet (fail)
    go_wp2
    go_ret
    exact ⟨by rw [HE.out]; rfl, Below.drewN' (Ext.refl w) _⟩

set_option maxRecDepth 100000 in
set_option maxHeartbeats 1000000 in
theorem lengthen_any (g p4 p5 p6 : Nat) (a : Ag) (m : Ms) (now : Int) (w : World) (ha : AgAt w g a) (hc : CapAt w g p4 p5 p6 m now) :
    Calls Try.prog 114 #[.pointer (some ⟨p4, 0, none⟩), .pointer (some ⟨p5, 0, none⟩)] w fun e w' => e = .returned (.tuple #[]) ∧ AgAt w' g (longA a m) ∧ Chg (fun k => k = g) w w' := by
  have c7 := ha.cells.2.2.2.2.2.2.2.1
  have f7 := ha.blk.frozen 7
  have m8 := hc.msg.cells.2.2.2.2.2.2.2.2.1
  have q0 := hc.ptr.cell1
  have HA : Hid (AgAt (w.setCell ⟨g, 7, none⟩ (.int .i64 (max a.lease m.til))).drew g (longA a m) ∧ Chg (fun k => k = g) w (w.setCell ⟨g, 7, none⟩ (.int .i64 (max a.lease m.til))).drew) := Lib.hid (by
    have hq := (WB.start ha.blk).set 7 (.int .i64 (max a.lease m.til))
    simp only [List.setIfInBounds_toArray, List.set_cons_zero, List.set_cons_succ] at hq
    exact ⟨⟨hq.blk⟩, hq.chg.drew⟩)
  clear ha hc
  go_enter Try.func114, Try.ntmps114
  go_wp2_with fail
  go_still_tail 10, (by kernel_rfl)
  change wpList _ _ _ _ _ _
  go_wp2
  go_end0
  exact ⟨rfl, HA.out⟩

/-- The two functions that the others call. -/
structure FnAt (w : World) (g p4 p5 p9 p10 : Nat) : Prop where
  is_ : Blk w p9 58 #[.func (.func 113) #[] #[.pointer (some ⟨p4, 0, none⟩), .pointer (some ⟨p5, 0, none⟩)]]
  long : Blk w p10 1 #[.func (.func 114) #[] #[.pointer (some ⟨p4, 0, none⟩), .pointer (some ⟨p5, 0, none⟩)]]
  off : g ≠ p9 ∧ g ≠ p10
theorem FnAt.ext {w w' : World} {g p4 p5 p9 p10 : Nat} (h : FnAt w g p4 p5 p9 p10) (hx : Ext w w') : FnAt w' g p4 p5 p9 p10 := ⟨h.is_.ext hx, h.long.ext hx, h.off⟩

/-- Rest. -/
theorem rest13_any (g p4 p5 p6 : Nat) (a : Ag) (m : Ms) (now : Int) (w : World) (ha : AgAt w g a) (hc : CapAt w g p4 p5 p6 m now) :
    Calls Try.prog 115 #[.pointer (some ⟨p4, 0, none⟩)] w fun e w' => e = .returned (.tuple #[]) ∧ AgAt w' g (if a.mode = 4 then a else looseA a) ∧ Chg (fun k => k = g) w w' := by
  have c3 := ha.cells.2.2.2.1
  have q0 := hc.ptr.cell1
  have HA := Lib.hid ha
  have HL := Lib.hid (letGo_any g a w ha)
  clear ha hc
  by_cases h4 : a.mode = 4
  · have d4 : (a.mode != 4) = false := by rw [h4]; rfl
    rw [if_pos h4]
    clear h4
    go_enter Try.func115, Try.ntmps115
    go_wp2
    go_end0
    exact ⟨rfl, HA.out, Chg.refl _ _⟩
  · have d4 : (a.mode != 4) = true := by simpa using h4
    rw [if_neg h4]
    clear h4
    go_enter Try.func115, Try.ntmps115
    go_wp2_with fail
    refine HL.out.mono ?_
    rintro e1 w1 ⟨rfl, h1, h2⟩
    have H1 := Lib.hid (And.intro h1 h2)
    clear h1 h2
    go_wp2
    go_end0
    exact ⟨rfl, H1.out.1, H1.out.2⟩


set_option maxRecDepth 100000 in
set_option maxHeartbeats 1000000 in
/-- Work. -/
theorem work13_any (g p4 p5 p6 p9 p10 : Nat) (a : Ag) (m : Ms) (now : Int) (w : World) (ha : AgAt w g a) (hc : CapAt w g p4 p5 p6 m now) (hf : FnAt w g p4 p5 p9 p10) :
    Calls Try.prog 117 #[.pointer (some ⟨p9, 0, none⟩), .pointer (some ⟨p5, 0, none⟩), .pointer (some ⟨p4, 0, none⟩), .pointer (some ⟨p10, 0, none⟩)] w fun e w' => e = .returned (.tuple #[]) ∧ AgAt w' g (if isA a m 1 = true then { a with mode := 2, worked := m.work, lease := m.til } else if isA a m 2 = true then longA a m else a) ∧ Chg (fun k => k = g) w w' := by
  have q9 := hf.is_.cell1
  have HA := Lib.hid ha
  have HC := Lib.hid hc
  have HF := Lib.hid hf
  have HI := Lib.hid (is13_any g p4 p5 p6 a m now 1 w ha hc)
  clear ha hc hf
  cases h1 : isA a m 1 with
  | true =>
    rw [h1] at HI
    clear h1
    go_enter Try.func117, Try.ntmps117
    go_wp2_with fail
    refine HI.out.mono ?_
    rintro e1 w1 ⟨rfl, hx1⟩
    have ha1 := HA.out.ext hx1
    have hc1 := HC.out.ext hx1
    obtain ⟨-, -, -, c3, -, -, -, c7, c8, -⟩ := ha1.cells
    obtain ⟨-, -, -, -, -, -, -, -, m8, -, m10⟩ := hc1.msg.cells
    have f3 := ha1.blk.frozen 3
    have f7 := ha1.blk.frozen 7
    have f8 := ha1.blk.frozen 8
    have q4 := hc1.ptr.cell1
    have n5 : ¬ p5 = g := fun e => HC.out.off.2.1 e.symm
    have n5' : ¬ g = p5 := HC.out.off.2.1
    have n4 : ¬ p4 = g := fun e => HC.out.off.1 e.symm
    have n4' : ¬ g = p4 := HC.out.off.1
    have HQ : Hid (AgAt (((w1.setCell ⟨g, 3, none⟩ (.int .i64 (2))).setCell ⟨g, 8, none⟩ (.int .i64 (m.work))).setCell ⟨g, 7, none⟩ (.int .i64 (m.til))).drew g ({ a with mode := 2, worked := m.work, lease := m.til }) ∧ Chg (fun k => k = g) w (((w1.setCell ⟨g, 3, none⟩ (.int .i64 (2))).setCell ⟨g, 8, none⟩ (.int .i64 (m.work))).setCell ⟨g, 7, none⟩ (.int .i64 (m.til))).drew) := Lib.hid (by
      have hq := ((((WB.start ha1.blk).set 3 (.int .i64 (2))).set 8 (.int .i64 (m.work))).set 7 (.int .i64 (m.til)))
      simp only [List.setIfInBounds_toArray, List.set_cons_zero, List.set_cons_succ] at hq
      exact ⟨⟨hq.blk⟩, (Chg.of_ext (F := fun k => k = g) (hx1)).trans hq.chg.drew (fun _ _ h => h)⟩)
    clear ha1 hc1
    clear hx1 HI
    go_wp2_with fail
    go_region
    all_goals (try go_wp2)
    all_goals go_end0
    all_goals exact ⟨rfl, HQ.out.1, HQ.out.2⟩
  | false =>
    rw [h1] at HI
    clear h1
    cases h2 : isA a m 2 with
    | true =>
      go_enter Try.func117, Try.ntmps117
      go_wp2_with fail
      refine HI.out.mono ?_
      rintro e1 w1 ⟨rfl, hx1⟩
      have HI2 := Lib.hid (is13_any g p4 p5 p6 a m now 2 w1 (HA.out.ext hx1) (HC.out.ext hx1))
      rw [h2] at HI2
      have q9' := (HF.out.ext hx1).is_.cell1
      have HX1 := Lib.hid hx1
      clear hx1 h2 HI
      go_wp2_with fail
      refine HI2.out.mono ?_
      rintro e2 w2 ⟨rfl, hx2⟩
      have HX2 := Lib.hid (HX1.out.trans hx2)
      clear hx2 HI2 HX1 q9'
      have q10 := (HF.out.ext HX2.out).long.cell1
      have HL := Lib.hid (lengthen_any g p4 p5 p6 a m now w2 (HA.out.ext HX2.out) (HC.out.ext HX2.out))
      go_wp2_with fail
      refine HL.out.mono ?_
      rintro e3 w3 ⟨rfl, h1, h2⟩
      have H1 := Lib.hid (And.intro h1 ((Chg.of_ext (F := fun k => k = g) HX2.out).trans h2 (fun _ _ h => h)))
      clear h1 h2 HL
      go_wp2
      go_end0
      exact ⟨rfl, H1.out.1, H1.out.2⟩
    | false =>
      go_enter Try.func117, Try.ntmps117
      go_wp2_with fail
      refine HI.out.mono ?_
      rintro e1 w1 ⟨rfl, hx1⟩
      have HI2 := Lib.hid (is13_any g p4 p5 p6 a m now 2 w1 (HA.out.ext hx1) (HC.out.ext hx1))
      rw [h2] at HI2
      have q9' := (HF.out.ext hx1).is_.cell1
      have HX1 := Lib.hid hx1
      clear hx1 h2 HI
      go_wp2_with fail
      refine HI2.out.mono ?_
      rintro e2 w2 ⟨rfl, hx2⟩
      have HX2 := Lib.hid (HX1.out.trans hx2)
      clear hx2 HI2 HX1 q9'
      go_wp2
      go_end0
      exact ⟨rfl, HA.out.ext HX2.out, Chg.of_ext HX2.out⟩

set_option maxRecDepth 100000 in
set_option maxHeartbeats 1000000 in
/-- Turn. -/
theorem turn13_any (g p4 p5 p6 p9 p10 : Nat) (a : Ag) (m : Ms) (now : Int) (w : World) (ha : AgAt w g a) (hc : CapAt w g p4 p5 p6 m now) (hf : FnAt w g p4 p5 p9 p10) :
    Calls Try.prog 120 #[.pointer (some ⟨p4, 0, none⟩), .pointer (some ⟨p5, 0, none⟩)] w fun e w' => e = .returned (.tuple #[]) ∧ AgAt w' g (if a.mode = 0 ∧ 1 ≤ m.ver ∧ m.ver ≤ 9 then { a with mode := 4, aim := m.ver } else a) ∧ Chg (fun k => k = g) w w' := by
  have HA := Lib.hid ha
  have HC := Lib.hid hc
  have HF := Lib.hid hf
  have c3 := ha.cells.2.2.2.1
  have q4_ := hc.ptr.cell1
  have m6_ := hc.msg.cells.2.2.2.2.2.2.1
  have HV := Lib.hid (isVersion_any m.ver w)
  clear ha hc hf
  by_cases h0 : a.mode = 0
  · have d0 : (a.mode == 0) = true := by rw [h0]; rfl
    obtain ⟨z, hz⟩ : ∃ z, z = decide (1 ≤ m.ver ∧ m.ver ≤ 9) := ⟨_, rfl⟩
    rw [← hz] at HV
    cases z with
    | true =>
      rw [if_pos ⟨h0, of_decide_eq_true hz.symm⟩]
      clear h0 hz
      go_enter Try.func120, Try.ntmps120
      go_wp2_with fail
      refine HV.out.mono ?_
      rintro e1 w1 ⟨rfl, rfl⟩
      clear c3 q4_ m6_
      have ha1 := HA.out.ext (Ext.refl w)
      have hc1 := HC.out.ext (Ext.refl w)
      obtain ⟨-, -, -, c3, -, -, -, -, -, c9⟩ := ha1.cells
      obtain ⟨-, -, -, -, -, -, m6, -, -, -, -⟩ := hc1.msg.cells
      have f3 := ha1.blk.frozen 3
      have f9 := ha1.blk.frozen 9
      have q4 := hc1.ptr.cell1
      have n5 : ¬ p5 = g := fun e => HC.out.off.2.1 e.symm
      have n5' : ¬ g = p5 := HC.out.off.2.1
      have n4 : ¬ p4 = g := fun e => HC.out.off.1 e.symm
      have n4' : ¬ g = p4 := HC.out.off.1
      have HQ : Hid (AgAt ((w.setCell ⟨g, 3, none⟩ (.int .i64 (4))).setCell ⟨g, 9, none⟩ (.int .i64 (m.ver))).drew g ({ a with mode := 4, aim := m.ver }) ∧ Chg (fun k => k = g) w ((w.setCell ⟨g, 3, none⟩ (.int .i64 (4))).setCell ⟨g, 9, none⟩ (.int .i64 (m.ver))).drew) := Lib.hid (by
        have hq := (((WB.start ha1.blk).set 3 (.int .i64 (4))).set 9 (.int .i64 (m.ver)))
        simp only [List.setIfInBounds_toArray, List.set_cons_zero, List.set_cons_succ] at hq
        exact ⟨⟨hq.blk⟩, (Chg.of_ext (F := fun k => k = g) (Ext.refl w)).trans hq.chg.drew (fun _ _ h => h)⟩)
      clear ha1 hc1
      clear HV
      go_wp2_with fail
      go_region
      all_goals (try go_wp2)
      all_goals go_end0
      all_goals exact ⟨rfl, HQ.out.1, HQ.out.2⟩
    | false =>
      rw [if_neg (fun hc => of_decide_eq_false hz.symm hc.2)]
      clear h0 hz
      go_enter Try.func120, Try.ntmps120
      go_wp2_with fail
      refine HV.out.mono ?_
      rintro e1 w1 ⟨rfl, rfl⟩
      go_wp2
      go_end0
      exact ⟨rfl, HA.out, Chg.refl _ _⟩
  · have d0 : (a.mode == 0) = false := by simpa using h0
    rw [if_neg (fun hc => h0 hc.1)]
    clear h0
    go_enter Try.func120, Try.ntmps120
    go_wp2
    go_end0
    exact ⟨rfl, HA.out, Chg.refl _ _⟩

end Go.Proofs.Ytddhbokknbmdfaa

/- Slices of bytes in this translation's numbers: what one element takes; the laws at an append. -/
namespace Go.Proofs.Ytddhbokknbmdfaa
open Go.RowKit

theorem Try.infoU8 : (Try.prog.info? 5).map (fun i => (i.zero, i.size, i.bytes)) = some (some (.int .u8 0), 1, 1) := by kernel_rfl

/-- 'b = append(b, x)', b a row of bytes of the call's own. -/
theorem push_u8 {w : World} {ops : Array Oper} {rest : List Oper} {o : Oper} {a : Act} {Q : Exit → Act → World → Prop} {gx : Nat} (hgd : o.guard = none) (s x : Operand)
    (ho : o.op = .call { callee := .builtin .append, args := #[s, x], argTypes := #[27, 27] })
    (base : Nat) (v : Value) (xs : List Value) (hs : a.eval s = v) (hown : w.ownsRow base 5 1 v xs.length xs) (u : Value) (h1 : u.oneCell' = true)
    (hx : a.eval x = .slice (some ⟨gx, 0, none⟩) 1 1) (hlen : xs.length < 140737488355328) (hbase : base ≤ w.heap.size)
    (h : ∀ v' w', Grew base 5 v w (xs ++ [u]) v' w' → wpList Try.prog ops Q rest (a.put o.dst v') w') (hgx : gx = w.heap.size := by simp) : wpList Try.prog ops Q (o :: rest) a (w.alloc (.cells #[u] 5)) := by
  subst hgx
  exact wpList_push hgd s x 27 ho base 5 (.int .u8 0) 1 Try.underlying27 Try.infoU8 rfl v xs hs hown u h1 hx (by unfold maxLen; omega) (by omega) hbase h

/-- 'b = append(b, c...)', c what reads as a list of bytes. -/
theorem app_u8 {w : World} {ops : Array Oper} {rest : List Oper} {o : Oper} {a : Act} {Q : Exit → Act → World → Prop} (hgd : o.guard = none) (s x : Operand)
    (ho : o.op = .call { callee := .builtin .append, args := #[s, x], argTypes := #[27, 27] })
    (base : Nat) (v : Value) (xs : List Value) (hs : a.eval s = v) (hown : w.ownsRow base 5 1 v xs.length xs) (u : Value) (ys : List UInt8) (hx : a.eval x = u) (hr : Rd w u (ys.map B))
    (hbytes : xs.length + ys.length ≤ 140737488355328) (hbase : base ≤ w.heap.size)
    (h : ∀ v' w', Grew base 5 v w (xs ++ ys.map B) v' w' → wpList Try.prog ops Q rest (a.put o.dst v') w') : wpList Try.prog ops Q (o :: rest) a w :=
  wpList_appendRd hgd s x 27 ho base 5 (.int .u8 0) 1 Try.underlying27 Try.infoU8 rfl v xs hs hown u _ hx hr (bytes_oneCell ys) (by unfold maxLen; simp; omega) (by simp; omega) hbase h

end Go.Proofs.Ytddhbokknbmdfaa

/- Layer 1, package code: a number's bytes. -/
namespace Go.Proofs.Ytddhbokknbmdfaa
open Go.RowKit

theorem isNum_yes (n : Int) (w : World) (h0 : 0 ≤ n) (h1 : n < 9007199254740992) :
    Calls Try.prog 109 #[.int .i64 n] w fun e w' => e = .returned (.bool true) ∧ w = w' := by
  go_enter Try.func109, Try.ntmps109
  go_wp2
  go_ret
  exact ⟨rfl, rfl⟩

theorem isNum_no (n : Int) (w : World) (h : ¬ (0 ≤ n ∧ n < 9007199254740992)) :
    Calls Try.prog 109 #[.int .i64 n] w fun e w' => e = .returned (.bool false) ∧ w = w' := by
  by_cases h0 : 0 ≤ n
  · have h1 : 9007199254740992 ≤ n := by omega
    have h2 : decide (n < 9007199254740992) = false := by simp; omega
    clear h
    go_enter Try.func109, Try.ntmps109
    go_wp2
    go_ret
    exact ⟨rfl, rfl⟩
  · clear h
    go_enter Try.func109, Try.ntmps109
    go_wp2
    go_ret
    exact ⟨rfl, rfl⟩

set_option maxRecDepth 100000 in
set_option maxHeartbeats 1000000 in
theorem addNum_any (base : Nat) (v : Value) (l : List UInt8) (n : Nat) (w : World) (hown : w.ownsRow base 5 1 v (l.map B).length (l.map B)) (hb : base ≤ w.heap.size)
    (hn : n < 9223372036854775808) (hl : l.length ≤ 140737488355318) :
    Calls Try.prog 108 #[v, .int .i64 n] w fun e w' => ∃ v', e = .returned v' ∧ Grew base 5 v w ((l ++ numB n).map B) v' w' := by
  obtain ⟨i0, hi, hz0, hz1, hz2⟩ := info_parts Try.infoU8
  have hlen := numB_len10 hn
  go_enter Try.func108, Try.ntmps108
  go_wp2
  go_loopw [0, 1] (fun v' n' wr => ∃ (m : Nat) (l' : List UInt8), n' = .int .i64 m ∧ m ≤ n ∧ l' ++ numB m = l ++ numB n ∧ Grew base 5 v w (l'.map B) v' wr) (fun _ n' _ => (intOf n').toNat)
  case atStart => exact ⟨n, l, rfl, Nat.le_refl _, rfl, Grew.start hown⟩
  case round =>
    obtain ⟨m, l', rfl, hmn, hmm, hg⟩ := hrel
    have hlt : (List.map B l').length < 140737488355328 := by
      have := congrArg List.length hmm
      have := numB_pos m
      simp only [List.length_append, List.length_map] at *
      omega
    have hbw : base ≤ wr.heap.size := Nat.le_trans hb hg.size
    have hML := Lib.hid hmm
    clear hmm
    by_cases h128 : m < 128
    · go_wp2_with (at_builtin; refine push_u8 rfl _ _ rfl base _ _ rfl hg.1 _ rfl rfl hlt hbw ?_; intro v' w' hg')
      go_ret
      refine ⟨_, rfl, ?_⟩
      have hgg := hg.trans hg'
      rw [← hML.out, numB_lo h128, List.map_append]
      rw [B_eq (n := (m : Int)) (u := UInt8.ofNat m) (by rw [u8_toNat]; omega)] at hgg
      exact hgg
    · have ho := or128 m
      have hO := Lib.hid ho
      clear ho
      go_wp2_with (at_builtin; refine push_u8 rfl _ _ rfl base _ _ rfl hg.1 _ rfl rfl hlt hbw ?_; intro v' w' hg')
      go_roundw
      case rel =>
        have hgg := hg.trans hg'
        rw [B_eq hO.out] at hgg
        refine ⟨m / 128, l' ++ [UInt8.ofNat (m % 128 + 128)], by go_num, by omega, ?_, by simpa using hgg⟩
        rw [← hML.out, numB_hi h128]
        simp
      case measure => simp [intOf]; omega

theorem Num_yes (n : Nat) (w : World) (hn : n < 9007199254740992) :
    Calls Try.prog 105 #[.int .i64 n] w fun e w' => ∃ v', e = .returned v' ∧ Grew w.heap.size 5 (.slice none 0 0) w ((numB n).map B) v' w' := by
  go_enter Try.func105, Try.ntmps105
  go_wp2_with (first | (go_at_call 109; refine (isNum_yes _ _ (by omega) (by omega)).mono ?_; rintro e w' ⟨rfl, rfl⟩) | (go_at_call 108; refine (addNum_any w.heap.size _ [] _ _ (World.ownsRow_nil _ _ _ _) (Nat.le_refl _) (by omega) (by simp)).mono ?_; rintro e w' ⟨v', rfl, hg⟩))
  go_ret
  exact ⟨_, rfl, hg⟩

theorem Num_no (n : Int) (w : World) (hn : ¬ (0 ≤ n ∧ n < 9007199254740992)) :
    Calls Try.prog 105 #[.int .i64 n] w fun e w' => e = .returned (.slice none 0 0) ∧ w = w' := by
  have H := Lib.hid hn
  clear hn
  go_enter Try.func105, Try.ntmps105
  go_wp2_with (first | (go_at_call 109; refine (isNum_no _ _ H.out).mono ?_; rintro e w' ⟨rfl, rfl⟩))
  go_ret
  exact ⟨rfl, rfl⟩

end Go.Proofs.Ytddhbokknbmdfaa

/- Strings in this translation's numbers: a string appended to bytes; bytes made into a string. -/
namespace Go.Proofs.Ytddhbokknbmdfaa
open Go.RowKit

/-- 'b = append(b, s...)', s a string. -/
theorem app_str {w : World} {ops : Array Oper} {rest : List Oper} {o : Oper} {a : Act} {Q : Exit → Act → World → Prop} (hgd : o.guard = none) (s x : Operand)
    (ho : o.op = .call { callee := .builtin .append, args := #[s, x], argTypes := #[27, 9] })
    (base : Nat) (v : Value) (xs : List Value) (hs : a.eval s = v) (hown : w.ownsRow base 5 1 v xs.length xs) (str : ByteArray) (hx : a.eval x = .string str)
    (hbytes : xs.length + str.size ≤ 140737488355328) (hbase : base ≤ w.heap.size)
    (h : ∀ v' w', Grew base 5 v w (xs ++ str.data.toList.map B) v' w' → wpList Try.prog ops Q rest (a.put o.dst v') w') : wpList Try.prog ops Q (o :: rest) a w :=
  wpList_appendStr hgd s x 27 9 ho base 5 Try.underlying27 Try.underlying9 Try.infoU8 v xs hs hown str hx hbytes hbase h

theorem conv_u8 {w : World} {ops : Array Oper} {rest : List Oper} {o : Oper} {a : Act} {Q : Exit → Act → World → Prop} (hgd : o.guard = none) (x : Operand)
    (ho : o.op = .convert 27 9 x) (u : Value) (ys : List UInt8) (hx : a.eval x = u) (hr : Rd w u (ys.map B))
    (h : wpList Try.prog ops Q rest (a.put o.dst (.string ⟨ys.toArray⟩)) w) : wpList Try.prog ops Q (o :: rest) a w :=
  wpList_conv hgd x 27 9 5 ho Try.underlying27 Try.underlying5 Try.underlying9 u ys hx hr h

end Go.Proofs.Ytddhbokknbmdfaa

/- Layer 1, package code: a text's bytes. -/
namespace Go.Proofs.Ytddhbokknbmdfaa
open Go.RowKit

theorem Text_any (s : ByteArray) (w : World) (hs : s.size ≤ 140737488351232) :
    Calls Try.prog 126 #[.string s] w fun e w' => ∃ v', e = .returned v' ∧ Grew w.heap.size 5 (.slice none 0 0) w ((numB s.size ++ s.data.toList).map B) v' w' := by
  have hlen := numB_len10 (n := s.size) (by omega)
  go_enter Try.func126, Try.ntmps126
  go_wp2_with (first | (go_at_call 108; refine (addNum_any w.heap.size _ [] _ _ (World.ownsRow_nil _ _ _ _) (Nat.le_refl _) (by omega) (by simp)).mono ?_; rintro e w' ⟨v', rfl, hg⟩) | (at_builtin; refine app_str rfl _ _ rfl w.heap.size _ _ rfl hg.1 _ rfl (by simp; omega) hg.size ?_; intro v2 w2 hg2))
  go_ret
  exact ⟨_, rfl, by simpa using hg.trans hg2⟩

end Go.Proofs.Ytddhbokknbmdfaa
