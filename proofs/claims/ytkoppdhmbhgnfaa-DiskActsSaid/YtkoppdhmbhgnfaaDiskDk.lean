/- Package disk: a disk, as the document speaks of it. -/
import Derived.Test.YtkoppdhmbhgnfaaDiskLay
import Derived.Test.YtkoppdhmbhgnfaaLift
import Derived.Test.YtkoppdhmbhgnfaaClone
import Derived.Test.YtkoppdhmbhgnfaaStep
import Derived.Laws.OwnMore
namespace Go.Proofs.Ytkoppdhmbhgnfaa
open Go.RowKit

/-- The row of a write's bytes. -/
def WtS.row (x : WtS) : RowS := ⟨5, 1, x.2.1, x.2.2.length, x.2.2.map B⟩
/-- All rows of a disk. -/
def rowsD (vB : Value) (bs : List UInt8) (vW : Value) (us : List WtS) : List RowS :=
  ⟨5, 1, vB, bs.length, bs.map B⟩ :: ⟨57, 2, vW, us.length, us.flatMap WtS.cells⟩ :: us.map WtS.row

/-- The disk at g. -/
def Dk0 (F : Fp) (w : World) (g : Nat) (bs : List UInt8) (us : List WtS) (n : Int) (vB vW : Value) : Prop :=
  ObjF F w g 53 #[vB, vW, .int .i64 n] (rowsD vB bs vW us)
/-- What holds of a disk beside its memory. -/
def DkOk (s : DkS) (us : List WtS) : Prop :=
  s.2.1 = flatW (us.map WtS.plain) ∧ 1 ≤ s.1.length ∧ s.1.length ≤ 65536 ∧ ∀ x ∈ us, x.1 + x.2.2.length ≤ s.1.length ∧ 0 < x.2.2.length
def Dk (F : Fp) (w : World) (g : Nat) (s : DkS) : Prop := ∃ us vB vW, Dk0 F w g s.1 us s.2.2 vB vW ∧ DkOk s us

theorem flatCells (us : List WtS) (j : Nat) (x : WtS) (h : us[j]? = some x) : (us.flatMap WtS.cells)[j * 2]? = some (I x.1) ∧ (us.flatMap WtS.cells)[j * 2 + 1]? = some x.2.1 := by
  induction us generalizing j with
  | nil => simp at h
  | cons y us ih =>
    have e : (y :: us).flatMap WtS.cells = I y.1 :: y.2.1 :: us.flatMap WtS.cells := rfl
    rw [e]
    cases j with
    | zero =>
      simp only [List.getElem?_cons_zero, Option.some.injEq] at h
      subst h
      simp
    | succ j =>
      rw [List.getElem?_cons_succ] at h
      obtain ⟨h1, h2⟩ := ih j h
      rw [Nat.succ_mul]
      exact ⟨h1, h2⟩

section
variable {F G : Fp} {w w' : World} {g : Nat} {bs : List UInt8} {us : List WtS} {n : Int} {vB vW : Value} {s : DkS}
theorem DkOk.many (h : DkOk s us) : us.length ≤ s.2.1.length := by
  have := flatW_many (l := us.map WtS.plain) (fun x hx => by
    obtain ⟨y, hy, rfl⟩ := List.mem_map.1 hx
    exact (h.2.2.2 y hy).2)
  rw [List.length_map, ← h.1] at this
  exact this
theorem DkOk.okD (h : DkOk s us) : okD s := by
  intro x hx
  rw [h.1] at hx
  exact flatW_lt (fun y hy => by
    obtain ⟨z, hz, rfl⟩ := List.mem_map.1 hy
    exact (h.2.2.2 z hz).1) x hx
theorem Dk0.rowB (h : Dk0 F w g bs us n vB vW) : w.ownsRow 0 5 1 vB bs.length (bs.map B) := (ObjF.ok h ⟨5, 1, vB, bs.length, bs.map B⟩ (by simp [rowsD])).1
theorem Dk0.rowW (h : Dk0 F w g bs us n vB vW) : w.ownsRow 0 57 2 vW us.length (us.flatMap WtS.cells) := (ObjF.ok h ⟨57, 2, vW, us.length, us.flatMap WtS.cells⟩ (by simp [rowsD])).1
theorem Dk0.slB (h : Dk0 F w g bs us n vB vW) : ∃ A c, vB = .slice A bs.length c := own_slice h.rowB
theorem Dk0.slW (h : Dk0 F w g bs us n vB vW) : ∃ A c, vW = .slice A us.length c := own_slice h.rowW
theorem Dk0.c0 (h : Dk0 F w g bs us n vB vW) : w.cell? ⟨g, 0, none⟩ = some vB := ObjF.blk h |>.cell 0
theorem Dk0.c1 (h : Dk0 F w g bs us n vB vW) : w.cell? ⟨g, 1, none⟩ = some vW := ObjF.blk h |>.cell 1
theorem Dk0.c2 (h : Dk0 F w g bs us n vB vW) : w.cell? ⟨g, 2, none⟩ = some (.int .i64 n) := ObjF.blk h |>.cell 2
theorem Dk0.fr (h : Dk0 F w g bs us n vB vW) (i : Nat) : w.frozen? ⟨g, i, none⟩ = false := ObjF.blk h |>.frozen i
theorem Dk0.lt (h : Dk0 F w g bs us n vB vW) : g < w.heap.size := (ObjF.blk h).lt
theorem Dk0.ext (h : Dk0 F w g bs us n vB vW) (hx : Ext w w') : Dk0 F w' g bs us n vB vW := ObjF.ext h hx
/-- The blocks of what waits. -/
def wtFp (vW : Value) (us : List WtS) : Fp := fun k => vW.ownBlock = some k ∨ ∃ x ∈ us, x.2.1.ownBlock = some k
/-- The list of what waits reads so; it lies apart of the lasting bytes. -/
theorem Dk0.waits (h : Dk0 F w g bs us n vB vW) : WtRd (wtFp vW us) w vW us ∧ ∀ k, vB.ownBlock = some k → ¬ wtFp vW us k := by
  have hp := ObjF.apart h
  rw [rowsD, List.pairwise_cons, List.pairwise_cons] at hp
  refine ⟨?_, fun k hk hw => ?_⟩
  · have hr := h.rowW
    rcases hr.2 with ⟨hv, h0⟩ | ⟨b, cap, cur, hv, hg, hh, hn, hcap, hs, ht⟩
    · exact ⟨none, 0, by rw [hv, h0], by omega, Nat.zero_le _, fun hn => absurd hn (by omega)⟩
    · refine ⟨some ⟨b, 0, none⟩, cap, hv, hn, hcap, fun hn0 => ⟨b, 0, rfl, (Array.getElem?_eq_some_iff.1 hh).1, .inl (by rw [hv]; rfl), fun j x hj => ?_⟩⟩
      have hjl : j < us.length := (List.getElem?_eq_some_iff.1 hj).1
      have hc := flatCells us j x hj
      subst hv
      have e1 := hr.cellAt (j * 2) (by omega)
      have e2 := hr.cellAt (j * 2 + 1) (by omega)
      rw [hc.1] at e1
      rw [hc.2] at e2
      refine ⟨by rw [Nat.zero_add]; exact e1, by rw [Nat.zero_add]; exact e2, ?_⟩
      have hxm : x ∈ us := List.mem_of_getElem? hj
      have hok := (ObjF.ok h x.row (by simp only [rowsD, List.mem_cons, List.mem_map]; exact .inr (.inr ⟨x, hxm, rfl⟩))).1
      have hrow : RowF (fun k => wtFp (.slice (some ⟨b, 0, none⟩) us.length cap) us k) w 5 x.2.1 (x.2.2.map B) := ⟨by rw [List.length_map]; exact hok, fun k hk => .inr ⟨x, hxm, hk⟩⟩
      exact hrow.rdF
  · rcases hw with hw | ⟨x, hx, hw⟩
    · exact hp.1 _ List.mem_cons_self k hk hw
    · exact hp.1 x.row (by simp only [List.mem_cons, List.mem_map]; exact .inr ⟨x, hx, rfl⟩) k hk hw
theorem Dk0.wtLt (h : Dk0 F w g bs us n vB vW) : ∀ k, wtFp vW us k → k < w.heap.size := fun k hk => by
  rcases hk with hk | ⟨x, hx, hk⟩
  · exact (h.rowW.lt k hk).2
  · exact ((ObjF.ok h x.row (by simp only [rowsD, List.mem_cons, List.mem_map]; exact .inr (.inr ⟨x, hx, rfl⟩))).1.lt k hk).2
theorem Dk.isIn (h : Dk F w g s) : F.isIn w := by
  obtain ⟨us, vB, vW, h1, _⟩ := h
  exact ObjF.isIn h1
theorem Dk.chg (h : Dk F w g s) (hc : Chg G w w') (ha : F.apart G) : Dk F w' g s := by
  obtain ⟨us, vB, vW, h1, h2⟩ := h
  exact ⟨us, vB, vW, ObjF.chg h1 hc ha, h2⟩
theorem Dk.mono (h : Dk F w g s) (hf : ∀ k, F k → G k) (hi : G.isIn w) : Dk G w g s := by
  obtain ⟨us, vB, vW, h1, h2⟩ := h
  exact ⟨us, vB, vW, ObjF.mono h1 hf hi, h2⟩
theorem Dk.lens (h : Dk F w g s) : 1 ≤ s.1.length ∧ s.1.length ≤ 65536 ∧ Go.Proofs.Ytkoppdhmbhgnfaa.okD s := by
  obtain ⟨us, vB, vW, h1, h2⟩ := h
  exact ⟨h2.2.1, h2.2.2.1, h2.okD⟩
end

theorem DkNew_yes (n : Nat) (w : World) (h1 : 1 ≤ n) (h2 : n ≤ 65536) : Calls Try.prog 9 #[.int .i64 (n : Int)] w fun e w' =>
    ∃ g, e = .returned (.pointer (some ⟨g, 0, none⟩)) ∧ Dk (fun k => w.heap.size ≤ k ∧ k < w'.heap.size) w' g (List.replicate n 0, [], 0) ∧ Ext w w' := by
  go_enter Try.func9, Try.ntmps9
  go_wp2_with (refine make_u8 rfl _ _ rfl n rfl rfl (by omega) ?_; intro g w2 hg0 hg2)
  go_ret
  have hm := RowF.made hg2
  have hl : ((List.replicate n (0 : UInt8)).map B).length = (List.replicate n (0 : UInt8)).length := List.length_map _
  have hrow : RowS.ok ⟨5, 1, .slice (some ⟨g, 0, none⟩) n n, (List.replicate n (0 : UInt8)).length, (List.replicate n (0 : UInt8)).map B⟩ (fun k => w.heap.size ≤ k ∧ k < w2.heap.size) w2 := by
    rw [← hl]
    exact hm
  refine ⟨w2.heap.size, rfl, ⟨[], .slice (some ⟨g, 0, none⟩) n n, .slice none 0 0, ?_, rfl, by simpa using h1, by simpa using h2, by simp⟩, hg2.ext.trans ((Below.refl _ _).alloc (Nat.le_refl _) _)⟩
  have := ObjF.new (w0 := w) (w := w2) (rows := rowsD (.slice (some ⟨g, 0, none⟩) n n) (List.replicate n (0 : UInt8)) (.slice none 0 0) []) hg2.size
    #[.slice (some ⟨g, 0, none⟩) n n, .slice none 0 0, .int .i64 0] 53 ?_ ?_
  · simpa [Dk0] using this
  · intro r hr
    simp only [rowsD, List.map_nil, List.mem_cons, List.not_mem_nil, or_false] at hr
    rcases hr with rfl | rfl
    · exact hrow
    · exact ⟨World.ownsRow_nil _ _ _ _, fun k hk => by cases hk⟩
  · simp [rowsD, RowS.apart, Value.ownBlock]

theorem DkNew_no (n : Int) (w : World) (h : ¬ (1 ≤ n ∧ n ≤ 65536)) : Calls Try.prog 9 #[.int .i64 n] w fun e w' => e = .returned (.pointer none) ∧ w = w' := by
  rcases (show n < 1 ∨ (1 ≤ n ∧ 65536 < n) by omega) with h1 | ⟨h1, h2⟩
  all_goals
    clear h
    go_enter Try.func9, Try.ntmps9
    go_wp2
    go_ret
    exact ⟨rfl, rfl⟩

theorem DkSize (F : Fp) (g : Nat) (s : DkS) (w : World) (hd : Dk F w g s) :
    Calls Try.prog 14 #[.pointer (some ⟨g, 0, none⟩)] w fun e w' => e = .returned (.int .i64 (s.1.length : Int)) ∧ Ext w w' := by
  obtain ⟨us, vB, vW, h1, h2⟩ := hd
  obtain ⟨A, c, rfl⟩ := h1.slB
  have c0 := h1.c0
  have hl : s.1.length ≤ 65536 := h2.2.2.1
  clear h1 h2
  go_enter Try.func14, Try.ntmps14
  go_wp2
  go_ret
  exact ⟨rfl, Ext.refl _⟩

theorem DkSize_nil (w : World) : Calls Try.prog 14 #[.pointer none] w fun e w' => e = .returned (.int .i64 0) ∧ w = w' := by
  go_enter Try.func14, Try.ntmps14
  go_wp2
  go_ret
  exact ⟨rfl, rfl⟩
theorem DkWaits_nil (w : World) : Calls Try.prog 15 #[.pointer none] w fun e w' => e = .returned (.int .i64 0) ∧ w = w' := by
  go_enter Try.func15, Try.ntmps15
  go_wp2
  go_ret
  exact ⟨rfl, rfl⟩
theorem DkSyncs_nil (w : World) : Calls Try.prog 16 #[.pointer none] w fun e w' => e = .returned (.int .i64 0) ∧ w = w' := by
  go_enter Try.func16, Try.ntmps16
  go_wp2
  go_ret
  exact ⟨rfl, rfl⟩
theorem DkBytes_nil (w : World) : Calls Try.prog 13 #[.pointer none] w fun e w' => e = .returned (.slice none 0 0) ∧ w = w' := by
  go_enter Try.func13, Try.ntmps13
  go_wp2
  go_ret
  exact ⟨rfl, rfl⟩
theorem DkSync_nil (w : World) : Calls Try.prog 10 #[.pointer none] w fun e w' => e = .returned (.tuple #[]) ∧ w = w' := by
  go_enter Try.func10, Try.ntmps10
  go_wp2
  first | go_end0 | refine bodyPost_ret (results_none rfl _ _ _) rfl ?_
  exact ⟨rfl, rfl⟩
theorem DkCrash_nil (k : Int) (w : World) : Calls Try.prog 11 #[.pointer none, .int .i64 k] w fun e w' => e = .returned (.tuple #[]) ∧ w = w' := by
  go_enter Try.func11, Try.ntmps11
  go_wp2
  first | go_end0 | refine bodyPost_ret (results_none rfl _ _ _) rfl ?_
  exact ⟨rfl, rfl⟩
theorem DkWrite_nil (i : Int) (v : Value) (l : List UInt8) (w : World) (hr : Rd w v (l.map B)) : Calls Try.prog 12 #[.pointer none, .int .i64 i, v] w fun e w' => e = .returned (.int .i64 1) ∧ w = w' := by
  go_enter Try.func12, Try.ntmps12
  go_wp2
  go_ret
  exact ⟨rfl, rfl⟩

end Go.Proofs.Ytkoppdhmbhgnfaa
