/- Texts that the proof of K rests on, one behind the other. -/
import Derived.Test.YtkkmldoohokdfaaKQ8
import Derived.Maps.OwnOps
import Derived.Maps.Views
import Derived.Defers
import Derived.Laws.EntriesVeiled

/- Package agent: the functions by an order's kind; the deferred call. -/
namespace Go.Proofs.Ytkkmldoohokdfaa
open Go.RowKit Go.Maps

/-- An element of a map of functions: held as it is. -/
def heldE (v : Value) : Option (DataW Value × List MemPlace) := some (.held v, [])
theorem wpList_insertF {P : Program} (w : World) {ops : Array Oper} {rest : List Oper} {o : Oper} {a : Act} {Q : Exit → Act → World → Prop}
    (hg : o.guard = none) (m x v : Operand) (t : TypeId) (hop : o.op = Op.insert t m x v)
    (k e : TypeId) (K : Keyed P k) (ht : P.underlying t = some (.map k e)) (b n : Nat) (D : DataW Value)
    (hm : a.eval m = .map (some b)) (hown : w.ownsMap P k heldE b n D) (hn : n < maxLen) (key val : Value) (kl : Lit) (hx : a.eval x = key) (hv : a.eval v = val) (hkey : keyOf P k key = some kl)
    (hK : ∀ w', w'.ownsMap P k heldE b (n + 1) (D.put kl (.held val)) → w.grownBy w' (some b) → wpList P ops Q rest (a.put o.dst undef) w') :
    wpList P ops Q (o :: rest) a w := by
  refine wpList_plain hg fun K' hK' => ?_
  obtain ⟨w', hrun, r1, r2⟩ := hown.update K ht hn hkey (rfl : heldE val = some (.held val, []))
  unfold Oper.wp
  simp [execOp, hop, hm, hx, hv, hrun, Result.andThen]
  exact hK' _ _ (hK w' r1 r2)

/-- The function by a kind. -/
def pickF (f1 f2 f3 f4 f5 : Value) (k : Int) : Value := if k = 1 then f1 else if k = 2 then f2 else if k = 3 then f3 else if k = 4 then f4 else if k = 5 then f5 else .nilFunc
def fiveD (f1 f2 f3 f4 f5 : Value) : DataW Value := ((((((.map [] : DataW Value).put (.int .i64 1) (.held f1)).put (.int .i64 2) (.held f2)).put (.int .i64 3) (.held f3)).put (.int .i64 4) (.held f4)).put (.int .i64 5) (.held f5))
theorem five_at (f1 f2 f3 f4 f5 : Value) (k : Int) : (fiveD f1 f2 f3 f4 f5).atKey (.int .i64 k) (.held .nilFunc) = .held (pickF f1 f2 f3 f4 f5 k) := by
  have hne : ∀ j : Int, k ≠ j → (Lit.int .i64 k) ≠ (Lit.int .i64 j) := fun j h e => by cases e; exact h rfl
  have hm : ∀ (D : DataW Value) l d, IsMap D → IsMap (D.put l d) := fun D l d ⟨es, h⟩ => by subst h; exact ⟨_, rfl⟩
  have m0 : IsMap (.map [] : DataW Value) := ⟨_, rfl⟩
  unfold fiveD pickF
  by_cases h5 : k = 5
  · subst h5
    rw [atKey_put_same (hm _ _ _ (hm _ _ _ (hm _ _ _ (hm _ _ _ m0)))) (by trivial)]
    rfl
  rw [atKey_put_other (hne 5 h5)]
  by_cases h4 : k = 4
  · subst h4
    rw [atKey_put_same (hm _ _ _ (hm _ _ _ (hm _ _ _ m0))) (by trivial)]
    rfl
  rw [atKey_put_other (hne 4 h4)]
  by_cases h3 : k = 3
  · subst h3
    rw [atKey_put_same (hm _ _ _ (hm _ _ _ m0)) (by trivial)]
    rfl
  rw [atKey_put_other (hne 3 h3)]
  by_cases h2 : k = 2
  · subst h2
    rw [atKey_put_same (hm _ _ _ m0) (by trivial)]
    rfl
  rw [atKey_put_other (hne 2 h2)]
  by_cases h1 : k = 1
  · subst h1
    rw [atKey_put_same m0 (by trivial)]
    rfl
  rw [atKey_put_other (hne 1 h1), if_neg h1, if_neg h2, if_neg h3, if_neg h4, if_neg h5]
  rfl

abbrev fivesOf (n : Nat) : DataW Value := fiveD (.func (.func 102) #[] #[.pointer (some ⟨n, 0, none⟩)]) (.func (.func 103) #[] #[.pointer (some ⟨n, 0, none⟩), .pointer (some ⟨n + 1, 0, none⟩), .pointer (some ⟨n + 2, 0, none⟩), .pointer (some ⟨n + 4, 0, none⟩), .pointer (some ⟨n + 5, 0, none⟩)]) (.func (.func 104) #[] #[.pointer (some ⟨n + 4, 0, none⟩), .pointer (some ⟨n + 1, 0, none⟩), .pointer (some ⟨n, 0, none⟩), .pointer (some ⟨n + 5, 0, none⟩)]) (.func (.func 105) #[] #[.pointer (some ⟨n + 4, 0, none⟩), .pointer (some ⟨n + 2, 0, none⟩), .pointer (some ⟨n, 0, none⟩), .pointer (some ⟨n + 1, 0, none⟩), .pointer (some ⟨n + 3, 0, none⟩)]) (.func (.func 107) #[] #[.pointer (some ⟨n, 0, none⟩), .pointer (some ⟨n + 1, 0, none⟩)])
abbrev pickOf (n : Nat) (k : Int) : Value := pickF (.func (.func 102) #[] #[.pointer (some ⟨n, 0, none⟩)]) (.func (.func 103) #[] #[.pointer (some ⟨n, 0, none⟩), .pointer (some ⟨n + 1, 0, none⟩), .pointer (some ⟨n + 2, 0, none⟩), .pointer (some ⟨n + 4, 0, none⟩), .pointer (some ⟨n + 5, 0, none⟩)]) (.func (.func 104) #[] #[.pointer (some ⟨n + 4, 0, none⟩), .pointer (some ⟨n + 1, 0, none⟩), .pointer (some ⟨n, 0, none⟩), .pointer (some ⟨n + 5, 0, none⟩)]) (.func (.func 105) #[] #[.pointer (some ⟨n + 4, 0, none⟩), .pointer (some ⟨n + 2, 0, none⟩), .pointer (some ⟨n, 0, none⟩), .pointer (some ⟨n + 1, 0, none⟩), .pointer (some ⟨n + 3, 0, none⟩)]) (.func (.func 107) #[] #[.pointer (some ⟨n, 0, none⟩), .pointer (some ⟨n + 1, 0, none⟩)]) k
/-- What takers leaves: six blocks from n on, and a map. -/
structure TkAt (w : World) (g n : Nat) (m : Ms) (now : Int) (sv : Value) : Prop where
  cap : CapAt w g n (n + 1) (n + 2) m now
  sto : Blk w (n + 3) 25 #[sv]
  fns : FnAt w g n (n + 1) (n + 4) (n + 5)
theorem TkAt.ext {w w' : World} {g n : Nat} {m : Ms} {now : Int} {sv : Value} (h : TkAt w g n m now sv) (hx : Ext w w') : TkAt w' g n m now sv := ⟨h.cap.ext hx, h.sto.ext hx, h.fns.ext hx⟩
theorem TkAt.chg {w w' : World} {F : Fp} {g n : Nat} {m : Ms} {now : Int} {sv : Value} (h : TkAt w g n m now sv) (hc : Chg F w w') (hF : ∀ k, n ≤ k → k < n + 6 → ¬ F k) : TkAt w' g n m now sv :=
  ⟨h.cap.chg hc (hF _ (by omega) (by omega)) (hF _ (by omega) (by omega)) (hF _ (by omega) (by omega)), (hc.block _ h.sto.lt (hF _ (by omega) (by omega))).trans h.sto,
    ⟨(hc.block _ h.fns.is_.lt (hF _ (by omega) (by omega))).trans h.fns.is_, (hc.block _ h.fns.long.lt (hF _ (by omega) (by omega))).trans h.fns.long, h.fns.off⟩⟩
theorem six_blocks (w : World) (c0 c1 c2 c3 c4 c5 : Array Value) (T0 T1 T2 T3 T4 T5 : TypeId) :
    ∀ W, W = (((((w.alloc (.cells c0 T0)).alloc (.cells c1 T1)).alloc (.cells c2 T2)).alloc (.cells c3 T3)).alloc (.cells c4 T4)).alloc (.cells c5 T5) →
      Blk W w.heap.size T0 c0 ∧ Blk W (w.heap.size + 1) T1 c1 ∧ Blk W (w.heap.size + 2) T2 c2 ∧ Blk W (w.heap.size + 3) T3 c3 ∧ Blk W (w.heap.size + 4) T4 c4 ∧ Blk W (w.heap.size + 5) T5 c5 ∧ Ext w W ∧ W.heap.size = w.heap.size + 6 := by
  rintro W rfl
  have s1 : ∀ (u : World) (c : Array Value) (T : TypeId), (u.alloc (.cells c T)).heap.size = u.heap.size + 1 := fun u c T => by simp
  have b1 := Blk.new (w.alloc (.cells c0 T0)) T1 c1
  rw [s1] at b1
  have b2 := Blk.new ((w.alloc (.cells c0 T0)).alloc (.cells c1 T1)) T2 c2
  rw [s1, s1] at b2
  have b3 := Blk.new (((w.alloc (.cells c0 T0)).alloc (.cells c1 T1)).alloc (.cells c2 T2)) T3 c3
  rw [s1, s1, s1] at b3
  have b4 := Blk.new ((((w.alloc (.cells c0 T0)).alloc (.cells c1 T1)).alloc (.cells c2 T2)).alloc (.cells c3 T3)) T4 c4
  rw [s1, s1, s1, s1] at b4
  have b5 := Blk.new (((((w.alloc (.cells c0 T0)).alloc (.cells c1 T1)).alloc (.cells c2 T2)).alloc (.cells c3 T3)).alloc (.cells c4 T4)) T5 c5
  rw [s1, s1, s1, s1, s1] at b5
  exact ⟨((((((Blk.new w T0 c0).alloc _).alloc _).alloc _).alloc _).alloc _), ((((b1.alloc _).alloc _).alloc _).alloc _), (((b2.alloc _).alloc _).alloc _), ((b3.alloc _).alloc _), b4.alloc _, b5,
    ((((((Ext.alloc_ w _).trans (Ext.alloc_ _ _)).trans (Ext.alloc_ _ _)).trans (Ext.alloc_ _ _)).trans (Ext.alloc_ _ _)).trans (Ext.alloc_ _ _)), by simp⟩

set_option maxRecDepth 100000 in
set_option maxHeartbeats 4000000 in
theorem takers_any (g : Nat) (m : Ms) (now : Int) (sp : Option Addr) (w : World) (hg : g < w.heap.size) :
    Calls Try.prog 75 #[.pointer (some ⟨g, 0, none⟩), msV m, .int .i64 now, .pointer sp] w fun e w' => ∃ b, e = .returned (.map (some b)) ∧ w'.ownsMap Try.prog 3 heldE b 5 (fivesOf w.heap.size) ∧ TkAt w' g w.heap.size m now (.pointer sp) ∧ Ext w w' := by
  obtain ⟨W, hW⟩ : ∃ W, W = ((((((w.alloc (.cells #[.pointer (some ⟨g, 0, none⟩)] 116)).alloc (.cells #[.int .i64 m.node, .int .i64 m.kind, .int .i64 m.term, .int .i64 m.gen, .int .i64 m.job, .int .i64 m.inc, .int .i64 m.ver, .int .i64 m.epoch, .int .i64 m.til, .int .i64 m.mode, .int .i64 m.work] 49)).alloc (.cells #[.int .i64 now] 3)).alloc (.cells #[.pointer sp] 25)).alloc (.cells #[.func (.func 100) #[] #[.pointer (some ⟨w.heap.size, 0, none⟩), .pointer (some ⟨w.heap.size + 1, 0, none⟩)]] 86)).alloc (.cells #[.func (.func 101) #[] #[.pointer (some ⟨w.heap.size, 0, none⟩), .pointer (some ⟨w.heap.size + 1, 0, none⟩)]] 1)) := ⟨_, rfl⟩
  obtain ⟨b0, b1, b2, b3, b4, b5, hx, hz⟩ := six_blocks w _ _ _ _ _ _ _ _ _ _ _ _ W hW
  have HT : Hid (TkAt W g w.heap.size m now (.pointer sp)) := Lib.hid ⟨⟨b0, ⟨b1⟩, b2, by omega, by omega, by omega⟩, b3, ⟨b4, b5, by omega, by omega⟩⟩
  have HX := Lib.hid hx
  have HZ := Lib.hid hz
  have HM0 := Lib.hid (World.ownsMap_made W Try.prog 3 heldE)
  have HKY : Hid (∀ n : Int, 0 ≤ n → n ≤ 5 → keyOf Try.prog 3 (.int .i64 n) = some (.int .i64 n)) := Lib.hid fun n h0 h5 => keyOf_int_mk Try.underlying3 (WalkArith.wf_i64 (by omega))
  have k1 := HKY.out 1 (by decide) (by decide)
  have k2 := HKY.out 2 (by decide) (by decide)
  have k3 := HKY.out 3 (by decide) (by decide)
  have k4 := HKY.out 4 (by decide) (by decide)
  have k5 := HKY.out 5 (by decide) (by decide)
  have HK1 := Lib.hid k1
  have HK2 := Lib.hid k2
  have HK3 := Lib.hid k3
  have HK4 := Lib.hid k4
  have HK5 := Lib.hid k5
  have HKI := Lib.hid (int_keyed (P := Try.prog) Try.underlying3)
  have hmf : ∀ (fn : Fn) (first cap : Array Value) (w : World), (Instr.makeFunc fn first cap).run Try.prog w = .ok (.func fn first cap) w := fun _ _ _ _ => rfl
  have hmm := @run_makeMap Try.prog
  have HML : Hid (4 < maxLen) := Lib.hid (by decide)
  clear hg hx hz b0 b1 b2 b3 b4 b5 k1 k2 k3 k4 k5 HKY
  unfold msV
  go_enter Try.func75, Try.ntmps75
  go_upto_region 3 with (fail)
  rw [← hW]
  clear hW
  have HL0 : Hid (0 < maxLen) := Lib.hid (by decide)
  have HL1 : Hid (1 < maxLen) := Lib.hid (by decide)
  have HL2 : Hid (2 < maxLen) := Lib.hid (by decide)
  have HL3 : Hid (3 < maxLen) := Lib.hid (by decide)
  have HL4 : Hid (4 < maxLen) := Lib.hid (by decide)
  go_wp2_with (first | (refine wpList_insertF _ rfl _ _ _ 114 rfl 3 1 HKI.out Try.underlying114 W.heap.size 0 _ rfl HM0.out HL0.out _ (.func (.func 102) #[] #[.pointer (some ⟨w.heap.size, 0, none⟩)]) _ rfl rfl HK1.out ?_; intro x1 own1 gr1) | (refine wpList_insertF _ rfl _ _ _ 114 rfl 3 1 HKI.out Try.underlying114 W.heap.size 1 _ rfl own1 HL1.out _ (.func (.func 103) #[] #[.pointer (some ⟨w.heap.size, 0, none⟩), .pointer (some ⟨w.heap.size + 1, 0, none⟩), .pointer (some ⟨w.heap.size + 2, 0, none⟩), .pointer (some ⟨w.heap.size + 4, 0, none⟩), .pointer (some ⟨w.heap.size + 5, 0, none⟩)]) _ rfl rfl HK2.out ?_; intro x2 own2 gr2) | (refine wpList_insertF _ rfl _ _ _ 114 rfl 3 1 HKI.out Try.underlying114 W.heap.size 2 _ rfl own2 HL2.out _ (.func (.func 104) #[] #[.pointer (some ⟨w.heap.size + 4, 0, none⟩), .pointer (some ⟨w.heap.size + 1, 0, none⟩), .pointer (some ⟨w.heap.size, 0, none⟩), .pointer (some ⟨w.heap.size + 5, 0, none⟩)]) _ rfl rfl HK3.out ?_; intro x3 own3 gr3) | (refine wpList_insertF _ rfl _ _ _ 114 rfl 3 1 HKI.out Try.underlying114 W.heap.size 3 _ rfl own3 HL3.out _ (.func (.func 105) #[] #[.pointer (some ⟨w.heap.size + 4, 0, none⟩), .pointer (some ⟨w.heap.size + 2, 0, none⟩), .pointer (some ⟨w.heap.size, 0, none⟩), .pointer (some ⟨w.heap.size + 1, 0, none⟩), .pointer (some ⟨w.heap.size + 3, 0, none⟩)]) _ rfl rfl HK4.out ?_; intro x4 own4 gr4) | (refine wpList_insertF _ rfl _ _ _ 114 rfl 3 1 HKI.out Try.underlying114 W.heap.size 4 _ rfl own4 HL4.out _ (.func (.func 107) #[] #[.pointer (some ⟨w.heap.size, 0, none⟩), .pointer (some ⟨w.heap.size + 1, 0, none⟩)]) _ rfl rfl HK5.out ?_; intro x5 own5 gr5))
  have hb : ∀ (u v : World), u.grownBy v (some W.heap.size) → Chg (fun k => k = W.heap.size) u v := fun u v h => Chg.of_grown (F := fun k => k = W.heap.size) h (fun k hk => by cases hk; rfl)
  have hc := (((((Chg.of_ext (F := fun k => k = W.heap.size) (Ext.alloc_ W _)).trans (hb _ _ gr1) (fun _ _ h => h)).trans (hb _ _ gr2) (fun _ _ h => h)).trans (hb _ _ gr3) (fun _ _ h => h)).trans (hb _ _ gr4) (fun _ _ h => h)).trans (hb _ _ gr5) (fun _ _ h => h)
  have HC := Lib.hid hc
  have HO := Lib.hid own5
  clear hb hc gr1 gr2 gr3 gr4 gr5 own1 own2 own3 own4 own5
  go_ret
  exact ⟨W.heap.size, rfl, HO.out, HT.out.chg HC.out (fun k h1 h2 e => by have e : k = W.heap.size := e; have := HZ.out; omega), HC.out.ext HX.out (fun k hk => by have hk : k = W.heap.size := hk; have := HZ.out; omega)⟩

/-- What the map gives at a kind. -/
theorem takers_at {w : World} {b n : Nat} (k : Int) (hk : -9223372036854775808 ≤ k ∧ k ≤ 9223372036854775807) (h : w.ownsMap Try.prog 3 heldE b 5 (fivesOf n)) :
    (Instr.lookup 114 (.map (some b)) (.int .i64 k) false).run Try.prog w = .ok (pickOf n k) w := by
  obtain ⟨v, ps, hrun, hv⟩ := h.lookup (int_keyed (P := Try.prog) Try.underlying3) Try.underlying114 (z := .nilFunc) (by kernel_rfl) (zd := .held .nilFunc) (zp := []) rfl (keyOf_int_mk Try.underlying3 (WalkArith.wf_i64 hk))
  rw [five_at] at hv
  unfold heldE at hv
  simp only [Option.some.injEq, Prod.mk.injEq, DataW.held.injEq] at hv
  rw [hrun, hv.1]

set_option maxRecDepth 100000 in
set_option maxHeartbeats 1000000 in
/-- The report, told behind all. -/
theorem told_yes (po pb pn pr : Nat) (a : Ag) (node : Int) (w : World) (ho : Blk w po 4 #[.bool true]) (hb : AgAt w pb a) (hn : Blk w pn 3 #[.int .i64 node]) (old : Array Value) (hr : Blk w pr 49 old) (hs : old.size = 11) :
    CallsD Try.prog 74 #[.pointer (some ⟨po, 0, none⟩), .pointer (some ⟨pb, 0, none⟩), .pointer (some ⟨pn, 0, none⟩), .pointer (some ⟨pr, 0, none⟩)] .returning w fun e u' w' =>
      u' = .returning ∧ e = .returned (.tuple #[]) ∧ MsAt w' pr (tellA a node) ∧ Chg (fun k => k = pr) w w' := by
  have q0 := ho.cell1
  obtain ⟨c0, c1, c2, c3, c4, c5, c6, c7, c8, c9⟩ := hb.cells
  have q2 := hn.cell1
  have HT := Lib.hid (Tell_any a node w)
  unfold agV at HT
  have HR := Lib.hid hr
  have HS := Lib.hid hs
  clear ho hb hn hr hs
  go_enter_d Try.func74, Try.ntmps74
  go_wp2_with fail
  refine HT.out.mono ?_
  rintro e1 w1 ⟨rfl, hx1⟩
  unfold msV
  have HR1 := Lib.hid (HR.out.ext hx1)
  have HX1 := Lib.hid hx1
  clear hx1 c0 c1 c2 c3 c4 c5 c6 c7 c8 c9 q0 q2
  have HO := Lib.hid (msA_one (tellA a node))
  have HI := Lib.hid (infoM (tellA a node))
  go_wp2_with (refine wpList_storeC rfl 49 _ _ rfl pr (msA (tellA a node)) rfl rfl 49 _ HR1.out HI.out HS.out HO.out ?_; intro w2 hb2 hc2)
  have H2 := Lib.hid (And.intro hb2 ((Chg.of_ext (F := fun k => k = pr) HX1.out).trans hc2 (fun _ _ h => h)))
  clear hb2 hc2
  go_end0
  exact ⟨rfl, ⟨H2.out.1⟩, H2.out.2⟩
set_option maxRecDepth 100000 in
theorem told_no (po pb pn pr : Nat) (w : World) (ho : Blk w po 4 #[.bool false]) :
    CallsD Try.prog 74 #[.pointer (some ⟨po, 0, none⟩), .pointer (some ⟨pb, 0, none⟩), .pointer (some ⟨pn, 0, none⟩), .pointer (some ⟨pr, 0, none⟩)] .returning w fun e u' w' =>
      u' = .returning ∧ e = .returned (.tuple #[]) ∧ w = w' := by
  have q0 := ho.cell1
  clear ho
  go_enter_d Try.func74, Try.ntmps74
  go_wp2
  go_end0
  exact ⟨rfl, rfl⟩


end Go.Proofs.Ytkkmldoohokdfaa
