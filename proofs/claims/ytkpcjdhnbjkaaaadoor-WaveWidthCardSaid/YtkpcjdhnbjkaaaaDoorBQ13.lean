/- Texts that the proof of B rests on, one behind the other. -/
import Derived.Test.YtkpcjdhnbjkaaaaDoorBQ3
import Derived.Test.YtkpcjdhnbjkaaaaDoorBQ8
import Derived.Test.YtkpcjdhnbjkaaaaDoorBQ9
import Derived.Test.YtkpcjdhnbjkaaaaDoorBQ10
import Derived.Test.YtkpcjdhnbjkaaaaDoorBQ12
import Derived.Test.YtkpcjdhnbjkaaaaDoorChecked
import Derived.Test.YtkpcjdhnbjkaaaaDoorRows
import Derived.Lay
import Derived.PinnedBridge
import Derived.LaidMore
import Derived.Stop.Joined
import Derived.Stop.LaidErr
import Derived.Shelf.Vars
import Derived.Lib.SmallJoins

/- Layer 17: what is next is OK: the law, walked. -/
namespace Go.Proofs.YtkpcjdhnbjkaaaaDoor
open Go.RowKit

set_option maxRecDepth 100000 in
set_option maxHeartbeats 16000000 in
theorem WaveOK_calls (c : Cf) (vn vj : Value) (s : St) (now : Int) (w : World) (hr : RdSt w vn vj s) (hL : Laid w) :
    Calls Tryd.prog 3 #[cfV c, stV vn vj s, .int .i64 now] w fun e w' => e = .returned (.bool true) ∧ Ext w w' := by
  have HR := Lib.hid hr
  have HAL := Lib.hid fun W => alive17_any W
  have HRI : Hid (∀ W, Ext w W → Calls Tryd.prog 6 #[cfV c, stV vn vj s] W fun e w' => ∃ b : Bool, e = .returned (.bool b) ∧ (b = true ↔ RightP c s) ∧ Ext W w') := Lib.hid fun W hW => RightS_any c vn vj s W (HR.out.nodes.ext hW) (HR.out.jobs.ext hW)
  have HL := Lib.hid hL
  clear hL
  have HTI := Lib.hid fun W => time17_any now W
  unfold cfV stV at HRI
  unfold cfV stV
  obtain ⟨W1, hW1⟩ : ∃ W, W = w.alloc (.cells #[.int .i64 c.nodes, .int .i64 c.queues, .int .i64 c.quota, .int .i64 c.wave, .int .i64 c.lease, .int .i64 c.retry, .int .i64 c.deadline, .int .i64 c.room, .int .i64 c.disk] 23) := ⟨_, rfl⟩
  obtain ⟨W2, hW2⟩ : ∃ W, W = W1.alloc (.cells #[vn, vj, .int .i64 s.goal, .int .i64 s.prior, .int .i64 s.mode, .int .i64 s.term] 27) := ⟨_, rfl⟩
  have s1 : W1.heap.size = w.heap.size + 1 := by rw [hW1]; simp
  have x1 : Ext w W1 := by rw [hW1]; exact (Below.refl _ _).alloc (Nat.le_refl _) _
  have x2 : Ext W1 W2 := by rw [hW2]; exact (Below.refl _ _).alloc (Nat.le_refl _) _
  have HX2 : Hid (Ext w W2) := Lib.hid (Ext.trans x1 x2)
  have b1 : Blk W2 w.heap.size 23 #[.int .i64 c.nodes, .int .i64 c.queues, .int .i64 c.quota, .int .i64 c.wave, .int .i64 c.lease, .int .i64 c.retry, .int .i64 c.deadline, .int .i64 c.room, .int .i64 c.disk] := by
    have h : Blk W1 w.heap.size 23 #[.int .i64 c.nodes, .int .i64 c.queues, .int .i64 c.quota, .int .i64 c.wave, .int .i64 c.lease, .int .i64 c.retry, .int .i64 c.deadline, .int .i64 c.room, .int .i64 c.disk] := by rw [hW1]; exact Blk.new _ _ _
    exact h.ext x2
  have b2 : Blk W2 (w.heap.size + 1) 27 #[vn, vj, .int .i64 s.goal, .int .i64 s.prior, .int .i64 s.mode, .int .i64 s.term] := by
    have h : Blk W2 W1.heap.size 27 #[vn, vj, .int .i64 s.goal, .int .i64 s.prior, .int .i64 s.mode, .int .i64 s.term] := by rw [hW2]; exact Blk.new _ _ _
    rw [s1] at h
    exact h
  have HB1 := Lib.hid b1
  have HB2 := Lib.hid b2
  have HW2 : Hid (W2 = (w.alloc (.cells #[.int .i64 c.nodes, .int .i64 c.queues, .int .i64 c.quota, .int .i64 c.wave, .int .i64 c.lease, .int .i64 c.retry, .int .i64 c.deadline, .int .i64 c.room, .int .i64 c.disk] 23)).alloc (.cells #[vn, vj, .int .i64 s.goal, .int .i64 s.prior, .int .i64 s.mode, .int .i64 s.term] 27)) := Lib.hid (by rw [hW2, hW1])
  clear hW2 hW1 s1 x1 x2 b1 b2 hr
  go_enter Tryd.func3, Tryd.ntmps3
  go_upto_region 1 with (fail)
  rw [← HW2.out]
  obtain ⟨gc, hgc⟩ : ∃ g, g = w.heap.size := ⟨_, rfl⟩
  obtain ⟨gs, hgs⟩ : ∃ g, g = w.heap.size + 1 := ⟨_, rfl⟩
  rw [← hgs, ← hgc]
  rw [← hgs] at HB2
  rw [← hgc] at HB1
  have HGS : Hid (w.heap.size ≤ gc ∧ w.heap.size ≤ gs ∧ gc ≠ gs) := Lib.hid (by omega)
  clear HW2 hgc hgs
  have HC1 := Lib.hid (HAL.out W2)
  go_wp2_with fail
  refine HC1.out.mono ?_
  rintro e3 w3 ⟨rfl, hx3⟩
  have HX3 : Hid (Ext W2 w3) := Lib.hid hx3
  clear hx3 HC1 HAL
  simp only []
  have HC2 := Lib.hid (HRI.out w3 (Ext.trans HX2.out HX3.out))
  obtain ⟨g0, g1, g2, g3, g4, g5⟩ := Blk.six (HB2.out.ext HX3.out)
  obtain ⟨k0, k1, k2, k3, k4, k5, k6, k7, k8⟩ := Blk.nine (HB1.out.ext HX3.out)
  go_wp2_with fail
  refine HC2.out.mono ?_
  rintro e4 w4 ⟨b, rfl, hb, hx4⟩
  have HX4 : Hid (Ext W2 w4) := Lib.hid (Ext.trans HX3.out hx4)
  have HBB := Lib.hid hb
  clear hx4 hb HC2 HRI g0 g1 g2 g3 g4 g5 k0 k1 k2 k3 k4 k5 k6 k7 k8
  simp only []
  cases b with
  | false =>
    go_wp2
    go_ret
    exact ⟨rfl, Ext.trans HX2.out HX4.out⟩
  | true =>
    have hR : RightP c s := HBB.out.1 rfl
    have HC3 := Lib.hid (HTI.out w4)
    clear HBB HTI
    go_wp2_with fail
    refine HC3.out.mono ?_
    rintro e5 w5 ⟨rfl, rfl⟩
    clear HC3
    simp only []
    by_cases ht : 0 ≤ now ∧ now ≤ 1000000
    case neg =>
      have e0 : (decide (0 ≤ now) && decide (now ≤ 1000000)) = false := by
        by_cases h : 0 ≤ now
        · rw [decide_eq_false (fun h2 => ht ⟨h, h2⟩), Bool.and_false]
        · rw [decide_eq_false h, Bool.false_and]
      simp only [e0]
      clear ht e0 hR
      go_wp2
      go_ret
      exact ⟨rfl, Ext.trans HX2.out HX4.out⟩
    have e0 : (decide (0 ≤ now) && decide (now ≤ 1000000)) = true := by rw [decide_eq_true ht.1, decide_eq_true ht.2]; rfl
    simp only [e0]
    clear e0
    obtain ⟨hn0, hn1⟩ := ht
    have HOK : Hid (∀ o, nextW c s now = some o → OkW c s o) := Lib.hid fun o h => next_ok hR hn0 h
    have HNX : Hid (∀ W, Ext w W → Calls Tryd.prog 8 #[cfV c, stV vn vj s, .int .i64 now] W fun e w' => e = .returned (optV (nextW c s now)) ∧ Ext W w') := Lib.hid fun W hW => WNext_any c vn vj s now W (HR.out.ext hW) hR hn0 hn1
    have HAP : Hid (∀ o T W, applyS c s o = (T, 0) → Ext w W → Calls Tryd.prog 9 #[cfV c, stV vn vj s, opA o] W fun e w' => ∃ A8 c8 A9 c9, e = .returned (.tuple #[.agg #[.slice A8 T.nodes.length c8, .slice A9 T.jobs.length c9, .int .i64 T.goal, .int .i64 T.prior, .int .i64 T.mode, .int .i64 T.term], .int .i64 0]) ∧ Ext W w') := Lib.hid fun o T W hT hW => (Apply_any c vn vj s o W (HR.out.ext hW) (HL.out.ext hW)).mono (by
      rintro e w' ⟨v1, v2, s', er, h1, h2, h3, h4, -, -⟩
      have h5 := (h4 hR).trans hT
      cases h5
      obtain ⟨A8, c8, rfl, -, -⟩ := h2.nodes.slice_
      obtain ⟨A9, c9, rfl, -, -⟩ := h2.jobs.slice_
      exact ⟨A8, c8, A9, c9, h1, h3⟩)
    unfold cfV stV at HNX HAP
    obtain ⟨R, hRR⟩ : ∃ R, R = nextW c s now := ⟨_, rfl⟩
    rw [← hRR] at HNX HOK
    clear hRR hR hn0 hn1 HL
    cases R with
    | none =>
      unfold optV opA zeroO at HNX
      clear HAP HOK
      have HD := Lib.hid (HNX.out w4 (Ext.trans HX2.out HX4.out))
      obtain ⟨g0, g1, g2, g3, g4, g5⟩ := Blk.six (HB2.out.ext HX4.out)
      obtain ⟨k0, k1, k2, k3, k4, k5, k6, k7, k8⟩ := Blk.nine (HB1.out.ext HX4.out)
      go_wp2_with fail
      refine HD.out.mono ?_
      rintro e9 u0 ⟨rfl, hx9⟩
      have HY0 : Hid (Ext W2 u0) := Lib.hid (Ext.trans HX4.out hx9)
      clear hx9 HD g0 g1 g2 g3 g4 g5 k0 k1 k2 k3 k4 k5 k6 k7 k8
      simp only []
      go_upto_region 6 with (fail)
      obtain ⟨z0, hz⟩ : ∃ W, W = u0.alloc (.cells #[.int .i64 0, .int .i64 0, .int .i64 0, .int .i64 0, .int .i64 0, .int .i64 0, .int .i64 0] 32) := ⟨_, rfl⟩
      have HZ0 : Hid (Ext W2 z0) := Lib.hid (by rw [hz]; exact Ext.trans HY0.out ((Below.refl _ _).alloc (Nat.le_refl _) _))
      have HO0 : Hid (Blk z0 u0.heap.size 32 #[.int .i64 0, .int .i64 0, .int .i64 0, .int .i64 0, .int .i64 0, .int .i64 0, .int .i64 0]) := Lib.hid (by rw [hz]; exact Blk.new _ _ _)
      rw [← hz]
      obtain ⟨gp, hg⟩ : ∃ g, g = u0.heap.size := ⟨_, rfl⟩
      rw [← hg] at HO0 ⊢
      clear hz hg
      obtain ⟨p0, p1, p2, p3, p4, p5, p6⟩ := Blk.seven HO0.out
      go_wp2
      go_ret
      exact ⟨rfl, Ext.trans HX2.out HZ0.out⟩
    | some o1 =>
      obtain ⟨o1, o2, o3, o4, o5, o6, o7⟩ := o1
      have hok := HOK.out _ rfl
      have hm1 : (s.mode != 1) = true := by have := hok.mode; simp only [bne_iff_ne, ne_eq]; exact this
      obtain ⟨T, hT⟩ : ∃ T, T = (applyS c s (o1, o2, o3, o4, o5, o6, o7)).1 := ⟨_, rfl⟩
      have HAQ := Lib.hid (fun W hW => HAP.out (o1, o2, o3, o4, o5, o6, o7) T W (Prod.ext hT.symm hok.ok) hW)
      unfold optV opA at HNX
      unfold opA at HAQ
      simp only [] at HNX HAQ
      clear HAP HOK hok hT
      have HD := Lib.hid (HNX.out w4 (Ext.trans HX2.out HX4.out))
      obtain ⟨g0, g1, g2, g3, g4, g5⟩ := Blk.six (HB2.out.ext HX4.out)
      obtain ⟨k0, k1, k2, k3, k4, k5, k6, k7, k8⟩ := Blk.nine (HB1.out.ext HX4.out)
      go_wp2_with fail
      refine HD.out.mono ?_
      rintro e9 u0 ⟨rfl, hx9⟩
      have HY0 : Hid (Ext W2 u0) := Lib.hid (Ext.trans HX4.out hx9)
      clear hx9 HD g0 g1 g2 g3 g4 g5 k0 k1 k2 k3 k4 k5 k6 k7 k8
      simp only []
      go_upto_region 6 with (fail)
      obtain ⟨z0, hz⟩ : ∃ W, W = u0.alloc (.cells #[.int .i64 o1, .int .i64 o2, .int .i64 o3, .int .i64 o4, .int .i64 o5, .int .i64 o6, .int .i64 o7] 32) := ⟨_, rfl⟩
      have HZ0 : Hid (Ext W2 z0) := Lib.hid (by rw [hz]; exact Ext.trans HY0.out ((Below.refl _ _).alloc (Nat.le_refl _) _))
      have HO0 : Hid (Blk z0 u0.heap.size 32 #[.int .i64 o1, .int .i64 o2, .int .i64 o3, .int .i64 o4, .int .i64 o5, .int .i64 o6, .int .i64 o7]) := Lib.hid (by rw [hz]; exact Blk.new _ _ _)
      rw [← hz]
      obtain ⟨gp, hg⟩ : ∃ g, g = u0.heap.size := ⟨_, rfl⟩
      rw [← hg] at HO0 ⊢
      clear hz hg
      go_upto_region 8 with (fail)
      obtain ⟨p0, p1, p2, p3, p4, p5, p6⟩ := Blk.seven HO0.out
      have HD := Lib.hid (HAQ.out z0 (Ext.trans HX2.out HZ0.out))
      obtain ⟨g0, g1, g2, g3, g4, g5⟩ := Blk.six (HB2.out.ext HZ0.out)
      obtain ⟨k0, k1, k2, k3, k4, k5, k6, k7, k8⟩ := Blk.nine (HB1.out.ext HZ0.out)
      go_wp2_with fail
      refine HD.out.mono ?_
      rintro e9 u1 ⟨A8, c8, A9, c9, rfl, hx9⟩
      have HY1 : Hid (Ext W2 u1) := Lib.hid (Ext.trans HZ0.out hx9)
      clear hx9 HD g0 g1 g2 g3 g4 g5 k0 k1 k2 k3 k4 k5 k6 k7 k8
      simp only []
      clear p0 p1 p2 p3 p4 p5 p6
      go_upto_region 9 with (fail)
      obtain ⟨z1, hz⟩ : ∃ W, W = u1.alloc (.cells #[.slice A8 T.nodes.length c8, .slice A9 T.jobs.length c9, .int .i64 T.goal, .int .i64 T.prior, .int .i64 T.mode, .int .i64 T.term] 27) := ⟨_, rfl⟩
      have HZ1 : Hid (Ext W2 z1) := Lib.hid (by rw [hz]; exact Ext.trans HY1.out ((Below.refl _ _).alloc (Nat.le_refl _) _))
      have HO1 : Hid (Blk z1 u1.heap.size 27 #[.slice A8 T.nodes.length c8, .slice A9 T.jobs.length c9, .int .i64 T.goal, .int .i64 T.prior, .int .i64 T.mode, .int .i64 T.term]) := Lib.hid (by rw [hz]; exact Blk.new _ _ _)
      rw [← hz]
      obtain ⟨gt, hg⟩ : ∃ g, g = u1.heap.size := ⟨_, rfl⟩
      rw [← hg] at HO1 ⊢
      clear hz hg
      have m4 := (HB2.out.ext HZ1.out).cell 4
      go_wp2
      go_ret
      exact ⟨rfl, Ext.trans HX2.out HZ1.out⟩

end Go.Proofs.YtkpcjdhnbjkaaaaDoor

/- From a contract to the row of a law that lists package-level variables; structs of numbers, slices of structs, and states as arguments. No function of the program is named here. -/
namespace Go.Proofs.YtkpcjdhnbjkaaaaDoor
open Go.Joins Go.ChangeShapes Go.WideShapes Go.ChangeAt Go.RowKit Go.Deep

section
variable {H : Type} {enc : TypeId × Value → H} {P : Program}
theorem law_liftL {C : Checked} {os : Os} {f : FuncId} {fn : Func} {s : ChangeSpec} {tb : TypeId} (L : List (String × DataW Unit)) (own : ownKnob C.prog.godebug = none) (started : os.Started) (noInit : C.prog.inits.idxOf? f = none) (hfn : C.prog.funcs[f]? = some fn)
    (hl : laidOutB C.prog = true) (hp : (fn.params.toList.all fun t => C.prog.readableRec t && decide (t < C.prog.types.size)) = true) (hres : fn.resultTypes = #[tb]) (htb : C.prog.underlying tb = some .bool) (hv : s.vars = []) (hpv : s.plain.varTypes C.prog = [])
    (hs : ∀ ds : List (DataW H), ds.length = fn.params.toList.length → s.fn H ds = { results := [.lit (.bool true)], args := ds })
    (witness : ∃ (w : World) (tape : Tape) (i : Input), w.os = os ∧ (w.forCall tape i).Shaped C.prog ∧ i.vars = [] ∧ Input.okWide C.prog (w.forCall tape i) .any w.heap.size f i ∧
      ((s.pre enc C.prog fn [] false (w.forCall tape i).memory i.args ∧ laidMetH C.prog L (w.forCall tape i).memory) ∧ sizedMet enc C.prog fn (OpenSpec.ofChange s) false (w.forCall tape i).memory i.args) ∧ ({} : Assume).holds C.prog (lone (Frame.enter C.prog f i.args .normal) [] (w.forCall tape i)))
    (contract : ∀ (W : World) (base : Nat) (args : Array Value) (ds : List (DataW H)) (p : List MemPlace), (∀ (j : Nat) t v, fn.params[j]? = some t → args[j]? = some v → Value.okWide C.prog W .any base t v) →
      DataW.TrodAll enc C.prog W 0 (fun _ => true) true fn.params.toList args.toList ds p → (DataW.weightsEach C.prog fn.params.toList ds).all (· ≤ reachBytes) = true → laidMetH C.prog L W → W.ShapedOpen C.prog →
      Calls C.prog f args W fun e W' => e = .returned (.bool true) ∧ Ext W W') :
    ReturnsInHanded {} C os f .any (fun w args => (s.pre enc C.prog fn [] false w args ∧ laidMetH C.prog L w) ∧ sizedMet enc C.prog fn (OpenSpec.ofChange s) false w args) (s.post enc C.prog fn false true false false) := by
  refine returnsInHanded_of_calls own started noInit witness ?_
  intro w tape i _ hsh _ hok hpre _
  obtain ⟨_, _, _, fn', hfn', _, _, _, _, hval⟩ := hok
  have e : fn' = fn := Option.some.inj (hfn'.symm.trans hfn)
  subst e
  obtain ⟨⟨⟨ds, gs, before, hw, _⟩, hx⟩, hz⟩ := hpre
  have hW := DataW.Whole.of_heap (w' := w.forCall tape i) (by rfl) hw
  have hL : laidMetH C.prog L (w.forCall tape i) := laidMetH.of_heap (by rfl) hx
  have hsz := hz.weights hw
  have hg : gs = [] := by
    obtain ⟨_, _, _, hV, _⟩ := hW
    rw [hv] at hV
    cases gs with
    | nil => rfl
    | cons _ _ => exact hV.elim
  subst hg
  have hsz' : (DataW.weightsEach C.prog fn'.params.toList ds).all (· ≤ reachBytes) = true := by
    have h1 : (DataW.weightsEach C.prog (fn'.params.toList ++ s.plain.varTypes C.prog) (ds ++ [])).all (· ≤ reachBytes) = true := hsz
    rwa [hpv, List.append_nil, List.append_nil] at h1
  have hW' := hW
  obtain ⟨p, q, hA, _, _, _, _⟩ := hW
  have hlen := trodAll_len _ _ _ _ hA
  refine (contract (w.forCall tape i) w.heap.size i.args ds p hval hA hsz' hL hsh).mono fun e W' ⟨he, hx⟩ => ?_
  subst he
  exact ChangeSpec.post_blind (post_true hl hp hres htb hv hW' (hs ds hlen) hx)

/-- A listed variable, wherever it stands on the list. -/
theorem laid_at {n : String} {d : DataW Unit} {W : World} : ∀ (L : List (String × DataW Unit)), (n, d) ∈ L → laidMet P L W → ∃ r, laidMet P ((n, d) :: r) W
  | x :: L, hm, h => by
    rcases List.mem_cons.1 hm with e | hm
    · rw [e]
      exact ⟨L, h⟩
    · exact laid_at L hm h.tail


/-! ### Structs of numbers -/

theorem dec_nums {w : World} {base : Nat} {held : Bool} {r : Reach} {b0 : Nat} {t : TypeId} {fs : Array Field} {v : Value} {d : DataW H} {p : List MemPlace} (hs : P.underlying t = some (.struct fs)) (hone : oneCellFields P fs = true) (hC : P.cellsOf t = fs.size)
    {ti : TypeId} (hta : (fs.all fun f => f.type == ti) = true) (hi : P.underlying ti = some (.int .i64)) (hv : Value.okWide P w r b0 t v) (h : DataW.Trod enc P w base (fun _ => true) held t v d p) : ∃ l : List Int, l.length = fs.size ∧ v = .agg (l.map (Value.int .i64)).toArray := by
  obtain ⟨cs, rfl, hsz⟩ := okWide_struct hs hv
  obtain ⟨fuel, hf⟩ := h
  have hti : ∀ f ∈ fs, P.underlying f.type = some (.int .i64) := fun f hf => by
    obtain ⟨i, hlt, rfl⟩ := Array.getElem_of_mem hf
    have := Array.all_eq_true.1 hta i hlt
    rw [beq_iff_eq] at this
    rw [this]
    exact hi
  obtain ⟨hl, hp⟩ := struct_parts hs hone hC hf
  have hl' : cs.size = fs.size := hsz.trans hC
  refine ⟨cs.toList.map intOf, by simpa using hl', ?_⟩
  congr 1
  apply Array.ext'
  apply List.ext_getElem?
  intro i
  by_cases hi : i < fs.size
  · obtain ⟨u, n, y, hu, hy⟩ := hp i fs[i] (Array.getElem?_eq_getElem hi)
    obtain ⟨z, hz, _, _⟩ := DataW.trod_int (hti _ (Array.getElem_mem hi)) hy
    simp only [List.cons.injEq, and_true] at hz
    subst hz
    have hu' : cs.toList[i]? = some (.int .i64 z) := hu
    simp only [List.getElem?_map, hu', Option.map_some, intOf]
  · rw [List.getElem?_eq_none (by simp; omega), List.getElem?_eq_none (by simp; omega)]

/-! ### Slices of structs -/
/-- As structs_at, of a cell that holds the slice. -/
theorem structs_tr {w : World} {base : Nat} {held : Bool} {m0 : Nat} {t e : TypeId} {fs : Array Field} {V : Value} {x : DataW H × List MemPlace} (ht : P.underlying t = some (.slice e)) (he : P.underlying e = some (.struct fs)) (hone : oneCellFields P fs = true)
    (hC : P.cellsOf e = fs.size) (h0 : 0 < fs.size) (hf : DataW.trod enc P w base (fun _ => true) held m0 t [V] = some x) :
    ∃ A n c, V = .slice A n c ∧ n ≤ c ∧ c ≤ maxLen ∧ (0 < n → ∃ b o, A = some ⟨b, o, none⟩ ∧ b < w.heap.size ∧
      ∀ i, i < n → ∀ (j : Nat) (f : Field), fs[j]? = some f → ∃ u k y, w.cell? ⟨b, o + (i * fs.size + j), none⟩ = some u ∧ DataW.trod enc P w base (fun _ => true) held k f.type [u] = some y) := by
  rcases open_slice ht hf with ⟨hcs, _⟩ | ⟨a, len, cap, m, n, D, Pl, hcs, _, hl, hm, hmm, _, hx⟩
  · simp only [List.cons.injEq, and_true] at hcs
    subst hcs
    exact ⟨none, 0, 0, rfl, Nat.le_refl _, Nat.zero_le _, fun h => absurd h (by omega)⟩
  · simp only [List.cons.injEq, and_true] at hcs
    subst hcs
    simp only [if_true] at hmm
    subst hmm
    have hcell : ∀ i, i < m → ∀ (j : Nat) (f : Field), fs[j]? = some f → ∃ u k y, w.cell? (a.add (i * fs.size + j)) = some u ∧ DataW.trod enc P w base (fun _ => true) held k f.type [u] = some y := by
      intro i hi j f hj
      obtain ⟨cs', hc, htr⟩ := hx i hi
      obtain ⟨hlen, hparts⟩ := struct_parts he hone hC htr
      obtain ⟨u, k, y, hu, hy⟩ := hparts j f hj
      obtain ⟨_, hcl, hat⟩ := World.cells?_some hc
      have hjf : j < fs.size := (Array.getElem?_eq_some_iff.1 hj).1
      have h1 := hat j (by rw [hC]; exact hjf)
      rw [hC, add_of_add, hu] at h1
      exact ⟨u, k, y, h1, hy⟩
    refine ⟨some a, len, m, rfl, hl, hm, fun hn0 => ?_⟩
    obtain ⟨u, _, _, hu, _⟩ := hcell 0 (by omega) 0 fs[0] (Array.getElem?_eq_getElem h0)
    obtain ⟨b, o, spot⟩ := a
    have hspot : spot = none := by simpa [Addr.add] using World.cell?_spot hu
    subst hspot
    refine ⟨b, o, rfl, ?_, fun i hi j f hj => ?_⟩
    · have := World.block_lt_of_cell? w _ hu
      simpa [block_of_add] using this
    · obtain ⟨u, k, y, h1, h2⟩ := hcell i (by omega) j f hj
      rw [Addr.add_lit] at h1
      exact ⟨u, k, y, h1, h2⟩

theorem list_of {α : Type} {n : Nat} {R : Nat → α → Prop} (h : ∀ i, i < n → ∃ x, R i x) : ∃ l : List α, l.length = n ∧ ∀ i x, l[i]? = some x → R i x := by
  induction n with
  | zero => exact ⟨[], rfl, fun i x hx => by simp at hx⟩
  | succ n ih =>
    obtain ⟨l, hl, hr⟩ := ih fun i hi => h i (by omega)
    obtain ⟨y, hy⟩ := h n (by omega)
    refine ⟨l ++ [y], by simp [hl], fun i x hx => ?_⟩
    by_cases hi : i < l.length
    · rw [List.getElem?_append_left hi] at hx
      exact hr i x hx
    · rw [List.getElem?_append_right (by omega)] at hx
      have : i - l.length = 0 := by
        rcases Nat.eq_zero_or_pos (i - l.length) with h0 | h0
        · exact h0
        · rw [List.getElem?_eq_none (by simp; omega)] at hx
          cases hx
      rw [this] at hx
      simp at hx
      subst hx
      have : i = n := by omega
      subst this
      exact hy

theorem flat_inv {α : Type} {f : α → List Value} {K : Nat} (hf : ∀ x, (f x).length = K) {l : List α} {j : Nat} {u : Value} (h : (l.flatMap f)[j]? = some u) : ∃ (i r : Nat) (x : α), l[i]? = some x ∧ r < K ∧ j = i * K + r ∧ (f x)[r]? = some u := by
  induction l generalizing j with
  | nil => simp at h
  | cons y l ih =>
    rw [List.flatMap_cons] at h
    by_cases hj : j < (f y).length
    · rw [List.getElem?_append_left hj] at h
      exact ⟨0, j, y, rfl, by rw [← hf y]; exact hj, by omega, h⟩
    · rw [List.getElem?_append_right (by omega)] at h
      obtain ⟨i, r, x, h1, h2, h3, h4⟩ := ih h
      rw [hf] at h3 hj
      exact ⟨i + 1, r, x, by simpa using h1, h2, by rw [Nat.succ_mul]; omega, h4⟩

/-- A slice of structs whose cells are those of plain things reads as a list of these. -/
theorem rdS_of {α : Type} {w : World} {K : Nat} {f : α → List Value} (hf : ∀ x, (f x).length = K) {V A : _} {n c : Nat} (hV : V = Value.slice A n c) (hnc : n ≤ c) (hcm : c ≤ maxLen)
    (h : 0 < n → ∃ b o, A = some ⟨b, o, none⟩ ∧ b < w.heap.size ∧ ∀ i, i < n → ∃ x : α, ∀ (r : Nat) u, (f x)[r]? = some u → w.cell? ⟨b, o + (i * K + r), none⟩ = some u) :
    ∃ l : List α, l.length = n ∧ RdS K w V l.length (l.flatMap f) := by
  by_cases hn : 0 < n
  · obtain ⟨b, o, hA, hb, hc⟩ := h hn
    obtain ⟨l, hl, hr⟩ := list_of hc
    refine ⟨l, hl, flat_len hf l, A, c, by rw [hV, hl], by omega, hcm, fun _ => ⟨b, o, hA, hb, fun j u hu => ?_⟩⟩
    obtain ⟨i, r, x, h1, _, h3, h4⟩ := flat_inv hf hu
    rw [h3]
    exact hr i x h1 r u h4
  · have : n = 0 := by omega
    subst this
    exact ⟨[], rfl, by simp, A, c, hV, by simp, hcm, fun h => absurd h (by simp)⟩
end

end Go.Proofs.YtkpcjdhnbjkaaaaDoor

/- Two closed facts on the program that every row asks. -/
namespace Go.Proofs.YtkpcjdhnbjkaaaaDoor
open Go.RowKit

theorem Tryd.ownKnob : ownKnob Tryd.prog.godebug = none := by kernel_rfl

theorem Tryd.laidOut : laidOutB Tryd.prog = true := by kernel_rfl

end Go.Proofs.YtkpcjdhnbjkaaaaDoor

/- Layers 14 to 20, the statements: fleets and states as arguments. -/
namespace Go.Proofs.YtkpcjdhnbjkaaaaDoor
open Go.Joins Go.ChangeShapes Go.WideShapes Go.ChangeAt Go.RowKit Go.Deep

section
variable {H : Type} {enc : TypeId × Value → H} {w : World} {base : Nat} {held : Bool} {r : Reach} {b0 : Nat}
set_option maxRecDepth 100000 in
theorem dec_conf {v : Value} {d : DataW H} {p : List MemPlace} (hv : Value.okWide Tryd.prog w r b0 23 v) (h : DataW.Trod enc Tryd.prog w base (fun _ => true) held 23 v d p) : ∃ c : Cf, v = cfV c := by
  obtain ⟨l, hl, rfl⟩ := dec_nums Tryd.underlying23 (by kernel_rfl) (by kernel_rfl) (ti := 3) (by kernel_rfl) Tryd.underlying3 hv h
  match l, hl with
  | [a, b, c, d, e, f, g, h, i], _ => exact ⟨⟨a, b, c, d, e, f, g, h, i⟩, rfl⟩
theorem tr_int {m : Nat} {u : Value} {y : DataW H × List MemPlace} (h : DataW.trod enc Tryd.prog w base (fun _ => true) held m 3 [u] = some y) : ∃ z : Int, u = .int .i64 z := by
  obtain ⟨z, hz, _, _⟩ := DataW.trod_int Tryd.underlying3 h
  simp only [List.cons.injEq, and_true] at hz
  exact ⟨z, hz⟩
theorem tr_bool {m : Nat} {u : Value} {y : DataW H × List MemPlace} (h : DataW.trod enc Tryd.prog w base (fun _ => true) held m 4 [u] = some y) : ∃ z : Bool, u = .bool z := by
  obtain ⟨z, hz, _⟩ := DataW.trod_bool Tryd.underlying4 h
  simp only [List.cons.injEq, and_true] at hz
  exact ⟨z, hz⟩
theorem tr_nodes {m : Nat} {V : Value} {x : DataW H × List MemPlace} (h : DataW.trod enc Tryd.prog w base (fun _ => true) held m 24 [V] = some x) : ∃ l : List Nd, RdNd w V l := by
  obtain ⟨A, n, c, hV, hnc, hcm, hx⟩ := structs_tr Tryd.underlying24 Tryd.underlying41 (by kernel_rfl) (by kernel_rfl) (by decide) h
  obtain ⟨l, _, hr⟩ := rdS_of (f := Nd.cells) (K := 5) Nd.len hV hnc hcm fun hn => by
    obtain ⟨b, o, hA, hb, hc⟩ := hx hn
    refine ⟨b, o, hA, hb, fun i hi => ?_⟩
    obtain ⟨u0, k0, y0, c0, t0⟩ := hc i hi 0 _ rfl
    obtain ⟨u1, k1, y1, c1, t1⟩ := hc i hi 1 _ rfl
    obtain ⟨u2, k2, y2, c2, t2⟩ := hc i hi 2 _ rfl
    obtain ⟨u3, k3, y3, c3, t3⟩ := hc i hi 3 _ rfl
    obtain ⟨u4, k4, y4, c4, t4⟩ := hc i hi 4 _ rfl
    obtain ⟨z0, rfl⟩ := tr_bool t0
    obtain ⟨z1, rfl⟩ := tr_bool t1
    obtain ⟨z2, rfl⟩ := tr_bool t2
    obtain ⟨z3, rfl⟩ := tr_int t3
    obtain ⟨z4, rfl⟩ := tr_int t4
    refine ⟨⟨z0, z1, z2, z3, z4⟩, fun r u hu => ?_⟩
    have hr := (List.getElem?_eq_some_iff.1 hu).1
    rw [Nd.len] at hr
    match r, hr, hu with
    | 0, _, hu => cases hu; exact c0
    | 1, _, hu => cases hu; exact c1
    | 2, _, hu => cases hu; exact c2
    | 3, _, hu => cases hu; exact c3
    | 4, _, hu => cases hu; exact c4
  exact ⟨l, hr⟩
theorem tr_jobs {m : Nat} {V : Value} {x : DataW H × List MemPlace} (h : DataW.trod enc Tryd.prog w base (fun _ => true) held m 25 [V] = some x) : ∃ l : List Jb, RdJb w V l := by
  obtain ⟨A, n, c, hV, hnc, hcm, hx⟩ := structs_tr Tryd.underlying25 Tryd.underlying58 (by kernel_rfl) (by kernel_rfl) (by decide) h
  obtain ⟨l, _, hr⟩ := rdS_of (f := Jb.cells) (K := 12) Jb.len hV hnc hcm fun hn => by
    obtain ⟨b, o, hA, hb, hc⟩ := hx hn
    refine ⟨b, o, hA, hb, fun i hi => ?_⟩
    obtain ⟨u0, k0, y0, c0, t0⟩ := hc i hi 0 _ rfl
    obtain ⟨u1, k1, y1, c1, t1⟩ := hc i hi 1 _ rfl
    obtain ⟨u2, k2, y2, c2, t2⟩ := hc i hi 2 _ rfl
    obtain ⟨u3, k3, y3, c3, t3⟩ := hc i hi 3 _ rfl
    obtain ⟨u4, k4, y4, c4, t4⟩ := hc i hi 4 _ rfl
    obtain ⟨u5, k5, y5, c5, t5⟩ := hc i hi 5 _ rfl
    obtain ⟨u6, k6, y6, c6, t6⟩ := hc i hi 6 _ rfl
    obtain ⟨u7, k7, y7, c7, t7⟩ := hc i hi 7 _ rfl
    obtain ⟨u8, k8, y8, c8, t8⟩ := hc i hi 8 _ rfl
    obtain ⟨u9, k9, y9, c9, t9⟩ := hc i hi 9 _ rfl
    obtain ⟨ua, ka, ya, ca, ta⟩ := hc i hi 10 _ rfl
    obtain ⟨ub, kb, yb, cb, tb⟩ := hc i hi 11 _ rfl
    obtain ⟨z0, rfl⟩ := tr_int t0
    obtain ⟨z1, rfl⟩ := tr_int t1
    obtain ⟨z2, rfl⟩ := tr_int t2
    obtain ⟨z3, rfl⟩ := tr_int t3
    obtain ⟨z4, rfl⟩ := tr_int t4
    obtain ⟨z5, rfl⟩ := tr_int t5
    obtain ⟨z6, rfl⟩ := tr_int t6
    obtain ⟨z7, rfl⟩ := tr_int t7
    obtain ⟨z8, rfl⟩ := tr_int t8
    obtain ⟨z9, rfl⟩ := tr_int t9
    obtain ⟨za, rfl⟩ := tr_int ta
    obtain ⟨zb, rfl⟩ := tr_int tb
    refine ⟨⟨z0, z1, z2, z3, z4, z5, z6, z7, z8, z9, za, zb⟩, fun r u hu => ?_⟩
    have hr := (List.getElem?_eq_some_iff.1 hu).1
    rw [Jb.len] at hr
    match r, hr, hu with
    | 0, _, hu => cases hu; exact c0
    | 1, _, hu => cases hu; exact c1
    | 2, _, hu => cases hu; exact c2
    | 3, _, hu => cases hu; exact c3
    | 4, _, hu => cases hu; exact c4
    | 5, _, hu => cases hu; exact c5
    | 6, _, hu => cases hu; exact c6
    | 7, _, hu => cases hu; exact c7
    | 8, _, hu => cases hu; exact c8
    | 9, _, hu => cases hu; exact c9
    | 10, _, hu => cases hu; exact ca
    | 11, _, hu => cases hu; exact cb
  exact ⟨l, hr⟩
set_option maxRecDepth 100000 in
theorem dec_state {v : Value} {d : DataW H} {p : List MemPlace} (hv : Value.okWide Tryd.prog w r b0 27 v) (h : DataW.Trod enc Tryd.prog w base (fun _ => true) held 27 v d p) : ∃ vn vj s, v = stV vn vj s ∧ RdSt w vn vj s := by
  obtain ⟨cs, rfl, hsz⟩ := okWide_struct Tryd.underlying27 hv
  obtain ⟨fuel, hf⟩ := h
  obtain ⟨hl, hp⟩ := struct_parts Tryd.underlying27 (by kernel_rfl) (by kernel_rfl) hf
  obtain ⟨u0, k0, y0, c0, t0⟩ := hp 0 _ rfl
  obtain ⟨u1, k1, y1, c1, t1⟩ := hp 1 _ rfl
  obtain ⟨u2, k2, y2, c2, t2⟩ := hp 2 _ rfl
  obtain ⟨u3, k3, y3, c3, t3⟩ := hp 3 _ rfl
  obtain ⟨u4, k4, y4, c4, t4⟩ := hp 4 _ rfl
  obtain ⟨u5, k5, y5, c5, t5⟩ := hp 5 _ rfl
  obtain ⟨ln, hn⟩ := tr_nodes t0
  obtain ⟨lj, hj⟩ := tr_jobs t1
  obtain ⟨z2, rfl⟩ := tr_int t2
  obtain ⟨z3, rfl⟩ := tr_int t3
  obtain ⟨z4, rfl⟩ := tr_int t4
  obtain ⟨z5, rfl⟩ := tr_int t5
  refine ⟨u0, u1, ⟨ln, lj, z2, z3, z4, z5⟩, ?_, hn, hj⟩
  have hsz' : cs.toList.length = 6 := hl
  obtain ⟨l⟩ := cs
  match l, hsz' with
  | [a, b, c, d, e, f], _ =>
    simp only [Value.cells, List.getElem?_cons_zero, List.getElem?_cons_succ, Option.some.injEq] at c0 c1 c2 c3 c4 c5
    subst c0 c1 c2 c3 c4 c5
    rfl
end

end Go.Proofs.YtkpcjdhnbjkaaaaDoor

/- Layer 17: what the listed variable gives. -/
namespace Go.Proofs.YtkpcjdhnbjkaaaaDoor
open Go.Joins Go.ChangeShapes Go.WideShapes Go.ChangeAt Go.RowKit Go.Deep

theorem counts_datum : Rows.laid_dunnage_ops_counts (H := Unit) = Lib.tabData .i64 cntL := by kernel_rfl
theorem laid_of {W : World} (L : List (String × DataW Unit)) (h : laidMet Tryd.prog L W) (m2 : ("dunnage/ops.counts", Rows.laid_dunnage_ops_counts) ∈ L) : Laid W := by
  obtain ⟨r2, h2⟩ := laid_at L m2 h
  rw [counts_datum] at h2
  exact ⟨Lib.tabIs_of_head Tryd.gCounts (t := 73) (by kernel_rfl) Tryd.underlying73 Tryd.underlying3 (by kernel_rfl) (by kernel_rfl) h2⟩

end Go.Proofs.YtkpcjdhnbjkaaaaDoor

/- Layer 17: no more are cordoned than the wave: the law, walked. -/
namespace Go.Proofs.YtkpcjdhnbjkaaaaDoor
open Go.RowKit

set_option maxRecDepth 100000 in
set_option maxHeartbeats 16000000 in
theorem WaveWidth_calls (c : Cf) (vn vj : Value) (s : St) (now : Int) (w : World) (hr : RdSt w vn vj s) (hL : Laid w) :
    Calls Tryd.prog 4 #[cfV c, stV vn vj s, .int .i64 now] w fun e w' => e = .returned (.bool true) ∧ Ext w w' := by
  have HR := Lib.hid hr
  have HAL := Lib.hid fun W => alive17_any W
  have HRI : Hid (∀ W, Ext w W → Calls Tryd.prog 6 #[cfV c, stV vn vj s] W fun e w' => ∃ b : Bool, e = .returned (.bool b) ∧ (b = true ↔ RightP c s) ∧ Ext W w') := Lib.hid fun W hW => RightS_any c vn vj s W (HR.out.nodes.ext hW) (HR.out.jobs.ext hW)
  have HL := Lib.hid hL
  clear hL
  have HTI := Lib.hid fun W => time17_any now W
  unfold cfV stV at HRI
  unfold cfV stV
  obtain ⟨W1, hW1⟩ : ∃ W, W = w.alloc (.cells #[.int .i64 c.nodes, .int .i64 c.queues, .int .i64 c.quota, .int .i64 c.wave, .int .i64 c.lease, .int .i64 c.retry, .int .i64 c.deadline, .int .i64 c.room, .int .i64 c.disk] 23) := ⟨_, rfl⟩
  obtain ⟨W2, hW2⟩ : ∃ W, W = W1.alloc (.cells #[vn, vj, .int .i64 s.goal, .int .i64 s.prior, .int .i64 s.mode, .int .i64 s.term] 27) := ⟨_, rfl⟩
  have s1 : W1.heap.size = w.heap.size + 1 := by rw [hW1]; simp
  have x1 : Ext w W1 := by rw [hW1]; exact (Below.refl _ _).alloc (Nat.le_refl _) _
  have x2 : Ext W1 W2 := by rw [hW2]; exact (Below.refl _ _).alloc (Nat.le_refl _) _
  have HX2 : Hid (Ext w W2) := Lib.hid (Ext.trans x1 x2)
  have b1 : Blk W2 w.heap.size 23 #[.int .i64 c.nodes, .int .i64 c.queues, .int .i64 c.quota, .int .i64 c.wave, .int .i64 c.lease, .int .i64 c.retry, .int .i64 c.deadline, .int .i64 c.room, .int .i64 c.disk] := by
    have h : Blk W1 w.heap.size 23 #[.int .i64 c.nodes, .int .i64 c.queues, .int .i64 c.quota, .int .i64 c.wave, .int .i64 c.lease, .int .i64 c.retry, .int .i64 c.deadline, .int .i64 c.room, .int .i64 c.disk] := by rw [hW1]; exact Blk.new _ _ _
    exact h.ext x2
  have b2 : Blk W2 (w.heap.size + 1) 27 #[vn, vj, .int .i64 s.goal, .int .i64 s.prior, .int .i64 s.mode, .int .i64 s.term] := by
    have h : Blk W2 W1.heap.size 27 #[vn, vj, .int .i64 s.goal, .int .i64 s.prior, .int .i64 s.mode, .int .i64 s.term] := by rw [hW2]; exact Blk.new _ _ _
    rw [s1] at h
    exact h
  have HB1 := Lib.hid b1
  have HB2 := Lib.hid b2
  have HW2 : Hid (W2 = (w.alloc (.cells #[.int .i64 c.nodes, .int .i64 c.queues, .int .i64 c.quota, .int .i64 c.wave, .int .i64 c.lease, .int .i64 c.retry, .int .i64 c.deadline, .int .i64 c.room, .int .i64 c.disk] 23)).alloc (.cells #[vn, vj, .int .i64 s.goal, .int .i64 s.prior, .int .i64 s.mode, .int .i64 s.term] 27)) := Lib.hid (by rw [hW2, hW1])
  clear hW2 hW1 s1 x1 x2 b1 b2 hr
  go_enter Tryd.func4, Tryd.ntmps4
  go_upto_region 1 with (fail)
  rw [← HW2.out]
  obtain ⟨gc, hgc⟩ : ∃ g, g = w.heap.size := ⟨_, rfl⟩
  obtain ⟨gs, hgs⟩ : ∃ g, g = w.heap.size + 1 := ⟨_, rfl⟩
  rw [← hgs, ← hgc]
  rw [← hgs] at HB2
  rw [← hgc] at HB1
  have HGS : Hid (w.heap.size ≤ gc ∧ w.heap.size ≤ gs ∧ gc ≠ gs) := Lib.hid (by omega)
  clear HW2 hgc hgs
  have HC1 := Lib.hid (HAL.out W2)
  go_wp2_with fail
  refine HC1.out.mono ?_
  rintro e3 w3 ⟨rfl, hx3⟩
  have HX3 : Hid (Ext W2 w3) := Lib.hid hx3
  clear hx3 HC1 HAL
  simp only []
  have HC2 := Lib.hid (HRI.out w3 (Ext.trans HX2.out HX3.out))
  obtain ⟨g0, g1, g2, g3, g4, g5⟩ := Blk.six (HB2.out.ext HX3.out)
  obtain ⟨k0, k1, k2, k3, k4, k5, k6, k7, k8⟩ := Blk.nine (HB1.out.ext HX3.out)
  go_wp2_with fail
  refine HC2.out.mono ?_
  rintro e4 w4 ⟨b, rfl, hb, hx4⟩
  have HX4 : Hid (Ext W2 w4) := Lib.hid (Ext.trans HX3.out hx4)
  have HBB := Lib.hid hb
  clear hx4 hb HC2 HRI g0 g1 g2 g3 g4 g5 k0 k1 k2 k3 k4 k5 k6 k7 k8
  simp only []
  cases b with
  | false =>
    go_wp2
    go_ret
    exact ⟨rfl, Ext.trans HX2.out HX4.out⟩
  | true =>
    have hR : RightP c s := HBB.out.1 rfl
    have HC3 := Lib.hid (HTI.out w4)
    clear HBB HTI
    go_wp2_with fail
    refine HC3.out.mono ?_
    rintro e5 w5 ⟨rfl, rfl⟩
    clear HC3
    simp only []
    by_cases ht : 0 ≤ now ∧ now ≤ 1000000
    case neg =>
      have e0 : (decide (0 ≤ now) && decide (now ≤ 1000000)) = false := by
        by_cases h : 0 ≤ now
        · rw [decide_eq_false (fun h2 => ht ⟨h, h2⟩), Bool.and_false]
        · rw [decide_eq_false h, Bool.false_and]
      simp only [e0]
      clear ht e0 hR
      go_wp2
      go_ret
      exact ⟨rfl, Ext.trans HX2.out HX4.out⟩
    have e0 : (decide (0 ≤ now) && decide (now ≤ 1000000)) = true := by rw [decide_eq_true ht.1, decide_eq_true ht.2]; rfl
    simp only [e0]
    clear e0
    obtain ⟨hn0, hn1⟩ := ht
    have HNX : Hid (∀ S vn vj W, RdSt W vn vj S → RightP c S → Calls Tryd.prog 8 #[cfV c, stV vn vj S, .int .i64 now] W fun e w' => e = .returned (optV (nextW c S now)) ∧ Ext W w') := Lib.hid fun S vn vj W h hS => WNext_any c vn vj S now W h hS hn0 hn1
    have HOK : Hid (∀ S o, RightP c S → nextW c S now = some o → OkW c S o) := Lib.hid fun S o hS h => next_ok hS hn0 h
    have HAP : Hid (∀ S vn vj o T W, RdSt W vn vj S → RightP c S → applyS c S o = (T, 0) → Ext w W → Calls Tryd.prog 9 #[cfV c, stV vn vj S, opA o] W fun e w' => ∃ A8 c8 A9 c9, e = .returned (.tuple #[.agg #[.slice A8 T.nodes.length c8, .slice A9 T.jobs.length c9, .int .i64 T.goal, .int .i64 T.prior, .int .i64 T.mode, .int .i64 T.term], .int .i64 0]) ∧ RdSt w' (.slice A8 T.nodes.length c8) (.slice A9 T.jobs.length c9) T ∧ RightP c T ∧ (∀ k, (Value.slice A8 T.nodes.length c8).ownBlock = some k ∨ (Value.slice A9 T.jobs.length c9).ownBlock = some k → W.heap.size ≤ k) ∧ Ext W w') := Lib.hid fun S vn vj o T W h hS hT hW => (Apply_any c vn vj S o W h (HL.out.ext hW)).mono (by
      rintro e w' ⟨v1, v2, s', er, h1, h2, h3, h4, -, h7⟩
      have h5 := (h4 hS).trans hT
      have h6 := hS.apply o
      rw [hT] at h6
      cases h5
      obtain ⟨A8, c8, rfl, -, -⟩ := h2.nodes.slice_
      obtain ⟨A9, c9, rfl, -, -⟩ := h2.jobs.slice_
      exact ⟨A8, c8, A9, c9, h1, h2, h6, h7, h3⟩)
    have HWV : Hid (∀ S vn vj W, RdSt W vn vj S → RightP c S → Calls Tryd.prog 10 #[stV vn vj S] W fun e w' => e = .returned (.int .i64 (waveS S : Int)) ∧ Ext W w') := Lib.hid fun S vn vj W h hS => WWave_any c vn vj S W h hS
    unfold cfV stV at HNX HAP
    unfold stV at HWV
    have HSA : Hid (SAt w4 gs vn vj s) := Lib.hid (SAt.first HR.out (Ext.trans HX2.out HX4.out) (HB2.out.ext HX4.out) HGS.out.2.1)
    have HC4 := Lib.hid (HB1.out.ext HX4.out)
    have HXX := Lib.hid (Ext.trans HX2.out HX4.out)
    have HD := Lib.hid (HWV.out s vn vj w4 (HR.out.ext HXX.out) hR)
    have HRS := Lib.hid hR
    clear hR hn0 hn1 HL HB1 HB2 HX2 HX4 HR
    obtain ⟨g0, g1, g2, g3, g4, g5⟩ := Blk.six HSA.out.blk
    go_wp2_with fail
    refine HD.out.mono ?_
    rintro e9 u0 ⟨rfl, hx9⟩
    replace HXX := Lib.hid (Ext.trans HXX.out hx9)
    replace HSA := Lib.hid (HSA.out.ext hx9)
    replace HC4 := Lib.hid (HC4.out.ext hx9)
    clear hx9 HD g0 g1 g2 g3 g4 g5
    simp only []
    go_wp2_with fail
    go_loopw [7, 8] (fun n i wr => ∃ (k : Nat) (S : St) (vn vj : Value), i = .int .i64 k ∧ k ≤ 20 ∧ n = .int .i64 (waveS S : Int) ∧ Hid (Ext w wr ∧ Blk wr gc 23 #[.int .i64 c.nodes, .int .i64 c.queues, .int .i64 c.quota, .int .i64 c.wave, .int .i64 c.lease, .int .i64 c.retry, .int .i64 c.deadline, .int .i64 c.room, .int .i64 c.disk] ∧ SAt wr gs vn vj S ∧ RightP c S)) (fun _ i _ => 20 - (intOf i).toNat)
    case atStart => exact ⟨0, s, vn, vj, rfl, Nat.zero_le _, rfl, Lib.hid ⟨HXX.out, HC4.out, HSA.out, HRS.out⟩⟩
    case round =>
      obtain ⟨k, S, vn1, vj1, rfl, hk, rfl, HK⟩ := hrel
      clear HXX HSA HC4 HRS
      obtain ⟨hx, hc, hs, hS⟩ := HK.out
      obtain ⟨An, cn, rfl, -, -⟩ := hs.rd.nodes.slice_
      obtain ⟨Aj, cj, rfl, -, -⟩ := hs.rd.jobs.slice_
      have HX := Lib.hid hx
      have HC := Lib.hid hc
      have HS := Lib.hid hs
      have HRS := Lib.hid hS
      clear hx hc hs hS HK
      by_cases hlt : k < 20
      · have d1 : decide ((k : Int) < (20 : Int)) = true := decide_eq_true (by omega)
        have d1' : decide (k < 20) = true := decide_eq_true hlt
        have HLT := Lib.hid hlt
        have wq : wrap64 ((k : Int) + 1) = (k : Int) + 1 := IntWalk.wrap64_in _ (by omega)
        have HOS := Lib.hid (fun o h => HOK.out S o HRS.out h)
        have HD := Lib.hid (HNX.out S _ _ wr HS.out.rd HRS.out)
        obtain ⟨R, hRR⟩ : ∃ R, R = nextW c S now := ⟨_, rfl⟩
        rw [← hRR] at HOS HD
        clear hRR hlt hk HNX HOK
        obtain ⟨g0, g1, g2, g3, g4, g5⟩ := Blk.six HS.out.blk
        obtain ⟨k0, k1, k2, k3, k4, k5, k6, k7, k8⟩ := Blk.nine HC.out
        go_wp2_with fail
        refine HD.out.mono ?_
        rintro e9 u1 ⟨rfl, hx9⟩
        have HX1 := Lib.hid hx9
        clear hx9 HD g0 g1 g2 g3 g4 g5 k0 k1 k2 k3 k4 k5 k6 k7 k8
        simp only []
        cases R with
        | none =>
          unfold optV opA zeroO
          go_wp2
          go_ret
          exact ⟨rfl, Ext.trans HX.out (Ext.trans HX1.out ((Below.refl _ _).alloc (Nat.le_refl _) _))⟩
        | some o1 =>
          obtain ⟨o1, o2, o3, o4, o5, o6, o7⟩ := o1
          have hok := HOS.out _ rfl
          obtain ⟨T, hT⟩ : ∃ T, T = (applyS c S (o1, o2, o3, o4, o5, o6, o7)).1 := ⟨_, rfl⟩
          have HWW : Hid (waveS T ≤ waveS S ∨ (waveS T : Int) ≤ c.wave) := Lib.hid (by rw [hT]; exact hok.wave)
          have HAQ := Lib.hid (fun W h hW => HAP.out S (.slice An S.nodes.length cn) (.slice Aj S.jobs.length cj) (o1, o2, o3, o4, o5, o6, o7) T W h HRS.out (Prod.ext hT.symm hok.ok) hW)
          unfold optV opA
          unfold opA at HAQ
          simp only [] at HAQ
          clear HAP HOS hok hT
          go_upto_region 10 with (fail)
          obtain ⟨z1, hz⟩ : ∃ W, W = u1.alloc (.cells #[.int .i64 o1, .int .i64 o2, .int .i64 o3, .int .i64 o4, .int .i64 o5, .int .i64 o6, .int .i64 o7] 32) := ⟨_, rfl⟩
          have HZ1 : Hid (Ext wr z1) := Lib.hid (by rw [hz]; exact Ext.trans HX1.out ((Below.refl _ _).alloc (Nat.le_refl _) _))
          have HO : Hid (Blk z1 u1.heap.size 32 #[.int .i64 o1, .int .i64 o2, .int .i64 o3, .int .i64 o4, .int .i64 o5, .int .i64 o6, .int .i64 o7]) := Lib.hid (by rw [hz]; exact Blk.new _ _ _)
          rw [← hz]
          obtain ⟨gp, hg⟩ : ∃ g, g = u1.heap.size := ⟨_, rfl⟩
          rw [← hg] at HO ⊢
          clear hz hg HX1
          go_upto_region 12 with (fail)
          obtain ⟨p0, p1, p2, p3, p4, p5, p6⟩ := Blk.seven HO.out
          have HD := Lib.hid (HAQ.out z1 (HS.out.rd.ext HZ1.out) (Ext.trans HX.out HZ1.out))
          obtain ⟨g0, g1, g2, g3, g4, g5⟩ := Blk.six (HS.out.ext HZ1.out).blk
          obtain ⟨k0, k1, k2, k3, k4, k5, k6, k7, k8⟩ := Blk.nine (HC.out.ext HZ1.out)
          go_wp2_with fail
          refine HD.out.mono ?_
          rintro e9 u2 ⟨A8, c8, A9, c9, rfl, hr9, hR9, hq9, hx9⟩
          have HX2 : Hid (Ext wr u2) := Lib.hid (Ext.trans HZ1.out hx9)
          have HOF : Hid (offG gs (.slice A8 T.nodes.length c8) T.nodes.length ∧ offG gs (.slice A9 T.jobs.length c9) T.jobs.length) := Lib.hid (by have h1 := (HS.out.ext HZ1.out).blk.lt; exact ⟨fun _ k h e => by have := hq9 k (.inl h); omega, fun _ k h e => by have := hq9 k (.inr h); omega⟩)
          have HR2 := Lib.hid hr9
          have HRT := Lib.hid hR9
          clear hx9 hr9 hR9 hq9 HD HAQ HO g0 g1 g2 g3 g4 g5 k0 k1 k2 k3 k4 k5 k6 k7 k8 p0 p1 p2 p3 p4 p5 p6
          simp only []
          go_upto_region 13 with (fail)
          obtain ⟨z2, hz⟩ : ∃ W, W = u2.alloc (.cells #[.slice A8 T.nodes.length c8, .slice A9 T.jobs.length c9, .int .i64 T.goal, .int .i64 T.prior, .int .i64 T.mode, .int .i64 T.term] 27) := ⟨_, rfl⟩
          have HZ2 : Hid (Ext u2 z2) := Lib.hid (by rw [hz]; exact (Below.refl _ _).alloc (Nat.le_refl _) _)
          have HO : Hid (Blk z2 u2.heap.size 27 #[.slice A8 T.nodes.length c8, .slice A9 T.jobs.length c9, .int .i64 T.goal, .int .i64 T.prior, .int .i64 T.mode, .int .i64 T.term]) := Lib.hid (by rw [hz]; exact Blk.new _ _ _)
          rw [← hz]
          obtain ⟨gt, hg⟩ : ∃ g, g = u2.heap.size := ⟨_, rfl⟩
          rw [← hg] at HO ⊢
          clear hz hg
          have HD := Lib.hid (HWV.out T _ _ z2 (HR2.out.ext HZ2.out) HRT.out)
          obtain ⟨t0, t1, t2, t3, t4, t5⟩ := Blk.six HO.out
          go_wp2_with fail
          refine HD.out.mono ?_
          rintro e9 u3 ⟨rfl, hx9⟩
          have HX3 : Hid (Ext wr u3) := Lib.hid (Ext.trans HX2.out (Ext.trans HZ2.out hx9))
          replace HR2 := Lib.hid ((HR2.out.ext HZ2.out).ext hx9)
          replace HO := Lib.hid (HO.out.ext hx9)
          clear hx9 HD HZ2 HX2 HZ1 t0 t1 t2 t3 t4 t5
          simp only []
          replace HC := Lib.hid (HC.out.ext HX3.out)
          replace HS := Lib.hid (HS.out.ext HX3.out)
          have HXE : Hid (Ext w u3) := Lib.hid (Ext.trans HX.out HX3.out)
          have HOFF : Hid (offG gs (.slice A8 T.nodes.length c8) T.nodes.length ∧ offG gs (.slice A9 T.jobs.length c9) T.jobs.length) := Lib.hid HOF.out
          obtain ⟨t0, t1, t2, t3, t4, t5⟩ := Blk.six HO.out
          have k3 := HC.out.cell 3
          obtain ⟨m, hm⟩ : ∃ m, m = waveS T := ⟨_, rfl⟩
          obtain ⟨n0, hn⟩ : ∃ m, m = waveS S := ⟨_, rfl⟩
          have HM := Lib.hid hm
          rw [← hm, ← hn] at HWW
          rw [← hm, ← hn]
          clear hm hn
          by_cases hmn : n0 < m
          · have e1 : decide ((n0 : Int) < (m : Int)) = true := decide_eq_true (by omega)
            have e1' : decide (n0 < m) = true := decide_eq_true hmn
            have e2 : decide (c.wave < (m : Int)) = false := decide_eq_false (by have := HWW.out; omega)
            clear hmn
            clear d1 d1'
            go_upto_region 16 with (fail)
            clear k3
            obtain ⟨w7, hw7, hsa, hsame, hsz, hbel⟩ := HS.out.putR HR2.out HOFF.out.1 HOFF.out.2
            have HSA := Lib.hid hsa
            have HCB : Hid (Blk w7 gc 23 #[.int .i64 c.nodes, .int .i64 c.queues, .int .i64 c.quota, .int .i64 c.wave, .int .i64 c.lease, .int .i64 c.retry, .int .i64 c.deadline, .int .i64 c.room, .int .i64 c.disk]) := Lib.hid ((hsame gc HGS.out.2.2).trans HC.out)
            have HX7 : Hid (Ext w w7) := Lib.hid (hbel _ _ HXE.out HGS.out.2.1)
            have HW7 := Lib.hid hw7
            clear hsa hsame hsz hbel hw7
            have f0 := HS.out.blk.frozen 0
            have f1 := HS.out.blk.frozen 1
            have f2 := HS.out.blk.frozen 2
            have f3 := HS.out.blk.frozen 3
            have f4 := HS.out.blk.frozen 4
            have f5 := HS.out.blk.frozen 5
            obtain ⟨g0, g1, g2, g3, g4, g5⟩ := Blk.six HS.out.blk
            go_upto_region 17 with (fail)
            rw [← HW7.out]
            clear HW7 f0 f1 f2 f3 f4 f5 g0 g1 g2 g3 g4 g5 t0 t1 t2 t3 t4 t5
            repeat (first | go_values | go_skip | go_guarded | go_step | go_upon | (simp only []))
            go_roundw
            case rel => exact ⟨k + 1, T, _, _, by first | (rw [wq]; rfl) | rfl, HLT.out, by rw [HM.out], Lib.hid ⟨HX7.out, HCB.out, HSA.out, HRT.out⟩⟩
            case measure => first | (rw [wq]; exact measQ HLT.out) | exact measQ HLT.out
          · have e1 : decide ((n0 : Int) < (m : Int)) = false := decide_eq_false (by omega)
            have e1' : decide (n0 < m) = false := decide_eq_false hmn
            clear hmn
            clear d1 d1'
            go_upto_region 16 with (fail)
            clear k3
            obtain ⟨w7, hw7, hsa, hsame, hsz, hbel⟩ := HS.out.putR HR2.out HOFF.out.1 HOFF.out.2
            have HSA := Lib.hid hsa
            have HCB : Hid (Blk w7 gc 23 #[.int .i64 c.nodes, .int .i64 c.queues, .int .i64 c.quota, .int .i64 c.wave, .int .i64 c.lease, .int .i64 c.retry, .int .i64 c.deadline, .int .i64 c.room, .int .i64 c.disk]) := Lib.hid ((hsame gc HGS.out.2.2).trans HC.out)
            have HX7 : Hid (Ext w w7) := Lib.hid (hbel _ _ HXE.out HGS.out.2.1)
            have HW7 := Lib.hid hw7
            clear hsa hsame hsz hbel hw7
            have f0 := HS.out.blk.frozen 0
            have f1 := HS.out.blk.frozen 1
            have f2 := HS.out.blk.frozen 2
            have f3 := HS.out.blk.frozen 3
            have f4 := HS.out.blk.frozen 4
            have f5 := HS.out.blk.frozen 5
            obtain ⟨g0, g1, g2, g3, g4, g5⟩ := Blk.six HS.out.blk
            go_upto_region 17 with (fail)
            rw [← HW7.out]
            clear HW7 f0 f1 f2 f3 f4 f5 g0 g1 g2 g3 g4 g5 t0 t1 t2 t3 t4 t5
            repeat (first | go_values | go_skip | go_guarded | go_step | go_upon | (simp only []))
            go_roundw
            case rel => exact ⟨k + 1, T, _, _, by first | (rw [wq]; rfl) | rfl, HLT.out, by rw [HM.out], Lib.hid ⟨HX7.out, HCB.out, HSA.out, HRT.out⟩⟩
            case measure => first | (rw [wq]; exact measQ HLT.out) | exact measQ HLT.out
      · have d1 : decide ((k : Int) < (20 : Int)) = false := decide_eq_false (by omega)
        have d1' : decide (k < 20) = false := decide_eq_false hlt
        clear hlt hk
        go_wp2
        go_ret
        exact ⟨rfl, HX.out⟩

end Go.Proofs.YtkpcjdhnbjkaaaaDoor
