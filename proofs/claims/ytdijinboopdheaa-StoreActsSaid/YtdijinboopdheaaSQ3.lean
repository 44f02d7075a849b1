/- Texts that the proof of S rests on, one behind the other. -/
import Derived.Test.YtdijinboopdheaaSQ2
import Derived.ProofKit
import Derived.OpenShut
import Derived.SizedLaws
import Derived.Carry
import Derived.ChangeMaps5
import Derived.Deep.Matrix
import Derived.Deep.Slices
import Derived.Deep.Fields
import Derived.ChangeSame

/- From a contract 'it returns true, and leaves all that was there' to the row of a law; and what the arguments read as. No function of the program is named here. -/
namespace Go.Proofs.Ytdijinboopdheaa
open Go.ChangeShapes Go.WideShapes Go.ChangeAt Go.RowKit

theorem Grew.slice_ {base : Nat} {e : TypeId} {v v' : Value} {w w' : World} {xs : List Value} (h : Grew base e v w xs v' w') {n : Nat} (hn : xs.length = n) : ∃ A c, v' = .slice A n c := by
  subst hn
  exact own_slice h.1

/-- The first of what reads as a list. -/
theorem Rd.prefix_ {w : World} {A : Option Addr} {N c : Nat} {xs : List Value} (h : Rd w (.slice A N c) xs) (n : Nat) (hle : n ≤ xs.length) : Rd w (.slice A n c) (xs.take n) := by
  obtain ⟨A', c', e, h1, h2, h3⟩ := h
  cases e
  have hl : (xs.take n).length = n := by rw [List.length_take]; omega
  refine ⟨_, _, by rw [hl], by omega, h2, fun hn => ?_⟩
  obtain ⟨b, o, rfl, hb, hc⟩ := h3 (by omega)
  refine ⟨b, o, rfl, hb, fun j u hu => ?_⟩
  rw [List.getElem?_take] at hu
  split at hu
  · exact hc _ u hu
  · cases hu

/-- What is owned stays so while other memory is made. -/
theorem Grew.step {base : Nat} {e : TypeId} {v v' : Value} {w w' w'' : World} {xs : List Value} (h : Grew base e v w xs v' w') (hx : Ext w' w'') : Grew base e v w xs v' w'' := by
  obtain ⟨h1, h2, h3⟩ := h
  refine ⟨?_, ⟨hx.os.trans h2.os, hx.tape.trans h2.tape, hx.output.trans h2.output, Nat.le_trans h2.size hx.size, fun k hk hne => (hx.block k (Nat.lt_of_lt_of_le hk h2.size)).trans (h2.block k hk hne)⟩, h3⟩
  refine ⟨h1.1, ?_⟩
  rcases h1.2 with h | ⟨g, cap, cur, hv, hg, hh, r⟩
  · exact .inl h
  · exact .inr ⟨g, cap, cur, hv, hg, by rw [hx.block g (Array.getElem?_eq_some_iff.1 hh).1]; exact hh, r⟩

section
variable {H : Type} {enc : TypeId × Value → H} {P : Program}

theorem trodAll_stays {W W' : World} (hl : laidOutB P = true) (hb : Below W.heap.size W W') : ∀ (ts : List TypeId) (vs : List Value) (ds : List (DataW H)) (ps : List MemPlace),
    (ts.all fun t => P.readableRec t && decide (t < P.types.size)) = true → DataW.TrodAll enc P W 0 (fun _ => true) true ts vs ds ps → (∀ x ∈ ps, x.block < W.heap.size) →
    DataW.TrodAll enc P W' 0 (fun b => decide (b < W.heap.size)) true ts vs ds ps
  | [], [], [], ps, _, h, _ => h
  | t :: ts, v :: vs, d :: ds, ps, hr, ⟨p, q, h1, h2, e⟩, hlt => by
    subst e
    simp only [List.all_cons, Bool.and_eq_true, decide_eq_true_eq] at hr
    exact ⟨p, q, Below.trod hl hr.1.1 hr.1.2 h1 hb (fun x hx => hlt x (List.mem_append.2 (.inl hx))), trodAll_stays hl hb ts vs ds q hr.2 h2 (fun x hx => hlt x (List.mem_append.2 (.inr hx))), rfl⟩
  | [], _ :: _, _, _, _, h, _ => h.elim
  | [], [], _ :: _, _, _, h, _ => h.elim
  | _ :: _, [], _, _, _, h, _ => h.elim
  | _ :: _, _ :: _, [], _, _, h, _ => h.elim

theorem trodAll_len {w : World} {base : Nat} {sp : Nat → Bool} {held : Bool} : ∀ (ts : List TypeId) (vs : List Value) (ds : List (DataW H)) (ps : List MemPlace), DataW.TrodAll enc P w base sp held ts vs ds ps → ds.length = ts.length
  | [], [], [], _, _ => rfl
  | _ :: ts, _ :: vs, _ :: ds, _, ⟨_, q, _, h2, _⟩ => by rw [List.length_cons, List.length_cons, trodAll_len ts vs ds q h2]
  | [], _ :: _, _, _, h => h.elim
  | [], [], _ :: _, _, h => h.elim
  | _ :: _, [], _, _, h => h.elim
  | _ :: _, _ :: _, [], _, h => h.elim

theorem post_true {f : Func} {s : ChangeSpec} {W W' : World} {args : Array Value} {ds : List (DataW H)} {before : List MemPlace} {tb : TypeId} (hl : laidOutB P = true)
    (hp : (f.params.toList.all fun t => P.readableRec t && decide (t < P.types.size)) = true) (hres : f.resultTypes = #[tb]) (htb : P.underlying tb = some .bool) (hv : s.vars = [])
    (hW : DataW.Whole enc P f.params.toList s.vars false W args.toList ds [] before) (hs : s.fn H ds = { results := [.lit (.bool true)], args := ds }) (hx : Below W.heap.size W W') :
    s.post enc P f false true false false W args (.bool true) W' := by
  have hlt : ∀ p ∈ before, p.block < W.heap.size := fun p hp => hW.lt p hp
  have hW' := hW
  obtain ⟨p, q, hA, hV, e, _, _⟩ := hW
  have hq : q = [] := by
    rw [hv] at hV
    exact hV
  subst hq
  rw [List.append_nil] at e
  subst e
  refine ⟨ds, [], before, [] ++ [], before, [], hW', ?_, ?_, ?_, hx.frame _, fun h => by cases h⟩
  · rw [List.append_nil, hs, hres]
    exact ⟨[], [], shut_bool htb true, rfl, rfl⟩
  · rw [List.append_nil, hs]
    exact trodAll_stays hl hx _ _ _ _ hp hA hlt
  · rw [List.append_nil, hs, hv]
    rfl

/-! ### What the arguments read as -/
theorem dec_int {w : World} {base : Nat} {sp : Nat → Bool} {held : Bool} {r : Reach} {b0 : Nat} {t : TypeId} {v : Value} {d : DataW H} {ps : List MemPlace} (ht : P.underlying t = some (.int .i64)) (hval : Value.okWide P w r b0 t v) (hd : DataW.Trod enc P w base sp held t v d ps) :
    ∃ n : Int, v = .int .i64 n ∧ -9223372036854775808 ≤ n ∧ n ≤ 9223372036854775807 := by
  obtain ⟨n, rfl, _, _, hw⟩ := open_int ht hval hd
  have h1 : IntKind.i64.min = -9223372036854775808 := rfl
  have h2 : IntKind.i64.max = 9223372036854775807 := rfl
  simp only [Lit.wf, Bool.and_eq_true, decide_eq_true_eq] at hw
  exact ⟨n, rfl, by omega, by omega⟩

theorem dec_str {w : World} {base : Nat} {sp : Nat → Bool} {held : Bool} {r : Reach} {b0 : Nat} {ts : List TypeId} {ds : List (DataW H)} {j : Nat} {t : TypeId} {v : Value} {d : DataW H} {ps : List MemPlace} (ht : P.underlying t = some .string) (hval : Value.okWide P w r b0 t v)
    (hd : DataW.Trod enc P w base sp held t v d ps) (hsz : (DataW.weightsEach P ts ds).all (· ≤ reachBytes) = true) (hj : ts[j]? = some t) (hk : ds[j]? = some d) : ∃ s : ByteArray, v = .string s ∧ s.size ≤ 140737488351232 := by
  obtain ⟨s, rfl, rfl, _, _⟩ := _root_.Go.ChangeMaps.open_string ht hval hd
  have := sized_string hsz hj hk
  have e : s.data.toList.length = s.size := by rw [Array.length_toList]; rfl
  rw [e] at this
  exact ⟨s, rfl, by unfold reachBytes at this; omega⟩

theorem dec_ints {w : World} {base : Nat} {held : Bool} {r : Reach} {b0 : Nat} {ts : List TypeId} {ds : List (DataW H)} {j : Nat} {t e : TypeId} {k : IntKind} {by_ : Nat} {v : Value} {d : DataW H} {ps : List MemPlace} (ht : P.underlying t = some (.slice e)) (he : P.underlying e = some (.int k))
    (hc : P.cellsOf e = 1) (hby : P.bytesOf e = by_) (hval : Value.okWide P w r b0 t v) (hd : DataW.Trod enc P w base (fun _ => true) held t v d ps) (hsz : (DataW.weightsEach P ts ds).all (· ≤ reachBytes) = true) (hj : ts[j]? = some t) (hk : ds[j]? = some d) :
    ∃ l : List Int, Rd w v (l.map (Value.int k)) ∧ l.length * by_ ≤ 140737488351232 ∧ ∀ n ∈ l, (Lit.int k n).wf = true := by
  obtain ⟨a0, len, cap, rfl⟩ := okWide_slice ht hval
  obtain ⟨fuel, hf⟩ := hd
  rcases open_ints ht he hc hf with ⟨hcs, hx⟩ | ⟨a, len', cap', zs, hcs, _, hl, hm, hz, hx, hcell, hw⟩
  · simp [Value.cells] at hcs
    obtain ⟨rfl, rfl, rfl⟩ := hcs
    exact ⟨[], Rd.nil w, by simp, by simp⟩
  · simp [Value.cells] at hcs
    obtain ⟨rfl, rfl, rfl⟩ := hcs
    simp only [Prod.mk.injEq] at hx
    obtain ⟨rfl, rfl⟩ := hx
    simp only [if_true] at hz
    have hlen : (zs.take len).length = len := by rw [List.length_take]; omega
    refine ⟨zs.take len, ⟨some a, cap, by rw [List.length_map, hlen], by rw [List.length_map, hlen]; exact hl, hm, fun hn => ?_⟩, ?_, fun n hn => hw n (List.mem_of_mem_take hn)⟩
    · rw [List.length_map, hlen] at hn
      have h0 := hcell 0 (by omega)
      obtain ⟨b, o, spot⟩ := a
      have hspot : spot = none := by simpa [Addr.add] using World.cell?_spot h0
      subst hspot
      refine ⟨b, o, rfl, ?_, fun j u hu => ?_⟩
      · have := World.block_lt_of_cell? w _ h0
        simpa [block_of_add] using this
      · rw [List.getElem?_map] at hu
        obtain ⟨n, hn2, rfl⟩ := Option.map_eq_some_iff.1 hu
        rw [List.getElem?_take] at hn2
        split at hn2
        · have hjz : j < zs.length := (List.getElem?_eq_some_iff.1 hn2).1
          have := hcell j hjz
          rw [Addr.add_lit] at this
          rw [this]
          simp [List.getD, hn2]
        · cases hn2
    · have := sized_slice hsz hj hk ht
      rw [hby] at this
      simp only [lits, List.length_map, List.length_take, List.length_drop, reachBytes] at this
      rw [hlen]
      have hle : len ≤ min len zs.length + (zs.length - len) := by omega
      exact Nat.le_trans (Nat.mul_le_mul_right _ hle) (by omega)

theorem u8_of_wf {n : Int} (h : (Lit.int .u8 n).wf = true) : n = ((UInt8.ofNat n.toNat).toNat : Int) := by
  have h1 : IntKind.u8.min = 0 := rfl
  have h2 : IntKind.u8.max = 255 := rfl
  simp only [Lit.wf, Bool.and_eq_true, decide_eq_true_eq] at h
  simp
  omega

theorem dec_u8 {w : World} {base : Nat} {sp : Nat → Bool} {held : Bool} {r : Reach} {b0 : Nat} {t : TypeId} {v : Value} {d : DataW H} {ps : List MemPlace} (ht : P.underlying t = some (.int .u8)) (hval : Value.okWide P w r b0 t v) (hd : DataW.Trod enc P w base sp held t v d ps) :
    ∃ u : UInt8, v = B u := by
  obtain ⟨n, rfl, _, _, hw⟩ := open_int ht hval hd
  exact ⟨UInt8.ofNat n.toNat, by rw [B, ← u8_of_wf hw]⟩

theorem dec_bytes {w : World} {base : Nat} {held : Bool} {r : Reach} {b0 : Nat} {ts : List TypeId} {ds : List (DataW H)} {j : Nat} {t e : TypeId} {v : Value} {d : DataW H} {ps : List MemPlace} (ht : P.underlying t = some (.slice e)) (he : P.underlying e = some (.int .u8))
    (hc : P.cellsOf e = 1) (hby : P.bytesOf e = 1) (hval : Value.okWide P w r b0 t v) (hd : DataW.Trod enc P w base (fun _ => true) held t v d ps) (hsz : (DataW.weightsEach P ts ds).all (· ≤ reachBytes) = true) (hj : ts[j]? = some t) (hk : ds[j]? = some d) :
    ∃ l : List UInt8, Rd w v (l.map B) ∧ l.length ≤ 140737488351232 := by
  obtain ⟨l, h1, h2, h3⟩ := dec_ints ht he hc hby hval hd hsz hj hk
  refine ⟨l.map fun n => UInt8.ofNat n.toNat, ?_, by simpa using h2⟩
  have e : (l.map fun n => UInt8.ofNat n.toNat).map B = l.map (Value.int .u8) := by
    rw [List.map_map]
    refine List.map_congr_left fun n hn => ?_
    simp only [Function.comp_apply, B]
    rw [← u8_of_wf (h3 n hn)]
  rw [e]
  exact h1
end

/-- THE LAW's ROW, out of its contract. -/
theorem law_lift {C : Checked} {os : Os} {f : FuncId} {fn : Func} {s : ChangeSpec} {tb : TypeId} {H : Type} {enc : TypeId × Value → H} (own : ownKnob C.prog.godebug = none) (started : os.Started) (noInit : C.prog.inits.idxOf? f = none) (hfn : C.prog.funcs[f]? = some fn)
    (hl : laidOutB C.prog = true) (hp : (fn.params.toList.all fun t => C.prog.readableRec t && decide (t < C.prog.types.size)) = true) (hres : fn.resultTypes = #[tb]) (htb : C.prog.underlying tb = some .bool) (hv : s.vars = []) (hpv : s.plain.varTypes C.prog = [])
    (hs : ∀ ds : List (DataW H), ds.length = fn.params.toList.length → s.fn H ds = { results := [.lit (.bool true)], args := ds })
    (witness : ∃ (w : World) (tape : Tape) (i : Input), w.os = os ∧ (w.forCall tape i).Shaped C.prog ∧ i.vars = [] ∧ Input.okWide C.prog (w.forCall tape i) .any w.heap.size f i ∧
      s.pre6 enc C.prog fn [] false (w.forCall tape i).memory i.args ∧ ({} : Assume).holds C.prog (lone (Frame.enter C.prog f i.args .normal) [] (w.forCall tape i)))
    (contract : ∀ (W : World) (base : Nat) (args : Array Value) (ds : List (DataW H)) (p : List MemPlace), (∀ (j : Nat) t v, fn.params[j]? = some t → args[j]? = some v → Value.okWide C.prog W .any base t v) →
      DataW.TrodAll enc C.prog W 0 (fun _ => true) true fn.params.toList args.toList ds p → (DataW.weightsEach C.prog fn.params.toList ds).all (· ≤ reachBytes) = true →
      Calls C.prog f args W fun e W' => e = .returned (.bool true) ∧ Ext W W') :
    ReturnsInHanded {} C os f .any (s.pre6 enc C.prog fn [] false) (s.post enc C.prog fn false true false false) := by
  refine returnsInHanded_of_change_sized (C := C) own started noInit hfn witness ?_
  intro W base args ds gs before hval hW _ hsz _
  have hg : gs = [] := by
    obtain ⟨_, _, _, hV, _⟩ := hW
    rw [hv] at hV
    cases gs with
    | nil => rfl
    | cons _ _ => exact hV.elim
  subst hg
  rw [hpv, List.append_nil, List.append_nil] at hsz
  have hW' := hW
  obtain ⟨p, q, hA, _, _, _, _⟩ := hW
  have hlen := trodAll_len _ _ _ _ hA
  refine (contract W base args ds p hval hA hsz).mono fun e W' ⟨he, hx⟩ => ⟨_, he, ?_⟩
  exact post_true hl hp hres htb hv hW' (hs ds hlen) hx

end Go.Proofs.Ytdijinboopdheaa

/- Package store: a store, as the document speaks of it, in a block of its own. -/
namespace Go.Proofs.Ytdijinboopdheaa
open Go.RowKit

/-- A pair, and the slices that hold its bytes. -/
structure LpP where
  p : PrP
  vc : Value
  vs : Value
def LpP.cells (x : LpP) : List Value := [I x.p.c.ep, x.vc, I x.p.s.ep, x.vs]
/-- The bytes lie apart of the blocks that are written. -/
def LpP.rd (N : Fp) (w : World) (x : LpP) : Prop := RdF (fun k => ¬ N k) w x.vc (x.p.c.da.map B) ∧ RdF (fun k => ¬ N k) w x.vs (x.p.s.da.map B)
def zLp : LpP := ⟨zPr, .slice none 0 0, .slice none 0 0⟩
def soC (room term : Int) (lp : List LpP) (n : Int) : List Value := I room :: I term :: (lp.flatMap LpP.cells ++ [I n])
/-- The store in block g; N: the blocks that are written. -/
structure SoAt (N : Fp) (w : World) (g : Nat) (S : StoP) : Prop where
  out : ∃ lp, lp.map LpP.p = S.jobs ∧ Blk w g 94 (soC S.room S.term lp S.writes).toArray ∧ ∀ x ∈ lp, x.rd N w
  isIn : N.isIn w
  here : N g

theorem zLp_rd (N : Fp) (w : World) : zLp.rd N w :=
  ⟨⟨none, 0, rfl, Nat.le_refl _, Nat.zero_le _, fun h => absurd h (by decide)⟩, ⟨none, 0, rfl, Nat.le_refl _, Nat.zero_le _, fun h => absurd h (by decide)⟩⟩
theorem RdF.nilF (F : Fp) (w : World) : RdF F w (.slice none 0 0) [] := ⟨none, 0, rfl, Nat.le_refl _, Nat.zero_le _, fun h => absurd h (by decide)⟩
theorem LpP.rd.chg {N G : Fp} {w w' : World} {x : LpP} (h : x.rd N w) (hc : Chg G w w') (hg : ∀ k, G k → N k) : x.rd N w' :=
  ⟨h.1.chg hc (fun k hk hG => hk (hg k hG)), h.2.chg hc (fun k hk hG => hk (hg k hG))⟩
theorem flat_at4 : ∀ (lp : List LpP) (r : List Value) (k i : Nat), i < 4 → k < lp.length → (lp.flatMap LpP.cells ++ r)[4 * k + i]? = ((lp.getD k zLp).cells)[i]?
  | [], _, _, _, _, h => absurd h (by simp)
  | x :: lp, r, 0, i, hi, _ => by
    rw [List.flatMap_cons, List.append_assoc, Nat.mul_zero, Nat.zero_add, List.getElem?_append_left (by show i < 4; exact hi)]
    rfl
  | x :: lp, r, k + 1, i, hi, h => by
    rw [List.flatMap_cons, List.append_assoc, List.getElem?_append_right (by show 4 ≤ 4 * (k + 1) + i; omega), show 4 * (k + 1) + i - x.cells.length = 4 * k + i by show 4 * (k + 1) + i - 4 = _; omega]
    exact flat_at4 lp r k i hi (by simpa using h)
theorem flat4_len : ∀ lp : List LpP, (lp.flatMap LpP.cells).length = 4 * lp.length
  | [] => rfl
  | x :: lp => by rw [List.flatMap_cons, List.length_append, flat4_len lp, List.length_cons]; show 4 + 4 * lp.length = _; omega
theorem soC_at (room term : Int) (lp : List LpP) (n : Int) (k i : Nat) (hi : i < 4) (hk : k < lp.length) : (soC room term lp n)[2 + 4 * k + i]? = ((lp.getD k zLp).cells)[i]? := by
  rw [show 2 + 4 * k + i = (4 * k + i) + 1 + 1 by omega]
  show (lp.flatMap LpP.cells ++ [I n])[4 * k + i]? = _
  exact flat_at4 lp _ k i hi hk
theorem soC_last (room term : Int) (lp : List LpP) (n : Int) (hl : lp.length = 24) : (soC room term lp n)[98]? = some (I n) := by
  show (lp.flatMap LpP.cells ++ [I n])[96]? = _
  rw [List.getElem?_append_right (by rw [flat4_len]; omega), flat4_len, hl]
  rfl
theorem soC_len (room term : Int) (lp : List LpP) (n : Int) (hl : lp.length = 24) : (soC room term lp n).length = 99 := by
  show (lp.flatMap LpP.cells ++ [I n]).length + 1 + 1 = 99
  rw [List.length_append, flat4_len, hl]
  rfl
theorem flat_set4 : ∀ (lp : List LpP) (r : List Value) (k : Nat) (x : LpP), k < lp.length →
    ((((lp.flatMap LpP.cells ++ r).set (4 * k) (I x.p.c.ep)).set (4 * k + 1) x.vc).set (4 * k + 2) (I x.p.s.ep)).set (4 * k + 3) x.vs = (lp.set k x).flatMap LpP.cells ++ r
  | [], _, _, _, h => absurd h (by simp)
  | y :: lp, r, 0, x, _ => by
    rw [List.flatMap_cons, List.append_assoc]
    rfl
  | y :: lp, r, k + 1, x, h => by
    have ih := flat_set4 lp r k x (by simpa using h)
    rw [List.flatMap_cons, List.append_assoc, List.set_cons_succ, List.flatMap_cons, List.append_assoc, ← ih]
    rw [show 4 * (k + 1) = 4 * k + 1 + 1 + 1 + 1 by omega, show 4 * k + 1 + 1 + 1 + 1 + 1 = (4 * k + 1) + 1 + 1 + 1 + 1 by omega, show 4 * k + 1 + 1 + 1 + 1 + 2 = (4 * k + 2) + 1 + 1 + 1 + 1 by omega, show 4 * k + 1 + 1 + 1 + 1 + 3 = (4 * k + 3) + 1 + 1 + 1 + 1 by omega]
    rfl
theorem soC_set4 (room term : Int) (lp : List LpP) (n : Int) (k : Nat) (x : LpP) (hk : k < lp.length) :
    ((((soC room term lp n).set (2 + 4 * k) (I x.p.c.ep)).set (2 + 4 * k + 1) x.vc).set (2 + 4 * k + 2) (I x.p.s.ep)).set (2 + 4 * k + 3) x.vs = soC room term (lp.set k x) n := by
  rw [show 2 + 4 * k = 4 * k + 1 + 1 by omega, show 4 * k + 1 + 1 + 1 = (4 * k + 1) + 1 + 1 by omega, show 4 * k + 1 + 1 + 2 = (4 * k + 2) + 1 + 1 by omega, show 4 * k + 1 + 1 + 3 = (4 * k + 3) + 1 + 1 by omega]
  have h := flat_set4 lp [I n] k x hk
  show I room :: I term :: (((((lp.flatMap LpP.cells ++ [I n]).set (4 * k) (I x.p.c.ep)).set (4 * k + 1) x.vc).set (4 * k + 2) (I x.p.s.ep)).set (4 * k + 3) x.vs) = _
  rw [h]
  rfl
theorem soC_set2 (room term : Int) (lp : List LpP) (n : Int) (k : Nat) (e : Int) (d : List UInt8) (v : Value) (hk : k < lp.length) :
    ((soC room term lp n).set (2 + 4 * k + 2) (I e)).set (2 + 4 * k + 3) v = soC room term (lp.set k ⟨⟨(lp.getD k zLp).p.c, ⟨e, d⟩⟩, (lp.getD k zLp).vc, v⟩) n := by
  rw [← soC_set4 room term lp n k _ hk]
  have h0 := soC_at room term lp n k 0 (by omega) hk
  have h1 := soC_at room term lp n k 1 (by omega) hk
  have e0 : (soC room term lp n).set (2 + 4 * k) (I (lp.getD k zLp).p.c.ep) = soC room term lp n := by
    apply List.ext_getElem?
    intro i
    rw [List.getElem?_set]
    split
    next e => subst e; split; exact h0.symm; next hh => rw [List.getElem?_eq_none (by omega)]
    · rfl
  have e1 : (soC room term lp n).set (2 + 4 * k + 1) (lp.getD k zLp).vc = soC room term lp n := by
    apply List.ext_getElem?
    intro i
    rw [List.getElem?_set]
    split
    next e => subst e; split; exact h1.symm; next hh => rw [List.getElem?_eq_none (by omega)]
    · rfl
  rw [e0, e1]
theorem soC_setN (room term : Int) (lp : List LpP) (n m : Int) (hl : lp.length = 24) : (soC room term lp n).set 98 (I m) = soC room term lp m := by
  show I room :: I term :: ((lp.flatMap LpP.cells ++ [I n]).set 96 (I m)) = _
  rw [List.set_append_right _ _ (by rw [flat4_len]; omega), flat4_len, hl]
  rfl

section
variable {N G : Fp} {w w' : World} {g : Nat} {S : StoP}
theorem SoAt.chg (h : SoAt N w g S) (hc : Chg G w w') (hg : ∀ k, G k → N k) (hng : ¬ G g) : SoAt N w' g S := by
  obtain ⟨lp, h1, h2, h3⟩ := h.out
  exact ⟨⟨lp, h1, (hc.block g h2.lt hng).trans h2, fun x hx => (h3 x hx).chg hc hg⟩, h.isIn.chg hc, h.here⟩
theorem SoAt.ext (h : SoAt N w g S) (hx : Ext w w') : SoAt N w' g S := h.chg (G := fun _ => False) (Chg.of_ext hx) (fun _ h => h.elim) (fun h => h)
theorem SoAt.lt (h : SoAt N w g S) : g < w.heap.size := h.isIn g h.here
/-- The cells of a job's pair. -/
structure PairAt (N : Fp) (w : World) (b o : Nat) (p : PrP) : Prop where
  out : ∃ vc vs, (w.cell? ⟨b, o, none⟩ = some (I p.c.ep) ∧ w.cell? ⟨b, o + 1, none⟩ = some vc ∧ w.cell? ⟨b, o + 2, none⟩ = some (I p.s.ep) ∧ w.cell? ⟨b, o + 3, none⟩ = some vs) ∧ LpP.rd N w ⟨p, vc, vs⟩
  fr : ∀ i, w.frozen? ⟨b, i, none⟩ = false
  lt : b < w.heap.size
theorem PairAt.ext {b o : Nat} {p : PrP} (h : PairAt N w b o p) (hx : Ext w w') : PairAt N w' b o p := by
  obtain ⟨vc, vs, ⟨c0, c1, c2, c3⟩, hr⟩ := h.out
  exact ⟨⟨vc, vs, ⟨(hx.cell (p := ⟨b, o, none⟩) h.lt).trans c0, (hx.cell (p := ⟨b, o + 1, none⟩) h.lt).trans c1, (hx.cell (p := ⟨b, o + 2, none⟩) h.lt).trans c2, (hx.cell (p := ⟨b, o + 3, none⟩) h.lt).trans c3⟩, hr.chg (G := fun _ => False) (Chg.of_ext hx) (fun _ h => h.elim)⟩,
    fun i => (hx.frozen (p := ⟨b, i, none⟩) h.lt).trans (h.fr i), Nat.lt_of_lt_of_le h.lt hx.size⟩
theorem getD_map (lp : List LpP) (k : Nat) : (lp.map LpP.p).getD k zPr = (lp.getD k zLp).p := by
  rw [List.getD_eq_getElem?_getD, List.getD_eq_getElem?_getD, List.getElem?_map]
  cases lp[k]? <;> rfl
theorem SoAt.pair (h : SoAt N w g S) (hS : OkS S) {job : Int} (hj : isJ job = true) : PairAt N w g (2 + 4 * (job - 1).toNat) (ofJ S job) := by
  obtain ⟨lp, h1, h2, h3⟩ := h.out
  have hk : (job - 1).toNat < lp.length := by have := hS.idx hj; rw [← h1, List.length_map] at this; exact this
  have hp : (lp.getD (job - 1).toNat zLp).p = ofJ S job := by
    unfold ofJ
    rw [if_pos hj, ← h1, getD_map]
  have hm : lp.getD (job - 1).toNat zLp ∈ lp := by rw [List.getD_eq_getElem?_getD, List.getElem?_eq_getElem hk]; exact List.getElem_mem hk
  have hc : ∀ i, i < 4 → w.cell? ⟨g, 2 + 4 * (job - 1).toNat + i, none⟩ = ((lp.getD (job - 1).toNat zLp).cells)[i]? := fun i hi => by
    rw [h2.cell, List.getElem?_toArray, soC_at _ _ _ _ _ _ hi hk]
  refine ⟨⟨(lp.getD (job - 1).toNat zLp).vc, (lp.getD (job - 1).toNat zLp).vs, ⟨?_, ?_, ?_, ?_⟩, ?_⟩, fun i => h2.frozen i, h2.lt⟩
  · rw [← hp]; exact hc 0 (by omega)
  · exact hc 1 (by omega)
  · rw [← hp]; exact hc 2 (by omega)
  · exact hc 3 (by omega)
  · rw [← hp]; exact h3 _ hm
end

end Go.Proofs.Ytdijinboopdheaa

/- Words for a slice of slices of bytes. No program is named here. -/
namespace Go.Proofs.Ytdijinboopdheaa
open Go.ChangeShapes Go.WideShapes Go.ChangeAt Go.RowKit

/-- The slice value v reads in w as a list of lists of bytes. -/
def RdL (w : World) (v : Value) (ls : List (List UInt8)) : Prop :=
  ∃ vs : List Value, Rd w v vs ∧ vs.length = ls.length ∧ ∀ (i : Nat) u l, vs[i]? = some u → ls[i]? = some l → Rd w u (l.map B)

theorem RdL.ext {w w' : World} {v : Value} {ls : List (List UInt8)} (h : RdL w v ls) (hb : Ext w w') : RdL w' v ls := by
  obtain ⟨vs, h1, h2, h3⟩ := h
  exact ⟨vs, h1.ext hb, h2, fun i u l hu hl => (h3 i u l hu hl).ext hb⟩
theorem RdL.nil (w : World) : RdL w (.slice none 0 0) [] := ⟨[], Rd.nil w, rfl, fun i u l hu _ => by simp at hu⟩
theorem RdL.sliceN {w : World} {v : Value} {ls : List (List UInt8)} (h : RdL w v ls) {n : Nat} (hn : ls.length = n) : ∃ A c, v = .slice A n c ∧ n ≤ c ∧ c ≤ maxLen := by
  obtain ⟨vs, h1, h2, _⟩ := h
  exact h1.sliceN (by omega)
/-- The element at a place: a cell that holds a slice, which reads as the list there. -/
theorem RdL.at {w : World} {A : Option Addr} {N c : Nat} {ls : List (List UInt8)} (h : RdL w (.slice A N c) ls) (hn : 0 < ls.length) :
    ∃ b o, A = some ⟨b, o, none⟩ ∧ b < w.heap.size ∧ ∀ j l, ls[j]? = some l → ∃ u, w.cell? ⟨b, o + j, none⟩ = some u ∧ Rd w u (l.map B) := by
  obtain ⟨vs, h1, h2, h3⟩ := h
  obtain ⟨b, o, e, hb, hc⟩ := h1.get (by omega)
  refine ⟨b, o, e, hb, fun j l hl => ?_⟩
  have hj : j < vs.length := by have := (List.getElem?_eq_some_iff.1 hl).1; omega
  have hv : vs[j]? = some vs[j] := List.getElem?_eq_getElem hj
  exact ⟨vs[j], hc j _ hv, h3 j _ l hv hl⟩

section
variable {H : Type} {enc : TypeId × Value → H} {P : Program}
theorem rd_of_trod {w : World} {base : Nat} {held : Bool} {e q : TypeId} {V : Value} {n : Nat} {x : DataW H × List MemPlace} (he : P.underlying e = some (.slice q)) (hq : P.underlying q = some (.int .u8)) (cq : P.cellsOf q = 1)
    (h : DataW.trod enc P w base (fun _ => true) held n e [V] = some x) : ∃ l : List UInt8, Rd w V (l.map B) := by
  rcases open_ints he hq cq h with ⟨hcs, _⟩ | ⟨a, len, cap, zs, hcs, _, hl, hm, hz, _, hcell, hw⟩
  · simp at hcs
    subst hcs
    exact ⟨[], Rd.nil w⟩
  · simp at hcs
    subst hcs
    simp only [if_true] at hz
    refine ⟨(zs.take len).map fun n => UInt8.ofNat n.toNat, ?_⟩
    have e : ((zs.take len).map fun n => UInt8.ofNat n.toNat).map B = (zs.take len).map (Value.int .u8) := by
      rw [List.map_map]
      refine List.map_congr_left fun n hn => ?_
      simp only [Function.comp_apply, B]
      rw [← u8_of_wf (hw n (List.mem_of_mem_take hn))]
    rw [e]
    have hlen : (zs.take len).length = len := by rw [List.length_take]; omega
    refine ⟨some a, cap, by rw [List.length_map, hlen], by rw [List.length_map, hlen]; exact hl, hm, fun hn => ?_⟩
    rw [List.length_map, hlen] at hn
    have h0 := hcell 0 (by omega)
    obtain ⟨b, o, spot⟩ := a
    have hspot : spot = none := by simpa [Addr.add] using World.cell?_spot h0
    subst hspot
    refine ⟨b, o, rfl, ?_, fun j u hu => ?_⟩
    · have := World.block_lt_of_cell? w _ h0
      simpa [block_of_add] using this
    · rw [List.getElem?_map] at hu
      obtain ⟨n, hn2, rfl⟩ := Option.map_eq_some_iff.1 hu
      rw [List.getElem?_take] at hn2
      split at hn2
      · have hjz : j < zs.length := (List.getElem?_eq_some_iff.1 hn2).1
        have := hcell j hjz
        rw [Addr.add_lit] at this
        rw [this]
        simp [List.getD, hn2]
      · cases hn2

theorem dec_rows {w : World} {base : Nat} {held : Bool} {r : Reach} {b0 : Nat} {t e q : TypeId} {v : Value} {d : DataW H} {ps : List MemPlace} (ht : P.underlying t = some (.slice e)) (he : P.underlying e = some (.slice q))
    (hq : P.underlying q = some (.int .u8)) (ce : P.cellsOf e = 1) (cq : P.cellsOf q = 1) (hval : Value.okWide P w r b0 t v) (hd : DataW.Trod enc P w base (fun _ => true) held t v d ps) :
    ∃ ls : List (List UInt8), RdL w v ls := by
  obtain ⟨a0, len, cap, rfl⟩ := okWide_slice ht hval
  obtain ⟨fuel, hf⟩ := hd
  rcases Deep.open_slice1 ht ce hf with ⟨hcs, _⟩ | ⟨a, len', cap', m, n, V, D, Pl, hcs, _, hl, hm, hmm, _, hx⟩
  · simp [Value.cells] at hcs
    obtain ⟨rfl, rfl, rfl⟩ := hcs
    exact ⟨[], RdL.nil w⟩
  · simp [Value.cells] at hcs
    obtain ⟨rfl, rfl, rfl⟩ := hcs
    simp only [if_true] at hmm
    subst hmm
    have each : ∀ i, ∃ l : List UInt8, i < m → Rd w (V i) (l.map B) := by
      intro i
      by_cases hi : i < m
      · obtain ⟨l, hl⟩ := rd_of_trod he hq cq (hx i hi).2
        exact ⟨l, fun _ => hl⟩
      · exact ⟨[], fun h => absurd h hi⟩
    have hsome : ∃ L : Nat → List UInt8, ∀ i, i < m → Rd w (V i) ((L i).map B) := ⟨fun i => (each i).choose, fun i hi => (each i).choose_spec hi⟩
    obtain ⟨L, hL⟩ := hsome
    refine ⟨(List.range len).map L, (List.range len).map V, ?_, by simp, ?_⟩
    · refine ⟨some a, m, by simp, by simpa using hl, hm, fun hn => ?_⟩
      have hn' : 0 < len := by simpa using hn
      have h0 := (hx 0 (by omega)).1
      obtain ⟨b, o, spot⟩ := a
      have hspot : spot = none := by simpa [Addr.add] using World.cell?_spot h0
      subst hspot
      refine ⟨b, o, rfl, ?_, fun j u hu => ?_⟩
      · have := World.block_lt_of_cell? w _ h0
        simpa [block_of_add] using this
      · rw [List.getElem?_map] at hu
        obtain ⟨i, hi, rfl⟩ := Option.map_eq_some_iff.1 hu
        obtain ⟨hi2, hi3⟩ := List.getElem?_eq_some_iff.1 hi
        simp at hi2 hi3
        subst hi3
        have := (hx j (by omega)).1
        rwa [Addr.add_lit] at this
    · intro i u l hu hl2
      rw [List.getElem?_map] at hu hl2
      obtain ⟨j, hj, rfl⟩ := Option.map_eq_some_iff.1 hu
      obtain ⟨j', hj', rfl⟩ := Option.map_eq_some_iff.1 hl2
      rw [hj] at hj'
      cases hj'
      obtain ⟨hi2, hi3⟩ := List.getElem?_eq_some_iff.1 hj
      simp at hi2 hi3
      exact hL j (by omega)
end

end Go.Proofs.Ytdijinboopdheaa

/- Words for a slice of structs that came in: numbers, and bytes. No program is named here. -/
namespace Go.Proofs.Ytdijinboopdheaa
open Go.ChangeShapes Go.WideShapes Go.ChangeAt Go.RowKit Go.Deep

section
variable {H : Type} {enc : TypeId × Value → H} {P : Program} {w : World} {base : Nat} {held : Bool}
/-- The fields of a struct that lies in memory, each of one cell. -/
theorem struct_parts {e : TypeId} {fs : Array Field} {m : Nat} {cs : List Value} {x : DataW H × List MemPlace} (he : P.underlying e = some (.struct fs)) (hone : oneCellFields P fs = true) (hC : P.cellsOf e = fs.size)
    (h : DataW.trod enc P w base (fun _ => true) held m e cs = some x) : cs.length = fs.size ∧ ∀ (j : Nat) (f : Field), fs[j]? = some f → ∃ v n y, cs[j]? = some v ∧ DataW.trod enc P w base (fun _ => true) held n f.type [v] = some y := by
  obtain ⟨ys, n, _, _, hlen, hyl, hf⟩ := DataW.trod_struct he h
  refine ⟨hlen.trans hC, fun j f hj => ?_⟩
  obtain ⟨ho, hk⟩ := hone_of hone j f hj
  have hjf : j < fs.size := (Array.getElem?_eq_some_iff.1 hj).1
  have hjc : j < cs.length := by rw [hlen, hC]; exact hjf
  have hfj := hf j f hj
  rw [ho, hk, List.drop_eq_getElem_cons hjc] at hfj
  have hjy : j < ys.length := by rw [hyl]; exact hjf
  exact ⟨cs[j], n, ys[j], List.getElem?_eq_getElem hjc, by rw [List.getElem?_eq_getElem hjy] at hfj; exact hfj⟩

/-- A slice of structs of k one-cell fields: where it lies, and that each element's fields read. -/
theorem structs_at {t e : TypeId} {fs : Array Field} {r : Reach} {b0 : Nat} {v : Value} {d : DataW H} {ps : List MemPlace} (ht : P.underlying t = some (.slice e)) (he : P.underlying e = some (.struct fs)) (hone : oneCellFields P fs = true)
    (hC : P.cellsOf e = fs.size) (h0 : 0 < fs.size) (hval : Value.okWide P w r b0 t v) (hd : DataW.Trod enc P w base (fun _ => true) held t v d ps) :
    ∃ A n c, v = .slice A n c ∧ n ≤ c ∧ c ≤ maxLen ∧ (0 < n → ∃ b o, A = some ⟨b, o, none⟩ ∧ b < w.heap.size ∧
      ∀ i, i < n → ∀ (j : Nat) (f : Field), fs[j]? = some f → ∃ u k y, w.cell? ⟨b, o + (i * fs.size + j), none⟩ = some u ∧ DataW.trod enc P w base (fun _ => true) held k f.type [u] = some y) := by
  obtain ⟨a0, len, cap, rfl⟩ := okWide_slice ht hval
  obtain ⟨fuel, hf⟩ := hd
  rcases open_slice ht hf with ⟨hcs, _⟩ | ⟨a, len', cap', m, n, D, Pl, hcs, _, hl, hm, hmm, _, hx⟩
  · simp [Value.cells] at hcs
    obtain ⟨rfl, rfl, rfl⟩ := hcs
    exact ⟨none, 0, 0, rfl, Nat.le_refl _, Nat.zero_le _, fun h => absurd h (by omega)⟩
  · simp [Value.cells] at hcs
    obtain ⟨rfl, rfl, rfl⟩ := hcs
    simp only [if_true] at hmm
    subst hmm
    have hcell : ∀ i, i < m → ∀ (j : Nat) (f : Field), fs[j]? = some f → ∃ u k y, w.cell? (a.add (i * fs.size + j)) = some u ∧ DataW.trod enc P w base (fun _ => true) held k f.type [u] = some y := by
      intro i hi j f hj
      obtain ⟨cs', hc, htr⟩ := hx i hi
      obtain ⟨hlen, hparts⟩ := struct_parts he hone hC htr
      obtain ⟨u, k, y, hu, hy⟩ := hparts j f hj
      obtain ⟨_, hcl, hat⟩ := World.cells?_some hc
      have hjf : j < fs.size := (Array.getElem?_eq_some_iff.1 hj).1
      have h1 := hat j (by rw [hC]; exact hjf)
      rw [hC, add_of_add, hu] at h1
      exact ⟨u, k, y, h1, hy⟩
    refine ⟨some a, len, m, rfl, hl, hm, fun hn0 => ?_⟩
    obtain ⟨u, _, _, hu, _⟩ := hcell 0 (by omega) 0 fs[0] (Array.getElem?_eq_getElem h0)
    obtain ⟨b, o, spot⟩ := a
    have hspot : spot = none := by simpa [Addr.add] using World.cell?_spot hu
    subst hspot
    refine ⟨b, o, rfl, ?_, fun i hi j f hj => ?_⟩
    · have := World.block_lt_of_cell? w _ hu
      simpa [block_of_add] using this
    · obtain ⟨u, k, y, h1, h2⟩ := hcell i (by omega) j f hj
      rw [Addr.add_lit] at h1
      exact ⟨u, k, y, h1, h2⟩

/-- An act: two numbers and bytes. -/
def RdActs (w : World) (v : Value) (l : List (Int × Int × List UInt8)) : Prop :=
  ∃ A c, v = .slice A l.length c ∧ l.length ≤ c ∧ c ≤ maxLen ∧ (0 < l.length → ∃ b o, A = some ⟨b, o, none⟩ ∧ b < w.heap.size ∧
    ∀ j x, l[j]? = some x → w.cell? ⟨b, o + j * 3, none⟩ = some (I x.1) ∧ w.cell? ⟨b, o + (j * 3 + 1), none⟩ = some (I x.2.1) ∧ (-9223372036854775808 ≤ x.1 ∧ x.1 ≤ 9223372036854775807) ∧ (-9223372036854775808 ≤ x.2.1 ∧ x.2.1 ≤ 9223372036854775807) ∧
      ∃ u, w.cell? ⟨b, o + (j * 3 + 2), none⟩ = some u ∧ Rd w u (x.2.2.map B))

theorem RdActs.slice_ {w : World} {v : Value} {l : List (Int × Int × List UInt8)} (h : RdActs w v l) : ∃ A c, v = .slice A l.length c ∧ l.length ≤ c ∧ c ≤ 9223372036854775807 := by
  obtain ⟨A, c, e, h1, h2, _⟩ := h
  exact ⟨A, c, e, h1, by unfold maxLen at h2; omega⟩
theorem RdActs.get {w : World} {A : Option Addr} {n c : Nat} {l : List (Int × Int × List UInt8)} (h : RdActs w (.slice A n c) l) (hn : 0 < l.length) : ∃ b o, A = some ⟨b, o, none⟩ ∧ b < w.heap.size ∧
    ∀ j x, l[j]? = some x → w.cell? ⟨b, o + j * 3, none⟩ = some (I x.1) ∧ w.cell? ⟨b, o + (j * 3 + 1), none⟩ = some (I x.2.1) ∧ (-9223372036854775808 ≤ x.1 ∧ x.1 ≤ 9223372036854775807) ∧ (-9223372036854775808 ≤ x.2.1 ∧ x.2.1 ≤ 9223372036854775807) ∧
      ∃ u, w.cell? ⟨b, o + (j * 3 + 2), none⟩ = some u ∧ Rd w u (x.2.2.map B) := by
  obtain ⟨A', c', e, _, _, h3⟩ := h
  cases e
  exact h3 hn

theorem RdActs.ext {w w' : World} {v : Value} {l : List (Int × Int × List UInt8)} (h : RdActs w v l) (hx : Ext w w') : RdActs w' v l := by
  obtain ⟨A, c, e, h1, h2, h3⟩ := h
  refine ⟨A, c, e, h1, h2, fun hn => ?_⟩
  obtain ⟨b, o, a, hb, hc⟩ := h3 hn
  refine ⟨b, o, a, Nat.lt_of_lt_of_le hb hx.size, fun j x hj => ?_⟩
  obtain ⟨e1, e2, b1, b2, u, e3, hu⟩ := hc j x hj
  exact ⟨hx.cellOf e1 hb, hx.cellOf e2 hb, b1, b2, u, hx.cellOf e3 hb, hu.ext hx⟩

theorem dec_acts {t e tb : TypeId} {fs : Array Field} {f0 f1 f2 : Field} {ti tj : TypeId} {r : Reach} {b0 : Nat} {v : Value} {d : DataW H} {ps : List MemPlace} (ht : P.underlying t = some (.slice e)) (he : P.underlying e = some (.struct fs)) (hone : oneCellFields P fs = true)
    (hC : P.cellsOf e = 3) (hfs : fs = #[f0, f1, f2]) (h0 : f0.type = ti) (h1 : f1.type = tj) (h2 : f2.type = tb) (hi : P.underlying ti = some (.int .i64)) (hj : P.underlying tj = some (.int .i64)) {q : TypeId} (hb : P.underlying tb = some (.slice q)) (hq : P.underlying q = some (.int .u8)) (cq : P.cellsOf q = 1)
    (hval : Value.okWide P w r b0 t v) (hd : DataW.Trod enc P w base (fun _ => true) held t v d ps) : ∃ l, RdActs w v l := by
  subst hfs h0 h1 h2
  obtain ⟨A, n, c, rfl, hnc, hcm, hx⟩ := structs_at ht he hone (by rw [hC]; rfl) (by simp) hval hd
  have each : ∀ i, ∃ x : Int × Int × List UInt8, 0 < n → i < n → ∀ b o, A = some ⟨b, o, none⟩ → w.cell? ⟨b, o + i * 3, none⟩ = some (I x.1) ∧ w.cell? ⟨b, o + (i * 3 + 1), none⟩ = some (I x.2.1) ∧ (-9223372036854775808 ≤ x.1 ∧ x.1 ≤ 9223372036854775807) ∧ (-9223372036854775808 ≤ x.2.1 ∧ x.2.1 ≤ 9223372036854775807) ∧
      ∃ u, w.cell? ⟨b, o + (i * 3 + 2), none⟩ = some u ∧ Rd w u (x.2.2.map B) := by
    intro i
    by_cases hn : 0 < n ∧ i < n
    · obtain ⟨b, o, rfl, _, hcell⟩ := hx hn.1
      obtain ⟨u0, k0, y0, c0, t0⟩ := hcell i hn.2 0 f0 rfl
      obtain ⟨u1, k1, y1, c1, t1⟩ := hcell i hn.2 1 f1 rfl
      obtain ⟨u2, k2, y2, c2, t2⟩ := hcell i hn.2 2 f2 rfl
      obtain ⟨z0, hz0, _, w0⟩ := DataW.trod_int hi t0
      obtain ⟨z1, hz1, _, w1⟩ := DataW.trod_int hj t1
      obtain ⟨l2, hl2⟩ := rd_of_trod hb hq cq t2
      simp only [List.cons.injEq, and_true] at hz0 hz1
      subst hz0 hz1
      have m1 : IntKind.i64.min = -9223372036854775808 := rfl
      have m2 : IntKind.i64.max = 9223372036854775807 := rfl
      simp only [Lit.wf, Bool.and_eq_true, decide_eq_true_eq] at w0 w1
      refine ⟨(z0, z1, l2), fun _ _ b' o' e => ?_⟩
      cases e
      exact ⟨c0, c1, ⟨by simp only; omega, by simp only; omega⟩, ⟨by simp only; omega, by simp only; omega⟩, u2, c2, hl2⟩
    · exact ⟨(0, 0, []), fun h1 h2 => absurd ⟨h1, h2⟩ hn⟩
  obtain ⟨L, hL⟩ : ∃ L : Nat → Int × Int × List UInt8, ∀ i, 0 < n → i < n → ∀ b o, A = some ⟨b, o, none⟩ → w.cell? ⟨b, o + i * 3, none⟩ = some (I (L i).1) ∧ w.cell? ⟨b, o + (i * 3 + 1), none⟩ = some (I (L i).2.1) ∧ (-9223372036854775808 ≤ (L i).1 ∧ (L i).1 ≤ 9223372036854775807) ∧ (-9223372036854775808 ≤ (L i).2.1 ∧ (L i).2.1 ≤ 9223372036854775807) ∧
      ∃ u, w.cell? ⟨b, o + (i * 3 + 2), none⟩ = some u ∧ Rd w u ((L i).2.2.map B) := ⟨fun i => (each i).choose, fun i => (each i).choose_spec⟩
  refine ⟨(List.range n).map L, A, c, by simp, by simpa using hnc, hcm, fun hn => ?_⟩
  have hn' : 0 < n := by simpa using hn
  obtain ⟨b, o, hA, hb1, _⟩ := hx hn'
  refine ⟨b, o, hA, hb1, fun j x hj => ?_⟩
  rw [List.getElem?_map] at hj
  obtain ⟨i, hi1, rfl⟩ := Option.map_eq_some_iff.1 hj
  obtain ⟨hi2, hi3⟩ := List.getElem?_eq_some_iff.1 hi1
  simp at hi2 hi3
  subst hi3
  exact hL j hn' hi2 b o hA
end

end Go.Proofs.Ytdijinboopdheaa

/- Words for a slice of structs that came in: four numbers, and bytes. No program is named here. -/
namespace Go.Proofs.Ytdijinboopdheaa
open Go.ChangeShapes Go.WideShapes Go.ChangeAt Go.RowKit Go.Deep

/-- One element reads so. -/
def Act4.at (w : World) (b o : Nat) (x : Act4) : Prop :=
  w.cell? ⟨b, o, none⟩ = some (I x.1) ∧ w.cell? ⟨b, o + 1, none⟩ = some (I x.2.1) ∧ w.cell? ⟨b, o + 2, none⟩ = some (I x.2.2.1) ∧ w.cell? ⟨b, o + 3, none⟩ = some (I x.2.2.2.1) ∧ ∃ u, w.cell? ⟨b, o + 4, none⟩ = some u ∧ Rd w u (x.2.2.2.2.map B)
def RdActs4 (w : World) (v : Value) (l : List Act4) : Prop :=
  ∃ A c, v = .slice A l.length c ∧ l.length ≤ c ∧ c ≤ maxLen ∧ (0 < l.length → ∃ b o, A = some ⟨b, o, none⟩ ∧ b < w.heap.size ∧ ∀ j x, l[j]? = some x → Act4.at w b (o + j * 5) x)

theorem Act4.at.ext {w w' : World} {b o : Nat} {x : Act4} (h : Act4.at w b o x) (hx : Ext w w') (hb : b < w.heap.size) : Act4.at w' b o x := by
  obtain ⟨e0, e1, e2, e3, u, e4, hu⟩ := h
  exact ⟨hx.cellOf e0 hb, hx.cellOf e1 hb, hx.cellOf e2 hb, hx.cellOf e3 hb, u, hx.cellOf e4 hb, hu.ext hx⟩
theorem RdActs4.slice_ {w : World} {v : Value} {l : List Act4} (h : RdActs4 w v l) : ∃ A c, v = .slice A l.length c ∧ l.length ≤ c ∧ c ≤ 9223372036854775807 := by
  obtain ⟨A, c, e, h1, h2, _⟩ := h
  exact ⟨A, c, e, h1, by unfold maxLen at h2; omega⟩
theorem RdActs4.get {w : World} {A : Option Addr} {n c : Nat} {l : List Act4} (h : RdActs4 w (.slice A n c) l) (hn : 0 < l.length) : ∃ b o, A = some ⟨b, o, none⟩ ∧ b < w.heap.size ∧ ∀ j x, l[j]? = some x → Act4.at w b (o + j * 5) x := by
  obtain ⟨A', c', e, _, _, h3⟩ := h
  cases e
  exact h3 hn
theorem RdActs4.ext {w w' : World} {v : Value} {l : List Act4} (h : RdActs4 w v l) (hx : Ext w w') : RdActs4 w' v l := by
  obtain ⟨A, c, e, h1, h2, h3⟩ := h
  refine ⟨A, c, e, h1, h2, fun hn => ?_⟩
  obtain ⟨b, o, a, hb, hc⟩ := h3 hn
  exact ⟨b, o, a, Nat.lt_of_lt_of_le hb hx.size, fun j x hj => (hc j x hj).ext hx hb⟩

section
variable {H : Type} {enc : TypeId × Value → H} {P : Program} {w : World} {base : Nat} {held : Bool}
theorem dec_acts4 {t e tb : TypeId} {fs : Array Field} {f0 f1 f2 f3 f4 : Field} {ti tj tk tl : TypeId} {r : Reach} {b0 : Nat} {v : Value} {d : DataW H} {ps : List MemPlace} (ht : P.underlying t = some (.slice e)) (he : P.underlying e = some (.struct fs)) (hone : oneCellFields P fs = true)
    (hC : P.cellsOf e = 5) (hfs : fs = #[f0, f1, f2, f3, f4]) (h0 : f0.type = ti) (h1 : f1.type = tj) (h2 : f2.type = tk) (h3 : f3.type = tl) (h4 : f4.type = tb) (hi : P.underlying ti = some (.int .i64)) (hj : P.underlying tj = some (.int .i64)) (hk : P.underlying tk = some (.int .i64)) (hl : P.underlying tl = some (.int .i64)) {q : TypeId} (hb : P.underlying tb = some (.slice q)) (hq : P.underlying q = some (.int .u8)) (cq : P.cellsOf q = 1)
    (hval : Value.okWide P w r b0 t v) (hd : DataW.Trod enc P w base (fun _ => true) held t v d ps) : ∃ l, RdActs4 w v l := by
  subst hfs h0 h1 h2 h3 h4
  obtain ⟨A, n, c, rfl, hnc, hcm, hx⟩ := structs_at ht he hone (by rw [hC]; rfl) (by simp) hval hd
  have each : ∀ i, ∃ x : Act4, 0 < n → i < n → ∀ b o, A = some ⟨b, o, none⟩ → Act4.at w b (o + i * 5) x := by
    intro i
    by_cases hn : 0 < n ∧ i < n
    · obtain ⟨b, o, rfl, _, hcell⟩ := hx hn.1
      obtain ⟨u0, k0, y0, c0, t0⟩ := hcell i hn.2 0 f0 rfl
      obtain ⟨u1, k1, y1, c1, t1⟩ := hcell i hn.2 1 f1 rfl
      obtain ⟨u2, k2, y2, c2, t2⟩ := hcell i hn.2 2 f2 rfl
      obtain ⟨u3, k3, y3, c3, t3⟩ := hcell i hn.2 3 f3 rfl
      obtain ⟨u4, k4, y4, c4, t4⟩ := hcell i hn.2 4 f4 rfl
      obtain ⟨z0, hz0, _, w0⟩ := DataW.trod_int hi t0
      obtain ⟨z1, hz1, _, w1⟩ := DataW.trod_int hj t1
      obtain ⟨z2, hz2, _, w2⟩ := DataW.trod_int hk t2
      obtain ⟨z3, hz3, _, w3⟩ := DataW.trod_int hl t3
      obtain ⟨l4, hl4⟩ := rd_of_trod hb hq cq t4
      simp only [List.cons.injEq, and_true] at hz0 hz1 hz2 hz3
      subst hz0 hz1 hz2 hz3
      refine ⟨(z0, z1, z2, z3, l4), fun _ _ b' o' e => ?_⟩
      cases e
      exact ⟨c0, by rw [Nat.add_assoc]; exact c1, by rw [Nat.add_assoc]; exact c2, by rw [Nat.add_assoc]; exact c3, u4, by rw [Nat.add_assoc]; exact c4, hl4⟩
    · exact ⟨(0, 0, 0, 0, []), fun h1 h2 => absurd ⟨h1, h2⟩ hn⟩
  obtain ⟨L, hL⟩ : ∃ L : Nat → Act4, ∀ i, 0 < n → i < n → ∀ b o, A = some ⟨b, o, none⟩ → Act4.at w b (o + i * 5) (L i) := ⟨fun i => (each i).choose, fun i => (each i).choose_spec⟩
  refine ⟨(List.range n).map L, A, c, by simp, by simpa using hnc, hcm, fun hn => ?_⟩
  have hn' : 0 < n := by simpa using hn
  obtain ⟨b, o, hA, hb1, _⟩ := hx hn'
  refine ⟨b, o, hA, hb1, fun j x hj => ?_⟩
  rw [List.getElem?_map] at hj
  obtain ⟨i, hi1, rfl⟩ := Option.map_eq_some_iff.1 hj
  obtain ⟨hi2, hi3⟩ := List.getElem?_eq_some_iff.1 hi1
  simp at hi2 hi3
  subst hi3
  exact hL j hn' hi2 b o hA
end

end Go.Proofs.Ytdijinboopdheaa

/- Bytes written out, as the conversion of a literal leaves them. No program is named here. -/
namespace Go.Proofs.Ytdijinboopdheaa
open Go.RowKit

theorem Rd.litM (w : World) (l : List UInt8) (cs : Array Value) (e : TypeId) (n g : Nat) (m : Nat × Nat) (h : l.length ≤ 4096) (hc : cs = (l.map B).toArray) (hn : n = l.length) (hg : g = w.heap.size) : Rd (w.alloc (.cells cs e m)) (.slice (some ⟨g, 0, none⟩) n n) (l.map B) := by
  subst hc hn hg
  have h0 : Rd (w.alloc (.cells (l.map B).toArray e m)) (.slice (some ⟨w.heap.size, 0, none⟩) (l.map B).length (l.map B).length) (l.map B) :=
    ⟨some ⟨w.heap.size, 0, none⟩, (l.map B).length, rfl, Nat.le_refl _, by unfold maxLen; simp; omega, fun _ => ⟨w.heap.size, 0, rfl, by simp, fun j u hu => by
      rw [Nat.zero_add, cell_of_row _ _ _ (l.map B).toArray e m (heap_alloc_new w _)]
      simpa using hu⟩⟩
  simpa using h0

end Go.Proofs.Ytdijinboopdheaa
