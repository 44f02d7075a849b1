/- Texts that the proof of I rests on, one behind the other. -/
import Derived.Test.YtddhbokknbmdfaaDoorIQ10

/- Package image: the reader of numbers: a state. -/
namespace Go.Proofs.YtddhbokknbmdfaaDoor
open Go.RowKit

theorem at_drop (l : List Int) (p i : Nat) : at_ (l.drop p) i = at_ l (p + i) := by simp [at_, List.getD_eq_getElem?_getD]
theorem at_nonneg {l : List Int} (h : ∀ x ∈ l, 0 ≤ x) (i : Nat) : 0 ≤ at_ l i := by
  unfold at_
  rw [List.getD_eq_getElem?_getD]
  cases hi : l[i]? with
  | none => exact Int.le_refl 0
  | some x => exact h x (List.mem_of_getElem? hi)
/-- The numbers begin with a state's. -/
def OkL (l : List Int) : Prop := endOf l + 4 ≤ l.length ∧ ∀ i, i < nOf l → at_ l (1 + 3 * i) < 8

theorem meas10 {N q : Nat} (h : q < N) : N - (intOf (.int .i64 ((q : Int) + 1))).toNat < N - (intOf (.int .i64 (q : Int))).toNat := by
  simp [intOf]
  omega
/-- One node more. -/
theorem Sg.snocN {F : Fp} {w w' : World} {g : Nat} {vn vj v' : Value} {s : St} (h : Sg F w g vn vj s) (n : Nd)
    (hg : GrewK 0 45 5 vn w (s.nodes.length + 1) (nodesC s.nodes ++ n.cells) v' w') :
    Sg (F.since w (w'.setCell ⟨g, 0, none⟩ v')) (w'.setCell ⟨g, 0, none⟩ v') g v' vj { s with nodes := s.nodes ++ [n] } ∧ Chg F w (w'.setCell ⟨g, 0, none⟩ v') := by
  have hj : nodesC (s.nodes ++ [n]) = nodesC s.nodes ++ n.cells := by unfold nodesC; rw [List.flatMap_append]; simp
  have hl : (s.nodes ++ [n]).length = s.nodes.length + 1 := by simp
  have ht := ObjF.turn (w' := w') h 0 (by simp) ⟨45, 5, v', (s.nodes ++ [n]).length, nodesC (s.nodes ++ [n])⟩ (by rw [hj, hl]; exact hg.1) (Chg.of_grown hg.2.1 fun k hk => hk) (fun k hk => by
    rcases hg.2.2 with h2 | h2
    · exact .inl (by show vn.ownBlock = some k; rw [← h2]; exact hk)
    · exact .inr (h2 k hk))
  obtain ⟨h1, h2⟩ := ht
  obtain ⟨h3, h4⟩ := h1.setCell 0 v'
  have hs : (w'.setCell ⟨g, 0, none⟩ v').heap.size = w'.heap.size := by simp
  have h5 := ObjF.mono (G := Fp.since F w (w'.setCell ⟨g, 0, none⟩ v')) h3 (fun k hk => by
    rcases hk with hk | hk
    · exact .inl hk
    · exact .inr ⟨hk.1, by rw [hs]; exact hk.2⟩) (h.isIn.since (by rw [hs]; exact h2.size))
  exact ⟨h5, h2.trans h4 (fun x hx hF => by
    rcases hF with hF | hF
    · exact hF
    · omega)⟩
/-- A zero state in a block of its own. -/
theorem Sg.zero {w : World} {g : Nat} (h : Blk w g 30 #[.slice none 0 0, .slice none 0 0, .int .i64 0, .int .i64 0, .int .i64 0, .int .i64 0]) : Sg (fun k => k = g) w g (.slice none 0 0) (.slice none 0 0) zeroS :=
  ⟨h, rfl, fun k hk => by have hk : k = g := hk; rw [hk]; exact h.lt, fun r hr => by
    simp only [List.mem_cons, List.not_mem_nil, or_false] at hr
    rcases hr with rfl | rfl
    · exact ⟨World.ownsRow_nil _ _ _ _, fun k hk => by cases hk⟩
    · exact ⟨World.ownsRow_nil _ _ _ _, fun k hk => by cases hk⟩, fun r hr => by
    simp only [List.mem_cons, List.not_mem_nil, or_false] at hr
    rcases hr with rfl | rfl <;> (intro e; cases e), List.Pairwise.cons (fun r hr k hk => by cases hk) (List.Pairwise.cons (fun r hr => by cases hr) List.Pairwise.nil)⟩
theorem Sg.inF {F : Fp} {w : World} {g m : Nat} {vn vj : Value} {s : St} (h : Sg F w g vn vj s) (hF : ∀ k, F k → m < k) : ∀ k, vn.ownBlock = some k ∨ vj.ownBlock = some k → m < k := fun k hk => by
  refine hF k ?_
  rcases hk with hk | hk
  · exact (ObjF.ok h ⟨45, 5, vn, s.nodes.length, nodesC s.nodes⟩ (by simp)).2 k hk
  · exact (ObjF.ok h ⟨52, 12, vj, s.jobs.length, jobsC s.jobs⟩ (by simp)).2 k hk
/-- The reader has come to the place p; the variable behind w's end holds what was read. -/
structure SI (w : World) (gr B : Nat) (l : List Int) (s : St) (p : Nat) (wr : World) : Prop where
  out : ∃ (F : Fp) (vn vj : Value), Sg F wr (w.heap.size + 1) vn vj s ∧ (∀ k, F k → w.heap.size < k) ∧ Rr wr gr B (l.drop p) ∧ Blk wr w.heap.size 30 #[.slice none 0 0, .slice none 0 0, .int .i64 0, .int .i64 0, .int .i64 0, .int .i64 0] ∧ Chg (fun k => k = gr) w wr
/-- The variable's numbers behind the slices are written. -/
theorem ObjF.chgRest {F : Fp} {G : Fp} {w w' : World} {g : Nat} {vn vj : Value} {s : St} {a b c d : Int} (h : Sg F w g vn vj s) (hc : Chg G w w') (hb : Blk w' g 30 (putC (vsC vn vj s) 2 [a, b, c, d])) (hF : ∀ k, F k → G k → k = g) :
    Sg F w' g vn vj { s with goal := a, prior := b, mode := c, term := d } := by
  refine ⟨hb, ObjF.here h, fun k hk => Nat.lt_of_lt_of_le (h.isIn k hk) hc.size, fun r hr => ?_, ObjF.off h, ObjF.apart h⟩
  have h1 := ObjF.ok h r hr
  exact RowS.ok.chg h1 hc (fun k hk hG => ObjF.off h r hr (by rw [hk, hF k (h1.2 k hk) hG]))

/-- What state leaves. -/
def StatePost (w : World) (gr B : Nat) (l : List Int) (e : Ending) (w' : World) : Prop :=
  (OkL l ∧ ∃ vn vj, e = .returned (stV vn vj (stOf l)) ∧ RdSt w' vn vj (stOf l) ∧ (∀ k, vn.ownBlock = some k ∨ vj.ownBlock = some k → w.heap.size ≤ k) ∧ Rr w' gr B (l.drop (2 + 3 * nOf l + 12 * mOf l + 4)) ∧ Chg (fun k => k = gr) w w') ∨
  (¬ OkL l ∧ GaveUp e ∧ Chg (fun k => k = gr) w w')

set_option maxRecDepth 100000 in
set_option maxHeartbeats 8000000 in
theorem rstate_any (w0 w : World) (gr B : Nat) (l : List Int) (hL : LaidI w0) (hx : Ext w0 w) (hgr : w0.heap.size ≤ gr) (hR : Rr w gr B l) (h0 : ∀ x ∈ l, 0 ≤ x) (hlen : l.length ≤ 1000) :
    Calls Tryd.prog 51 #[.pointer (some ⟨gr, 0, none⟩)] w (StatePost w gr B l) := by
  obtain ⟨W2, hW2⟩ : ∃ W, W = (w.alloc (.cells #[.slice none 0 0, .slice none 0 0, .int .i64 0, .int .i64 0, .int .i64 0, .int .i64 0] 30)).alloc (.cells #[.slice none 0 0, .slice none 0 0, .int .i64 0, .int .i64 0, .int .i64 0, .int .i64 0] 30) := ⟨_, rfl⟩
  have hg : (w.alloc (.cells #[.slice none 0 0, .slice none 0 0, .int .i64 0, .int .i64 0, .int .i64 0, .int .i64 0] 30)).heap.size = w.heap.size + 1 := by simp
  have hx2 : Ext w W2 := by rw [hW2]; exact ((Below.refl _ _).alloc (Nat.le_refl _) _).alloc (by rw [hg]; omega) _
  have hba : Blk W2 w.heap.size 30 #[.slice none 0 0, .slice none 0 0, .int .i64 0, .int .i64 0, .int .i64 0, .int .i64 0] := by rw [hW2]; exact (Blk.new _ _ _).alloc _
  have hbb : Blk W2 (w.heap.size + 1) 30 #[.slice none 0 0, .slice none 0 0, .int .i64 0, .int .i64 0, .int .i64 0, .int .i64 0] := by rw [hW2]; have := Blk.new (w.alloc (.cells #[.slice none 0 0, .slice none 0 0, .int .i64 0, .int .i64 0, .int .i64 0, .int .i64 0] 30)) 30 #[.slice none 0 0, .slice none 0 0, .int .i64 0, .int .i64 0, .int .i64 0, .int .i64 0]; rw [hg] at this; exact this
  clear hg
  have HLW : Hid (∀ W, Chg (fun k => k = gr) w W → Ext w0 W ∧ LaidI W) := Lib.hid fun W hc => by
    have h1 : Ext w0 W := hc.ext hx (fun k hk => by have hk : k = gr := hk; omega)
    exact ⟨h1, hL.ext h1⟩
  have HL := Lib.hid hL
  have HG := Lib.hid hgr
  have HGL := Lib.hid hR.gl
  have H0 := Lib.hid h0
  have HLN := Lib.hid hlen
  have HSI : Hid (SI w gr B l zeroS 0 W2) := Lib.hid ⟨⟨_, _, _, Sg.zero hbb, fun k hk => by have hk : k = w.heap.size + 1 := hk; omega, by rw [List.drop_zero]; exact hR.ext hx2, hba, Chg.of_ext hx2⟩⟩
  clear hL hgr hR hx2 hba hbb h0 hlen hx
  go_enter Tryd.func51, Tryd.ntmps51
  go_upto_region 2 with (fail)
  rw [← hW2]
  clear hW2
  obtain ⟨F, vn, vj, hsg, hF, hrr, hb2, hc⟩ := HSI.out.out
  cases hd : l.drop 0 with
  | nil =>
    have HNO : Hid (¬ OkL l) := Lib.hid (by have hl := congrArg List.length hd; rw [List.length_drop, List.length_nil] at hl; intro h; have := h.1; unfold endOf at this; omega)
    have HCC := Lib.hid hc
    have HTK := Lib.hid (take_none_ gr B W2 (by rw [← hd]; exact hrr) (HLW.out _ hc).2)
    clear hsg hF hrr hb2 hc hd
    go_wp2_with fail
    refine HTK.out.mono ?_
    rintro e3 w3 ⟨⟨T, pv, rfl⟩, rfl⟩
    go_wp2
    exact ⟨rfl, .inr ⟨HNO.out, ⟨_, _, rfl⟩, HCC.out⟩⟩
  | cons x r_ =>
    have hxx : x = at_ l 0 := by have h2 := congrArg (fun z => z[0]?) hd; simp at h2; simp [at_, List.getD_eq_getElem?_getD, h2]
    have hr_ : l.drop 1 = r_ := by have h9 := congrArg List.tail hd; simpa [List.tail_drop] using h9
    have hpl : 0 < l.length := by have hl := congrArg List.length hd; rw [List.length_drop, List.length_cons] at hl; omega
    have HTK := Lib.hid (take_some_ gr B x r_ W2 (by rw [← hd]; exact hrr))
    have HS := Lib.hid hsg
    have HF := Lib.hid hF
    have HB2 := Lib.hid hb2
    have HC := Lib.hid hc
    have HXX := Lib.hid hxx
    have HRE := Lib.hid hr_
    have HPL := Lib.hid hpl
    clear hsg hF hrr hb2 hc hd hxx hr_ hpl HSI
    go_wp2_with fail
    refine HTK.out.mono ?_
    rintro e3 w3 ⟨rfl, hr3, hc3, hs3⟩
    have HSJ : Hid (SI w gr B l zeroS 1 w3) := Lib.hid ⟨⟨F, vn, vj, ObjF.chg HS.out hc3 (fun k hk e => by have := HF.out k hk; have := HGL.out; have e : k = gr := e; omega), HF.out, by rw [HRE.out]; exact hr3, (hc3.block _ HB2.out.lt (by have := HGL.out; omega)).trans HB2.out, HC.out.trans hc3 (fun _ _ h => h)⟩⟩
    clear hr3 hc3 hs3 HTK HS HF HB2 HC HRE
    have hno : x = ((nOf l : Nat) : Int) := by rw [HXX.out]; unfold nOf; rw [Int.toNat_of_nonneg (at_nonneg H0.out _)]
    subst hno
    clear HXX
    go_wp2_with fail
    go_loopw [6] (fun i wr => ∃ q : Nat, i = .int .i64 q ∧ q ≤ nOf l ∧ Hid (SI w gr B l { zeroS with nodes := ndsOf l 1 q } (1 + 3 * q) wr ∧ ∀ i, i < q → at_ l (1 + 3 * i) < 8)) (fun i _ => nOf l - (intOf i).toNat)
    case atStart => exact ⟨0, rfl, Nat.zero_le _, Lib.hid ⟨HSJ.out, fun i hi => absurd hi (by omega)⟩⟩
    case round =>
      clear HSJ
      obtain ⟨q, rfl, hq, HK⟩ := hrel
      by_cases hlt : q < nOf l
      · have d1 : decide ((q : Int) < ((nOf l : Nat) : Int)) = true := decide_eq_true (by omega)
        have d1' : decide (q < nOf l) = true := decide_eq_true hlt
        obtain ⟨F, vn, vj, hsg, hF, hrr, hb2, hc⟩ := HK.out.1.out
        have HLT := Lib.hid hlt
        by_cases hok : 3 ≤ (l.drop (1 + 3 * q)).length ∧ at_ (l.drop (1 + 3 * q)) 0 < 8
        · have hpl : 1 + 3 * q + 3 ≤ l.length := by have h1 := hok.1; rw [List.length_drop] at h1; omega
          obtain ⟨s, hs⟩ : ∃ s : St, s = { zeroS with nodes := ndsOf l 1 q } := ⟨_, rfl⟩
          rw [← hs] at hsg
          obtain ⟨n, hn⟩ : ∃ n, n = ndAt l (1 + 3 * q) := ⟨_, rfl⟩
          obtain ⟨u0, hu⟩ : ∃ u, u = wr.drew := ⟨_, rfl⟩
          have hxu : Ext wr u0 := by rw [hu]; exact Below.drewN' (Ext.refl _) 1
          have HND : Hid (Calls Tryd.prog 96 #[.pointer (some ⟨gr, 0, none⟩)] u0 fun e w' => e = .returned (.agg #[.bool n.up, .bool n.cordon, .bool n.moving, .int .i64 n.version, .int .i64 n.job]) ∧ Rr w' gr B (l.drop (1 + 3 * q + 3)) ∧ Chg (fun k => k = gr) u0 w') := Lib.hid (by
            refine (rnode_any w0 u0 gr B (l.drop (1 + 3 * q)) HL.out ((HLW.out _ hc).1.trans hxu) HG.out (hrr.ext hxu) (fun x hx => H0.out x (List.mem_of_mem_drop hx))).mono ?_
            intro e w' hp
            rcases hp with ⟨h1, h2, rfl, h3, h4⟩ | ⟨h1, -, -⟩
            · refine ⟨?_, by rw [← List.drop_drop]; exact h3, h4⟩
              rw [hn]
              rw [show ndAt (l.drop (1 + 3 * q)) 0 = ndAt l (1 + 3 * q) from by unfold ndAt; simp only [at_drop]; (try rfl)]
              rfl
            · exact absurd h1 (fun h => h hok))
          have hlo : s.nodes.length = q := by rw [hs]; exact ndsOf_len _ _ _
          have HMQ : Hid (∀ i, i < q + 1 → at_ l (1 + 3 * i) < 8) := Lib.hid fun i hi => by
            by_cases hiq : i < q
            · exact HK.out.2 i hiq
            · obtain rfl : i = q := by omega
              have := hok.2; rwa [at_drop] at this
          have HSN : Hid ({ s with nodes := s.nodes ++ [n] } = { zeroS with nodes := ndsOf l 1 (q + 1) }) := Lib.hid (by rw [hs, hn]; show St.mk _ _ _ _ _ _ = _; simp only [ndsOf_succ]; (try rfl))
          have HS0 := Lib.hid (hsg.ext hxu)
          have HF := Lib.hid hF
          have HB2 := Lib.hid (hb2.ext hxu)
          have HC0 := Lib.hid (hc.trans (Chg.of_ext hxu) (fun _ _ h => h))
          have HN1 : Hid (s.nodes.length + 1 ≤ maxLen) := Lib.hid (by unfold maxLen; have := HLN.out; omega)
          have HN2 : Hid ((s.nodes.length + 1) * 24 ≤ 140737488355328) := Lib.hid (by have := HLN.out; omega)
          have HOC : Hid (∀ u ∈ n.cells, u.oneCell' = true) := Lib.hid (by simp [Nd.cells, Value.oneCell'])
          have c0 : u0.cell? ⟨w.heap.size + 1, 0, none⟩ = some vn := HS0.out.blk.cell 0
          have hwq : wrap64 ((q : Int) + 1) = (q : Int) + 1 := IntWalk.wrap64_in _ (by have := HLN.out; omega)
          clear hsg hF hrr hb2 hc hok hn hs hlo hpl hxu
          go_wp2_with fail
          refine held_begin (by kernel_rfl) ?_
          have hHeld0 : True := True.intro
          rw [← hu]
          clear hu
          refine held_take (i := 0) (v := ?_) rfl (by kernel_rfl) (by kernel_rfl) (by kernel_rfl) (by rfl) (by first | assumption | exact True.intro) ?_ ?_
          rotate_left
          · (intro w hSw; (try dsimp only at hSw); go_simp; (try with_reducible rfl))
          try simp only [Act.put, List.setIfInBounds_toArray, List.set_cons_zero, List.set_cons_succ]
          refine held_take (i := 2) (v := ?_) rfl (by kernel_rfl) (by kernel_rfl) (by kernel_rfl) (by rfl) (by first | assumption | exact True.intro) ?_ ?_
          rotate_left
          · (intro w hSw; (try dsimp only at hSw); go_simp; (try with_reducible rfl))
          try simp only [Act.put, List.setIfInBounds_toArray, List.set_cons_zero, List.set_cons_succ]
          refine held_two (i := 1) (j := 3) (by kernel_rfl) rfl rfl (fun K hK => ?_) (fun K hK => ?_)
          · go_simp
            refine hK _ _ True.intro (fun hHeld1 => ?_)
            clear hK K hHeld0
            try simp only [Act.put, List.setIfInBounds_toArray, List.set_cons_zero, List.set_cons_succ]
            refine held_op (i := 3) (by kernel_rfl) rfl (fun K hK => ?_)
            go_simp
            go_at_call 96
            (with_reducible refine HND.out.mono ?_)
            rintro e6 w6 ⟨rfl, hr6, hc6⟩
            have hs6 : Sg F w6 (w.heap.size + 1) vn vj s := ObjF.chg HS0.out hc6 (fun k hk e => by have := HF.out k hk; have := HGL.out; have e : k = gr := e; omega)
            have c0 : w6.cell? ⟨w.heap.size + 1, 0, none⟩ = some vn := hs6.blk.cell 0
            refine hK _ _ True.intro (fun hHeld2 => ?_)
            clear hK K hHeld1
            try simp only [Act.put, List.setIfInBounds_toArray, List.set_cons_zero, List.set_cons_succ]
            refine held_op (i := 4) (by kernel_rfl) rfl (fun K hK => ?_)
            go_simp
            obtain ⟨w7, hw7⟩ : ∃ v, v = w6.alloc (.cells #[.bool n.up, .bool n.cordon, .bool n.moving, .int .i64 n.version, .int .i64 n.job] 45) := ⟨_, rfl⟩
            have hx7 : Ext w6 w7 := by rw [hw7]; exact (Below.refl _ _).alloc (Nat.le_refl _) _
            have hlit := RdS.lit 5 w6 #[.bool n.up, .bool n.cordon, .bool n.moving, .int .i64 n.version, .int .i64 n.job] 45 w6.heap.size rfl rfl
            rw [← hw7] at hlit
            have hs7 := hs6.ext hx7
            have c0 : w7.cell? ⟨w.heap.size + 1, 0, none⟩ = some vn := hs7.blk.cell 0
            refine hK _ _ True.intro (fun hHeld3 => ?_)
            clear hK K hHeld2
            try simp only [Act.put, List.setIfInBounds_toArray, List.set_cons_zero, List.set_cons_succ]
            rw [← hw7]
            clear hw7
            refine held_op (i := 5) (by kernel_rfl) rfl (fun K hK => ?_)
            refine stepAppendK (.tmp 9) (.tmp 12) 27 rfl ?_ 0 45 _ 5 24 Tryd.underlying27 Tryd.infoNode rfl (by decide) vn s.nodes.length (nodesC s.nodes) ?_ hs7.rowN (.slice (some ⟨w6.heap.size, 0, none⟩) 1 1) 1 n.cells ?_ hlit HOC.out HN1.out HN2.out (Nat.zero_le _) ?_
            · rfl
            · rfl
            · rfl
            intro v8 w8 hg8
            obtain ⟨A8, k8, rfl⟩ := own_slice hg8.1
            refine hK _ _ True.intro (fun hHeld4 => ?_)
            clear hK K hHeld3
            try simp only [Act.put, List.setIfInBounds_toArray, List.set_cons_zero, List.set_cons_succ]
            have hs9 := hs7.snocN n hg8
            have hb8 : w8.cell? ⟨w.heap.size + 1, 0, none⟩ = some vn := (World.cell?_of_block (a := ⟨w.heap.size + 1, 0, none⟩) (hg8.2.1.block _ hs7.lt (fun e => ObjF.off hs7 ⟨45, 5, vn, s.nodes.length, nodesC s.nodes⟩ (by simp) e.symm))).trans c0
            have hf8 : w8.frozen? ⟨w.heap.size + 1, 0, none⟩ = false := (show Blk w8 (w.heap.size + 1) 30 (vsC vn vj s) from (hg8.2.1.block _ hs7.lt (fun e => ObjF.off hs7 ⟨45, 5, vn, s.nodes.length, nodesC s.nodes⟩ (by simp) e.symm)).trans hs7.blk).frozen 0
            refine held_take (i := 6) (v := ?_) rfl (by kernel_rfl) (by kernel_rfl) (by kernel_rfl) (by rfl) (by first | assumption | exact True.intro) ?_ ?_
            rotate_left
            · (intro w hSw; (try dsimp only at hSw); go_simp; (try with_reducible rfl))
            try simp only [Act.put, List.setIfInBounds_toArray, List.set_cons_zero, List.set_cons_succ]
            refine held_op (i := 7) (by kernel_rfl) rfl (fun K hK => ?_)
            go_simp
            refine hK _ _ True.intro (fun hHeld5 => ?_)
            clear hK K hHeld4
            try simp only [Act.put, List.setIfInBounds_toArray, List.set_cons_zero, List.set_cons_succ]
            obtain ⟨w9, hw9⟩ : ∃ v, v = w8.setCell ⟨w.heap.size + 1, 0, none⟩ (.slice A8 (s.nodes.length + 1) k8) := ⟨_, rfl⟩
            rw [← hw9] at hs9 ⊢
            clear hw9
            have hc9 : Chg (fun k => k = gr) w w9 := ((HC0.out.trans hc6 (fun _ _ h => h)).trans (Chg.of_ext hx7) (fun _ _ h => h)).trans hs9.2 (fun z hz h => by have := HF.out z h; omega)
            have hzl := hs7.lt
            have hz6 := hc6.size
            have hz7 := hx7.size
            have hz0 := HC0.out.size
            have HKN : Hid (SI w gr B l ({ zeroS with nodes := ndsOf l 1 (q + 1) }) (1 + 3 * q + 3) w9) := Lib.hid ⟨⟨_, _, _, by rw [← HSN.out]; exact hs9.1, fun k hk => by (rcases hk with hk | hk); (exact HF.out k hk); (have := hk.1; omega), (hr6.ext hx7).keep hs9.2 (fun h => by have := HF.out _ h; have := HGL.out; omega) (fun h => by have := HF.out _ h; have := HGL.out; omega), (hs9.2.block _ (by omega) (fun h => by have := HF.out _ h; omega)).trans ((show Blk w6 w.heap.size 30 #[.slice none 0 0, .slice none 0 0, .int .i64 0, .int .i64 0, .int .i64 0, .int .i64 0] from (hc6.block _ HB2.out.lt (by have := HGL.out; omega)).trans HB2.out).ext hx7), hc9⟩⟩
            refine wpAnyH_done (by kernel_rfl) ?_ _
            refine NoPanic.normal ?_
            clear hHeld5 hs9 hc9 hz6 hz7 hz0 hzl hb8 hf8 hg8
            go_wp2
            go_roundw
            case rel => exact ⟨q + 1, by go_num, HLT.out, Lib.hid ⟨by rw [show 1 + 3 * (q + 1) = 1 + 3 * q + 3 by omega]; exact HKN.out, HMQ.out⟩⟩
            case measure => rw [hwq]; exact meas10 HLT.out
          · go_simp
            go_at_call 96
            (with_reducible refine HND.out.mono ?_)
            rintro e6 w6 ⟨rfl, hr6, hc6⟩
            have hs6 : Sg F w6 (w.heap.size + 1) vn vj s := ObjF.chg HS0.out hc6 (fun k hk e => by have := HF.out k hk; have := HGL.out; have e : k = gr := e; omega)
            have c0 : w6.cell? ⟨w.heap.size + 1, 0, none⟩ = some vn := hs6.blk.cell 0
            refine hK _ _ True.intro (fun hHeld1 => ?_)
            clear hK K hHeld0
            try simp only [Act.put, List.setIfInBounds_toArray, List.set_cons_zero, List.set_cons_succ]
            refine held_two (i := 1) (j := 4) (by kernel_rfl) rfl rfl (fun K hK => ?_) (fun K hK => ?_)
            · go_simp
              refine hK _ _ True.intro (fun hHeld2 => ?_)
              clear hK K hHeld1
              try simp only [Act.put, List.setIfInBounds_toArray, List.set_cons_zero, List.set_cons_succ]
              refine held_op (i := 4) (by kernel_rfl) rfl (fun K hK => ?_)
              go_simp
              obtain ⟨w7, hw7⟩ : ∃ v, v = w6.alloc (.cells #[.bool n.up, .bool n.cordon, .bool n.moving, .int .i64 n.version, .int .i64 n.job] 45) := ⟨_, rfl⟩
              have hx7 : Ext w6 w7 := by rw [hw7]; exact (Below.refl _ _).alloc (Nat.le_refl _) _
              have hlit := RdS.lit 5 w6 #[.bool n.up, .bool n.cordon, .bool n.moving, .int .i64 n.version, .int .i64 n.job] 45 w6.heap.size rfl rfl
              rw [← hw7] at hlit
              have hs7 := hs6.ext hx7
              have c0 : w7.cell? ⟨w.heap.size + 1, 0, none⟩ = some vn := hs7.blk.cell 0
              refine hK _ _ True.intro (fun hHeld3 => ?_)
              clear hK K hHeld2
              try simp only [Act.put, List.setIfInBounds_toArray, List.set_cons_zero, List.set_cons_succ]
              rw [← hw7]
              clear hw7
              refine held_op (i := 5) (by kernel_rfl) rfl (fun K hK => ?_)
              refine stepAppendK (.tmp 9) (.tmp 12) 27 rfl ?_ 0 45 _ 5 24 Tryd.underlying27 Tryd.infoNode rfl (by decide) vn s.nodes.length (nodesC s.nodes) ?_ hs7.rowN (.slice (some ⟨w6.heap.size, 0, none⟩) 1 1) 1 n.cells ?_ hlit HOC.out HN1.out HN2.out (Nat.zero_le _) ?_
              · rfl
              · rfl
              · rfl
              intro v8 w8 hg8
              obtain ⟨A8, k8, rfl⟩ := own_slice hg8.1
              refine hK _ _ True.intro (fun hHeld4 => ?_)
              clear hK K hHeld3
              try simp only [Act.put, List.setIfInBounds_toArray, List.set_cons_zero, List.set_cons_succ]
              have hs9 := hs7.snocN n hg8
              have hb8 : w8.cell? ⟨w.heap.size + 1, 0, none⟩ = some vn := (World.cell?_of_block (a := ⟨w.heap.size + 1, 0, none⟩) (hg8.2.1.block _ hs7.lt (fun e => ObjF.off hs7 ⟨45, 5, vn, s.nodes.length, nodesC s.nodes⟩ (by simp) e.symm))).trans c0
              have hf8 : w8.frozen? ⟨w.heap.size + 1, 0, none⟩ = false := (show Blk w8 (w.heap.size + 1) 30 (vsC vn vj s) from (hg8.2.1.block _ hs7.lt (fun e => ObjF.off hs7 ⟨45, 5, vn, s.nodes.length, nodesC s.nodes⟩ (by simp) e.symm)).trans hs7.blk).frozen 0
              refine held_take (i := 6) (v := ?_) rfl (by kernel_rfl) (by kernel_rfl) (by kernel_rfl) (by rfl) (by first | assumption | exact True.intro) ?_ ?_
              rotate_left
              · (intro w hSw; (try dsimp only at hSw); go_simp; (try with_reducible rfl))
              try simp only [Act.put, List.setIfInBounds_toArray, List.set_cons_zero, List.set_cons_succ]
              refine held_op (i := 7) (by kernel_rfl) rfl (fun K hK => ?_)
              go_simp
              refine hK _ _ True.intro (fun hHeld5 => ?_)
              clear hK K hHeld4
              try simp only [Act.put, List.setIfInBounds_toArray, List.set_cons_zero, List.set_cons_succ]
              obtain ⟨w9, hw9⟩ : ∃ v, v = w8.setCell ⟨w.heap.size + 1, 0, none⟩ (.slice A8 (s.nodes.length + 1) k8) := ⟨_, rfl⟩
              rw [← hw9] at hs9 ⊢
              clear hw9
              have hc9 : Chg (fun k => k = gr) w w9 := ((HC0.out.trans hc6 (fun _ _ h => h)).trans (Chg.of_ext hx7) (fun _ _ h => h)).trans hs9.2 (fun z hz h => by have := HF.out z h; omega)
              have hzl := hs7.lt
              have hz6 := hc6.size
              have hz7 := hx7.size
              have hz0 := HC0.out.size
              have HKN : Hid (SI w gr B l ({ zeroS with nodes := ndsOf l 1 (q + 1) }) (1 + 3 * q + 3) w9) := Lib.hid ⟨⟨_, _, _, by rw [← HSN.out]; exact hs9.1, fun k hk => by (rcases hk with hk | hk); (exact HF.out k hk); (have := hk.1; omega), (hr6.ext hx7).keep hs9.2 (fun h => by have := HF.out _ h; have := HGL.out; omega) (fun h => by have := HF.out _ h; have := HGL.out; omega), (hs9.2.block _ (by omega) (fun h => by have := HF.out _ h; omega)).trans ((show Blk w6 w.heap.size 30 #[.slice none 0 0, .slice none 0 0, .int .i64 0, .int .i64 0, .int .i64 0, .int .i64 0] from (hc6.block _ HB2.out.lt (by have := HGL.out; omega)).trans HB2.out).ext hx7), hc9⟩⟩
              refine wpAnyH_done (by kernel_rfl) ?_ _
              refine NoPanic.normal ?_
              clear hHeld5 hs9 hc9 hz6 hz7 hz0 hzl hb8 hf8 hg8
              go_wp2
              go_roundw
              case rel => exact ⟨q + 1, by go_num, HLT.out, Lib.hid ⟨by rw [show 1 + 3 * (q + 1) = 1 + 3 * q + 3 by omega]; exact HKN.out, HMQ.out⟩⟩
              case measure => rw [hwq]; exact meas10 HLT.out
            · go_simp
              obtain ⟨w7, hw7⟩ : ∃ v, v = w6.alloc (.cells #[.bool n.up, .bool n.cordon, .bool n.moving, .int .i64 n.version, .int .i64 n.job] 45) := ⟨_, rfl⟩
              have hx7 : Ext w6 w7 := by rw [hw7]; exact (Below.refl _ _).alloc (Nat.le_refl _) _
              have hlit := RdS.lit 5 w6 #[.bool n.up, .bool n.cordon, .bool n.moving, .int .i64 n.version, .int .i64 n.job] 45 w6.heap.size rfl rfl
              rw [← hw7] at hlit
              have hs7 := hs6.ext hx7
              have c0 : w7.cell? ⟨w.heap.size + 1, 0, none⟩ = some vn := hs7.blk.cell 0
              refine hK _ _ True.intro (fun hHeld2 => ?_)
              clear hK K hHeld1
              try simp only [Act.put, List.setIfInBounds_toArray, List.set_cons_zero, List.set_cons_succ]
              rw [← hw7]
              clear hw7
              refine held_op (i := 1) (by kernel_rfl) rfl (fun K hK => ?_)
              go_simp
              refine hK _ _ True.intro (fun hHeld3 => ?_)
              clear hK K hHeld2
              try simp only [Act.put, List.setIfInBounds_toArray, List.set_cons_zero, List.set_cons_succ]
              refine held_op (i := 5) (by kernel_rfl) rfl (fun K hK => ?_)
              refine stepAppendK (.tmp 9) (.tmp 12) 27 rfl ?_ 0 45 _ 5 24 Tryd.underlying27 Tryd.infoNode rfl (by decide) vn s.nodes.length (nodesC s.nodes) ?_ hs7.rowN (.slice (some ⟨w6.heap.size, 0, none⟩) 1 1) 1 n.cells ?_ hlit HOC.out HN1.out HN2.out (Nat.zero_le _) ?_
              · rfl
              · rfl
              · rfl
              intro v8 w8 hg8
              obtain ⟨A8, k8, rfl⟩ := own_slice hg8.1
              refine hK _ _ True.intro (fun hHeld4 => ?_)
              clear hK K hHeld3
              try simp only [Act.put, List.setIfInBounds_toArray, List.set_cons_zero, List.set_cons_succ]
              have hs9 := hs7.snocN n hg8
              have hb8 : w8.cell? ⟨w.heap.size + 1, 0, none⟩ = some vn := (World.cell?_of_block (a := ⟨w.heap.size + 1, 0, none⟩) (hg8.2.1.block _ hs7.lt (fun e => ObjF.off hs7 ⟨45, 5, vn, s.nodes.length, nodesC s.nodes⟩ (by simp) e.symm))).trans c0
              have hf8 : w8.frozen? ⟨w.heap.size + 1, 0, none⟩ = false := (show Blk w8 (w.heap.size + 1) 30 (vsC vn vj s) from (hg8.2.1.block _ hs7.lt (fun e => ObjF.off hs7 ⟨45, 5, vn, s.nodes.length, nodesC s.nodes⟩ (by simp) e.symm)).trans hs7.blk).frozen 0
              refine held_take (i := 6) (v := ?_) rfl (by kernel_rfl) (by kernel_rfl) (by kernel_rfl) (by rfl) (by first | assumption | exact True.intro) ?_ ?_
              rotate_left
              · (intro w hSw; (try dsimp only at hSw); go_simp; (try with_reducible rfl))
              try simp only [Act.put, List.setIfInBounds_toArray, List.set_cons_zero, List.set_cons_succ]
              refine held_op (i := 7) (by kernel_rfl) rfl (fun K hK => ?_)
              go_simp
              refine hK _ _ True.intro (fun hHeld5 => ?_)
              clear hK K hHeld4
              try simp only [Act.put, List.setIfInBounds_toArray, List.set_cons_zero, List.set_cons_succ]
              obtain ⟨w9, hw9⟩ : ∃ v, v = w8.setCell ⟨w.heap.size + 1, 0, none⟩ (.slice A8 (s.nodes.length + 1) k8) := ⟨_, rfl⟩
              rw [← hw9] at hs9 ⊢
              clear hw9
              have hc9 : Chg (fun k => k = gr) w w9 := ((HC0.out.trans hc6 (fun _ _ h => h)).trans (Chg.of_ext hx7) (fun _ _ h => h)).trans hs9.2 (fun z hz h => by have := HF.out z h; omega)
              have hzl := hs7.lt
              have hz6 := hc6.size
              have hz7 := hx7.size
              have hz0 := HC0.out.size
              have HKN : Hid (SI w gr B l ({ zeroS with nodes := ndsOf l 1 (q + 1) }) (1 + 3 * q + 3) w9) := Lib.hid ⟨⟨_, _, _, by rw [← HSN.out]; exact hs9.1, fun k hk => by (rcases hk with hk | hk); (exact HF.out k hk); (have := hk.1; omega), (hr6.ext hx7).keep hs9.2 (fun h => by have := HF.out _ h; have := HGL.out; omega) (fun h => by have := HF.out _ h; have := HGL.out; omega), (hs9.2.block _ (by omega) (fun h => by have := HF.out _ h; omega)).trans ((show Blk w6 w.heap.size 30 #[.slice none 0 0, .slice none 0 0, .int .i64 0, .int .i64 0, .int .i64 0, .int .i64 0] from (hc6.block _ HB2.out.lt (by have := HGL.out; omega)).trans HB2.out).ext hx7), hc9⟩⟩
              refine wpAnyH_done (by kernel_rfl) ?_ _
              refine NoPanic.normal ?_
              clear hHeld5 hs9 hc9 hz6 hz7 hz0 hzl hb8 hf8 hg8
              go_wp2
              go_roundw
              case rel => exact ⟨q + 1, by go_num, HLT.out, Lib.hid ⟨by rw [show 1 + 3 * (q + 1) = 1 + 3 * q + 3 by omega]; exact HKN.out, HMQ.out⟩⟩
              case measure => rw [hwq]; exact meas10 HLT.out
        · have HNO : Hid (¬ OkL l) := Lib.hid (by intro h; apply hok; rw [List.length_drop]; have h1 := h.1; unfold endOf at h1; refine ⟨by omega, ?_⟩; rw [at_drop]; exact h.2 q hlt)
          have HNP : Hid (∀ W, Ext wr W → Calls Tryd.prog 96 #[.pointer (some ⟨gr, 0, none⟩)] W fun e w' => GaveUp e ∧ Chg (fun k => k = gr) w w') := Lib.hid fun W hxw => by
            refine (rnode_any w0 W gr B (l.drop (1 + 3 * q)) HL.out ((HLW.out _ hc).1.trans hxw) HG.out (hrr.ext hxw) (fun x hx => H0.out x (List.mem_of_mem_drop hx))).mono ?_
            intro e w' hp
            rcases hp with ⟨h1, h2, -, -, -⟩ | ⟨-, h2, h3⟩
            · exact absurd ⟨h1, h2⟩ hok
            · exact ⟨h2, (hc.trans (Chg.of_ext hxw) (fun _ _ h => h)).trans h3 (fun _ _ h => h)⟩
          have c0 : wr.cell? ⟨w.heap.size + 1, 0, none⟩ = some vn := hsg.blk.cell 0
          clear hsg hF hrr hb2 hc hok HK
          have HNQ := Lib.hid (HNP.out wr.drew (Below.drewN' (Ext.refl _) 1))
          clear HNP
          go_wp2_with fail
          refine heldQ_begin (by kernel_rfl) ?_
          have hHeld0 : True := True.intro
          refine held_more (S' := fun (W : World) => W.cell? ⟨w.heap.size + 1, 0, none⟩ = some vn) (fun _ _ => True.intro) ?_
          have hHeld1 : (fun (W : World) => W.cell? ⟨w.heap.size + 1, 0, none⟩ = some vn) _ := c0
          clear hHeld0
          refine heldQ_take (i := 0) (v := ?_) rfl (by kernel_rfl) (by kernel_rfl) (by kernel_rfl) (fun _ _ _ h => h) (by rfl) (by first | assumption | exact True.intro) ?_ ?_
          rotate_left
          · (intro w hSw; (try dsimp only at hSw); go_simp; (try with_reducible rfl))
          try simp only [Act.put, List.setIfInBounds_toArray, List.set_cons_zero, List.set_cons_succ]
          refine heldQ_take (i := 1) (v := ?_) rfl (by kernel_rfl) (by kernel_rfl) (by kernel_rfl) (fun _ _ _ h => h) (by rfl) (by first | assumption | exact True.intro) ?_ ?_
          rotate_left
          · (intro w hSw; (try dsimp only at hSw); go_simp; (try with_reducible rfl))
          try simp only [Act.put, List.setIfInBounds_toArray, List.set_cons_zero, List.set_cons_succ]
          refine heldQ_take (i := 2) (v := ?_) rfl (by kernel_rfl) (by kernel_rfl) (by kernel_rfl) (fun _ _ _ h => h) (by rfl) (by first | assumption | exact True.intro) ?_ ?_
          rotate_left
          · (intro w hSw; (try dsimp only at hSw); go_simp; (try with_reducible rfl))
          try simp only [Act.put, List.setIfInBounds_toArray, List.set_cons_zero, List.set_cons_succ]
          refine heldQ_op (i := 3) (by kernel_rfl) rfl (fun K hK => ?_)
          go_simp
          go_at_call 96
          (with_reducible refine HNQ.out.mono ?_)
          rintro e6 w6 ⟨⟨T, pv, rfl⟩, hc6⟩
          go_wp2
          exact ⟨rfl, .inr ⟨HNO.out, ⟨_, _, rfl⟩, hc6⟩⟩
      · have d1 : decide ((q : Int) < ((nOf l : Nat) : Int)) = false := decide_eq_false (by omega)
        have d1' : decide (q < nOf l) = false := decide_eq_false hlt
        obtain rfl : q = nOf l := by omega
        have HMK := Lib.hid HK.out.2
        have HKK := Lib.hid HK.out.1
        clear HK hlt hq
        obtain ⟨F, vn, vj, hsg, hF, hrr, hb2, hc⟩ := HKK.out.out
        cases hd : l.drop (1 + 3 * nOf l) with
        | nil =>
          have HNO : Hid (¬ OkL l) := Lib.hid (by have hl := congrArg List.length hd; rw [List.length_drop, List.length_nil] at hl; intro h; have := h.1; unfold endOf at this; omega)
          have HCC := Lib.hid hc
          have HTK := Lib.hid (take_none_ gr B wr (by rw [← hd]; exact hrr) (HLW.out _ hc).2)
          clear hsg hF hrr hb2 hc hd
          go_wp2_with fail
          refine HTK.out.mono ?_
          rintro e3 w3 ⟨⟨T, pv, rfl⟩, rfl⟩
          go_wp2
          exact ⟨rfl, .inr ⟨HNO.out, ⟨_, _, rfl⟩, HCC.out⟩⟩
        | cons x r_ =>
          have hxx : x = at_ l (1 + 3 * nOf l) := by have h2 := congrArg (fun z => z[0]?) hd; simp at h2; simp [at_, List.getD_eq_getElem?_getD, h2]
          have hr_ : l.drop (1 + 3 * nOf l + 1) = r_ := by have h9 := congrArg List.tail hd; simpa [List.tail_drop] using h9
          have hpl : 1 + 3 * nOf l < l.length := by have hl := congrArg List.length hd; rw [List.length_drop, List.length_cons] at hl; omega
          have HTK := Lib.hid (take_some_ gr B x r_ wr (by rw [← hd]; exact hrr))
          have HS := Lib.hid hsg
          have HF := Lib.hid hF
          have HB2 := Lib.hid hb2
          have HC := Lib.hid hc
          have HXX := Lib.hid hxx
          have HRE := Lib.hid hr_
          have HPL := Lib.hid hpl
          clear hsg hF hrr hb2 hc hd hxx hr_ hpl HKK
          go_wp2_with fail
          refine HTK.out.mono ?_
          rintro e3 w3 ⟨rfl, hr3, hc3, hs3⟩
          have HSJ : Hid (SI w gr B l { zeroS with nodes := ndsOf l 1 (nOf l) } (1 + 3 * nOf l + 1) w3) := Lib.hid ⟨⟨F, vn, vj, ObjF.chg HS.out hc3 (fun k hk e => by have := HF.out k hk; have := HGL.out; have e : k = gr := e; omega), HF.out, by rw [HRE.out]; exact hr3, (hc3.block _ HB2.out.lt (by have := HGL.out; omega)).trans HB2.out, HC.out.trans hc3 (fun _ _ h => h)⟩⟩
          clear hr3 hc3 hs3 HTK HS HF HB2 HC HRE
          have hmo : x = ((mOf l : Nat) : Int) := by rw [HXX.out]; unfold mOf; rw [Int.toNat_of_nonneg (at_nonneg H0.out _)]
          subst hmo
          clear HXX
          go_wp2_with fail
          go_loopw [18] (fun i wr => ∃ q : Nat, i = .int .i64 q ∧ q ≤ mOf l ∧ Hid (SI w gr B l { zeroS with nodes := ndsOf l 1 (nOf l), jobs := jbsOf l (2 + 3 * nOf l) q } (2 + 3 * nOf l + 12 * q) wr)) (fun i _ => mOf l - (intOf i).toNat)
          case atStart => exact ⟨0, rfl, Nat.zero_le _, by rw [Nat.mul_zero, Nat.add_zero, show 2 + 3 * nOf l = 1 + 3 * nOf l + 1 by omega]; exact HSJ⟩
          case round =>
            clear HSJ
            obtain ⟨q, rfl, hq, HK⟩ := hrel
            by_cases hlt : q < mOf l
            · have d1 : decide ((q : Int) < ((mOf l : Nat) : Int)) = true := decide_eq_true (by omega)
              have d1' : decide (q < mOf l) = true := decide_eq_true hlt
              obtain ⟨F, vn, vj, hsg, hF, hrr, hb2, hc⟩ := HK.out.out
              have HLT := Lib.hid hlt
              by_cases hok : 12 ≤ (l.drop (2 + 3 * nOf l + 12 * q)).length
              · have hpl : 2 + 3 * nOf l + 12 * q + 12 ≤ l.length := by have h1 := hok; rw [List.length_drop] at h1; omega
                obtain ⟨s, hs⟩ : ∃ s : St, s = { zeroS with nodes := ndsOf l 1 (nOf l), jobs := jbsOf l (2 + 3 * nOf l) q } := ⟨_, rfl⟩
                rw [← hs] at hsg
                obtain ⟨n, hn⟩ : ∃ n, n = jbAt l (2 + 3 * nOf l + 12 * q) := ⟨_, rfl⟩
                obtain ⟨u0, hu⟩ : ∃ u, u = wr.drew := ⟨_, rfl⟩
                have hxu : Ext wr u0 := by rw [hu]; exact Below.drewN' (Ext.refl _) 1
                have HND : Hid (Calls Tryd.prog 97 #[.pointer (some ⟨gr, 0, none⟩)] u0 fun e w' => e = .returned (.agg #[.int .i64 n.queue, .int .i64 n.prio, .int .i64 n.least, .int .i64 n.most, .int .i64 n.work, .int .i64 n.pin, .int .i64 n.phase, .int .i64 n.inc, .int .i64 n.nodes, .int .i64 n.since, .int .i64 n.til, .int .i64 n.epoch]) ∧ Rr w' gr B (l.drop (2 + 3 * nOf l + 12 * q + 12)) ∧ Chg (fun k => k = gr) u0 w') := Lib.hid (by
                  refine (rjob_any w0 u0 gr B (l.drop (2 + 3 * nOf l + 12 * q)) HL.out ((HLW.out _ hc).1.trans hxu) HG.out (hrr.ext hxu)).mono ?_
                  intro e w' hp
                  rcases hp with ⟨h1, rfl, h3, h4⟩ | ⟨h1, -, -⟩
                  · refine ⟨?_, by rw [← List.drop_drop]; exact h3, h4⟩
                    rw [hn]
                    rw [show jbAt (l.drop (2 + 3 * nOf l + 12 * q)) 0 = jbAt l (2 + 3 * nOf l + 12 * q) from by unfold jbAt; simp only [at_drop]; (try rfl)]
                    rfl
                  · exact absurd h1 (by omega))
                have hlo : s.jobs.length = q := by rw [hs]; exact jbsOf_len _ _ _
                have HSN : Hid ({ s with jobs := s.jobs ++ [n] } = { zeroS with nodes := ndsOf l 1 (nOf l), jobs := jbsOf l (2 + 3 * nOf l) (q + 1) }) := Lib.hid (by rw [hs, hn]; show St.mk _ _ _ _ _ _ = _; simp only [jbsOf_succ]; (try rfl))
                have HS0 := Lib.hid (hsg.ext hxu)
                have HF := Lib.hid hF
                have HB2 := Lib.hid (hb2.ext hxu)
                have HC0 := Lib.hid (hc.trans (Chg.of_ext hxu) (fun _ _ h => h))
                have HN1 : Hid (s.jobs.length + 1 ≤ maxLen) := Lib.hid (by unfold maxLen; have := HLN.out; omega)
                have HN2 : Hid ((s.jobs.length + 1) * 96 ≤ 140737488355328) := Lib.hid (by have := HLN.out; omega)
                have HOC : Hid (∀ u ∈ n.cells, u.oneCell' = true) := Lib.hid (by simp [Jb.cells, Value.oneCell'])
                have c0 : u0.cell? ⟨w.heap.size + 1, 1, none⟩ = some vj := HS0.out.blk.cell 1
                have hwq : wrap64 ((q : Int) + 1) = (q : Int) + 1 := IntWalk.wrap64_in _ (by have := HLN.out; omega)
                clear hsg hF hrr hb2 hc hok hn hs hlo hpl hxu HK
                go_wp2_with fail
                refine held_begin (by kernel_rfl) ?_
                have hHeld0 : True := True.intro
                rw [← hu]
                clear hu
                refine held_take (i := 0) (v := ?_) rfl (by kernel_rfl) (by kernel_rfl) (by kernel_rfl) (by rfl) (by first | assumption | exact True.intro) ?_ ?_
                rotate_left
                · (intro w hSw; (try dsimp only at hSw); go_simp; (try with_reducible rfl))
                try simp only [Act.put, List.setIfInBounds_toArray, List.set_cons_zero, List.set_cons_succ]
                refine held_take (i := 2) (v := ?_) rfl (by kernel_rfl) (by kernel_rfl) (by kernel_rfl) (by rfl) (by first | assumption | exact True.intro) ?_ ?_
                rotate_left
                · (intro w hSw; (try dsimp only at hSw); go_simp; (try with_reducible rfl))
                try simp only [Act.put, List.setIfInBounds_toArray, List.set_cons_zero, List.set_cons_succ]
                refine held_two (i := 1) (j := 3) (by kernel_rfl) rfl rfl (fun K hK => ?_) (fun K hK => ?_)
                · go_simp
                  refine hK _ _ True.intro (fun hHeld1 => ?_)
                  clear hK K hHeld0
                  try simp only [Act.put, List.setIfInBounds_toArray, List.set_cons_zero, List.set_cons_succ]
                  refine held_op (i := 3) (by kernel_rfl) rfl (fun K hK => ?_)
                  go_simp
                  go_at_call 97
                  (with_reducible refine HND.out.mono ?_)
                  rintro e6 w6 ⟨rfl, hr6, hc6⟩
                  have hs6 : Sg F w6 (w.heap.size + 1) vn vj s := ObjF.chg HS0.out hc6 (fun k hk e => by have := HF.out k hk; have := HGL.out; have e : k = gr := e; omega)
                  have c0 : w6.cell? ⟨w.heap.size + 1, 1, none⟩ = some vj := hs6.blk.cell 1
                  refine hK _ _ True.intro (fun hHeld2 => ?_)
                  clear hK K hHeld1
                  try simp only [Act.put, List.setIfInBounds_toArray, List.set_cons_zero, List.set_cons_succ]
                  refine held_op (i := 4) (by kernel_rfl) rfl (fun K hK => ?_)
                  go_simp
                  obtain ⟨w7, hw7⟩ : ∃ v, v = w6.alloc (.cells #[.int .i64 n.queue, .int .i64 n.prio, .int .i64 n.least, .int .i64 n.most, .int .i64 n.work, .int .i64 n.pin, .int .i64 n.phase, .int .i64 n.inc, .int .i64 n.nodes, .int .i64 n.since, .int .i64 n.til, .int .i64 n.epoch] 52) := ⟨_, rfl⟩
                  have hx7 : Ext w6 w7 := by rw [hw7]; exact (Below.refl _ _).alloc (Nat.le_refl _) _
                  have hlit := RdS.lit 12 w6 #[.int .i64 n.queue, .int .i64 n.prio, .int .i64 n.least, .int .i64 n.most, .int .i64 n.work, .int .i64 n.pin, .int .i64 n.phase, .int .i64 n.inc, .int .i64 n.nodes, .int .i64 n.since, .int .i64 n.til, .int .i64 n.epoch] 52 w6.heap.size rfl rfl
                  rw [← hw7] at hlit
                  have hs7 := hs6.ext hx7
                  have c0 : w7.cell? ⟨w.heap.size + 1, 1, none⟩ = some vj := hs7.blk.cell 1
                  refine hK _ _ True.intro (fun hHeld3 => ?_)
                  clear hK K hHeld2
                  try simp only [Act.put, List.setIfInBounds_toArray, List.set_cons_zero, List.set_cons_succ]
                  rw [← hw7]
                  clear hw7
                  refine held_op (i := 5) (by kernel_rfl) rfl (fun K hK => ?_)
                  refine stepAppendK (.tmp 21) (.tmp 24) 28 rfl ?_ 0 52 _ 12 96 Tryd.underlying28 Tryd.infoJob rfl (by decide) vj s.jobs.length (jobsC s.jobs) ?_ hs7.rowJ (.slice (some ⟨w6.heap.size, 0, none⟩) 1 1) 1 n.cells ?_ hlit HOC.out HN1.out HN2.out (Nat.zero_le _) ?_
                  · rfl
                  · rfl
                  · rfl
                  intro v8 w8 hg8
                  obtain ⟨A8, k8, rfl⟩ := own_slice hg8.1
                  refine hK _ _ True.intro (fun hHeld4 => ?_)
                  clear hK K hHeld3
                  try simp only [Act.put, List.setIfInBounds_toArray, List.set_cons_zero, List.set_cons_succ]
                  have hs9 := hs7.snoc n hg8
                  have hb8 : w8.cell? ⟨w.heap.size + 1, 1, none⟩ = some vj := (World.cell?_of_block (a := ⟨w.heap.size + 1, 1, none⟩) (hg8.2.1.block _ hs7.lt (fun e => ObjF.off hs7 ⟨52, 12, vj, s.jobs.length, jobsC s.jobs⟩ (by simp) e.symm))).trans c0
                  have hf8 : w8.frozen? ⟨w.heap.size + 1, 1, none⟩ = false := (show Blk w8 (w.heap.size + 1) 30 (vsC vn vj s) from (hg8.2.1.block _ hs7.lt (fun e => ObjF.off hs7 ⟨52, 12, vj, s.jobs.length, jobsC s.jobs⟩ (by simp) e.symm)).trans hs7.blk).frozen 1
                  refine held_take (i := 6) (v := ?_) rfl (by kernel_rfl) (by kernel_rfl) (by kernel_rfl) (by rfl) (by first | assumption | exact True.intro) ?_ ?_
                  rotate_left
                  · (intro w hSw; (try dsimp only at hSw); go_simp; (try with_reducible rfl))
                  try simp only [Act.put, List.setIfInBounds_toArray, List.set_cons_zero, List.set_cons_succ]
                  refine held_op (i := 7) (by kernel_rfl) rfl (fun K hK => ?_)
                  go_simp
                  refine hK _ _ True.intro (fun hHeld5 => ?_)
                  clear hK K hHeld4
                  try simp only [Act.put, List.setIfInBounds_toArray, List.set_cons_zero, List.set_cons_succ]
                  obtain ⟨w9, hw9⟩ : ∃ v, v = w8.setCell ⟨w.heap.size + 1, 1, none⟩ (.slice A8 (s.jobs.length + 1) k8) := ⟨_, rfl⟩
                  rw [← hw9] at hs9 ⊢
                  clear hw9
                  have hc9 : Chg (fun k => k = gr) w w9 := ((HC0.out.trans hc6 (fun _ _ h => h)).trans (Chg.of_ext hx7) (fun _ _ h => h)).trans hs9.2 (fun z hz h => by have := HF.out z h; omega)
                  have hzl := hs7.lt
                  have hz6 := hc6.size
                  have hz7 := hx7.size
                  have hz0 := HC0.out.size
                  have HKN : Hid (SI w gr B l ({ zeroS with nodes := ndsOf l 1 (nOf l), jobs := jbsOf l (2 + 3 * nOf l) (q + 1) }) (2 + 3 * nOf l + 12 * q + 12) w9) := Lib.hid ⟨⟨_, _, _, by rw [← HSN.out]; exact hs9.1, fun k hk => by (rcases hk with hk | hk); (exact HF.out k hk); (have := hk.1; omega), (hr6.ext hx7).keep hs9.2 (fun h => by have := HF.out _ h; have := HGL.out; omega) (fun h => by have := HF.out _ h; have := HGL.out; omega), (hs9.2.block _ (by omega) (fun h => by have := HF.out _ h; omega)).trans ((show Blk w6 w.heap.size 30 #[.slice none 0 0, .slice none 0 0, .int .i64 0, .int .i64 0, .int .i64 0, .int .i64 0] from (hc6.block _ HB2.out.lt (by have := HGL.out; omega)).trans HB2.out).ext hx7), hc9⟩⟩
                  refine wpAnyH_done (by kernel_rfl) ?_ _
                  refine NoPanic.normal ?_
                  clear hHeld5 hs9 hc9 hz6 hz7 hz0 hzl hb8 hf8 hg8
                  go_wp2
                  go_roundw
                  case rel => exact ⟨q + 1, by go_num, HLT.out, by first | exact HKN | (rw [show 2 + 3 * nOf l + 12 * (q + 1) = 2 + 3 * nOf l + 12 * q + 12 by omega]; exact HKN)⟩
                  case measure => rw [hwq]; exact meas10 HLT.out
                · go_simp
                  go_at_call 97
                  (with_reducible refine HND.out.mono ?_)
                  rintro e6 w6 ⟨rfl, hr6, hc6⟩
                  have hs6 : Sg F w6 (w.heap.size + 1) vn vj s := ObjF.chg HS0.out hc6 (fun k hk e => by have := HF.out k hk; have := HGL.out; have e : k = gr := e; omega)
                  have c0 : w6.cell? ⟨w.heap.size + 1, 1, none⟩ = some vj := hs6.blk.cell 1
                  refine hK _ _ True.intro (fun hHeld1 => ?_)
                  clear hK K hHeld0
                  try simp only [Act.put, List.setIfInBounds_toArray, List.set_cons_zero, List.set_cons_succ]
                  refine held_two (i := 1) (j := 4) (by kernel_rfl) rfl rfl (fun K hK => ?_) (fun K hK => ?_)
                  · go_simp
                    refine hK _ _ True.intro (fun hHeld2 => ?_)
                    clear hK K hHeld1
                    try simp only [Act.put, List.setIfInBounds_toArray, List.set_cons_zero, List.set_cons_succ]
                    refine held_op (i := 4) (by kernel_rfl) rfl (fun K hK => ?_)
                    go_simp
                    obtain ⟨w7, hw7⟩ : ∃ v, v = w6.alloc (.cells #[.int .i64 n.queue, .int .i64 n.prio, .int .i64 n.least, .int .i64 n.most, .int .i64 n.work, .int .i64 n.pin, .int .i64 n.phase, .int .i64 n.inc, .int .i64 n.nodes, .int .i64 n.since, .int .i64 n.til, .int .i64 n.epoch] 52) := ⟨_, rfl⟩
                    have hx7 : Ext w6 w7 := by rw [hw7]; exact (Below.refl _ _).alloc (Nat.le_refl _) _
                    have hlit := RdS.lit 12 w6 #[.int .i64 n.queue, .int .i64 n.prio, .int .i64 n.least, .int .i64 n.most, .int .i64 n.work, .int .i64 n.pin, .int .i64 n.phase, .int .i64 n.inc, .int .i64 n.nodes, .int .i64 n.since, .int .i64 n.til, .int .i64 n.epoch] 52 w6.heap.size rfl rfl
                    rw [← hw7] at hlit
                    have hs7 := hs6.ext hx7
                    have c0 : w7.cell? ⟨w.heap.size + 1, 1, none⟩ = some vj := hs7.blk.cell 1
                    refine hK _ _ True.intro (fun hHeld3 => ?_)
                    clear hK K hHeld2
                    try simp only [Act.put, List.setIfInBounds_toArray, List.set_cons_zero, List.set_cons_succ]
                    rw [← hw7]
                    clear hw7
                    refine held_op (i := 5) (by kernel_rfl) rfl (fun K hK => ?_)
                    refine stepAppendK (.tmp 21) (.tmp 24) 28 rfl ?_ 0 52 _ 12 96 Tryd.underlying28 Tryd.infoJob rfl (by decide) vj s.jobs.length (jobsC s.jobs) ?_ hs7.rowJ (.slice (some ⟨w6.heap.size, 0, none⟩) 1 1) 1 n.cells ?_ hlit HOC.out HN1.out HN2.out (Nat.zero_le _) ?_
                    · rfl
                    · rfl
                    · rfl
                    intro v8 w8 hg8
                    obtain ⟨A8, k8, rfl⟩ := own_slice hg8.1
                    refine hK _ _ True.intro (fun hHeld4 => ?_)
                    clear hK K hHeld3
                    try simp only [Act.put, List.setIfInBounds_toArray, List.set_cons_zero, List.set_cons_succ]
                    have hs9 := hs7.snoc n hg8
                    have hb8 : w8.cell? ⟨w.heap.size + 1, 1, none⟩ = some vj := (World.cell?_of_block (a := ⟨w.heap.size + 1, 1, none⟩) (hg8.2.1.block _ hs7.lt (fun e => ObjF.off hs7 ⟨52, 12, vj, s.jobs.length, jobsC s.jobs⟩ (by simp) e.symm))).trans c0
                    have hf8 : w8.frozen? ⟨w.heap.size + 1, 1, none⟩ = false := (show Blk w8 (w.heap.size + 1) 30 (vsC vn vj s) from (hg8.2.1.block _ hs7.lt (fun e => ObjF.off hs7 ⟨52, 12, vj, s.jobs.length, jobsC s.jobs⟩ (by simp) e.symm)).trans hs7.blk).frozen 1
                    refine held_take (i := 6) (v := ?_) rfl (by kernel_rfl) (by kernel_rfl) (by kernel_rfl) (by rfl) (by first | assumption | exact True.intro) ?_ ?_
                    rotate_left
                    · (intro w hSw; (try dsimp only at hSw); go_simp; (try with_reducible rfl))
                    try simp only [Act.put, List.setIfInBounds_toArray, List.set_cons_zero, List.set_cons_succ]
                    refine held_op (i := 7) (by kernel_rfl) rfl (fun K hK => ?_)
                    go_simp
                    refine hK _ _ True.intro (fun hHeld5 => ?_)
                    clear hK K hHeld4
                    try simp only [Act.put, List.setIfInBounds_toArray, List.set_cons_zero, List.set_cons_succ]
                    obtain ⟨w9, hw9⟩ : ∃ v, v = w8.setCell ⟨w.heap.size + 1, 1, none⟩ (.slice A8 (s.jobs.length + 1) k8) := ⟨_, rfl⟩
                    rw [← hw9] at hs9 ⊢
                    clear hw9
                    have hc9 : Chg (fun k => k = gr) w w9 := ((HC0.out.trans hc6 (fun _ _ h => h)).trans (Chg.of_ext hx7) (fun _ _ h => h)).trans hs9.2 (fun z hz h => by have := HF.out z h; omega)
                    have hzl := hs7.lt
                    have hz6 := hc6.size
                    have hz7 := hx7.size
                    have hz0 := HC0.out.size
                    have HKN : Hid (SI w gr B l ({ zeroS with nodes := ndsOf l 1 (nOf l), jobs := jbsOf l (2 + 3 * nOf l) (q + 1) }) (2 + 3 * nOf l + 12 * q + 12) w9) := Lib.hid ⟨⟨_, _, _, by rw [← HSN.out]; exact hs9.1, fun k hk => by (rcases hk with hk | hk); (exact HF.out k hk); (have := hk.1; omega), (hr6.ext hx7).keep hs9.2 (fun h => by have := HF.out _ h; have := HGL.out; omega) (fun h => by have := HF.out _ h; have := HGL.out; omega), (hs9.2.block _ (by omega) (fun h => by have := HF.out _ h; omega)).trans ((show Blk w6 w.heap.size 30 #[.slice none 0 0, .slice none 0 0, .int .i64 0, .int .i64 0, .int .i64 0, .int .i64 0] from (hc6.block _ HB2.out.lt (by have := HGL.out; omega)).trans HB2.out).ext hx7), hc9⟩⟩
                    refine wpAnyH_done (by kernel_rfl) ?_ _
                    refine NoPanic.normal ?_
                    clear hHeld5 hs9 hc9 hz6 hz7 hz0 hzl hb8 hf8 hg8
                    go_wp2
                    go_roundw
                    case rel => exact ⟨q + 1, by go_num, HLT.out, by first | exact HKN | (rw [show 2 + 3 * nOf l + 12 * (q + 1) = 2 + 3 * nOf l + 12 * q + 12 by omega]; exact HKN)⟩
                    case measure => rw [hwq]; exact meas10 HLT.out
                  · go_simp
                    obtain ⟨w7, hw7⟩ : ∃ v, v = w6.alloc (.cells #[.int .i64 n.queue, .int .i64 n.prio, .int .i64 n.least, .int .i64 n.most, .int .i64 n.work, .int .i64 n.pin, .int .i64 n.phase, .int .i64 n.inc, .int .i64 n.nodes, .int .i64 n.since, .int .i64 n.til, .int .i64 n.epoch] 52) := ⟨_, rfl⟩
                    have hx7 : Ext w6 w7 := by rw [hw7]; exact (Below.refl _ _).alloc (Nat.le_refl _) _
                    have hlit := RdS.lit 12 w6 #[.int .i64 n.queue, .int .i64 n.prio, .int .i64 n.least, .int .i64 n.most, .int .i64 n.work, .int .i64 n.pin, .int .i64 n.phase, .int .i64 n.inc, .int .i64 n.nodes, .int .i64 n.since, .int .i64 n.til, .int .i64 n.epoch] 52 w6.heap.size rfl rfl
                    rw [← hw7] at hlit
                    have hs7 := hs6.ext hx7
                    have c0 : w7.cell? ⟨w.heap.size + 1, 1, none⟩ = some vj := hs7.blk.cell 1
                    refine hK _ _ True.intro (fun hHeld2 => ?_)
                    clear hK K hHeld1
                    try simp only [Act.put, List.setIfInBounds_toArray, List.set_cons_zero, List.set_cons_succ]
                    rw [← hw7]
                    clear hw7
                    refine held_op (i := 1) (by kernel_rfl) rfl (fun K hK => ?_)
                    go_simp
                    refine hK _ _ True.intro (fun hHeld3 => ?_)
                    clear hK K hHeld2
                    try simp only [Act.put, List.setIfInBounds_toArray, List.set_cons_zero, List.set_cons_succ]
                    refine held_op (i := 5) (by kernel_rfl) rfl (fun K hK => ?_)
                    refine stepAppendK (.tmp 21) (.tmp 24) 28 rfl ?_ 0 52 _ 12 96 Tryd.underlying28 Tryd.infoJob rfl (by decide) vj s.jobs.length (jobsC s.jobs) ?_ hs7.rowJ (.slice (some ⟨w6.heap.size, 0, none⟩) 1 1) 1 n.cells ?_ hlit HOC.out HN1.out HN2.out (Nat.zero_le _) ?_
                    · rfl
                    · rfl
                    · rfl
                    intro v8 w8 hg8
                    obtain ⟨A8, k8, rfl⟩ := own_slice hg8.1
                    refine hK _ _ True.intro (fun hHeld4 => ?_)
                    clear hK K hHeld3
                    try simp only [Act.put, List.setIfInBounds_toArray, List.set_cons_zero, List.set_cons_succ]
                    have hs9 := hs7.snoc n hg8
                    have hb8 : w8.cell? ⟨w.heap.size + 1, 1, none⟩ = some vj := (World.cell?_of_block (a := ⟨w.heap.size + 1, 1, none⟩) (hg8.2.1.block _ hs7.lt (fun e => ObjF.off hs7 ⟨52, 12, vj, s.jobs.length, jobsC s.jobs⟩ (by simp) e.symm))).trans c0
                    have hf8 : w8.frozen? ⟨w.heap.size + 1, 1, none⟩ = false := (show Blk w8 (w.heap.size + 1) 30 (vsC vn vj s) from (hg8.2.1.block _ hs7.lt (fun e => ObjF.off hs7 ⟨52, 12, vj, s.jobs.length, jobsC s.jobs⟩ (by simp) e.symm)).trans hs7.blk).frozen 1
                    refine held_take (i := 6) (v := ?_) rfl (by kernel_rfl) (by kernel_rfl) (by kernel_rfl) (by rfl) (by first | assumption | exact True.intro) ?_ ?_
                    rotate_left
                    · (intro w hSw; (try dsimp only at hSw); go_simp; (try with_reducible rfl))
                    try simp only [Act.put, List.setIfInBounds_toArray, List.set_cons_zero, List.set_cons_succ]
                    refine held_op (i := 7) (by kernel_rfl) rfl (fun K hK => ?_)
                    go_simp
                    refine hK _ _ True.intro (fun hHeld5 => ?_)
                    clear hK K hHeld4
                    try simp only [Act.put, List.setIfInBounds_toArray, List.set_cons_zero, List.set_cons_succ]
                    obtain ⟨w9, hw9⟩ : ∃ v, v = w8.setCell ⟨w.heap.size + 1, 1, none⟩ (.slice A8 (s.jobs.length + 1) k8) := ⟨_, rfl⟩
                    rw [← hw9] at hs9 ⊢
                    clear hw9
                    have hc9 : Chg (fun k => k = gr) w w9 := ((HC0.out.trans hc6 (fun _ _ h => h)).trans (Chg.of_ext hx7) (fun _ _ h => h)).trans hs9.2 (fun z hz h => by have := HF.out z h; omega)
                    have hzl := hs7.lt
                    have hz6 := hc6.size
                    have hz7 := hx7.size
                    have hz0 := HC0.out.size
                    have HKN : Hid (SI w gr B l ({ zeroS with nodes := ndsOf l 1 (nOf l), jobs := jbsOf l (2 + 3 * nOf l) (q + 1) }) (2 + 3 * nOf l + 12 * q + 12) w9) := Lib.hid ⟨⟨_, _, _, by rw [← HSN.out]; exact hs9.1, fun k hk => by (rcases hk with hk | hk); (exact HF.out k hk); (have := hk.1; omega), (hr6.ext hx7).keep hs9.2 (fun h => by have := HF.out _ h; have := HGL.out; omega) (fun h => by have := HF.out _ h; have := HGL.out; omega), (hs9.2.block _ (by omega) (fun h => by have := HF.out _ h; omega)).trans ((show Blk w6 w.heap.size 30 #[.slice none 0 0, .slice none 0 0, .int .i64 0, .int .i64 0, .int .i64 0, .int .i64 0] from (hc6.block _ HB2.out.lt (by have := HGL.out; omega)).trans HB2.out).ext hx7), hc9⟩⟩
                    refine wpAnyH_done (by kernel_rfl) ?_ _
                    refine NoPanic.normal ?_
                    clear hHeld5 hs9 hc9 hz6 hz7 hz0 hzl hb8 hf8 hg8
                    go_wp2
                    go_roundw
                    case rel => exact ⟨q + 1, by go_num, HLT.out, by first | exact HKN | (rw [show 2 + 3 * nOf l + 12 * (q + 1) = 2 + 3 * nOf l + 12 * q + 12 by omega]; exact HKN)⟩
                    case measure => rw [hwq]; exact meas10 HLT.out
              · have HNO : Hid (¬ OkL l) := Lib.hid (by intro h; apply hok; rw [List.length_drop]; have h1 := h.1; unfold endOf at h1; omega)
                have HNP : Hid (∀ W, Ext wr W → Calls Tryd.prog 97 #[.pointer (some ⟨gr, 0, none⟩)] W fun e w' => GaveUp e ∧ Chg (fun k => k = gr) w w') := Lib.hid fun W hxw => by
                  refine (rjob_any w0 W gr B (l.drop (2 + 3 * nOf l + 12 * q)) HL.out ((HLW.out _ hc).1.trans hxw) HG.out (hrr.ext hxw)).mono ?_
                  intro e w' hp
                  rcases hp with ⟨h1, -, -, -⟩ | ⟨-, h2, h3⟩
                  · exact absurd h1 hok
                  · exact ⟨h2, (hc.trans (Chg.of_ext hxw) (fun _ _ h => h)).trans h3 (fun _ _ h => h)⟩
                have c0 : wr.cell? ⟨w.heap.size + 1, 1, none⟩ = some vj := hsg.blk.cell 1
                clear hsg hF hrr hb2 hc hok HK
                have HNQ := Lib.hid (HNP.out wr.drew (Below.drewN' (Ext.refl _) 1))
                clear HNP
                go_wp2_with fail
                refine heldQ_begin (by kernel_rfl) ?_
                have hHeld0 : True := True.intro
                refine held_more (S' := fun (W : World) => W.cell? ⟨w.heap.size + 1, 1, none⟩ = some vj) (fun _ _ => True.intro) ?_
                have hHeld1 : (fun (W : World) => W.cell? ⟨w.heap.size + 1, 1, none⟩ = some vj) _ := c0
                clear hHeld0
                refine heldQ_take (i := 0) (v := ?_) rfl (by kernel_rfl) (by kernel_rfl) (by kernel_rfl) (fun _ _ _ h => h) (by rfl) (by first | assumption | exact True.intro) ?_ ?_
                rotate_left
                · (intro w hSw; (try dsimp only at hSw); go_simp; (try with_reducible rfl))
                try simp only [Act.put, List.setIfInBounds_toArray, List.set_cons_zero, List.set_cons_succ]
                refine heldQ_take (i := 1) (v := ?_) rfl (by kernel_rfl) (by kernel_rfl) (by kernel_rfl) (fun _ _ _ h => h) (by rfl) (by first | assumption | exact True.intro) ?_ ?_
                rotate_left
                · (intro w hSw; (try dsimp only at hSw); go_simp; (try with_reducible rfl))
                try simp only [Act.put, List.setIfInBounds_toArray, List.set_cons_zero, List.set_cons_succ]
                refine heldQ_take (i := 2) (v := ?_) rfl (by kernel_rfl) (by kernel_rfl) (by kernel_rfl) (fun _ _ _ h => h) (by rfl) (by first | assumption | exact True.intro) ?_ ?_
                rotate_left
                · (intro w hSw; (try dsimp only at hSw); go_simp; (try with_reducible rfl))
                try simp only [Act.put, List.setIfInBounds_toArray, List.set_cons_zero, List.set_cons_succ]
                refine heldQ_op (i := 3) (by kernel_rfl) rfl (fun K hK => ?_)
                go_simp
                go_at_call 97
                (with_reducible refine HNQ.out.mono ?_)
                rintro e6 w6 ⟨⟨T, pv, rfl⟩, hc6⟩
                go_wp2
                exact ⟨rfl, .inr ⟨HNO.out, ⟨_, _, rfl⟩, hc6⟩⟩
            · have d1 : decide ((q : Int) < ((mOf l : Nat) : Int)) = false := decide_eq_false (by omega)
              have d1' : decide (q < mOf l) = false := decide_eq_false hlt
              obtain rfl : q = mOf l := by omega
              obtain ⟨F, vn, vj, hsg, hF, hrr, hb2, hc⟩ := HK.out.out
              have hgl3 := hsg.lt
              have HS := Lib.hid hsg
              have HF := Lib.hid hF
              have HRR := Lib.hid hrr
              have HB2 := Lib.hid hb2
              have HC := Lib.hid hc
              clear hsg hF hrr hb2 hc HK hlt hq
              go_wp2_with fail
              refine (restNumbers_any (w.heap.size + 1) wr).mono ?_
              rintro e5 w5 ⟨f, rfl, hrf, hx5, hkf⟩
              have hs5 := HS.out.ext hx5
              have HFI := Lib.hid (fill_any w0 w5 gr B (w.heap.size + 1) 30 _ 2 4 (l.drop (2 + 3 * nOf l + 12 * mOf l)) f HL.out ((HLW.out _ HC.out).1.trans hx5) HG.out (by have := (HLW.out _ (Chg.refl _ w)).1.size; omega) (HRR.out.ext hx5) hrf (fun k hk => by have h1 := hkf k hk; have h3 := HGL.out; have h4 := HC.out.size; omega) hs5.blk (show 2 + 4 ≤ 6 by decide) (by have := HGL.out; omega) (by have := HGL.out; omega))
              have HS5 := Lib.hid hs5
              have HB5 := Lib.hid (HB2.out.ext hx5)
              have HC5 := Lib.hid (HC.out.trans (Chg.of_ext hx5) (fun _ _ h => h))
              have HZ5 : Hid (w.heap.size + 1 < w5.heap.size) := Lib.hid hs5.lt
              clear hrf hkf hx5 hs5 HS HB2 HRR HC hgl3
              go_wp2_with fail
              refine HFI.out.mono ?_
              intro e6 w6 hp
              rcases hp with ⟨hl, rfl, hr6, hb6, hc6, hz6⟩ | ⟨hl, ⟨T, pv, rfl⟩, hc6⟩
              · rw [List.length_drop] at hl
                have HOK : Hid (endOf l + 4 ≤ l.length) := Lib.hid (by unfold endOf; omega)
                have htk : (l.drop (2 + 3 * nOf l + 12 * mOf l)).take 4 = [at_ l (endOf l), at_ l (endOf l + 1), at_ l (endOf l + 2), at_ l (endOf l + 3)] := by have h4 := take_at l 4 (endOf l) (by have := HOK.out; omega); unfold endOf at h4 ⊢; rw [h4]; rfl
                rw [htk] at hb6
                have hcw : Chg (fun k => k = gr) w w6 := HC5.out.trans hc6 (fun z hz h => by rcases h with h | h; exact h; omega)
                have hsf : Sg F w6 (w.heap.size + 1) vn vj (stOf l) := by
                  have h1 := ObjF.chgRest HS5.out hc6 hb6 (fun k hk e => by have := HF.out k hk; have := HGL.out; rcases e with e | e; omega; exact e)
                  exact h1
                have hrr := hr6
                rw [List.drop_drop] at hrr
                have hb2 : Blk w6 w.heap.size 30 #[.slice none 0 0, .slice none 0 0, .int .i64 0, .int .i64 0, .int .i64 0, .int .i64 0] := (hc6.block _ HB5.out.lt (by have := HGL.out; omega)).trans HB5.out
                have HSF := Lib.hid hsf
                have HRF := Lib.hid hrr
                have HCW := Lib.hid hcw
                have HBF := Lib.hid hb2
                clear hl hr6 hb6 hc6 hz6 htk hcw hsf hrr hb2 HFI HS5 HB5 HC5
                obtain ⟨S, hS⟩ : ∃ S, S = stOf l := ⟨_, rfl⟩
                rw [← hS] at HSF
                have HSL := Lib.hid hS
                clear hS
                obtain ⟨An, cn, rfl⟩ := own_slice HSF.out.rowN
                obtain ⟨Aj, cj, rfl⟩ := own_slice HSF.out.rowJ
                have c0 : w6.cell? ⟨w.heap.size + 1, 0, none⟩ = some (.slice An S.nodes.length cn) := HSF.out.blk.cell 0
                have z0 : w6.cell? ⟨w.heap.size, 0, none⟩ = some (.slice none 0 0) := HBF.out.cell 0
                have f0 := HBF.out.frozen 0
                have c1 : w6.cell? ⟨w.heap.size + 1, 1, none⟩ = some (.slice Aj S.jobs.length cj) := HSF.out.blk.cell 1
                have z1 : w6.cell? ⟨w.heap.size, 1, none⟩ = some (.slice none 0 0) := HBF.out.cell 1
                have f1 := HBF.out.frozen 1
                have c2 : w6.cell? ⟨w.heap.size + 1, 2, none⟩ = some (.int .i64 S.goal) := HSF.out.blk.cell 2
                have z2 : w6.cell? ⟨w.heap.size, 2, none⟩ = some (.int .i64 0) := HBF.out.cell 2
                have f2 := HBF.out.frozen 2
                have c3 : w6.cell? ⟨w.heap.size + 1, 3, none⟩ = some (.int .i64 S.prior) := HSF.out.blk.cell 3
                have z3 : w6.cell? ⟨w.heap.size, 3, none⟩ = some (.int .i64 0) := HBF.out.cell 3
                have f3 := HBF.out.frozen 3
                have c4 : w6.cell? ⟨w.heap.size + 1, 4, none⟩ = some (.int .i64 S.mode) := HSF.out.blk.cell 4
                have z4 : w6.cell? ⟨w.heap.size, 4, none⟩ = some (.int .i64 0) := HBF.out.cell 4
                have f4 := HBF.out.frozen 4
                have c5 : w6.cell? ⟨w.heap.size + 1, 5, none⟩ = some (.int .i64 S.term) := HSF.out.blk.cell 5
                have z5 : w6.cell? ⟨w.heap.size, 5, none⟩ = some (.int .i64 0) := HBF.out.cell 5
                have f5 := HBF.out.frozen 5
                go_wp2
                have hq := PB.start HBF.out
                replace hq := hq.set 0 (.slice An S.nodes.length cn)
                replace hq := hq.set 1 (.slice Aj S.jobs.length cj)
                replace hq := hq.set 2 (.int .i64 S.goal)
                replace hq := hq.set 3 (.int .i64 S.prior)
                replace hq := hq.set 4 (.int .i64 S.mode)
                replace hq := hq.set 5 (.int .i64 S.term)
                simp only [List.setIfInBounds_toArray, List.set_cons_zero, List.set_cons_succ] at hq
                obtain ⟨wf, hwf⟩ : ∃ W, W = ((((((w6.setCell ⟨w.heap.size, 0, none⟩ (.slice An S.nodes.length cn)).setCell ⟨w.heap.size, 1, none⟩ (.slice Aj S.jobs.length cj)).setCell ⟨w.heap.size, 2, none⟩ (.int .i64 S.goal)).setCell ⟨w.heap.size, 3, none⟩ (.int .i64 S.prior)).setCell ⟨w.heap.size, 4, none⟩ (.int .i64 S.mode)).setCell ⟨w.heap.size, 5, none⟩ (.int .i64 S.term)) := ⟨_, rfl⟩
                rw [← hwf] at hq ⊢
                clear hwf
                have hc7 := PB.chg_ hq
                have hs7 : Sg F wf (w.heap.size + 1) _ _ S := ObjF.chg HSF.out hc7 (fun k hk e => by have := HF.out k hk; have e : k = w.heap.size := e; omega)
                exact bodyPost_ret (results_cell_row rfl _ _ w.heap.size 30 _ (0, 0) _ rfl hq.blk rfl rfl (by kernel_rfl)) rfl (.inl ⟨⟨HOK.out, HMK.out⟩, _, _, by rw [← HSL.out]; rfl, by rw [← HSL.out]; exact hs7.rd, fun k hk => Nat.le_of_lt (hs7.inF HF.out k hk), HRF.out.keep hc7 (by have := HGL.out; omega) (by have := HGL.out; omega), HCW.out.trans hc7 (fun x hx e => by have e : x = w.heap.size := e; omega)⟩)
              · have HCW : Hid (Chg (fun k => k = gr) w w6) := Lib.hid (HC5.out.trans hc6 (fun z hz h => by rcases h with h | h; exact h; omega))
                have HNO : Hid (¬ OkL l) := Lib.hid (by intro h; have h1 := h.1; rw [List.length_drop] at hl; unfold endOf at h1; omega)
                clear hl hc6 HFI
                go_wp2
                exact ⟨rfl, .inr ⟨HNO.out, ⟨_, _, rfl⟩, HCW.out⟩⟩

end Go.Proofs.YtddhbokknbmdfaaDoor

/- The reference of layer 9: the same states. -/
namespace Go.Proofs.YtddhbokknbmdfaaDoor
open Go.RowKit

theorem nd_cases (n m : Nd) : n = m ∨ (¬ n.up = m.up) ∨ (n.up = m.up ∧ ¬ n.cordon = m.cordon) ∨ (n.up = m.up ∧ n.cordon = m.cordon ∧ ¬ n.moving = m.moving) ∨ (n.up = m.up ∧ n.cordon = m.cordon ∧ n.moving = m.moving ∧ ¬ n.version = m.version) ∨ (n.up = m.up ∧ n.cordon = m.cordon ∧ n.moving = m.moving ∧ n.version = m.version ∧ ¬ n.job = m.job) := by
  by_cases e0 : n.up = m.up
  case neg => exact .inr (.inl e0)
  by_cases e1 : n.cordon = m.cordon
  case neg => exact .inr (.inr (.inl ⟨e0, e1⟩))
  by_cases e2 : n.moving = m.moving
  case neg => exact .inr (.inr (.inr (.inl ⟨e0, e1, e2⟩)))
  by_cases e3 : n.version = m.version
  case neg => exact .inr (.inr (.inr (.inr (.inl ⟨e0, e1, e2, e3⟩))))
  by_cases e4 : n.job = m.job
  case neg => exact .inr (.inr (.inr (.inr (.inr (⟨e0, e1, e2, e3, e4⟩)))))
  left
  cases n
  cases m
  simp_all
theorem jb_cases (n m : Jb) : n = m ∨ (¬ n.queue = m.queue) ∨ (n.queue = m.queue ∧ ¬ n.prio = m.prio) ∨ (n.queue = m.queue ∧ n.prio = m.prio ∧ ¬ n.least = m.least) ∨ (n.queue = m.queue ∧ n.prio = m.prio ∧ n.least = m.least ∧ ¬ n.most = m.most) ∨ (n.queue = m.queue ∧ n.prio = m.prio ∧ n.least = m.least ∧ n.most = m.most ∧ ¬ n.work = m.work) ∨ (n.queue = m.queue ∧ n.prio = m.prio ∧ n.least = m.least ∧ n.most = m.most ∧ n.work = m.work ∧ ¬ n.pin = m.pin) ∨ (n.queue = m.queue ∧ n.prio = m.prio ∧ n.least = m.least ∧ n.most = m.most ∧ n.work = m.work ∧ n.pin = m.pin ∧ ¬ n.phase = m.phase) ∨ (n.queue = m.queue ∧ n.prio = m.prio ∧ n.least = m.least ∧ n.most = m.most ∧ n.work = m.work ∧ n.pin = m.pin ∧ n.phase = m.phase ∧ ¬ n.inc = m.inc) ∨ (n.queue = m.queue ∧ n.prio = m.prio ∧ n.least = m.least ∧ n.most = m.most ∧ n.work = m.work ∧ n.pin = m.pin ∧ n.phase = m.phase ∧ n.inc = m.inc ∧ ¬ n.nodes = m.nodes) ∨ (n.queue = m.queue ∧ n.prio = m.prio ∧ n.least = m.least ∧ n.most = m.most ∧ n.work = m.work ∧ n.pin = m.pin ∧ n.phase = m.phase ∧ n.inc = m.inc ∧ n.nodes = m.nodes ∧ ¬ n.since = m.since) ∨ (n.queue = m.queue ∧ n.prio = m.prio ∧ n.least = m.least ∧ n.most = m.most ∧ n.work = m.work ∧ n.pin = m.pin ∧ n.phase = m.phase ∧ n.inc = m.inc ∧ n.nodes = m.nodes ∧ n.since = m.since ∧ ¬ n.til = m.til) ∨ (n.queue = m.queue ∧ n.prio = m.prio ∧ n.least = m.least ∧ n.most = m.most ∧ n.work = m.work ∧ n.pin = m.pin ∧ n.phase = m.phase ∧ n.inc = m.inc ∧ n.nodes = m.nodes ∧ n.since = m.since ∧ n.til = m.til ∧ ¬ n.epoch = m.epoch) := by
  by_cases e0 : n.queue = m.queue
  case neg => exact .inr (.inl e0)
  by_cases e1 : n.prio = m.prio
  case neg => exact .inr (.inr (.inl ⟨e0, e1⟩))
  by_cases e2 : n.least = m.least
  case neg => exact .inr (.inr (.inr (.inl ⟨e0, e1, e2⟩)))
  by_cases e3 : n.most = m.most
  case neg => exact .inr (.inr (.inr (.inr (.inl ⟨e0, e1, e2, e3⟩))))
  by_cases e4 : n.work = m.work
  case neg => exact .inr (.inr (.inr (.inr (.inr (.inl ⟨e0, e1, e2, e3, e4⟩)))))
  by_cases e5 : n.pin = m.pin
  case neg => exact .inr (.inr (.inr (.inr (.inr (.inr (.inl ⟨e0, e1, e2, e3, e4, e5⟩))))))
  by_cases e6 : n.phase = m.phase
  case neg => exact .inr (.inr (.inr (.inr (.inr (.inr (.inr (.inl ⟨e0, e1, e2, e3, e4, e5, e6⟩)))))))
  by_cases e7 : n.inc = m.inc
  case neg => exact .inr (.inr (.inr (.inr (.inr (.inr (.inr (.inr (.inl ⟨e0, e1, e2, e3, e4, e5, e6, e7⟩))))))))
  by_cases e8 : n.nodes = m.nodes
  case neg => exact .inr (.inr (.inr (.inr (.inr (.inr (.inr (.inr (.inr (.inl ⟨e0, e1, e2, e3, e4, e5, e6, e7, e8⟩)))))))))
  by_cases e9 : n.since = m.since
  case neg => exact .inr (.inr (.inr (.inr (.inr (.inr (.inr (.inr (.inr (.inr (.inl ⟨e0, e1, e2, e3, e4, e5, e6, e7, e8, e9⟩))))))))))
  by_cases e10 : n.til = m.til
  case neg => exact .inr (.inr (.inr (.inr (.inr (.inr (.inr (.inr (.inr (.inr (.inr (.inl ⟨e0, e1, e2, e3, e4, e5, e6, e7, e8, e9, e10⟩)))))))))))
  by_cases e11 : n.epoch = m.epoch
  case neg => exact .inr (.inr (.inr (.inr (.inr (.inr (.inr (.inr (.inr (.inr (.inr (.inr (⟨e0, e1, e2, e3, e4, e5, e6, e7, e8, e9, e10, e11⟩))))))))))))
  left
  cases n
  cases m
  simp_all
theorem St.ext_iff' {s s' : St} : s = s' ↔ s.nodes = s'.nodes ∧ s.jobs = s'.jobs ∧ s.goal = s'.goal ∧ s.prior = s'.prior ∧ s.mode = s'.mode ∧ s.term = s'.term := by
  obtain ⟨a, b, c, d, e, f⟩ := s
  obtain ⟨a', b', c', d', e', f'⟩ := s'
  simp

set_option maxRecDepth 100000 in
set_option maxHeartbeats 4000000 in
theorem Same09_any (vn vj un uj : Value) (s t : St) (w : World) (h : RdSt w vn vj s) (k : RdSt w un uj t) :
    Calls Tryd.prog 11 #[stV vn vj s, stV un uj t] w fun e w' => ∃ b, e = .returned (.bool b) ∧ (b = true ↔ s = t) ∧ Ext w w' := by
  have HE := Lib.hid (St.ext_iff' (s := s) (s' := t))
  have HX := Lib.hid fun c1 c2 => ext2 w 30 30 c1 c2
  obtain ⟨An, cn, rfl, hnc, hcm, hAn⟩ := has_cells h.nodes
  obtain ⟨Aj, cj, rfl, hjc, hjm, hAj⟩ := jobs_cells h.jobs
  obtain ⟨Bn, dn, rfl, hnd, hdm, hBn⟩ := has_cells k.nodes
  obtain ⟨Bj, dj, rfl, hjd, hjn, hBj⟩ := jobs_cells k.jobs
  have HAN := Lib.hid hAn
  have HAJ := Lib.hid hAj
  have HBN := Lib.hid hBn
  have HBJ := Lib.hid hBj
  unfold stV
  clear h k hAn hAj hBn hBj
  by_cases h1 : ¬ s.nodes.length = t.nodes.length
  · have HNO : Hid (¬ s = t) := Lib.hid fun e => h1 (by rw [e])
    have e1 : ((s.nodes.length : Int) != (t.nodes.length : Int)) = true := by rw [bne_iff_ne]; omega
    clear h1
    go_enter Tryd.func11, Tryd.ntmps11
    go_wp2
    go_ret
    exact ⟨false, rfl, ⟨(fun h => by cases h), fun h => absurd h HNO.out⟩, HX.out _ _⟩
  replace h1 := Classical.not_not.1 h1
  have e1 : ((s.nodes.length : Int) != (t.nodes.length : Int)) = false := by rw [h1]; exact bne_self_eq_false _
  by_cases h2 : ¬ s.jobs.length = t.jobs.length
  · have HNO : Hid (¬ s = t) := Lib.hid fun e => h2 (by rw [e])
    have e2 : ((s.jobs.length : Int) != (t.jobs.length : Int)) = true := by rw [bne_iff_ne]; omega
    clear h1 h2
    go_enter Tryd.func11, Tryd.ntmps11
    go_wp2
    go_ret
    exact ⟨false, rfl, ⟨(fun h => by cases h), fun h => absurd h HNO.out⟩, HX.out _ _⟩
  replace h2 := Classical.not_not.1 h2
  have e2 : ((s.jobs.length : Int) != (t.jobs.length : Int)) = false := by rw [h2]; exact bne_self_eq_false _
  by_cases h3 : ¬ s.goal = t.goal
  · have HNO : Hid (¬ s = t) := Lib.hid fun e => h3 (by rw [e])
    have e3 : (s.goal != t.goal) = true := by rw [bne_iff_ne]; exact h3
    clear h1 h2 h3
    go_enter Tryd.func11, Tryd.ntmps11
    go_wp2
    go_ret
    exact ⟨false, rfl, ⟨(fun h => by cases h), fun h => absurd h HNO.out⟩, HX.out _ _⟩
  replace h3 := Classical.not_not.1 h3
  have e3 : (s.goal != t.goal) = false := by rw [h3]; exact bne_self_eq_false _
  by_cases h4 : ¬ s.prior = t.prior
  · have HNO : Hid (¬ s = t) := Lib.hid fun e => h4 (by rw [e])
    have e4 : (s.prior != t.prior) = true := by rw [bne_iff_ne]; exact h4
    clear h1 h2 h3 h4
    go_enter Tryd.func11, Tryd.ntmps11
    go_wp2
    go_ret
    exact ⟨false, rfl, ⟨(fun h => by cases h), fun h => absurd h HNO.out⟩, HX.out _ _⟩
  replace h4 := Classical.not_not.1 h4
  have e4 : (s.prior != t.prior) = false := by rw [h4]; exact bne_self_eq_false _
  by_cases h5 : ¬ s.mode = t.mode
  · have HNO : Hid (¬ s = t) := Lib.hid fun e => h5 (by rw [e])
    have e5 : (s.mode != t.mode) = true := by rw [bne_iff_ne]; exact h5
    clear h1 h2 h3 h4 h5
    go_enter Tryd.func11, Tryd.ntmps11
    go_wp2
    go_ret
    exact ⟨false, rfl, ⟨(fun h => by cases h), fun h => absurd h HNO.out⟩, HX.out _ _⟩
  replace h5 := Classical.not_not.1 h5
  have e5 : (s.mode != t.mode) = false := by rw [h5]; exact bne_self_eq_false _
  by_cases h6 : ¬ s.term = t.term
  · have HNO : Hid (¬ s = t) := Lib.hid fun e => h6 (by rw [e])
    have e6 : (s.term != t.term) = true := by rw [bne_iff_ne]; exact h6
    clear h1 h2 h3 h4 h5 h6
    go_enter Tryd.func11, Tryd.ntmps11
    go_wp2
    go_ret
    exact ⟨false, rfl, ⟨(fun h => by cases h), fun h => absurd h HNO.out⟩, HX.out _ _⟩
  replace h6 := Classical.not_not.1 h6
  have e6 : (s.term != t.term) = false := by rw [h6]; exact bne_self_eq_false _
  have HEQ := Lib.hid (And.intro h3 (And.intro h4 (And.intro h5 h6)))
  have H1 := Lib.hid h1
  have H2 := Lib.hid h2
  clear h1 h2 h3 h4 h5 h6
  go_enter Tryd.func11, Tryd.ntmps11
  go_wp2_with fail
  clear e1 e2 e3 e4 e5 e6
  obtain ⟨W2, hW2⟩ : ∃ W2, W2 = (w.alloc (.cells #[.slice An s.nodes.length cn, .slice Aj s.jobs.length cj, .int .i64 s.goal, .int .i64 s.prior, .int .i64 s.mode, .int .i64 s.term] 30)).alloc (.cells #[.slice Bn t.nodes.length dn, .slice Bj t.jobs.length dj, .int .i64 t.goal, .int .i64 t.prior, .int .i64 t.mode, .int .i64 t.term] 30) := ⟨_, rfl⟩
  have hx : Ext w W2 := by rw [hW2]; exact ext2 w _ _ _ _
  have b0 : Blk W2 w.heap.size 30 #[.slice An s.nodes.length cn, .slice Aj s.jobs.length cj, .int .i64 s.goal, .int .i64 s.prior, .int .i64 s.mode, .int .i64 s.term] := by rw [hW2]; exact (Blk.new _ _ _).alloc _
  have b1 : Blk W2 (w.heap.size + 1) 30 #[.slice Bn t.nodes.length dn, .slice Bj t.jobs.length dj, .int .i64 t.goal, .int .i64 t.prior, .int .i64 t.mode, .int .i64 t.term] := by
    have := Blk.new (w.alloc (.cells #[.slice An s.nodes.length cn, .slice Aj s.jobs.length cj, .int .i64 s.goal, .int .i64 s.prior, .int .i64 s.mode, .int .i64 s.term] 30)) 30 #[.slice Bn t.nodes.length dn, .slice Bj t.jobs.length dj, .int .i64 t.goal, .int .i64 t.prior, .int .i64 t.mode, .int .i64 t.term]
    have e : (w.alloc (.cells #[.slice An s.nodes.length cn, .slice Aj s.jobs.length cj, .int .i64 s.goal, .int .i64 s.prior, .int .i64 s.mode, .int .i64 s.term] 30)).heap.size = w.heap.size + 1 := by simp
    rw [e] at this
    rw [hW2]
    exact this
  have HX2 := Lib.hid hx
  have HB0 := Lib.hid b0
  have HB1 := Lib.hid b1
  rw [← hW2]
  clear hW2 hx b0 b1 HX
  go_loopg [5] s.nodes.length (fun gg i wr => ∃ q : Nat, i = .int .i64 q ∧ q ≤ s.nodes.length ∧ gg = s.nodes.length - q ∧ Hid (Ext W2 wr ∧ ∀ (i : Nat) (n m : Nd), i < q → s.nodes[i]? = some n → t.nodes[i]? = some m → n = m))
  case atStart => exact ⟨0, rfl, Nat.zero_le _, by omega, Lib.hid ⟨Ext.refl _, fun i n m h => absurd h (Nat.not_lt_zero i)⟩⟩
  case round =>
    obtain ⟨q, rfl, hq, rfl, HR⟩ := hrel
    have s0 : wr.cell? ⟨w.heap.size, 0, none⟩ = some (.slice An s.nodes.length cn) := (HB0.out.ext HR.out.1).cell 0
    have s1 : wr.cell? ⟨w.heap.size, 1, none⟩ = some (.slice Aj s.jobs.length cj) := (HB0.out.ext HR.out.1).cell 1
    have t0 : wr.cell? ⟨w.heap.size + 1, 0, none⟩ = some (.slice Bn t.nodes.length dn) := (HB1.out.ext HR.out.1).cell 0
    by_cases hlt : q < s.nodes.length
    · have d1 : decide ((q : Int) < (s.nodes.length : Int)) = true := decide_eq_true (by omega)
      have d1' : decide (q < s.nodes.length) = true := decide_eq_true hlt
      have hlt2 : q < t.nodes.length := by have := H1.out; omega
      obtain ⟨n, hn⟩ : ∃ n, s.nodes[q]? = some n := ⟨_, List.getElem?_eq_getElem hlt⟩
      obtain ⟨m, hm⟩ : ∃ m, t.nodes[q]? = some m := ⟨_, List.getElem?_eq_getElem hlt2⟩
      obtain ⟨b, o, rfl, hb, hat⟩ := HAN.out q n hn
      obtain ⟨b', o', rfl, hb', hat'⟩ := HBN.out q m hm
      obtain ⟨c0, c1, c2, c3, c4⟩ := hat.ext (HX2.out.trans HR.out.1) hb
      obtain ⟨c0', c1', c2', c3', c4'⟩ := hat'.ext (HX2.out.trans HR.out.1) hb'
      have x1 : (0 : Int) ≤ (q : Int) ∧ (q : Int) < (s.nodes.length : Int) := by omega
      have x2 : (0 : Int) ≤ (q : Int) ∧ (q : Int) < (t.nodes.length : Int) := by omega
      have HNN := Lib.hid hn
      have HMM := Lib.hid hm
      have HLT := Lib.hid hlt
      have HXR := Lib.hid (HX2.out.trans HR.out.1)
      have HDIF : Hid (n ≠ m → ¬ s = t) := Lib.hid fun h e => h (by
        have h1 := HNN.out
        rw [e, HMM.out] at h1
        exact (Option.some.inj h1).symm)
      have HNX : Hid (n = m → ∀ (i : Nat) (x y : Nd), i < q + 1 → s.nodes[i]? = some x → t.nodes[i]? = some y → x = y) := Lib.hid fun e i x y hi hx hy => by
        rcases Nat.lt_or_ge i q with h' | h'
        · exact HR.out.2 i x y h' hx hy
        · obtain rfl : i = q := by omega
          rw [HNN.out] at hx
          rw [HMM.out] at hy
          cases hx
          cases hy
          exact e
      clear hn hm hat hat' hb hb'
      rcases nd_cases n m with rfl | hz | ⟨e0, hz⟩ | ⟨e0, e1, hz⟩ | ⟨e0, e1, e2, hz⟩ | ⟨e0, e1, e2, e3, hz⟩
      · have HNX2 := Lib.hid (HNX.out rfl)
        go_wp2_with fail
        go_quiet (fail)
        have HXQ := Lib.hid (Below.drewN' HR.out.1 nq)
        go_wp2
        go_roundg (s.nodes.length - (q + 1))
        case measure => have := HLT.out; omega
        case rel => exact ⟨q + 1, by go_num, HLT.out, rfl, Lib.hid ⟨HXQ.out, HNX2.out⟩⟩
      all_goals
        have HNO := Lib.hid (HDIF.out fun e => hz (by rw [e]))
        go_wp2_with fail
        go_quiet (fail)
        have HXQ := Lib.hid (Below.drewN' HXR.out nq)
        go_wp2
        go_ret
        exact ⟨false, rfl, ⟨(fun h => by cases h), fun h => absurd h HNO.out⟩, HXQ.out⟩
    · have d1 : decide ((q : Int) < (s.nodes.length : Int)) = false := decide_eq_false (by omega)
      have d1' : decide (q < s.nodes.length) = false := decide_eq_false hlt
      obtain rfl : q = s.nodes.length := by omega
      have HNODES : Hid (s.nodes = t.nodes) := Lib.hid (by
        apply List.ext_getElem?
        intro i
        by_cases hi : i < s.nodes.length
        · have h1 := List.getElem?_eq_getElem hi
          have h2 := List.getElem?_eq_getElem (l := t.nodes) (i := i) (by have := H1.out; omega)
          rw [h1, h2, HR.out.2 i _ _ hi h1 h2]
        · rw [List.getElem?_eq_none (by omega), List.getElem?_eq_none (by have := H1.out; omega)])
      have HXn := Lib.hid HR.out.1
      obtain ⟨wz, hwz⟩ : ∃ wz, wz = wr := ⟨_, rfl⟩
      go_wp2_with fail
      rw [← hwz]
      rw [← hwz] at HXn
      clear hwz s0 s1 t0 HR
      go_loopg [6] s.jobs.length (fun gg i wr => ∃ q : Nat, i = .int .i64 q ∧ q ≤ s.jobs.length ∧ gg = s.jobs.length - q ∧ Hid (Ext W2 wr ∧ ∀ (i : Nat) (n m : Jb), i < q → s.jobs[i]? = some n → t.jobs[i]? = some m → n = m))
      case atStart => exact ⟨0, rfl, Nat.zero_le _, by omega, Lib.hid ⟨HXn.out, fun i n m h => absurd h (Nat.not_lt_zero i)⟩⟩
      case round =>
        obtain ⟨q, rfl, hq, rfl, HR⟩ := hrel
        have s1 : wr.cell? ⟨w.heap.size, 1, none⟩ = some (.slice Aj s.jobs.length cj) := (HB0.out.ext HR.out.1).cell 1
        have t1 : wr.cell? ⟨w.heap.size + 1, 1, none⟩ = some (.slice Bj t.jobs.length dj) := (HB1.out.ext HR.out.1).cell 1
        by_cases hlt : q < s.jobs.length
        · have d1 : decide ((q : Int) < (s.jobs.length : Int)) = true := decide_eq_true (by omega)
          have d1' : decide (q < s.jobs.length) = true := decide_eq_true hlt
          have hlt2 : q < t.jobs.length := by have := H2.out; omega
          obtain ⟨n, hn⟩ : ∃ n, s.jobs[q]? = some n := ⟨_, List.getElem?_eq_getElem hlt⟩
          obtain ⟨m, hm⟩ : ∃ m, t.jobs[q]? = some m := ⟨_, List.getElem?_eq_getElem hlt2⟩
          obtain ⟨b, o, rfl, hb, hat⟩ := HAJ.out q n hn
          obtain ⟨b', o', rfl, hb', hat'⟩ := HBJ.out q m hm
          obtain ⟨c0, c1, c2, c3, c4, c5, c6, c7, c8, c9, c10, c11⟩ := hat.ext (HX2.out.trans HR.out.1) hb
          obtain ⟨c0', c1', c2', c3', c4', c5', c6', c7', c8', c9', c10', c11'⟩ := hat'.ext (HX2.out.trans HR.out.1) hb'
          have x1 : (0 : Int) ≤ (q : Int) ∧ (q : Int) < (s.jobs.length : Int) := by omega
          have x2 : (0 : Int) ≤ (q : Int) ∧ (q : Int) < (t.jobs.length : Int) := by omega
          have HNN := Lib.hid hn
          have HMM := Lib.hid hm
          have HLT := Lib.hid hlt
          have HXR := Lib.hid (HX2.out.trans HR.out.1)
          have HDIF : Hid (n ≠ m → ¬ s = t) := Lib.hid fun h e => h (by
            have h1 := HNN.out
            rw [e, HMM.out] at h1
            exact (Option.some.inj h1).symm)
          have HNX : Hid (n = m → ∀ (i : Nat) (x y : Jb), i < q + 1 → s.jobs[i]? = some x → t.jobs[i]? = some y → x = y) := Lib.hid fun e i x y hi hx hy => by
            rcases Nat.lt_or_ge i q with h' | h'
            · exact HR.out.2 i x y h' hx hy
            · obtain rfl : i = q := by omega
              rw [HNN.out] at hx
              rw [HMM.out] at hy
              cases hx
              cases hy
              exact e
          clear hn hm hat hat' hb hb'
          rcases jb_cases n m with rfl | hz | ⟨e0, hz⟩ | ⟨e0, e1, hz⟩ | ⟨e0, e1, e2, hz⟩ | ⟨e0, e1, e2, e3, hz⟩ | ⟨e0, e1, e2, e3, e4, hz⟩ | ⟨e0, e1, e2, e3, e4, e5, hz⟩ | ⟨e0, e1, e2, e3, e4, e5, e6, hz⟩ | ⟨e0, e1, e2, e3, e4, e5, e6, e7, hz⟩ | ⟨e0, e1, e2, e3, e4, e5, e6, e7, e8, hz⟩ | ⟨e0, e1, e2, e3, e4, e5, e6, e7, e8, e9, hz⟩ | ⟨e0, e1, e2, e3, e4, e5, e6, e7, e8, e9, e10, hz⟩
          · have HNX2 := Lib.hid (HNX.out rfl)
            go_wp2_with fail
            go_quiet (fail)
            have HXQ := Lib.hid (Below.drewN' HR.out.1 nq)
            go_wp2
            go_roundg (s.jobs.length - (q + 1))
            case measure => have := HLT.out; omega
            case rel => exact ⟨q + 1, by go_num, HLT.out, rfl, Lib.hid ⟨HXQ.out, HNX2.out⟩⟩
          all_goals
            have HNO := Lib.hid (HDIF.out fun e => hz (by rw [e]))
            go_wp2_with fail
            go_quiet (fail)
            have HXQ := Lib.hid (Below.drewN' HXR.out nq)
            go_wp2
            go_ret
            exact ⟨false, rfl, ⟨(fun h => by cases h), fun h => absurd h HNO.out⟩, HXQ.out⟩
        · have d1 : decide ((q : Int) < (s.jobs.length : Int)) = false := decide_eq_false (by omega)
          have d1' : decide (q < s.jobs.length) = false := decide_eq_false hlt
          obtain rfl : q = s.jobs.length := by omega
          have HJOBS : Hid (s.jobs = t.jobs) := Lib.hid (by
            apply List.ext_getElem?
            intro i
            by_cases hi : i < s.jobs.length
            · have h1 := List.getElem?_eq_getElem hi
              have h2 := List.getElem?_eq_getElem (l := t.jobs) (i := i) (by have := H2.out; omega)
              rw [h1, h2, HR.out.2 i _ _ hi h1 h2]
            · rw [List.getElem?_eq_none (by omega), List.getElem?_eq_none (by have := H2.out; omega)])
          have HSAME : Hid (s = t) := Lib.hid (HE.out.2 ⟨HNODES.out, HJOBS.out, HEQ.out⟩)
          have HXR := Lib.hid (HX2.out.trans HR.out.1)
          go_wp2
          go_ret
          exact ⟨true, rfl, ⟨fun _ => HSAME.out, fun _ => rfl⟩, HXR.out⟩

end Go.Proofs.YtddhbokknbmdfaaDoor
