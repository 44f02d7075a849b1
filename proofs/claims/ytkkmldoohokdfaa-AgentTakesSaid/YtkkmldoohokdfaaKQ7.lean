/- Texts that the proof of K rests on, one behind the other. -/
import Derived.Test.YtkkmldoohokdfaaKQ6
import Derived.BigQuiet
import Derived.StillTailTactics
import Derived.Deep.RegionHeld3

/- Package net: Get. -/
namespace Go.Proofs.Ytkkmldoohokdfaa
open Go.RowKit

def getA (r : Option Ms) : Value := match r with | some m => .tuple #[msV m, .bool true] | none => .tuple #[msV zMs, .bool false]
theorem getM_n1 {b : List UInt8} (h : (getF b 0).2.2 ≠ 1) : getM b = none := by unfold getM; rw [if_neg (fun hc => h hc.1)]
theorem getM_n2 {b : List UInt8} (h : (getF b 0).2.1 ≠ (b.length : Int)) : getM b = none := by unfold getM; rw [if_neg (fun hc => h hc.2)]
theorem getM_n3 {b : List UInt8} (h : listAt (getF b 0).1 0 11 = none) : getM b = none := by
  unfold getM
  rw [h]
  split <;> rfl
theorem getM_n4 {b : List UInt8} {l : List Nat} {q : Nat} (h : listAt (getF b 0).1 0 11 = some (l, q)) (hq : ¬ (q = (getF b 0).1.length ∧ l.length = 11)) : getM b = none := by
  unfold getM
  rw [h]
  split
  · simp only
    rw [if_neg (fun hc => hq ⟨hc.1, hc.2.1⟩)]
  · rfl
theorem getM_y {b : List UInt8} {l : List Nat} {q : Nat} (h1 : (getF b 0).2.2 = 1) (h2 : (getF b 0).2.1 = (b.length : Int)) (h : listAt (getF b 0).1 0 11 = some (l, q)) (hq : q = (getF b 0).1.length ∧ l.length = 11) :
    getM b = if rightM (ofL (l.map fun (n : Nat) => (n : Int))) = true then some (ofL (l.map fun (n : Nat) => (n : Int))) else none := by
  unfold getM
  rw [if_pos ⟨h1, h2⟩, h]
  simp only [hq, true_and]
/-- A message's cells, of which the first k are read. -/
def partA (L : List Int) (k : Nat) : Array Value := ((L.take k ++ List.replicate (11 - k) 0).map I).toArray
theorem partA_next {L : List Int} {k : Nat} {n : Int} (hk : k < 11) (hn : L[k]? = some n) : (partA L k).setIfInBounds k (.int .i64 n) = partA L (k + 1) := by
  have hlen : k < L.length := (List.getElem?_eq_some_iff.1 hn).1
  have h1 : (L.take k).length = k := by rw [List.length_take]; omega
  unfold partA
  rw [List.setIfInBounds_toArray, show Value.int .i64 n = I n from rfl, ← List.map_set, show 11 - k = (11 - (k + 1)) + 1 by omega, List.replicate_succ, List.set_append, if_neg (by omega), h1, Nat.sub_self, List.set_cons_zero, List.take_add_one, hn]
  simp
theorem partA_size {L : List Int} {k : Nat} (h : L.length = 11) (hk : k ≤ 11) : (partA L k).size = 11 := by
  unfold partA
  simp only [List.size_toArray, List.length_map, List.length_append, List.length_take, List.length_replicate]
  omega
theorem partA_full {L : List Int} (h : L.length = 11) : partA L 11 = #[I (ofL L).node, I (ofL L).kind, I (ofL L).term, I (ofL L).gen, I (ofL L).job, I (ofL L).inc, I (ofL L).ver, I (ofL L).epoch, I (ofL L).til, I (ofL L).mode, I (ofL L).work] := by
  match L, h with
  | [a, b, c, d, e, f, g, h, i, j, k], _ => rfl

theorem results_ct {fn : Func} {p u : Tmp} {t : TypeId} (h : fn.results = #[.cell p t, .tmp u]) (tmps : Array Value) (P : Program) (w : World) :
    (results fn tmps).run P w = ((asAddr (tmps.getD p undef)).run P w).andThen fun a w₁ => ((loadVar t a).run P w₁).andThen fun v w₂ => .ok (.tuple #[v, tmps.getD u undef]) w₂ := by
  simp only [results, h]
  simp [Sem.run_bind, Result.andThen]
set_option maxRecDepth 100000 in
theorem infoM12 : (Try.prog.info? 49).map (·.size) = some 11 := by kernel_rfl
set_option maxRecDepth 100000 in
theorem run_ct {fn : Func} (h : fn.results = #[.cell 2 49, .tmp 3]) {tmps : Array Value} {w : World} {g : Nat} {cs : Array Value} {b : Bool}
    (h2 : tmps.getD 2 undef = .pointer (some ⟨g, 0, none⟩)) (h3 : tmps.getD 3 undef = .bool b) (hb : Blk w g 49 cs) (hs : cs.size = 11) : (results fn tmps).run Try.prog w = .ok (.tuple #[.agg cs, .bool b]) w := by
  have i1 : (Try.prog.info? 49).map (·.size) = some cs.size := by rw [hs]; exact infoM12
  rw [results_ct h, h2, h3]
  simp only [asAddr, Sem.run_pure, Result.andThen_ok, run_loadVar_row w g 49 49 _ (0, 0) _ hb rfl rfl i1]

set_option maxRecDepth 100000 in
set_option maxHeartbeats 4000000 in
theorem Get12_any (bs : List UInt8) (v : Value) (w : World) (hr : Rd w v (bs.map B)) : Calls Try.prog 27 #[v] w fun e w' => e = .returned (getA (getM bs)) ∧ Ext w w' := by
  obtain ⟨Av, cv, rfl, hle, hcm⟩ := hr.sliceN (List.length_map _)
  obtain ⟨W, hW⟩ : ∃ W, W = w.alloc (.cells #[.int .i64 0, .int .i64 0, .int .i64 0, .int .i64 0, .int .i64 0, .int .i64 0, .int .i64 0, .int .i64 0, .int .i64 0, .int .i64 0, .int .i64 0] 49) := ⟨_, rfl⟩
  have HB := Lib.hid (show Blk W w.heap.size 49 #[.int .i64 0, .int .i64 0, .int .i64 0, .int .i64 0, .int .i64 0, .int .i64 0, .int .i64 0, .int .i64 0, .int .i64 0, .int .i64 0, .int .i64 0] by rw [hW]; exact Blk.new _ _ _)
  have HI : Hid ((Try.prog.info? 49).map (·.size) = some (#[.int .i64 0, .int .i64 0, .int .i64 0, .int .i64 0, .int .i64 0, .int .i64 0, .int .i64 0, .int .i64 0, .int .i64 0, .int .i64 0, .int .i64 0] : Array Value).size) := Lib.hid infoM12
  have HO : Hid ((#[.int .i64 0, .int .i64 0, .int .i64 0, .int .i64 0, .int .i64 0, .int .i64 0, .int .i64 0, .int .i64 0, .int .i64 0, .int .i64 0, .int .i64 0] : Array Value).all (·.oneCell') = true) := Lib.hid (by simp [Value.oneCell'])
  have HXW := Lib.hid (show Ext w W by rw [hW]; exact Ext.alloc_ _ _)
  have HFG := Lib.hid (FrameGet_rdF bs _ 0 W (hr.ext HXW.out))
  go_enter Try.func27, Try.ntmps27
  go_wp2_with fail
  rw [← hW]
  clear hW
  refine HFG.out.mono ?_
  rintro e1 w1 ⟨v1, rfl, hf1, hx1⟩
  have HX := Lib.hid (HXW.out.trans hx1)
  replace HB := Lib.hid (HB.out.ext hx1)
  obtain ⟨p, hp⟩ : ∃ p, p = (getF bs 0).1 := ⟨_, rfl⟩
  obtain ⟨ee, he⟩ : ∃ p, p = (getF bs 0).2.1 := ⟨_, rfl⟩
  obtain ⟨kk, hkk⟩ : ∃ p, p = (getF bs 0).2.2 := ⟨_, rfl⟩
  have hpl : p.length ≤ 4000 := by
    rw [hp]
    rcases getF_cases bs 0 with ⟨_, _, h3, _⟩ | ⟨h1, _⟩
    · exact (frameAt_some h3).1.2
    · rw [h1]; exact Nat.zero_le _
  rw [← hp] at hf1
  rw [← he, ← hkk]
  have HP := Lib.hid hp
  have HE := Lib.hid he
  have HK := Lib.hid hkk
  have HR1 := Lib.hid hf1.rd
  obtain ⟨A1, c1, rfl, hlc, hlm⟩ := hf1.rd.sliceN (List.length_map _)
  have HPL := Lib.hid hpl
  clear hp he hkk hf1 hx1 HFG hpl
  by_cases q1 : kk = 1
  · subst q1
    by_cases q2 : ee = (bs.length : Int)
    · have HE2 := Lib.hid q2
      have d2 : (ee != (bs.length : Int)) = false := by rw [q2]; simp
      clear q2
      have HGL := Lib.hid (GetList_any p _ 0 11 w1 HR1.out (by decide) (by have := HPL.out; omega))
      go_wp2_with fail
      refine HGL.out.mono ?_
      intro e2 w2 hp2
      rcases hla : listAt p 0 11 with _ | ⟨l, q⟩
      · rw [hla] at hp2
        obtain ⟨rfl, hx2⟩ := hp2
        have HF : Hid (getM bs = none) := Lib.hid (getM_n3 (by rw [← HP.out]; exact hla))
        replace HX := Lib.hid (HX.out.trans hx2)
        replace HB := Lib.hid (HB.out.ext hx2)
        clear hx2 hla d2 HGL
        go_wp2_with (refine wpList_storeB rfl 49 _ _ rfl w.heap.size #[.int .i64 0, .int .i64 0, .int .i64 0, .int .i64 0, .int .i64 0, .int .i64 0, .int .i64 0, .int .i64 0, .int .i64 0, .int .i64 0, .int .i64 0] rfl rfl 49 _ HB.out HI.out rfl HO.out w.heap.size w HX.out (Nat.le_refl _) ?_; intro w5 hb5 hx5)
        exact bodyPost_ret (run_ct rfl rfl rfl hb5 rfl) rfl ⟨by rw [HF.out]; rfl, hx5⟩
      · rw [hla] at hp2
        obtain ⟨v2, rfl, ho2, hx2⟩ := hp2
        replace HB := Lib.hid (HB.out.ext hx2)
        replace HX := Lib.hid (HX.out.trans hx2)
        have HRL := Lib.hid (Rd.own ho2)
        have HLA := Lib.hid (show listAt (getF bs 0).1 0 11 = some (l, q) by rw [← HP.out]; exact hla)
        obtain ⟨A2, c2, rfl, hlc2, hlm2⟩ := HRL.out.sliceN (List.length_map _)
        clear hx2 hla d2 HGL ho2
        by_cases q3 : q = p.length
        · have d3 : ((q : Int) != (p.length : Int)) = false := by rw [q3]; simp
          by_cases q4 : l.length = 11
          · have d4 : ((l.length : Int) != 11) = false := by rw [q4]; rfl
            have HQ := Lib.hid (And.intro (show q = (getF bs 0).1.length by rw [← HP.out]; exact q3) q4)
            have HGM := Lib.hid (getM_y (HK.out.symm) (HE.out.symm.trans HE2.out) HLA.out HQ.out)
            clear q3 q4
            obtain ⟨L, hL⟩ : ∃ L : List Int, L = l.map fun (n : Nat) => (n : Int) := ⟨_, rfl⟩
            rw [← hL] at HGM
            have HL := Lib.hid hL
            have HLN : Hid (L.length = 11) := Lib.hid (by rw [hL, List.length_map]; exact HQ.out.2)
            clear hL
            obtain ⟨b2, o2, rfl, hb2, hc2⟩ := HRL.out.get (by rw [List.length_map, HQ.out.2]; decide)
            have HC2 := Lib.hid hc2
            clear hc2 hb2
            obtain ⟨W3, hW3⟩ : ∃ W3, W3 = w2.alloc (.cells #[.int .i64 0, .int .i64 0, .int .i64 0, .int .i64 0, .int .i64 0, .int .i64 0, .int .i64 0, .int .i64 0, .int .i64 0, .int .i64 0, .int .i64 0] 49) := ⟨_, rfl⟩
            have HB3 := Lib.hid (show Blk W3 w2.heap.size 49 #[.int .i64 0, .int .i64 0, .int .i64 0, .int .i64 0, .int .i64 0, .int .i64 0, .int .i64 0, .int .i64 0, .int .i64 0, .int .i64 0, .int .i64 0] by rw [hW3]; exact Blk.new _ _ _)
            have HX3 := Lib.hid (show Ext w2 W3 by rw [hW3]; exact Ext.alloc_ _ _)
            have HN := Lib.hid (numbers_any w2.heap.size W3)
            go_upto_region 8 with (fail)
            rw [← hW3]
            clear hW3
            go_wp2_with fail
            refine HN.out.mono ?_
            rintro e3 w3 ⟨rfl, hx3⟩
            replace HX3 := Lib.hid (HX3.out.trans hx3)
            replace HB3 := Lib.hid (HB3.out.ext hx3)
            clear hx3 HN
            have HS : Hid (WB w3 w2.heap.size 49 w3 (partA L 0)) := Lib.hid (WB.start HB3.out)
            go_wp2_with fail
            go_loopw [49] (fun i wr => ∃ k : Nat, i = .int .i64 k ∧ k ≤ 11 ∧ Hid (WB w3 w2.heap.size 49 wr (partA L k))) (fun i _ => 11 - (intOf i).toNat)
            case atStart => exact ⟨0, rfl, Nat.zero_le _, HS⟩
            case round =>
              obtain ⟨k, rfl, hk, HKK⟩ := hrel
              have HXR : Hid (Ext w2 wr) := Lib.hid (HKK.out.ext HX3.out (Nat.le_refl _))
              by_cases hlt : k < 11
              · have e1 : decide ((k : Int) < 11) = true := decide_eq_true (by omega)
                have e1' : decide (k < 11) = true := decide_eq_true hlt
                obtain ⟨n, hn⟩ : ∃ n, l[k]? = some n := ⟨_, List.getElem?_eq_getElem (by rw [HQ.out.2]; exact hlt)⟩
                have cl : wr.cell? ⟨b2, o2 + k, none⟩ = some (.int .i64 (n : Int)) := by
                  have h := HRL.out.ext HXR.out
                  obtain ⟨b', o', e', -, hc'⟩ := h.get (by rw [List.length_map, HQ.out.2]; decide)
                  cases e'
                  exact hc' k _ (by rw [List.getElem?_map, hn]; rfl)
                have hLn : L[k]? = some (n : Int) := by rw [HL.out, List.getElem?_map, hn]; rfl
                have HPN := Lib.hid (partA_next hlt hLn)
                have HLT := Lib.hid hlt
                have hix := ptrA_index w2.heap.size hlt wr
                obtain ⟨u, hu⟩ : ∃ u, wr.cell? ⟨w2.heap.size, k, none⟩ = some u := by
                  rw [HKK.out.blk.cell k]
                  exact ⟨_, Array.getElem?_eq_getElem (by rw [partA_size HLN.out hk]; exact hlt)⟩
                have hfz := HKK.out.blk.frozen k
                have x1 : (0 : Int) ≤ (k : Int) ∧ (k : Int) < (l.length : Int) := by have := HLT.out; have := HQ.out.2; omega
                have hwq : wrap64 ((k : Int) + 1) = (k : Int) + 1 := IntWalk.wrap64_in _ (by omega)
                clear hn hLn hlt
                go_wp2
                go_roundw
                case rel => exact ⟨k + 1, by go_num, HLT.out, Lib.hid (by rw [← HPN.out]; exact HKK.out.set k _)⟩
                case measure => simp [intOf]; have := HLT.out; omega
              · obtain rfl : k = 11 := by omega
                have e1 : decide ((11 : Int) < 11) = false := by decide
                have HM : Hid (MsAt wr w2.heap.size (ofL L)) := Lib.hid ⟨by have h := HKK.out.blk; rw [partA_full HLN.out] at h; exact h⟩
                replace HB := Lib.hid (HB.out.ext HXR.out)
                replace HX := Lib.hid (HX.out.trans HXR.out)
                obtain ⟨M, hM⟩ : ∃ M, M = ofL L := ⟨_, rfl⟩
                have HGM2 : Hid (getM bs = if rightM M = true then some M else none) := Lib.hid (by rw [hM]; exact HGM.out)
                rw [← hM] at HM
                have HRT := Lib.hid (Right12_any M wr)
                unfold msV at HRT
                clear hM hk hlt HKK HGM
                obtain ⟨m0, m1, m2, m3, m4, m5, m6, m7, m8, m9, m10⟩ := HM.out.cells
                cases hr : rightM M with
                | false =>
                  rw [hr] at HRT
                  have HF : Hid (getM bs = none) := Lib.hid (by rw [HGM2.out, hr]; rfl)
                  clear hr
                  go_wp2_with fail
                  refine HRT.out.mono ?_
                  rintro e4 w4 ⟨rfl, hx4⟩
                  clear m0 m1 m2 m3 m4 m5 m6 m7 m8 m9 m10
                  replace HX := Lib.hid (HX.out.trans hx4)
                  replace HB := Lib.hid (HB.out.ext hx4)
                  replace HM := Lib.hid (HM.out.ext hx4)
                  clear hx4 HRT
                  go_wp2_with (refine wpList_storeB rfl 49 _ _ rfl w.heap.size #[.int .i64 0, .int .i64 0, .int .i64 0, .int .i64 0, .int .i64 0, .int .i64 0, .int .i64 0, .int .i64 0, .int .i64 0, .int .i64 0, .int .i64 0] rfl rfl 49 _ HB.out HI.out rfl HO.out w.heap.size w HX.out (Nat.le_refl _) ?_; intro w5 hb5 hx5)
                  exact bodyPost_ret (run_ct rfl rfl rfl hb5 rfl) rfl ⟨by rw [HF.out]; rfl, hx5⟩
                | true =>
                  rw [hr] at HRT
                  have HF : Hid (getM bs = some M) := Lib.hid (by rw [HGM2.out, hr]; rfl)
                  clear hr
                  go_wp2_with fail
                  refine HRT.out.mono ?_
                  rintro e4 w4 ⟨rfl, hx4⟩
                  clear m0 m1 m2 m3 m4 m5 m6 m7 m8 m9 m10
                  replace HX := Lib.hid (HX.out.trans hx4)
                  replace HB := Lib.hid (HB.out.ext hx4)
                  replace HM := Lib.hid (HM.out.ext hx4)
                  clear hx4 HRT
                  have HI2 : Hid ((Try.prog.info? 49).map (·.size) = some (#[.int .i64 M.node, .int .i64 M.kind, .int .i64 M.term, .int .i64 M.gen, .int .i64 M.job, .int .i64 M.inc, .int .i64 M.ver, .int .i64 M.epoch, .int .i64 M.til, .int .i64 M.mode, .int .i64 M.work] : Array Value).size) := Lib.hid infoM12
                  have HO2 : Hid ((#[.int .i64 M.node, .int .i64 M.kind, .int .i64 M.term, .int .i64 M.gen, .int .i64 M.job, .int .i64 M.inc, .int .i64 M.ver, .int .i64 M.epoch, .int .i64 M.til, .int .i64 M.mode, .int .i64 M.work] : Array Value).all (·.oneCell') = true) := Lib.hid (by simp [Value.oneCell'])
                  obtain ⟨m0, m1, m2, m3, m4, m5, m6, m7, m8, m9, m10⟩ := HM.out.cells
                  go_wp2_with (refine wpList_storeB rfl 49 _ _ rfl w.heap.size #[.int .i64 M.node, .int .i64 M.kind, .int .i64 M.term, .int .i64 M.gen, .int .i64 M.job, .int .i64 M.inc, .int .i64 M.ver, .int .i64 M.epoch, .int .i64 M.til, .int .i64 M.mode, .int .i64 M.work] rfl rfl 49 _ HB.out HI2.out rfl HO2.out w.heap.size w HX.out (Nat.le_refl _) ?_; intro w5 hb5 hx5)
                  exact bodyPost_ret (run_ct rfl rfl rfl hb5 rfl) rfl ⟨by rw [HF.out]; rfl, hx5⟩
          have d4 : ((l.length : Int) != 11) = true := by simp only [bne_iff_ne]; omega
          have HF : Hid (getM bs = none) := Lib.hid (getM_n4 HLA.out (fun h => q4 h.2))
          clear q3 q4
          go_wp2_with (refine wpList_storeB rfl 49 _ _ rfl w.heap.size #[.int .i64 0, .int .i64 0, .int .i64 0, .int .i64 0, .int .i64 0, .int .i64 0, .int .i64 0, .int .i64 0, .int .i64 0, .int .i64 0, .int .i64 0] rfl rfl 49 _ HB.out HI.out rfl HO.out w.heap.size w HX.out (Nat.le_refl _) ?_; intro w5 hb5 hx5)
          exact bodyPost_ret (run_ct rfl rfl rfl hb5 rfl) rfl ⟨by rw [HF.out]; rfl, hx5⟩
        have d3 : ((q : Int) != (p.length : Int)) = true := by simp only [bne_iff_ne]; omega
        have HF : Hid (getM bs = none) := Lib.hid (getM_n4 HLA.out (fun h => q3 (by rw [HP.out]; exact h.1)))
        clear q3
        go_wp2_with (refine wpList_storeB rfl 49 _ _ rfl w.heap.size #[.int .i64 0, .int .i64 0, .int .i64 0, .int .i64 0, .int .i64 0, .int .i64 0, .int .i64 0, .int .i64 0, .int .i64 0, .int .i64 0, .int .i64 0] rfl rfl 49 _ HB.out HI.out rfl HO.out w.heap.size w HX.out (Nat.le_refl _) ?_; intro w5 hb5 hx5)
        exact bodyPost_ret (run_ct rfl rfl rfl hb5 rfl) rfl ⟨by rw [HF.out]; rfl, hx5⟩
    have d2 : (ee != (bs.length : Int)) = true := by simp only [bne_iff_ne]; exact q2
    have HF : Hid (getM bs = none) := Lib.hid (getM_n2 (by rw [← HE.out]; exact q2))
    clear q2
    go_wp2_with (refine wpList_storeB rfl 49 _ _ rfl w.heap.size #[.int .i64 0, .int .i64 0, .int .i64 0, .int .i64 0, .int .i64 0, .int .i64 0, .int .i64 0, .int .i64 0, .int .i64 0, .int .i64 0, .int .i64 0] rfl rfl 49 _ HB.out HI.out rfl HO.out w.heap.size w HX.out (Nat.le_refl _) ?_; intro w5 hb5 hx5)
    exact bodyPost_ret (run_ct rfl rfl rfl hb5 rfl) rfl ⟨by rw [HF.out]; rfl, hx5⟩
  have d1 : (kk != 1) = true := by simp only [bne_iff_ne]; exact q1
  have HF : Hid (getM bs = none) := Lib.hid (getM_n1 (by rw [← HK.out]; exact q1))
  clear q1
  go_wp2_with (refine wpList_storeB rfl 49 _ _ rfl w.heap.size #[.int .i64 0, .int .i64 0, .int .i64 0, .int .i64 0, .int .i64 0, .int .i64 0, .int .i64 0, .int .i64 0, .int .i64 0, .int .i64 0, .int .i64 0] rfl rfl 49 _ HB.out HI.out rfl HO.out w.heap.size w HX.out (Nat.le_refl _) ?_; intro w5 hb5 hx5)
  exact bodyPost_ret (run_ct rfl rfl rfl hb5 rfl) rfl ⟨by rw [HF.out]; rfl, hx5⟩

end Go.Proofs.Ytkkmldoohokdfaa

/- The reference's Loose, Tell, as Take uses them. -/
namespace Go.Proofs.Ytkkmldoohokdfaa
open Go.RowKit

theorem three_new (w : World) (c1 c2 c3 : Array Value) (T1 T2 T3 : TypeId) : Blk (((w.alloc (.cells c1 T1)).alloc (.cells c2 T2)).alloc (.cells c3 T3)) w.heap.size T1 c1 ∧ Blk (((w.alloc (.cells c1 T1)).alloc (.cells c2 T2)).alloc (.cells c3 T3)) (w.heap.size + 1) T2 c2 ∧ Blk (((w.alloc (.cells c1 T1)).alloc (.cells c2 T2)).alloc (.cells c3 T3)) (w.heap.size + 1 + 1) T3 c3 ∧ Ext w (((w.alloc (.cells c1 T1)).alloc (.cells c2 T2)).alloc (.cells c3 T3)) := by
  obtain ⟨h1, h2, hx⟩ := two_new w c1 c2 T1 T2
  have h := Blk.new ((w.alloc (.cells c1 T1)).alloc (.cells c2 T2)) T3 c3
  rw [show ((w.alloc (.cells c1 T1)).alloc (.cells c2 T2)).heap.size = w.heap.size + 1 + 1 by simp] at h
  exact ⟨h1.alloc _, h2.alloc _, h, hx.trans (Ext.alloc_ _ _)⟩
theorem four_new (w : World) (c1 c2 c3 c4 : Array Value) (T1 T2 T3 T4 : TypeId) : Blk ((((w.alloc (.cells c1 T1)).alloc (.cells c2 T2)).alloc (.cells c3 T3)).alloc (.cells c4 T4)) w.heap.size T1 c1 ∧ Blk ((((w.alloc (.cells c1 T1)).alloc (.cells c2 T2)).alloc (.cells c3 T3)).alloc (.cells c4 T4)) (w.heap.size + 1) T2 c2 ∧ Blk ((((w.alloc (.cells c1 T1)).alloc (.cells c2 T2)).alloc (.cells c3 T3)).alloc (.cells c4 T4)) (w.heap.size + 1 + 1) T3 c3 ∧ Blk ((((w.alloc (.cells c1 T1)).alloc (.cells c2 T2)).alloc (.cells c3 T3)).alloc (.cells c4 T4)) (w.heap.size + 1 + 1 + 1) T4 c4 ∧ Ext w ((((w.alloc (.cells c1 T1)).alloc (.cells c2 T2)).alloc (.cells c3 T3)).alloc (.cells c4 T4)) := by
  obtain ⟨h1, h2, h3, hx⟩ := three_new w c1 c2 c3 T1 T2 T3
  have h := Blk.new (((w.alloc (.cells c1 T1)).alloc (.cells c2 T2)).alloc (.cells c3 T3)) T4 c4
  rw [show (((w.alloc (.cells c1 T1)).alloc (.cells c2 T2)).alloc (.cells c3 T3)).heap.size = w.heap.size + 1 + 1 + 1 by simp] at h
  exact ⟨h1.alloc _, h2.alloc _, h3.alloc _, h, hx.trans (Ext.alloc_ _ _)⟩
set_option maxRecDepth 100000 in
theorem run_ctA {fn : Func} (h : fn.results = #[.cell 8 56, .tmp 9]) {tmps : Array Value} {w : World} {g : Nat} {cs : Array Value} {b : Bool}
    (h2 : tmps.getD 8 undef = .pointer (some ⟨g, 0, none⟩)) (h3 : tmps.getD 9 undef = .bool b) (hb : Blk w g 56 cs) (hs : cs.size = 10) : (results fn tmps).run Try.prog w = .ok (.tuple #[.agg cs, .bool b]) w := by
  have i1 : (Try.prog.info? 56).map (·.size) = some cs.size := by rw [hs]; exact infoA_
  rw [results_ct h, h2, h3]
  simp only [asAddr, Sem.run_pure, Result.andThen_ok, run_loadVar_row w g 56 56 _ (0, 0) _ hb rfl rfl i1]

set_option maxRecDepth 100000 in
set_option maxHeartbeats 2000000 in
theorem RefLoose_any (a : Ag) (w : World) : Calls Try.prog 77 #[agV a] w fun e w' => e = .returned (agV (looseA a)) ∧ Ext w w' := by
  obtain ⟨-, h2, hx⟩ := two_new w #[.bool a.up, .int .i64 a.term, .int .i64 a.gen, .int .i64 a.mode, .int .i64 a.job, .int .i64 a.inc, .int .i64 a.ver, .int .i64 a.lease, .int .i64 a.worked, .int .i64 a.aim] #[.bool false, .int .i64 0, .int .i64 0, .int .i64 0, .int .i64 0, .int .i64 0, .int .i64 0, .int .i64 0, .int .i64 0, .int .i64 0] 56 56
  have HB := Lib.hid h2
  have HX := Lib.hid hx
  clear h2 hx
  have HI := Lib.hid infoA_
  have HO := Lib.hid (agA_one (looseA a))
  unfold agV
  go_enter Try.func77, Try.ntmps77
  go_wp2_with (refine wpList_storeB rfl 56 _ _ rfl (w.heap.size + 1) (agA (looseA a)) rfl rfl 56 _ HB.out HI.out rfl HO.out w.heap.size w HX.out (Nat.le_succ _) ?_; intro w2 hb2 hx2)
  exact bodyPost_ret (results_cell_row rfl _ _ (w.heap.size + 1) 56 _ (0, 0) _ rfl hb2 rfl rfl (by kernel_rfl)) rfl ⟨rfl, hx2⟩

set_option maxRecDepth 100000 in
set_option maxHeartbeats 2000000 in
theorem RefTell_any (a : Ag) (node : Int) (w : World) : Calls Try.prog 37 #[agV a, .int .i64 node] w fun e w' => e = .returned (msV (tellA a node)) ∧ Ext w w' := by
  obtain ⟨-, h2, -, hx⟩ := three_new w #[.bool a.up, .int .i64 a.term, .int .i64 a.gen, .int .i64 a.mode, .int .i64 a.job, .int .i64 a.inc, .int .i64 a.ver, .int .i64 a.lease, .int .i64 a.worked, .int .i64 a.aim] #[.int .i64 0, .int .i64 0, .int .i64 0, .int .i64 0, .int .i64 0, .int .i64 0, .int .i64 0, .int .i64 0, .int .i64 0, .int .i64 0, .int .i64 0] #[.int .i64 node, .int .i64 6, .int .i64 a.term, .int .i64 a.gen, .int .i64 a.job, .int .i64 a.inc, .int .i64 a.ver, .int .i64 0, .int .i64 0, .int .i64 a.mode, .int .i64 a.worked] 56 49 49
  have HB := Lib.hid h2
  have HX := Lib.hid hx
  clear h2 hx
  have HI := Lib.hid infoM_
  have HO := Lib.hid (msA_one (tellA a node))
  unfold agV
  go_enter Try.func37, Try.ntmps37
  go_wp2_with (refine wpList_storeB rfl 49 _ _ rfl (w.heap.size + 1) (msA (tellA a node)) rfl rfl 49 _ HB.out HI.out rfl HO.out w.heap.size w HX.out (Nat.le_succ _) ?_; intro w2 hb2 hx2)
  exact bodyPost_ret (results_cell_row rfl _ _ (w.heap.size + 1) 49 _ (0, 0) _ rfl hb2 rfl rfl (by kernel_rfl)) rfl ⟨rfl, hx2⟩

end Go.Proofs.Ytkkmldoohokdfaa

/- Package agent: Act. -/
namespace Go.Proofs.Ytkkmldoohokdfaa
open Go.RowKit

set_option maxRecDepth 100000 in
set_option maxHeartbeats 2000000 in
theorem Act_any (a : Ag) (now : Int) (w : World) (hwk : -9223372036854775808 ≤ a.worked) : Calls Try.prog 41 #[agV a, .int .i64 now] w fun e w' => e = .returned (agV (actA a now)) ∧ Ext w w' := by
  have HWK := Lib.hid hwk
  clear hwk
  obtain ⟨R, hR⟩ : ∃ R, R = actA a now := ⟨_, rfl⟩
  rw [← hR]
  unfold actA at hR
  unfold agV
  cases h0 : a.up with
  | false =>
    rw [if_pos h0] at hR
    have HE := Lib.hid hR
    obtain ⟨h1, h2, hx⟩ := two_new w #[.bool false, .int .i64 a.term, .int .i64 a.gen, .int .i64 a.mode, .int .i64 a.job, .int .i64 a.inc, .int .i64 a.ver, .int .i64 a.lease, .int .i64 a.worked, .int .i64 a.aim] #[.bool false, .int .i64 0, .int .i64 0, .int .i64 0, .int .i64 0, .int .i64 0, .int .i64 0, .int .i64 0, .int .i64 0, .int .i64 0] 56 56
    obtain ⟨w2, hw2⟩ : ∃ W, W = (w.alloc (.cells #[.bool false, .int .i64 a.term, .int .i64 a.gen, .int .i64 a.mode, .int .i64 a.job, .int .i64 a.inc, .int .i64 a.ver, .int .i64 a.lease, .int .i64 a.worked, .int .i64 a.aim] 56)).alloc (.cells #[.bool false, .int .i64 0, .int .i64 0, .int .i64 0, .int .i64 0, .int .i64 0, .int .i64 0, .int .i64 0, .int .i64 0, .int .i64 0] 56) := ⟨_, rfl⟩
    rw [← hw2] at h1 h2 hx
    have HA : Hid (AgAt w2 w.heap.size (a)) := Lib.hid ⟨by rw [h0]; exact h1⟩
    have HB := Lib.hid h2
    have HX := Lib.hid hx
    clear h1 h2 hx
    have HU := Lib.hid h0
    clear h0 hR
    go_enter Try.func41, Try.ntmps41
    go_upto_region 2 with (fail)
    rw [← hw2]
    clear hw2
    obtain ⟨c0, c1, c2, c3, c4, c5, c6, c7, c8, c9⟩ := HA.out.cells
    rw [HU.out] at c0
    have HO := Lib.hid (agA_one ({ a with up := false }))
    have HI := Lib.hid infoA_
    go_wp2_with (refine wpList_storeB rfl 56 _ _ rfl (w.heap.size + 1) (agA ({ a with up := false })) rfl rfl 56 _ HB.out HI.out rfl HO.out w.heap.size w HX.out (Nat.le_succ _) ?_; intro wz hbz hxz)
    exact bodyPost_ret (results_cell_row rfl _ _ (w.heap.size + 1) 56 _ (0, 0) _ rfl hbz rfl rfl (by kernel_rfl)) rfl ⟨by rw [HE.out, HU.out]; rfl, hxz⟩
  | true =>
    rw [if_neg (by rw [h0]; decide)] at hR
    have HU := Lib.hid h0
    by_cases h4 : a.mode = 4
    · have d4 : (a.mode == 4) = true := by rw [h4]; rfl
      rw [if_pos h4] at hR
      have HE := Lib.hid hR
      obtain ⟨h1, h2, hx⟩ := two_new w #[.bool true, .int .i64 a.term, .int .i64 a.gen, .int .i64 a.mode, .int .i64 a.job, .int .i64 a.inc, .int .i64 a.aim, .int .i64 a.lease, .int .i64 a.worked, .int .i64 0] #[.bool false, .int .i64 0, .int .i64 0, .int .i64 0, .int .i64 0, .int .i64 0, .int .i64 0, .int .i64 0, .int .i64 0, .int .i64 0] 56 56
      obtain ⟨w2, hw2⟩ : ∃ W, W = (w.alloc (.cells #[.bool true, .int .i64 a.term, .int .i64 a.gen, .int .i64 a.mode, .int .i64 a.job, .int .i64 a.inc, .int .i64 a.aim, .int .i64 a.lease, .int .i64 a.worked, .int .i64 0] 56)).alloc (.cells #[.bool false, .int .i64 0, .int .i64 0, .int .i64 0, .int .i64 0, .int .i64 0, .int .i64 0, .int .i64 0, .int .i64 0, .int .i64 0] 56) := ⟨_, rfl⟩
      rw [← hw2] at h1 h2 hx
      have HA : Hid (AgAt w2 w.heap.size ({ a with ver := a.aim, aim := 0 })) := Lib.hid ⟨by show Blk w2 w.heap.size _ #[.bool a.up, _, _, _, _, _, _, _, _, _]; rw [h0]; exact h1⟩
      have HB := Lib.hid h2
      have HX := Lib.hid hx
      clear h1 h2 hx
      clear h0 h4 hR
      go_enter Try.func41, Try.ntmps41
      go_upto_region 5 with (fail)
      rw [← hw2]
      clear hw2
      have HC := Lib.hid (letGo_any w.heap.size ({ a with ver := a.aim, aim := 0 }) _ HA.out)
      go_wp2_with fail
      refine HC.out.mono ?_
      rintro e3 w3 ⟨rfl, ha, hc⟩
      obtain ⟨c0, c1, c2, c3, c4, c5, c6, c7, c8, c9⟩ := ha.cells
      have HB3 : Hid (Blk w3 (w.heap.size + 1) 56 #[.bool false, .int .i64 0, .int .i64 0, .int .i64 0, .int .i64 0, .int .i64 0, .int .i64 0, .int .i64 0, .int .i64 0, .int .i64 0]) := Lib.hid ((hc.block _ HB.out.lt (by intro h; have h : w.heap.size + 1 = w.heap.size := h; omega)).trans HB.out)
      have HX3 := Lib.hid (hc.ext HX.out (fun k hk => by have hk : k = w.heap.size := hk; omega))
      clear ha hc
      rw [show (looseA { a with ver := a.aim, aim := 0 }).up = true from HU.out] at c0
      have HO := Lib.hid (agA_one ({ looseA { a with ver := a.aim, aim := 0 } with up := true }))
      have HI := Lib.hid infoA_
      go_wp2_with (refine wpList_storeB rfl 56 _ _ rfl (w.heap.size + 1) (agA ({ looseA { a with ver := a.aim, aim := 0 } with up := true })) rfl rfl 56 _ HB3.out HI.out rfl HO.out w.heap.size w HX3.out (Nat.le_succ _) ?_; intro wz hbz hxz)
      exact bodyPost_ret (results_cell_row rfl _ _ (w.heap.size + 1) 56 _ (0, 0) _ rfl hbz rfl rfl (by kernel_rfl)) rfl ⟨by rw [HE.out, show (looseA { a with ver := a.aim, aim := 0 }).up = true from HU.out]; rfl, hxz⟩
    have d4 : (a.mode == 4) = false := by simpa using h4
    rw [if_neg h4] at hR
    obtain ⟨h1, h2, hx⟩ := two_new w #[.bool true, .int .i64 a.term, .int .i64 a.gen, .int .i64 a.mode, .int .i64 a.job, .int .i64 a.inc, .int .i64 a.ver, .int .i64 a.lease, .int .i64 a.worked, .int .i64 a.aim] #[.bool false, .int .i64 0, .int .i64 0, .int .i64 0, .int .i64 0, .int .i64 0, .int .i64 0, .int .i64 0, .int .i64 0, .int .i64 0] 56 56
    obtain ⟨w2, hw2⟩ : ∃ W, W = (w.alloc (.cells #[.bool true, .int .i64 a.term, .int .i64 a.gen, .int .i64 a.mode, .int .i64 a.job, .int .i64 a.inc, .int .i64 a.ver, .int .i64 a.lease, .int .i64 a.worked, .int .i64 a.aim] 56)).alloc (.cells #[.bool false, .int .i64 0, .int .i64 0, .int .i64 0, .int .i64 0, .int .i64 0, .int .i64 0, .int .i64 0, .int .i64 0, .int .i64 0] 56) := ⟨_, rfl⟩
    rw [← hw2] at h1 h2 hx
    have HA : Hid (AgAt w2 w.heap.size (a)) := Lib.hid ⟨by rw [h0]; exact h1⟩
    have HB := Lib.hid h2
    have HX := Lib.hid hx
    clear h1 h2 hx
    have HJ := Lib.hid (hasJob_any a w2)
    obtain ⟨j, hj⟩ : ∃ j, j = decide (a.mode = 1 ∨ a.mode = 2 ∨ a.mode = 3) := ⟨_, rfl⟩
    rw [← hj] at HJ
    unfold agV at HJ
    rw [h0] at HJ
    have hj2 : ((a.mode = 1 ∨ a.mode = 2 ∨ a.mode = 3) ∧ a.lease ≤ now) ↔ (j && decide (a.lease ≤ now)) = true := by rw [hj, Bool.and_eq_true, decide_eq_true_eq, decide_eq_true_eq]
    clear h0 hj
    go_enter Try.func41, Try.ntmps41
    go_upto_region 6 with (fail)
    rw [← hw2]
    clear hw2
    obtain ⟨c0, c1, c2, c3, c4, c5, c6, c7, c8, c9⟩ := HA.out.cells
    rw [HU.out] at c0
    go_wp2_with fail
    refine HJ.out.mono ?_
    rintro e2 wj ⟨rfl, hxj⟩
    replace HA := Lib.hid (HA.out.ext hxj)
    replace HB := Lib.hid (HB.out.ext hxj)
    replace HX := Lib.hid (HX.out.trans hxj)
    clear hxj HJ c0 c1 c2 c3 c4 c5 c6 c7 c8 c9
    by_cases hl : (j && decide (a.lease ≤ now)) = true
    · rw [if_pos (hj2.2 hl)] at hR
      have HE := Lib.hid hR
      have e1 : j = true := by cases j with | true => rfl | false => cases hl
      subst e1
      have e2 : decide (a.lease ≤ now) = true := by simpa using hl
      have c7 := HA.out.cells.2.2.2.2.2.2.2.1
      clear hl hR hj2 h4
      have HC := Lib.hid (letGo_any w.heap.size a _ HA.out)
      go_wp2_with fail
      refine HC.out.mono ?_
      rintro e3 w3 ⟨rfl, ha, hc⟩
      clear c7
      obtain ⟨c0, c1, c2, c3, c4, c5, c6, c7, c8, c9⟩ := ha.cells
      have HB3 : Hid (Blk w3 (w.heap.size + 1) 56 #[.bool false, .int .i64 0, .int .i64 0, .int .i64 0, .int .i64 0, .int .i64 0, .int .i64 0, .int .i64 0, .int .i64 0, .int .i64 0]) := Lib.hid ((hc.block _ HB.out.lt (by intro h; have h : w.heap.size + 1 = w.heap.size := h; omega)).trans HB.out)
      have HX3 := Lib.hid (hc.ext HX.out (fun k hk => by have hk : k = w.heap.size := hk; omega))
      clear ha hc
      rw [show (looseA a).up = true from HU.out] at c0
      have HO := Lib.hid (agA_one ({ looseA a with up := true }))
      have HI := Lib.hid infoA_
      go_wp2_with (refine wpList_storeB rfl 56 _ _ rfl (w.heap.size + 1) (agA ({ looseA a with up := true })) rfl rfl 56 _ HB3.out HI.out rfl HO.out w.heap.size w HX3.out (Nat.le_succ _) ?_; intro wz hbz hxz)
      exact bodyPost_ret (results_cell_row rfl _ _ (w.heap.size + 1) 56 _ (0, 0) _ rfl hbz rfl rfl (by kernel_rfl)) rfl ⟨by rw [HE.out, show (looseA a).up = true from HU.out]; rfl, hxz⟩
    rw [if_neg (fun hc => hl (hj2.1 hc))] at hR
    clear hj2
    by_cases h2 : a.mode = 2
    · have d2 : (a.mode == 2) = true := by rw [h2]; rfl
      rw [if_pos h2] at hR
      obtain ⟨k, hk⟩ : ∃ k, k = min a.worked 999 := ⟨_, rfl⟩
      have HK : Hid (-9223372036854775809 < k ∧ k ≤ 999) := Lib.hid (by rw [hk]; have := HWK.out; omega)
      have hmn : min a.worked 999 = k := hk.symm
      rw [← hk] at hR
      have HE := Lib.hid hR
      clear hR h2 h4 hk
      cases j with
      | false =>
        clear hl
        have c3 := HA.out.cells.2.2.2.1
        have c8 := HA.out.cells.2.2.2.2.2.2.2.2.1
        have f8 := HA.out.blk.frozen 8
        have hw1 : IntKind.i64.wrap (1 + k) = 1 + k := IntWalk.i64_in _ (by have := HK.out; omega)
        have hw1' : wrap64 (1 + k) = 1 + k := IntWalk.wrap64_in _ (by have := HK.out; omega)
        have hq := (WB.start HA.out.blk).set 8 (.int .i64 (1 + k))
        simp only [List.setIfInBounds_toArray, List.set_cons_zero, List.set_cons_succ] at hq
        obtain ⟨wy, hwy⟩ : ∃ W, W = wj.setCell ⟨w.heap.size, 8, none⟩ (.int .i64 (1 + k)) := ⟨_, rfl⟩
        rw [← hwy] at hq
        have HA4 : Hid (AgAt wy w.heap.size { a with worked := 1 + k }) := Lib.hid ⟨hq.blk⟩
        have HB4 : Hid (Blk wy (w.heap.size + 1) 56 #[.bool false, .int .i64 0, .int .i64 0, .int .i64 0, .int .i64 0, .int .i64 0, .int .i64 0, .int .i64 0, .int .i64 0, .int .i64 0]) := Lib.hid ((hq.chg.block _ HB.out.lt (by intro h; have h : w.heap.size + 1 = w.heap.size := h; omega)).trans HB.out)
        have HX4 := Lib.hid (hq.ext HX.out (Nat.le_refl _))
        clear hq
        go_upto_region 10 with (fail)
        rw [← hwy]
        clear hwy c3 c8 f8
        obtain ⟨c0, c1, c2, c3, c4, c5, c6, c7, c8, c9⟩ := HA4.out.cells
        rw [show ({ a with worked := 1 + k } : Ag).up = true from HU.out] at c0
        have HO := Lib.hid (agA_one ({ a with worked := 1 + k, up := true }))
        have HI := Lib.hid infoA_
        go_wp2_with (refine wpList_storeB rfl 56 _ _ rfl (w.heap.size + 1) (agA ({ a with worked := 1 + k, up := true })) rfl rfl 56 _ HB4.out HI.out rfl HO.out w.heap.size w HX4.out (Nat.le_succ _) ?_; intro wz hbz hxz)
        exact bodyPost_ret (results_cell_row rfl _ _ (w.heap.size + 1) 56 _ (0, 0) _ rfl hbz rfl rfl (by kernel_rfl)) rfl ⟨by rw [HE.out, show ({ a with worked := 1 + k } : Ag).up = true from HU.out]; rfl, hxz⟩
      | true =>
        have e2 : decide (a.lease ≤ now) = false := by simpa using hl
        have c7 := HA.out.cells.2.2.2.2.2.2.2.1
        clear hl
        have c3 := HA.out.cells.2.2.2.1
        have c8 := HA.out.cells.2.2.2.2.2.2.2.2.1
        have f8 := HA.out.blk.frozen 8
        have hw1 : IntKind.i64.wrap (1 + k) = 1 + k := IntWalk.i64_in _ (by have := HK.out; omega)
        have hw1' : wrap64 (1 + k) = 1 + k := IntWalk.wrap64_in _ (by have := HK.out; omega)
        have hq := (WB.start HA.out.blk).set 8 (.int .i64 (1 + k))
        simp only [List.setIfInBounds_toArray, List.set_cons_zero, List.set_cons_succ] at hq
        obtain ⟨wy, hwy⟩ : ∃ W, W = wj.setCell ⟨w.heap.size, 8, none⟩ (.int .i64 (1 + k)) := ⟨_, rfl⟩
        rw [← hwy] at hq
        have HA4 : Hid (AgAt wy w.heap.size { a with worked := 1 + k }) := Lib.hid ⟨hq.blk⟩
        have HB4 : Hid (Blk wy (w.heap.size + 1) 56 #[.bool false, .int .i64 0, .int .i64 0, .int .i64 0, .int .i64 0, .int .i64 0, .int .i64 0, .int .i64 0, .int .i64 0, .int .i64 0]) := Lib.hid ((hq.chg.block _ HB.out.lt (by intro h; have h : w.heap.size + 1 = w.heap.size := h; omega)).trans HB.out)
        have HX4 := Lib.hid (hq.ext HX.out (Nat.le_refl _))
        clear hq
        go_upto_region 10 with (fail)
        rw [← hwy]
        clear hwy c3 c8 f8
        obtain ⟨c0, c1, c2, c3, c4, c5, c6, c7, c8, c9⟩ := HA4.out.cells
        rw [show ({ a with worked := 1 + k } : Ag).up = true from HU.out] at c0
        have HO := Lib.hid (agA_one ({ a with worked := 1 + k, up := true }))
        have HI := Lib.hid infoA_
        go_wp2_with (refine wpList_storeB rfl 56 _ _ rfl (w.heap.size + 1) (agA ({ a with worked := 1 + k, up := true })) rfl rfl 56 _ HB4.out HI.out rfl HO.out w.heap.size w HX4.out (Nat.le_succ _) ?_; intro wz hbz hxz)
        exact bodyPost_ret (results_cell_row rfl _ _ (w.heap.size + 1) 56 _ (0, 0) _ rfl hbz rfl rfl (by kernel_rfl)) rfl ⟨by rw [HE.out, show ({ a with worked := 1 + k } : Ag).up = true from HU.out]; rfl, hxz⟩
    · have d2 : (a.mode == 2) = false := by simpa using h2
      rw [if_neg h2] at hR
      have HE := Lib.hid hR
      clear hR h2 h4
      cases j with
      | false =>
        clear hl
        have c3 := HA.out.cells.2.2.2.1
        have c8 := HA.out.cells.2.2.2.2.2.2.2.2.1
        have f8 := HA.out.blk.frozen 8
        go_upto_region 10 with (fail)
        clear c3 c8 f8
        obtain ⟨c0, c1, c2, c3, c4, c5, c6, c7, c8, c9⟩ := HA.out.cells
        rw [HU.out] at c0
        have HO := Lib.hid (agA_one ({ a with up := true }))
        have HI := Lib.hid infoA_
        go_wp2_with (refine wpList_storeB rfl 56 _ _ rfl (w.heap.size + 1) (agA ({ a with up := true })) rfl rfl 56 _ HB.out HI.out rfl HO.out w.heap.size w HX.out (Nat.le_succ _) ?_; intro wz hbz hxz)
        exact bodyPost_ret (results_cell_row rfl _ _ (w.heap.size + 1) 56 _ (0, 0) _ rfl hbz rfl rfl (by kernel_rfl)) rfl ⟨by rw [HE.out, HU.out]; rfl, hxz⟩
      | true =>
        have e2 : decide (a.lease ≤ now) = false := by simpa using hl
        have c7 := HA.out.cells.2.2.2.2.2.2.2.1
        clear hl
        have c3 := HA.out.cells.2.2.2.1
        have c8 := HA.out.cells.2.2.2.2.2.2.2.2.1
        have f8 := HA.out.blk.frozen 8
        go_upto_region 10 with (fail)
        clear c3 c8 f8
        obtain ⟨c0, c1, c2, c3, c4, c5, c6, c7, c8, c9⟩ := HA.out.cells
        rw [HU.out] at c0
        have HO := Lib.hid (agA_one ({ a with up := true }))
        have HI := Lib.hid infoA_
        go_wp2_with (refine wpList_storeB rfl 56 _ _ rfl (w.heap.size + 1) (agA ({ a with up := true })) rfl rfl 56 _ HB.out HI.out rfl HO.out w.heap.size w HX.out (Nat.le_succ _) ?_; intro wz hbz hxz)
        exact bodyPost_ret (results_cell_row rfl _ _ (w.heap.size + 1) 56 _ (0, 0) _ rfl hbz rfl rfl (by kernel_rfl)) rfl ⟨by rw [HE.out, HU.out]; rfl, hxz⟩

end Go.Proofs.Ytkkmldoohokdfaa

/- Package agent: what an order does to an agent: the closures. -/
namespace Go.Proofs.Ytkkmldoohokdfaa
open Go.RowKit

/-- The blocks that the closures share: the agent's pointer, the order, the time. -/
structure CapAt (w : World) (g p4 p5 p6 : Nat) (m : Ms) (now : Int) : Prop where
  ptr : Blk w p4 116 #[.pointer (some ⟨g, 0, none⟩)]
  msg : MsAt w p5 m
  time : Blk w p6 3 #[.int .i64 now]
  off : g ≠ p4 ∧ g ≠ p5 ∧ g ≠ p6
theorem CapAt.chg {w w' : World} {F : Fp} {g p4 p5 p6 : Nat} {m : Ms} {now : Int} (h : CapAt w g p4 p5 p6 m now) (hc : Chg F w w') (h4 : ¬ F p4) (h5 : ¬ F p5) (h6 : ¬ F p6) : CapAt w' g p4 p5 p6 m now :=
  ⟨(hc.block p4 h.ptr.lt h4).trans h.ptr, h.msg.chg hc h5, (hc.block p6 h.time.lt h6).trans h.time, h.off⟩
theorem CapAt.ext {w w' : World} {g p4 p5 p6 : Nat} {m : Ms} {now : Int} (h : CapAt w g p4 p5 p6 m now) (hx : Ext w w') : CapAt w' g p4 p5 p6 m now := h.chg (F := fun _ => False) (Chg.of_ext hx) (fun h => h) (fun h => h) (fun h => h)
theorem CapAt.own {w w' : World} {g p4 p5 p6 : Nat} {m : Ms} {now : Int} (h : CapAt w g p4 p5 p6 m now) (hc : Chg (fun k => k = g) w w') : CapAt w' g p4 p5 p6 m now := h.chg hc (fun e => h.off.1 e.symm) (fun e => h.off.2.1 e.symm) (fun e => h.off.2.2 e.symm)

set_option maxRecDepth 100000 in
set_option maxHeartbeats 1000000 in
theorem is13_any (g p4 p5 p6 : Nat) (a : Ag) (m : Ms) (now k : Int) (w : World) (ha : AgAt w g a) (hc : CapAt w g p4 p5 p6 m now) :
    Calls Try.prog 100 #[.int .i64 k, .pointer (some ⟨p4, 0, none⟩), .pointer (some ⟨p5, 0, none⟩)] w fun e w' => e = .returned (.bool (isA a m k)) ∧ Ext w w' := by
  obtain ⟨c0, c1, c2, c3, c4, c5, c6, c7, c8, c9⟩ := ha.cells
  obtain ⟨m0, m1, m2, m3, m4, m5, m6, m7, m8, m9, m10⟩ := hc.msg.cells
  have q0 := hc.ptr.cell1
  clear ha hc c0 c1 c2 c6 c7 c8 c9 m0 m1 m2 m3 m6 m7 m8 m9 m10
  by_cases h1 : a.mode = k
  · have d1 : (a.mode == k) = true := by rw [h1]; simp
    by_cases h2 : a.job = m.job
    · have d2 : (a.job == m.job) = true := by rw [h2]; simp
      by_cases h3 : a.inc = m.inc
      · have d3 : (a.inc == m.inc) = true := by rw [h3]; simp
        have HE : Hid (isA a m k = true) := Lib.hid (by unfold isA; rw [decide_eq_true h1, decide_eq_true h2, decide_eq_true h3]; rfl)
        clear h1 h2 h3
        go_enter Try.func100, Try.ntmps100
        go_wp2
        go_quiet (fail)
        go_wp2
        go_ret
        exact ⟨by rw [HE.out]; rfl, Below.drewN' (Ext.refl w) _⟩
      · have d3 : (a.inc == m.inc) = false := by simpa using h3
        have HE : Hid (isA a m k = false) := Lib.hid (by unfold isA; rw [decide_eq_true h1, decide_eq_true h2, decide_eq_false h3]; rfl)
        clear h1 h2 h3
        go_enter Try.func100, Try.ntmps100
        go_wp2
        go_quiet (fail)
        go_wp2
        go_ret
        exact ⟨by rw [HE.out]; rfl, Below.drewN' (Ext.refl w) _⟩
    · have d2 : (a.job == m.job) = false := by simpa using h2
      have HE : Hid (isA a m k = false) := Lib.hid (by unfold isA; rw [decide_eq_true h1, decide_eq_false h2]; rfl)
      clear h1 h2
      go_enter Try.func100, Try.ntmps100
      go_wp2
      go_quiet (fail)
      go_wp2
      go_ret
      exact ⟨by rw [HE.out]; rfl, Below.drewN' (Ext.refl w) _⟩
  · have d1 : (a.mode == k) = false := by simpa using h1
    have HE : Hid (isA a m k = false) := Lib.hid (by unfold isA; rw [decide_eq_false h1]; rfl)
    clear h1
    go_enter Try.func100, Try.ntmps100
    go_wp2
    go_quiet (fail)
    go_wp2
    go_ret
    exact ⟨by rw [HE.out]; rfl, Below.drewN' (Ext.refl w) _⟩

set_option maxRecDepth 100000 in
set_option maxHeartbeats 1000000 in
theorem lengthen_any (g p4 p5 p6 : Nat) (a : Ag) (m : Ms) (now : Int) (w : World) (ha : AgAt w g a) (hc : CapAt w g p4 p5 p6 m now) :
    Calls Try.prog 101 #[.pointer (some ⟨p4, 0, none⟩), .pointer (some ⟨p5, 0, none⟩)] w fun e w' => e = .returned (.tuple #[]) ∧ AgAt w' g (longA a m) ∧ Chg (fun k => k = g) w w' := by
  have c7 := ha.cells.2.2.2.2.2.2.2.1
  have f7 := ha.blk.frozen 7
  have m8 := hc.msg.cells.2.2.2.2.2.2.2.2.1
  have q0 := hc.ptr.cell1
  have HA : Hid (AgAt (w.setCell ⟨g, 7, none⟩ (.int .i64 (max a.lease m.til))).drew g (longA a m) ∧ Chg (fun k => k = g) w (w.setCell ⟨g, 7, none⟩ (.int .i64 (max a.lease m.til))).drew) := Lib.hid (by
    have hq := (WB.start ha.blk).set 7 (.int .i64 (max a.lease m.til))
    simp only [List.setIfInBounds_toArray, List.set_cons_zero, List.set_cons_succ] at hq
    exact ⟨⟨hq.blk⟩, hq.chg.drew⟩)
  clear ha hc
  go_enter Try.func101, Try.ntmps101
  go_wp2_with fail
  go_still_tail 10, (by kernel_rfl)
  change wpList _ _ _ _ _ _
  go_wp2
  go_end0
  exact ⟨rfl, HA.out⟩

/-- The two functions that the others call. -/
structure FnAt (w : World) (g p4 p5 p9 p10 : Nat) : Prop where
  is_ : Blk w p9 86 #[.func (.func 100) #[] #[.pointer (some ⟨p4, 0, none⟩), .pointer (some ⟨p5, 0, none⟩)]]
  long : Blk w p10 1 #[.func (.func 101) #[] #[.pointer (some ⟨p4, 0, none⟩), .pointer (some ⟨p5, 0, none⟩)]]
  off : g ≠ p9 ∧ g ≠ p10
theorem FnAt.ext {w w' : World} {g p4 p5 p9 p10 : Nat} (h : FnAt w g p4 p5 p9 p10) (hx : Ext w w') : FnAt w' g p4 p5 p9 p10 := ⟨h.is_.ext hx, h.long.ext hx, h.off⟩

/-- Rest. -/
theorem rest13_any (g p4 p5 p6 : Nat) (a : Ag) (m : Ms) (now : Int) (w : World) (ha : AgAt w g a) (hc : CapAt w g p4 p5 p6 m now) :
    Calls Try.prog 102 #[.pointer (some ⟨p4, 0, none⟩)] w fun e w' => e = .returned (.tuple #[]) ∧ AgAt w' g (if a.mode = 4 then a else looseA a) ∧ Chg (fun k => k = g) w w' := by
  have c3 := ha.cells.2.2.2.1
  have q0 := hc.ptr.cell1
  have HA := Lib.hid ha
  have HL := Lib.hid (letGo_any g a w ha)
  clear ha hc
  by_cases h4 : a.mode = 4
  · have d4 : (a.mode != 4) = false := by rw [h4]; rfl
    rw [if_pos h4]
    clear h4
    go_enter Try.func102, Try.ntmps102
    go_wp2
    go_end0
    exact ⟨rfl, HA.out, Chg.refl _ _⟩
  · have d4 : (a.mode != 4) = true := by simpa using h4
    rw [if_neg h4]
    clear h4
    go_enter Try.func102, Try.ntmps102
    go_wp2_with fail
    refine HL.out.mono ?_
    rintro e1 w1 ⟨rfl, h1, h2⟩
    have H1 := Lib.hid (And.intro h1 h2)
    clear h1 h2
    go_wp2
    go_end0
    exact ⟨rfl, H1.out.1, H1.out.2⟩


set_option maxRecDepth 100000 in
set_option maxHeartbeats 1000000 in
/-- Work. -/
theorem work13_any (g p4 p5 p6 p9 p10 : Nat) (a : Ag) (m : Ms) (now : Int) (w : World) (ha : AgAt w g a) (hc : CapAt w g p4 p5 p6 m now) (hf : FnAt w g p4 p5 p9 p10) :
    Calls Try.prog 104 #[.pointer (some ⟨p9, 0, none⟩), .pointer (some ⟨p5, 0, none⟩), .pointer (some ⟨p4, 0, none⟩), .pointer (some ⟨p10, 0, none⟩)] w fun e w' => e = .returned (.tuple #[]) ∧ AgAt w' g (if isA a m 1 = true then { a with mode := 2, worked := m.work, lease := m.til } else if isA a m 2 = true then longA a m else a) ∧ Chg (fun k => k = g) w w' := by
  have q9 := hf.is_.cell1
  have HA := Lib.hid ha
  have HC := Lib.hid hc
  have HF := Lib.hid hf
  have HI := Lib.hid (is13_any g p4 p5 p6 a m now 1 w ha hc)
  clear ha hc hf
  cases h1 : isA a m 1 with
  | true =>
    rw [h1] at HI
    clear h1
    go_enter Try.func104, Try.ntmps104
    go_wp2_with fail
    refine HI.out.mono ?_
    rintro e1 w1 ⟨rfl, hx1⟩
    have ha1 := HA.out.ext hx1
    have hc1 := HC.out.ext hx1
    obtain ⟨-, -, -, c3, -, -, -, c7, c8, -⟩ := ha1.cells
    obtain ⟨-, -, -, -, -, -, -, -, m8, -, m10⟩ := hc1.msg.cells
    have f3 := ha1.blk.frozen 3
    have f7 := ha1.blk.frozen 7
    have f8 := ha1.blk.frozen 8
    have q4 := hc1.ptr.cell1
    have n5 : ¬ p5 = g := fun e => HC.out.off.2.1 e.symm
    have n5' : ¬ g = p5 := HC.out.off.2.1
    have n4 : ¬ p4 = g := fun e => HC.out.off.1 e.symm
    have n4' : ¬ g = p4 := HC.out.off.1
    have HQ : Hid (AgAt (((w1.setCell ⟨g, 3, none⟩ (.int .i64 (2))).setCell ⟨g, 8, none⟩ (.int .i64 (m.work))).setCell ⟨g, 7, none⟩ (.int .i64 (m.til))).drew g ({ a with mode := 2, worked := m.work, lease := m.til }) ∧ Chg (fun k => k = g) w (((w1.setCell ⟨g, 3, none⟩ (.int .i64 (2))).setCell ⟨g, 8, none⟩ (.int .i64 (m.work))).setCell ⟨g, 7, none⟩ (.int .i64 (m.til))).drew) := Lib.hid (by
      have hq := ((((WB.start ha1.blk).set 3 (.int .i64 (2))).set 8 (.int .i64 (m.work))).set 7 (.int .i64 (m.til)))
      simp only [List.setIfInBounds_toArray, List.set_cons_zero, List.set_cons_succ] at hq
      exact ⟨⟨hq.blk⟩, (Chg.of_ext (F := fun k => k = g) (hx1)).trans hq.chg.drew (fun _ _ h => h)⟩)
    clear ha1 hc1
    clear hx1 HI
    go_wp2_with fail
    go_region
    all_goals (try go_wp2)
    all_goals go_end0
    all_goals exact ⟨rfl, HQ.out.1, HQ.out.2⟩
  | false =>
    rw [h1] at HI
    clear h1
    cases h2 : isA a m 2 with
    | true =>
      go_enter Try.func104, Try.ntmps104
      go_wp2_with fail
      refine HI.out.mono ?_
      rintro e1 w1 ⟨rfl, hx1⟩
      have HI2 := Lib.hid (is13_any g p4 p5 p6 a m now 2 w1 (HA.out.ext hx1) (HC.out.ext hx1))
      rw [h2] at HI2
      have q9' := (HF.out.ext hx1).is_.cell1
      have HX1 := Lib.hid hx1
      clear hx1 h2 HI
      go_wp2_with fail
      refine HI2.out.mono ?_
      rintro e2 w2 ⟨rfl, hx2⟩
      have HX2 := Lib.hid (HX1.out.trans hx2)
      clear hx2 HI2 HX1 q9'
      have q10 := (HF.out.ext HX2.out).long.cell1
      have HL := Lib.hid (lengthen_any g p4 p5 p6 a m now w2 (HA.out.ext HX2.out) (HC.out.ext HX2.out))
      go_wp2_with fail
      refine HL.out.mono ?_
      rintro e3 w3 ⟨rfl, h1, h2⟩
      have H1 := Lib.hid (And.intro h1 ((Chg.of_ext (F := fun k => k = g) HX2.out).trans h2 (fun _ _ h => h)))
      clear h1 h2 HL
      go_wp2
      go_end0
      exact ⟨rfl, H1.out.1, H1.out.2⟩
    | false =>
      go_enter Try.func104, Try.ntmps104
      go_wp2_with fail
      refine HI.out.mono ?_
      rintro e1 w1 ⟨rfl, hx1⟩
      have HI2 := Lib.hid (is13_any g p4 p5 p6 a m now 2 w1 (HA.out.ext hx1) (HC.out.ext hx1))
      rw [h2] at HI2
      have q9' := (HF.out.ext hx1).is_.cell1
      have HX1 := Lib.hid hx1
      clear hx1 h2 HI
      go_wp2_with fail
      refine HI2.out.mono ?_
      rintro e2 w2 ⟨rfl, hx2⟩
      have HX2 := Lib.hid (HX1.out.trans hx2)
      clear hx2 HI2 HX1 q9'
      go_wp2
      go_end0
      exact ⟨rfl, HA.out.ext HX2.out, Chg.of_ext HX2.out⟩

set_option maxRecDepth 100000 in
set_option maxHeartbeats 1000000 in
/-- Turn. -/
theorem turn13_any (g p4 p5 p6 p9 p10 : Nat) (a : Ag) (m : Ms) (now : Int) (w : World) (ha : AgAt w g a) (hc : CapAt w g p4 p5 p6 m now) (hf : FnAt w g p4 p5 p9 p10) :
    Calls Try.prog 107 #[.pointer (some ⟨p4, 0, none⟩), .pointer (some ⟨p5, 0, none⟩)] w fun e w' => e = .returned (.tuple #[]) ∧ AgAt w' g (if a.mode = 0 ∧ 1 ≤ m.ver ∧ m.ver ≤ 9 then { a with mode := 4, aim := m.ver } else a) ∧ Chg (fun k => k = g) w w' := by
  have HA := Lib.hid ha
  have HC := Lib.hid hc
  have HF := Lib.hid hf
  have c3 := ha.cells.2.2.2.1
  have q4_ := hc.ptr.cell1
  have m6_ := hc.msg.cells.2.2.2.2.2.2.1
  have HV := Lib.hid (isVersion_any m.ver w)
  clear ha hc hf
  by_cases h0 : a.mode = 0
  · have d0 : (a.mode == 0) = true := by rw [h0]; rfl
    obtain ⟨z, hz⟩ : ∃ z, z = decide (1 ≤ m.ver ∧ m.ver ≤ 9) := ⟨_, rfl⟩
    rw [← hz] at HV
    cases z with
    | true =>
      rw [if_pos ⟨h0, of_decide_eq_true hz.symm⟩]
      clear h0 hz
      go_enter Try.func107, Try.ntmps107
      go_wp2_with fail
      refine HV.out.mono ?_
      rintro e1 w1 ⟨rfl, rfl⟩
      clear c3 q4_ m6_
      have ha1 := HA.out.ext (Ext.refl w)
      have hc1 := HC.out.ext (Ext.refl w)
      obtain ⟨-, -, -, c3, -, -, -, -, -, c9⟩ := ha1.cells
      obtain ⟨-, -, -, -, -, -, m6, -, -, -, -⟩ := hc1.msg.cells
      have f3 := ha1.blk.frozen 3
      have f9 := ha1.blk.frozen 9
      have q4 := hc1.ptr.cell1
      have n5 : ¬ p5 = g := fun e => HC.out.off.2.1 e.symm
      have n5' : ¬ g = p5 := HC.out.off.2.1
      have n4 : ¬ p4 = g := fun e => HC.out.off.1 e.symm
      have n4' : ¬ g = p4 := HC.out.off.1
      have HQ : Hid (AgAt ((w.setCell ⟨g, 3, none⟩ (.int .i64 (4))).setCell ⟨g, 9, none⟩ (.int .i64 (m.ver))).drew g ({ a with mode := 4, aim := m.ver }) ∧ Chg (fun k => k = g) w ((w.setCell ⟨g, 3, none⟩ (.int .i64 (4))).setCell ⟨g, 9, none⟩ (.int .i64 (m.ver))).drew) := Lib.hid (by
        have hq := (((WB.start ha1.blk).set 3 (.int .i64 (4))).set 9 (.int .i64 (m.ver)))
        simp only [List.setIfInBounds_toArray, List.set_cons_zero, List.set_cons_succ] at hq
        exact ⟨⟨hq.blk⟩, (Chg.of_ext (F := fun k => k = g) (Ext.refl w)).trans hq.chg.drew (fun _ _ h => h)⟩)
      clear ha1 hc1
      clear HV
      go_wp2_with fail
      go_region
      all_goals (try go_wp2)
      all_goals go_end0
      all_goals exact ⟨rfl, HQ.out.1, HQ.out.2⟩
    | false =>
      rw [if_neg (fun hc => of_decide_eq_false hz.symm hc.2)]
      clear h0 hz
      go_enter Try.func107, Try.ntmps107
      go_wp2_with fail
      refine HV.out.mono ?_
      rintro e1 w1 ⟨rfl, rfl⟩
      go_wp2
      go_end0
      exact ⟨rfl, HA.out, Chg.refl _ _⟩
  · have d0 : (a.mode == 0) = false := by simpa using h0
    rw [if_neg (fun hc => h0 hc.1)]
    clear h0
    go_enter Try.func107, Try.ntmps107
    go_wp2
    go_end0
    exact ⟨rfl, HA.out, Chg.refl _ _⟩

end Go.Proofs.Ytkkmldoohokdfaa

/- Layer 1, package code: a text's bytes. -/
namespace Go.Proofs.Ytkkmldoohokdfaa
open Go.RowKit

theorem Text_any (s : ByteArray) (w : World) (hs : s.size ≤ 140737488351232) :
    Calls Try.prog 113 #[.string s] w fun e w' => ∃ v', e = .returned v' ∧ Grew w.heap.size 5 (.slice none 0 0) w ((numB s.size ++ s.data.toList).map B) v' w' := by
  have hlen := numB_len10 (n := s.size) (by omega)
  go_enter Try.func113, Try.ntmps113
  go_wp2_with (first | (go_at_call 95; refine (addNum_any w.heap.size _ [] _ _ (World.ownsRow_nil _ _ _ _) (Nat.le_refl _) (by omega) (by simp)).mono ?_; rintro e w' ⟨v', rfl, hg⟩) | (at_builtin; refine app_str rfl _ _ rfl w.heap.size _ _ rfl hg.1 _ rfl (by simp; omega) hg.size ?_; intro v2 w2 hg2))
  go_ret
  exact ⟨_, rfl, by simpa using hg.trans hg2⟩

end Go.Proofs.Ytkkmldoohokdfaa
