/- Texts that the proof of R rests on, one behind the other. -/
import Derived.Test.YtdijinboopdheaaRQ5
import Derived.Laws.LoneSync

/- Package net: Get. -/
namespace Go.Proofs.Ytdijinboopdheaa
open Go.RowKit

def getA (r : Option Ms) : Value := match r with | some m => .tuple #[msV m, .bool true] | none => .tuple #[msV zMs, .bool false]
theorem getM_n1 {b : List UInt8} (h : (getF b 0).2.2 ≠ 1) : getM b = none := by unfold getM; rw [if_neg (fun hc => h hc.1)]
theorem getM_n2 {b : List UInt8} (h : (getF b 0).2.1 ≠ (b.length : Int)) : getM b = none := by unfold getM; rw [if_neg (fun hc => h hc.2)]
theorem getM_n3 {b : List UInt8} (h : listAt (getF b 0).1 0 11 = none) : getM b = none := by
  unfold getM
  rw [h]
  split <;> rfl
theorem getM_n4 {b : List UInt8} {l : List Nat} {q : Nat} (h : listAt (getF b 0).1 0 11 = some (l, q)) (hq : ¬ (q = (getF b 0).1.length ∧ l.length = 11)) : getM b = none := by
  unfold getM
  rw [h]
  split
  · simp only
    rw [if_neg (fun hc => hq ⟨hc.1, hc.2.1⟩)]
  · rfl
theorem getM_y {b : List UInt8} {l : List Nat} {q : Nat} (h1 : (getF b 0).2.2 = 1) (h2 : (getF b 0).2.1 = (b.length : Int)) (h : listAt (getF b 0).1 0 11 = some (l, q)) (hq : q = (getF b 0).1.length ∧ l.length = 11) :
    getM b = if rightM (ofL (l.map fun (n : Nat) => (n : Int))) = true then some (ofL (l.map fun (n : Nat) => (n : Int))) else none := by
  unfold getM
  rw [if_pos ⟨h1, h2⟩, h]
  simp only [hq, true_and]
/-- A message's cells, of which the first k are read. -/
def partA (L : List Int) (k : Nat) : Array Value := ((L.take k ++ List.replicate (11 - k) 0).map I).toArray
theorem partA_next {L : List Int} {k : Nat} {n : Int} (hk : k < 11) (hn : L[k]? = some n) : (partA L k).setIfInBounds k (.int .i64 n) = partA L (k + 1) := by
  have hlen : k < L.length := (List.getElem?_eq_some_iff.1 hn).1
  have h1 : (L.take k).length = k := by rw [List.length_take]; omega
  unfold partA
  rw [List.setIfInBounds_toArray, show Value.int .i64 n = I n from rfl, ← List.map_set, show 11 - k = (11 - (k + 1)) + 1 by omega, List.replicate_succ, List.set_append, if_neg (by omega), h1, Nat.sub_self, List.set_cons_zero, List.take_add_one, hn]
  simp
theorem partA_size {L : List Int} {k : Nat} (h : L.length = 11) (hk : k ≤ 11) : (partA L k).size = 11 := by
  unfold partA
  simp only [List.size_toArray, List.length_map, List.length_append, List.length_take, List.length_replicate]
  omega
theorem partA_full {L : List Int} (h : L.length = 11) : partA L 11 = #[I (ofL L).node, I (ofL L).kind, I (ofL L).term, I (ofL L).gen, I (ofL L).job, I (ofL L).inc, I (ofL L).ver, I (ofL L).epoch, I (ofL L).til, I (ofL L).mode, I (ofL L).work] := by
  match L, h with
  | [a, b, c, d, e, f, g, h, i, j, k], _ => rfl

theorem results_ct {fn : Func} {p u : Tmp} {t : TypeId} (h : fn.results = #[.cell p t, .tmp u]) (tmps : Array Value) (P : Program) (w : World) :
    (results fn tmps).run P w = ((asAddr (tmps.getD p undef)).run P w).andThen fun a w₁ => ((loadVar t a).run P w₁).andThen fun v w₂ => .ok (.tuple #[v, tmps.getD u undef]) w₂ := by
  simp only [results, h]
  simp [Sem.run_bind, Result.andThen]
set_option maxRecDepth 100000 in
theorem infoM12 : (Try.prog.info? 49).map (·.size) = some 11 := by kernel_rfl
set_option maxRecDepth 100000 in
theorem run_ct {fn : Func} (h : fn.results = #[.cell 2 49, .tmp 3]) {tmps : Array Value} {w : World} {g : Nat} {cs : Array Value} {b : Bool}
    (h2 : tmps.getD 2 undef = .pointer (some ⟨g, 0, none⟩)) (h3 : tmps.getD 3 undef = .bool b) (hb : Blk w g 49 cs) (hs : cs.size = 11) : (results fn tmps).run Try.prog w = .ok (.tuple #[.agg cs, .bool b]) w := by
  have i1 : (Try.prog.info? 49).map (·.size) = some cs.size := by rw [hs]; exact infoM12
  rw [results_ct h, h2, h3]
  simp only [asAddr, Sem.run_pure, Result.andThen_ok, run_loadVar_row w g 49 49 _ (0, 0) _ hb rfl rfl i1]

set_option maxRecDepth 100000 in
set_option maxHeartbeats 4000000 in
theorem Get12_any (bs : List UInt8) (v : Value) (w : World) (hr : Rd w v (bs.map B)) : Calls Try.prog 29 #[v] w fun e w' => e = .returned (getA (getM bs)) ∧ Ext w w' := by
  obtain ⟨Av, cv, rfl, hle, hcm⟩ := hr.sliceN (List.length_map _)
  obtain ⟨W, hW⟩ : ∃ W, W = w.alloc (.cells #[.int .i64 0, .int .i64 0, .int .i64 0, .int .i64 0, .int .i64 0, .int .i64 0, .int .i64 0, .int .i64 0, .int .i64 0, .int .i64 0, .int .i64 0] 49) := ⟨_, rfl⟩
  have HB := Lib.hid (show Blk W w.heap.size 49 #[.int .i64 0, .int .i64 0, .int .i64 0, .int .i64 0, .int .i64 0, .int .i64 0, .int .i64 0, .int .i64 0, .int .i64 0, .int .i64 0, .int .i64 0] by rw [hW]; exact Blk.new _ _ _)
  have HI : Hid ((Try.prog.info? 49).map (·.size) = some (#[.int .i64 0, .int .i64 0, .int .i64 0, .int .i64 0, .int .i64 0, .int .i64 0, .int .i64 0, .int .i64 0, .int .i64 0, .int .i64 0, .int .i64 0] : Array Value).size) := Lib.hid infoM12
  have HO : Hid ((#[.int .i64 0, .int .i64 0, .int .i64 0, .int .i64 0, .int .i64 0, .int .i64 0, .int .i64 0, .int .i64 0, .int .i64 0, .int .i64 0, .int .i64 0] : Array Value).all (·.oneCell') = true) := Lib.hid (by simp [Value.oneCell'])
  have HXW := Lib.hid (show Ext w W by rw [hW]; exact Ext.alloc_ _ _)
  have HFG := Lib.hid (FrameGet_rdF bs _ 0 W (hr.ext HXW.out))
  go_enter Try.func29, Try.ntmps29
  go_wp2_with fail
  rw [← hW]
  clear hW
  refine HFG.out.mono ?_
  rintro e1 w1 ⟨v1, rfl, hf1, hx1⟩
  have HX := Lib.hid (HXW.out.trans hx1)
  replace HB := Lib.hid (HB.out.ext hx1)
  obtain ⟨p, hp⟩ : ∃ p, p = (getF bs 0).1 := ⟨_, rfl⟩
  obtain ⟨ee, he⟩ : ∃ p, p = (getF bs 0).2.1 := ⟨_, rfl⟩
  obtain ⟨kk, hkk⟩ : ∃ p, p = (getF bs 0).2.2 := ⟨_, rfl⟩
  have hpl : p.length ≤ 4000 := by
    rw [hp]
    rcases getF_cases bs 0 with ⟨_, _, h3, _⟩ | ⟨h1, _⟩
    · exact (frameAt_some h3).1.2
    · rw [h1]; exact Nat.zero_le _
  rw [← hp] at hf1
  rw [← he, ← hkk]
  have HP := Lib.hid hp
  have HE := Lib.hid he
  have HK := Lib.hid hkk
  have HR1 := Lib.hid hf1.rd
  obtain ⟨A1, c1, rfl, hlc, hlm⟩ := hf1.rd.sliceN (List.length_map _)
  have HPL := Lib.hid hpl
  clear hp he hkk hf1 hx1 HFG hpl
  by_cases q1 : kk = 1
  · subst q1
    by_cases q2 : ee = (bs.length : Int)
    · have HE2 := Lib.hid q2
      have d2 : (ee != (bs.length : Int)) = false := by rw [q2]; simp
      clear q2
      have HGL := Lib.hid (GetList_any p _ 0 11 w1 HR1.out (by decide) (by have := HPL.out; omega))
      go_wp2_with fail
      refine HGL.out.mono ?_
      intro e2 w2 hp2
      rcases hla : listAt p 0 11 with _ | ⟨l, q⟩
      · rw [hla] at hp2
        obtain ⟨rfl, hx2⟩ := hp2
        have HF : Hid (getM bs = none) := Lib.hid (getM_n3 (by rw [← HP.out]; exact hla))
        replace HX := Lib.hid (HX.out.trans hx2)
        replace HB := Lib.hid (HB.out.ext hx2)
        clear hx2 hla d2 HGL
        go_wp2_with (refine wpList_storeB rfl 49 _ _ rfl w.heap.size #[.int .i64 0, .int .i64 0, .int .i64 0, .int .i64 0, .int .i64 0, .int .i64 0, .int .i64 0, .int .i64 0, .int .i64 0, .int .i64 0, .int .i64 0] rfl rfl 49 _ HB.out HI.out rfl HO.out w.heap.size w HX.out (Nat.le_refl _) ?_; intro w5 hb5 hx5)
        exact bodyPost_ret (run_ct rfl rfl rfl hb5 rfl) rfl ⟨by rw [HF.out]; rfl, hx5⟩
      · rw [hla] at hp2
        obtain ⟨v2, rfl, ho2, hx2⟩ := hp2
        replace HB := Lib.hid (HB.out.ext hx2)
        replace HX := Lib.hid (HX.out.trans hx2)
        have HRL := Lib.hid (Rd.own ho2)
        have HLA := Lib.hid (show listAt (getF bs 0).1 0 11 = some (l, q) by rw [← HP.out]; exact hla)
        obtain ⟨A2, c2, rfl, hlc2, hlm2⟩ := HRL.out.sliceN (List.length_map _)
        clear hx2 hla d2 HGL ho2
        by_cases q3 : q = p.length
        · have d3 : ((q : Int) != (p.length : Int)) = false := by rw [q3]; simp
          by_cases q4 : l.length = 11
          · have d4 : ((l.length : Int) != 11) = false := by rw [q4]; rfl
            have HQ := Lib.hid (And.intro (show q = (getF bs 0).1.length by rw [← HP.out]; exact q3) q4)
            have HGM := Lib.hid (getM_y (HK.out.symm) (HE.out.symm.trans HE2.out) HLA.out HQ.out)
            clear q3 q4
            obtain ⟨L, hL⟩ : ∃ L : List Int, L = l.map fun (n : Nat) => (n : Int) := ⟨_, rfl⟩
            rw [← hL] at HGM
            have HL := Lib.hid hL
            have HLN : Hid (L.length = 11) := Lib.hid (by rw [hL, List.length_map]; exact HQ.out.2)
            clear hL
            obtain ⟨b2, o2, rfl, hb2, hc2⟩ := HRL.out.get (by rw [List.length_map, HQ.out.2]; decide)
            have HC2 := Lib.hid hc2
            clear hc2 hb2
            obtain ⟨W3, hW3⟩ : ∃ W3, W3 = w2.alloc (.cells #[.int .i64 0, .int .i64 0, .int .i64 0, .int .i64 0, .int .i64 0, .int .i64 0, .int .i64 0, .int .i64 0, .int .i64 0, .int .i64 0, .int .i64 0] 49) := ⟨_, rfl⟩
            have HB3 := Lib.hid (show Blk W3 w2.heap.size 49 #[.int .i64 0, .int .i64 0, .int .i64 0, .int .i64 0, .int .i64 0, .int .i64 0, .int .i64 0, .int .i64 0, .int .i64 0, .int .i64 0, .int .i64 0] by rw [hW3]; exact Blk.new _ _ _)
            have HX3 := Lib.hid (show Ext w2 W3 by rw [hW3]; exact Ext.alloc_ _ _)
            have HN := Lib.hid (numbers_any w2.heap.size W3)
            go_upto_region 8 with (fail)
            rw [← hW3]
            clear hW3
            go_wp2_with fail
            refine HN.out.mono ?_
            rintro e3 w3 ⟨rfl, hx3⟩
            replace HX3 := Lib.hid (HX3.out.trans hx3)
            replace HB3 := Lib.hid (HB3.out.ext hx3)
            clear hx3 HN
            have HS : Hid (WB w3 w2.heap.size 49 w3 (partA L 0)) := Lib.hid (WB.start HB3.out)
            go_wp2_with fail
            go_loopw [49] (fun i wr => ∃ k : Nat, i = .int .i64 k ∧ k ≤ 11 ∧ Hid (WB w3 w2.heap.size 49 wr (partA L k))) (fun i _ => 11 - (intOf i).toNat)
            case atStart => exact ⟨0, rfl, Nat.zero_le _, HS⟩
            case round =>
              obtain ⟨k, rfl, hk, HKK⟩ := hrel
              have HXR : Hid (Ext w2 wr) := Lib.hid (HKK.out.ext HX3.out (Nat.le_refl _))
              by_cases hlt : k < 11
              · have e1 : decide ((k : Int) < 11) = true := decide_eq_true (by omega)
                have e1' : decide (k < 11) = true := decide_eq_true hlt
                obtain ⟨n, hn⟩ : ∃ n, l[k]? = some n := ⟨_, List.getElem?_eq_getElem (by rw [HQ.out.2]; exact hlt)⟩
                have cl : wr.cell? ⟨b2, o2 + k, none⟩ = some (.int .i64 (n : Int)) := by
                  have h := HRL.out.ext HXR.out
                  obtain ⟨b', o', e', -, hc'⟩ := h.get (by rw [List.length_map, HQ.out.2]; decide)
                  cases e'
                  exact hc' k _ (by rw [List.getElem?_map, hn]; rfl)
                have hLn : L[k]? = some (n : Int) := by rw [HL.out, List.getElem?_map, hn]; rfl
                have HPN := Lib.hid (partA_next hlt hLn)
                have HLT := Lib.hid hlt
                have hix := ptrA_index w2.heap.size hlt wr
                obtain ⟨u, hu⟩ : ∃ u, wr.cell? ⟨w2.heap.size, k, none⟩ = some u := by
                  rw [HKK.out.blk.cell k]
                  exact ⟨_, Array.getElem?_eq_getElem (by rw [partA_size HLN.out hk]; exact hlt)⟩
                have hfz := HKK.out.blk.frozen k
                have x1 : (0 : Int) ≤ (k : Int) ∧ (k : Int) < (l.length : Int) := by have := HLT.out; have := HQ.out.2; omega
                have hwq : wrap64 ((k : Int) + 1) = (k : Int) + 1 := IntWalk.wrap64_in _ (by omega)
                clear hn hLn hlt
                go_wp2
                go_roundw
                case rel => exact ⟨k + 1, by go_num, HLT.out, Lib.hid (by rw [← HPN.out]; exact HKK.out.set k _)⟩
                case measure => simp [intOf]; have := HLT.out; omega
              · obtain rfl : k = 11 := by omega
                have e1 : decide ((11 : Int) < 11) = false := by decide
                have HM : Hid (MsAt wr w2.heap.size (ofL L)) := Lib.hid ⟨by have h := HKK.out.blk; rw [partA_full HLN.out] at h; exact h⟩
                replace HB := Lib.hid (HB.out.ext HXR.out)
                replace HX := Lib.hid (HX.out.trans HXR.out)
                obtain ⟨M, hM⟩ : ∃ M, M = ofL L := ⟨_, rfl⟩
                have HGM2 : Hid (getM bs = if rightM M = true then some M else none) := Lib.hid (by rw [hM]; exact HGM.out)
                rw [← hM] at HM
                have HRT := Lib.hid (Right12_any M wr)
                unfold msV at HRT
                clear hM hk hlt HKK HGM
                obtain ⟨m0, m1, m2, m3, m4, m5, m6, m7, m8, m9, m10⟩ := HM.out.cells
                cases hr : rightM M with
                | false =>
                  rw [hr] at HRT
                  have HF : Hid (getM bs = none) := Lib.hid (by rw [HGM2.out, hr]; rfl)
                  clear hr
                  go_wp2_with fail
                  refine HRT.out.mono ?_
                  rintro e4 w4 ⟨rfl, hx4⟩
                  clear m0 m1 m2 m3 m4 m5 m6 m7 m8 m9 m10
                  replace HX := Lib.hid (HX.out.trans hx4)
                  replace HB := Lib.hid (HB.out.ext hx4)
                  replace HM := Lib.hid (HM.out.ext hx4)
                  clear hx4 HRT
                  go_wp2_with (refine wpList_storeB rfl 49 _ _ rfl w.heap.size #[.int .i64 0, .int .i64 0, .int .i64 0, .int .i64 0, .int .i64 0, .int .i64 0, .int .i64 0, .int .i64 0, .int .i64 0, .int .i64 0, .int .i64 0] rfl rfl 49 _ HB.out HI.out rfl HO.out w.heap.size w HX.out (Nat.le_refl _) ?_; intro w5 hb5 hx5)
                  exact bodyPost_ret (run_ct rfl rfl rfl hb5 rfl) rfl ⟨by rw [HF.out]; rfl, hx5⟩
                | true =>
                  rw [hr] at HRT
                  have HF : Hid (getM bs = some M) := Lib.hid (by rw [HGM2.out, hr]; rfl)
                  clear hr
                  go_wp2_with fail
                  refine HRT.out.mono ?_
                  rintro e4 w4 ⟨rfl, hx4⟩
                  clear m0 m1 m2 m3 m4 m5 m6 m7 m8 m9 m10
                  replace HX := Lib.hid (HX.out.trans hx4)
                  replace HB := Lib.hid (HB.out.ext hx4)
                  replace HM := Lib.hid (HM.out.ext hx4)
                  clear hx4 HRT
                  have HI2 : Hid ((Try.prog.info? 49).map (·.size) = some (#[.int .i64 M.node, .int .i64 M.kind, .int .i64 M.term, .int .i64 M.gen, .int .i64 M.job, .int .i64 M.inc, .int .i64 M.ver, .int .i64 M.epoch, .int .i64 M.til, .int .i64 M.mode, .int .i64 M.work] : Array Value).size) := Lib.hid infoM12
                  have HO2 : Hid ((#[.int .i64 M.node, .int .i64 M.kind, .int .i64 M.term, .int .i64 M.gen, .int .i64 M.job, .int .i64 M.inc, .int .i64 M.ver, .int .i64 M.epoch, .int .i64 M.til, .int .i64 M.mode, .int .i64 M.work] : Array Value).all (·.oneCell') = true) := Lib.hid (by simp [Value.oneCell'])
                  obtain ⟨m0, m1, m2, m3, m4, m5, m6, m7, m8, m9, m10⟩ := HM.out.cells
                  go_wp2_with (refine wpList_storeB rfl 49 _ _ rfl w.heap.size #[.int .i64 M.node, .int .i64 M.kind, .int .i64 M.term, .int .i64 M.gen, .int .i64 M.job, .int .i64 M.inc, .int .i64 M.ver, .int .i64 M.epoch, .int .i64 M.til, .int .i64 M.mode, .int .i64 M.work] rfl rfl 49 _ HB.out HI2.out rfl HO2.out w.heap.size w HX.out (Nat.le_refl _) ?_; intro w5 hb5 hx5)
                  exact bodyPost_ret (run_ct rfl rfl rfl hb5 rfl) rfl ⟨by rw [HF.out]; rfl, hx5⟩
          have d4 : ((l.length : Int) != 11) = true := by simp only [bne_iff_ne]; omega
          have HF : Hid (getM bs = none) := Lib.hid (getM_n4 HLA.out (fun h => q4 h.2))
          clear q3 q4
          go_wp2_with (refine wpList_storeB rfl 49 _ _ rfl w.heap.size #[.int .i64 0, .int .i64 0, .int .i64 0, .int .i64 0, .int .i64 0, .int .i64 0, .int .i64 0, .int .i64 0, .int .i64 0, .int .i64 0, .int .i64 0] rfl rfl 49 _ HB.out HI.out rfl HO.out w.heap.size w HX.out (Nat.le_refl _) ?_; intro w5 hb5 hx5)
          exact bodyPost_ret (run_ct rfl rfl rfl hb5 rfl) rfl ⟨by rw [HF.out]; rfl, hx5⟩
        have d3 : ((q : Int) != (p.length : Int)) = true := by simp only [bne_iff_ne]; omega
        have HF : Hid (getM bs = none) := Lib.hid (getM_n4 HLA.out (fun h => q3 (by rw [HP.out]; exact h.1)))
        clear q3
        go_wp2_with (refine wpList_storeB rfl 49 _ _ rfl w.heap.size #[.int .i64 0, .int .i64 0, .int .i64 0, .int .i64 0, .int .i64 0, .int .i64 0, .int .i64 0, .int .i64 0, .int .i64 0, .int .i64 0, .int .i64 0] rfl rfl 49 _ HB.out HI.out rfl HO.out w.heap.size w HX.out (Nat.le_refl _) ?_; intro w5 hb5 hx5)
        exact bodyPost_ret (run_ct rfl rfl rfl hb5 rfl) rfl ⟨by rw [HF.out]; rfl, hx5⟩
    have d2 : (ee != (bs.length : Int)) = true := by simp only [bne_iff_ne]; exact q2
    have HF : Hid (getM bs = none) := Lib.hid (getM_n2 (by rw [← HE.out]; exact q2))
    clear q2
    go_wp2_with (refine wpList_storeB rfl 49 _ _ rfl w.heap.size #[.int .i64 0, .int .i64 0, .int .i64 0, .int .i64 0, .int .i64 0, .int .i64 0, .int .i64 0, .int .i64 0, .int .i64 0, .int .i64 0, .int .i64 0] rfl rfl 49 _ HB.out HI.out rfl HO.out w.heap.size w HX.out (Nat.le_refl _) ?_; intro w5 hb5 hx5)
    exact bodyPost_ret (run_ct rfl rfl rfl hb5 rfl) rfl ⟨by rw [HF.out]; rfl, hx5⟩
  have d1 : (kk != 1) = true := by simp only [bne_iff_ne]; exact q1
  have HF : Hid (getM bs = none) := Lib.hid (getM_n1 (by rw [← HK.out]; exact q1))
  clear q1
  go_wp2_with (refine wpList_storeB rfl 49 _ _ rfl w.heap.size #[.int .i64 0, .int .i64 0, .int .i64 0, .int .i64 0, .int .i64 0, .int .i64 0, .int .i64 0, .int .i64 0, .int .i64 0, .int .i64 0, .int .i64 0] rfl rfl 49 _ HB.out HI.out rfl HO.out w.heap.size w HX.out (Nat.le_refl _) ?_; intro w5 hb5 hx5)
  exact bodyPost_ret (run_ct rfl rfl rfl hb5 rfl) rfl ⟨by rw [HF.out]; rfl, hx5⟩

end Go.Proofs.Ytdijinboopdheaa

/- Package net: messages on their way, in a block; what asks about them. -/
namespace Go.Proofs.Ytdijinboopdheaa
open Go.RowKit

/-- A parcel, and the slice that holds its bytes. -/
abbrev PvP := Value × PcP
def wayC (ps : List PvP) : List Value := ps.flatMap fun x => [x.1, .bool (tOf x.2)]
theorem wayC_len : ∀ ps : List PvP, (wayC ps).length = ps.length * 2
  | [] => rfl
  | x :: ps => by
    show (wayC ps).length + 1 + 1 = _
    rw [wayC_len ps, List.length_cons]
    omega
theorem wayC_at : ∀ (ps : List PvP) (k : Nat) (x : PvP), ps[k]? = some x → (wayC ps)[k * 2]? = some x.1 ∧ (wayC ps)[k * 2 + 1]? = some (.bool (tOf x.2))
  | [], k, x, h => by simp at h
  | y :: ps, 0, x, h => by
    obtain rfl : y = x := by simpa using h
    exact ⟨rfl, rfl⟩
  | y :: ps, k + 1, x, h => by
    have ih := wayC_at ps k x (by simpa using h)
    rw [show (k + 1) * 2 = k * 2 + 1 + 1 by omega]
    exact ih
theorem wayC_snoc (ps : List PvP) (x : PvP) : wayC (ps ++ [x]) = wayC ps ++ [x.1, .bool (tOf x.2)] := by simp [wayC]
theorem wayC_drop : ∀ (ps : List PvP) (k : Nat), k < ps.length → (wayC ps).take (k * 2) ++ (wayC ps).drop ((k + 1) * 2) = wayC (ps.eraseIdx k)
  | [], k, h => by simp at h
  | y :: ps, 0, h => by simp [wayC]
  | y :: ps, k + 1, h => by
    have ih := wayC_drop ps k (by simpa using h)
    rw [List.eraseIdx_cons_succ]
    show (y.1 :: .bool (tOf y.2) :: wayC ps).take ((k + 1) * 2) ++ (y.1 :: .bool (tOf y.2) :: wayC ps).drop ((k + 1 + 1) * 2) = y.1 :: .bool (tOf y.2) :: wayC (ps.eraseIdx k)
    rw [← ih, show (k + 1) * 2 = k * 2 + 1 + 1 by omega, show (k + 1 + 1) * 2 = (k * 2 + 1 + 1) + 1 + 1 by omega, List.take_succ_cons, List.take_succ_cons, List.drop_succ_cons, List.drop_succ_cons]
    rfl
theorem wayC_set : ∀ (ps : List PvP) (k : Nat) (x y : PvP), ps[k]? = some x → y.1 = x.1 → (wayC ps).set (k * 2 + 1) (.bool (tOf y.2)) = wayC (ps.set k y)
  | [], k, x, y, h, _ => by simp at h
  | z :: ps, 0, x, y, h, e => by
    obtain rfl : z = x := by simpa using h
    show [z.1, .bool (tOf y.2)] ++ wayC ps = [y.1, .bool (tOf y.2)] ++ wayC ps
    rw [e]
  | z :: ps, k + 1, x, y, h, e => by
    have ih := wayC_set ps k x y (by simpa using h) e
    rw [show (k + 1) * 2 + 1 = (k * 2 + 1) + 1 + 1 by omega]
    show z.1 :: .bool (tOf z.2) :: (wayC ps).set (k * 2 + 1) _ = z.1 :: .bool (tOf z.2) :: wayC (ps.set k y)
    rw [ih]
def apartV (a b : PvP) : Prop := ∀ k, a.1.ownBlock = some k → b.1.ownBlock ≠ some k
theorem apartV.symm {a b : PvP} (h : apartV a b) : apartV b a := fun k hb ha => h k ha hb

/-- The net in block g; F: the blocks that are written. -/
structure NtIn (F : Fp) (w : World) (g : Nat) (S : NtP) (v : Value) (ps : List PvP) : Prop where
  blk : Blk w g 69 #[v, .int .i64 (S.sent : Int)]
  eq : ps.map (·.2) = S.way
  row : WayF (fun k => F k ∧ k ≠ g) w 117 2 v ps.length (wayC ps)
  bytes : ∀ x ∈ ps, RowF (fun k => F k ∧ k ≠ g ∧ v.ownBlock ≠ some k) w 5 x.1 ((bsOf x.2).map B)
  apart : ps.Pairwise apartV
structure NtAt (F : Fp) (w : World) (g : Nat) (S : NtP) : Prop where
  out : ∃ v ps, NtIn F w g S v ps
  isIn : F.isIn w
  here : F g

section
variable {F G : Fp} {w w' : World} {g : Nat} {S : NtP} {v : Value} {ps : List PvP}
theorem NtIn.len (h : NtIn F w g S v ps) : ps.length = S.way.length := by rw [← h.eq, List.length_map]
theorem NtIn.chg (h : NtIn F w g S v ps) (hc : Chg G w w') (hG : ∀ k, F k → ¬ G k) (hg : F g) : NtIn F w' g S v ps :=
  ⟨(hc.block g h.blk.lt (hG g hg)).trans h.blk, h.eq, h.row.chg hc (fun k hk => hG k (h.row.inF k hk).1), fun x hx => (h.bytes x hx).chg hc (fun k hk => hG k hk.1), h.apart⟩
theorem NtAt.chg (h : NtAt F w g S) (hc : Chg G w w') (hG : ∀ k, F k → ¬ G k) : NtAt F w' g S := by
  obtain ⟨v, ps, hi⟩ := h.out
  exact ⟨⟨v, ps, hi.chg hc hG h.here⟩, h.isIn.chg hc, h.here⟩
theorem NtAt.ext (h : NtAt F w g S) (hx : Ext w w') : NtAt F w' g S := h.chg (G := fun _ => False) (Chg.of_ext hx) (fun _ _ h => h)
theorem NtAt.lt (h : NtAt F w g S) : g < w.heap.size := h.isIn g h.here
end

set_option maxRecDepth 100000 in
set_option maxHeartbeats 1000000 in
theorem NLen_any (F : Fp) (g : Nat) (S : NtP) (w : World) (h : NtAt F w g S) : Calls Try.prog 40 #[.pointer (some ⟨g, 0, none⟩)] w fun e w' => e = .returned (.int .i64 S.way.length) ∧ Ext w w' := by
  obtain ⟨v, ps, hi⟩ := h.out
  obtain ⟨A, c, rfl, -, -, -⟩ := hi.row.slice_
  have c0 : w.cell? ⟨g, 0, none⟩ = some (.slice A ps.length c) := hi.blk.cell 0
  have HL := Lib.hid hi.len
  clear hi h
  go_enter Try.func40, Try.ntmps40
  go_wp2
  go_ret
  exact ⟨by rw [← HL.out]; rfl, Ext.refl _⟩

set_option maxRecDepth 100000 in
theorem NLen_nil (w : World) : Calls Try.prog 40 #[.pointer none] w fun e w' => e = .returned (.int .i64 0) ∧ Ext w w' := by
  go_enter Try.func40, Try.ntmps40
  go_wp2
  go_ret
  exact ⟨rfl, Ext.refl _⟩

set_option maxRecDepth 100000 in
set_option maxHeartbeats 1000000 in
theorem NHas_any (F : Fp) (g : Nat) (S : NtP) (i : Int) (w : World) (h : NtAt F w g S) : Calls Try.prog 77 #[.pointer (some ⟨g, 0, none⟩), .int .i64 i] w fun e w' => e = .returned (.bool (hasN S i)) ∧ Ext w w' := by
  have HN := Lib.hid (NLen_any F g S w h)
  clear h
  by_cases h0 : 0 ≤ i
  · have d0 : decide (0 ≤ i) = true := decide_eq_true h0
    have HF : Hid (hasN S i = decide (i < (S.way.length : Int))) := Lib.hid (by unfold hasN; rw [d0]; rfl)
    clear h0
    go_enter Try.func77, Try.ntmps77
    go_wp2_with fail
    refine HN.out.mono ?_
    rintro e1 w1 ⟨rfl, hx⟩
    go_wp2
    go_ret
    exact ⟨by rw [HF.out]; rfl, hx⟩
  · have d0 : decide (0 ≤ i) = false := decide_eq_false h0
    have HF : Hid (hasN S i = false) := Lib.hid (by unfold hasN; rw [d0]; rfl)
    clear h0
    go_enter Try.func77, Try.ntmps77
    go_wp2
    go_ret
    exact ⟨by rw [HF.out]; rfl, Ext.refl _⟩

set_option maxRecDepth 100000 in
theorem NHas_nil (i : Int) (w : World) : Calls Try.prog 77 #[.pointer none, .int .i64 i] w fun e w' => e = .returned (.bool false) ∧ Ext w w' := by
  by_cases h0 : 0 ≤ i
  · have d0 : decide (0 ≤ i) = true := decide_eq_true h0
    have d1 : decide (i < 0) = false := decide_eq_false (by omega)
    clear h0
    go_enter Try.func77, Try.ntmps77
    go_wp2_with fail
    refine (NLen_nil w).mono ?_
    rintro e1 w1 ⟨rfl, hx⟩
    go_wp2
    go_ret
    exact ⟨rfl, hx⟩
  · have d0 : decide (0 ≤ i) = false := decide_eq_false h0
    clear h0
    go_enter Try.func77, Try.ntmps77
    go_wp2
    go_ret
    exact ⟨rfl, Ext.refl _⟩

set_option maxRecDepth 100000 in
set_option maxHeartbeats 1000000 in
theorem NRoom_any (F : Fp) (g : Nat) (S : NtP) (w : World) (h : NtAt F w g S) : Calls Try.prog 78 #[.pointer (some ⟨g, 0, none⟩)] w fun e w' => e = .returned (.bool (roomN S)) ∧ Ext w w' := by
  obtain ⟨v, ps, hi⟩ := h.out
  obtain ⟨A, c, rfl, -, -, -⟩ := hi.row.slice_
  have c0 : w.cell? ⟨g, 0, none⟩ = some (.slice A ps.length c) := hi.blk.cell 0
  have HL := Lib.hid hi.len
  clear hi h
  by_cases h0 : ps.length < 40
  · have d0 : decide ((ps.length : Int) < 40) = true := decide_eq_true (by omega)
    have d0' : decide (ps.length < 40) = true := decide_eq_true h0
    have HF : Hid (roomN S = true) := Lib.hid (by unfold roomN; rw [← HL.out]; exact d0')
    clear h0
    go_enter Try.func78, Try.ntmps78
    go_wp2
    go_ret
    exact ⟨by rw [HF.out]; rfl, Ext.refl _⟩
  · have d0 : decide ((ps.length : Int) < 40) = false := decide_eq_false (by omega)
    have d0' : decide (ps.length < 40) = false := decide_eq_false h0
    have HF : Hid (roomN S = false) := Lib.hid (by unfold roomN; rw [← HL.out]; exact d0')
    clear h0
    go_enter Try.func78, Try.ntmps78
    go_wp2
    go_ret
    exact ⟨by rw [HF.out]; rfl, Ext.refl _⟩
set_option maxRecDepth 100000 in
theorem NRoom_nil (w : World) : Calls Try.prog 78 #[.pointer none] w fun e w' => e = .returned (.bool false) ∧ Ext w w' := by
  go_enter Try.func78, Try.ntmps78
  go_wp2
  go_ret
  exact ⟨rfl, Ext.refl _⟩

set_option maxRecDepth 100000 in
theorem NSent_nil (w : World) : Calls Try.prog 41 #[.pointer none] w fun e w' => e = .returned (.int .i64 0) ∧ Ext w w' := by
  go_enter Try.func41, Try.ntmps41
  go_wp2
  go_ret
  exact ⟨rfl, Ext.refl _⟩
set_option maxRecDepth 100000 in
set_option maxHeartbeats 1000000 in
theorem NSent_any (F : Fp) (g : Nat) (S : NtP) (w : World) (h : NtAt F w g S) : Calls Try.prog 41 #[.pointer (some ⟨g, 0, none⟩)] w fun e w' => e = .returned (.int .i64 (S.sent : Int)) ∧ Ext w w' := by
  obtain ⟨v, ps, hi⟩ := h.out
  have c1 : w.cell? ⟨g, 1, none⟩ = some (.int .i64 (S.sent : Int)) := hi.blk.cell 1
  have hl := run_call_load (P := Try.prog) Try.func92 (by kernel_rfl) (by kernel_rfl) (by kernel_rfl) .i64 (by kernel_rfl) c1
  clear hi h
  go_enter Try.func41, Try.ntmps41
  go_wp2
  go_ret
  exact ⟨rfl, Ext.refl _⟩

end Go.Proofs.Ytdijinboopdheaa

/- Package net: what a net becomes when it is written. -/
namespace Go.Proofs.Ytdijinboopdheaa
open Go.RowKit

section
variable {F G : Fp} {w w' w3 w4 : World} {g : Nat} {S : NtP} {v v' : Value} {ps : List PvP}
theorem NtIn.off (h : NtIn F w g S v ps) : v.ownBlock ≠ some g := fun e => (h.row.inF g e).2 rfl
theorem NtIn.push (h : NtIn F w g S v ps) (hF : F.isIn w) (hg : F g) (hx : Ext w w3) (x : PvP) (hr : RowF (fun k => w.heap.size ≤ k ∧ k < w3.heap.size) w3 5 x.1 ((bsOf x.2).map B))
    (hp : WayG v w3 117 2 (ps.length + 1) (wayC ps ++ [x.1, .bool (tOf x.2)]) v' w4) :
    NtIn (F.since w w4) (w4.setCell ⟨g, 0, none⟩ v') g ⟨S.way ++ [x.2], S.sent⟩ v' (ps ++ [x]) ∧ Chg F w (w4.setCell ⟨g, 0, none⟩ v') := by
  have hi3 := h.chg (Chg.of_ext (F := fun _ => False) hx) (fun _ _ h => h) hg
  obtain ⟨hway, hc4⟩ := hp.way hi3.row
  have hs3 := hx.size
  have hs4 := hc4.size
  have hgl := hF g hg
  have hb4 : Blk w4 g 69 #[v, .int .i64 (S.sent : Int)] := (hc4.block g hi3.blk.lt h.off).trans hi3.blk
  have hc5 : Chg (fun k => k = g) w4 (w4.setCell ⟨g, 0, none⟩ v') := (Chg.refl _ _).setCell (fun _ => rfl)
  have hvF : ∀ k, v.ownBlock = some k → F k := fun k hk => (h.row.inF k hk).1
  have hv' : ∀ k, v'.ownBlock = some k → v.ownBlock = some k ∨ w3.heap.size ≤ k := fun k hk => by
    rcases hp.here with e | e
    · exact .inl (by rw [← e]; exact hk)
    · exact .inr (e k hk)
  have hoff' : ∀ k, v'.ownBlock = some k → k ≠ g := fun k hk e => by
    rcases hv' k hk with h1 | h1
    · rw [e] at h1; exact h.off h1
    · omega
  refine ⟨⟨hb4.set_ 0 v', by rw [List.map_append, h.eq]; rfl, ?_, fun y hy => ?_, ?_⟩, ?_⟩
  · have h1 := (hway.chg hc5 hoff').mono (G := fun k => (F.since w w4) k ∧ k ≠ g) (fun k hk => by
      rcases hk with hk | hk
      · exact ⟨.inl hk.1, hk.2⟩
      · exact ⟨.inr ⟨by omega, hk.2⟩, by omega⟩)
    rw [wayC_snoc, List.length_append]
    exact h1
  · rcases List.mem_append.1 hy with hy | hy
    · have h1 := ((hi3.bytes y hy).chg hc4 (fun k hk e => hk.2.2 e)).chg hc5 (fun k hk e => hk.2.1 e)
      exact h1.mono (fun k hk => ⟨.inl hk.1, hk.2.1, fun e => by
        rcases hv' k e with h2 | h2
        · exact hk.2.2 h2
        · have := hF k hk.1; omega⟩)
    · obtain rfl : y = x := by simpa using hy
      have h1 := (hr.chg hc4 (fun k hk e => by have := hF k (hvF k e); omega)).chg hc5 (fun k hk e => by have e : k = g := e; omega)
      exact h1.mono (fun k hk => ⟨.inr ⟨hk.1, by omega⟩, by omega, fun e => by
        rcases hv' k e with h2 | h2
        · have := hF k (hvF k h2); omega
        · omega⟩)
  · refine List.pairwise_append.2 ⟨h.apart, List.pairwise_singleton _ _, fun a ha b hb k hk e => ?_⟩
    obtain rfl : b = x := by simpa using hb
    have h1 := hF k ((h.bytes a ha).2 k hk).1
    have h2 := (hr.2 k e).1
    omega
  · refine ((Chg.of_ext (F := F) hx).trans hc4 (fun k _ hk => hvF k hk)).trans hc5 (fun k _ hk => by have hk : k = g := hk; rw [hk]; exact hg)
theorem NtIn.count (h : NtIn F w g S v ps) (hg : F g) (n : Nat) : NtIn F (w.setCell ⟨g, 1, none⟩ (.int .i64 (n : Int))) g ⟨S.way, n⟩ v ps ∧ Chg F w (w.setCell ⟨g, 1, none⟩ (.int .i64 (n : Int))) := by
  have hc : Chg (fun k => k = g) w (w.setCell ⟨g, 1, none⟩ (.int .i64 (n : Int))) := (Chg.refl _ _).setCell (fun _ => rfl)
  exact ⟨⟨h.blk.set_ 1 _, h.eq, h.row.chg hc (fun k hk => (h.row.inF k hk).2), fun x hx => (h.bytes x hx).chg hc (fun k hk => hk.2.1), h.apart⟩, hc.mono (fun k _ hk => by have hk : k = g := hk; rw [hk]; exact hg)⟩
theorem NtIn.mono (h : NtIn F w g S v ps) (hf : ∀ k, F k → G k) : NtIn G w g S v ps :=
  ⟨h.blk, h.eq, h.row.mono (fun k hk => ⟨hf k hk.1, hk.2⟩), fun x hx => (h.bytes x hx).mono (fun k hk => ⟨hf k hk.1, hk.2⟩), h.apart⟩
end

end Go.Proofs.Ytdijinboopdheaa

/- Package net: Send. -/
namespace Go.Proofs.Ytdijinboopdheaa
open Go.RowKit

theorem NtFin {F : Fp} {w0 : World} {g : Nat} (hF : F.isIn w0) (hg : F g) : ∀ (w2 w5 w6 : World) {S S6 : NtP} {v v6 : Value} {ps ps6 : List PvP} {w4 : World}, Ext w0 w2 → w4.heap.size = w5.heap.size → Chg F w2 w5 → NtIn (F.since w2 w4) w6 g S6 v6 ps6 ∧ Chg (F.since w2 w4) w5 w6 → NtAt (F.since w0 w6) w6 g S6 ∧ Chg F w0 w6 := by
  intro w2 w5 w6 S S6 v v6 ps ps6 w4 hx h45 hc5 h6
  obtain ⟨hi, hc6⟩ := h6
  have s1 := hx.size
  have s2 := hc5.size
  have s3 := hc6.size
  refine ⟨⟨⟨v6, ps6, hi.mono (fun k hk => ?_)⟩, hF.since (by omega), .inl hg⟩, ?_⟩
  · rcases hk with hk | hk
    · exact .inl hk
    · exact .inr ⟨by omega, by omega⟩
  · refine ((Chg.of_ext (F := F) hx).trans hc5 (fun _ _ h => h)).trans hc6 (fun k hk hh => ?_)
    rcases hh with hh | hh
    · exact hh
    · omega
/-- Nothing is turned. -/
theorem NtAt.grow {F : Fp} {w w' : World} {g : Nat} {S : NtP} (h : NtAt F w g S) (hx : Ext w w') : NtAt (F.since w w') w' g S ∧ Chg F w w' := by
  obtain ⟨v, ps, hi⟩ := (h.ext hx).out
  exact ⟨⟨⟨v, ps, hi.blk, hi.eq, hi.row.mono (fun k hk => ⟨.inl hk.1, hk.2⟩), fun x hx => (hi.bytes x hx).mono (fun k hk => ⟨.inl hk.1, hk.2⟩), hi.apart⟩, h.isIn.since hx.size, .inl h.here⟩, Chg.of_ext hx⟩

set_option maxRecDepth 100000 in
set_option maxHeartbeats 4000000 in
theorem NSend_any (F : Fp) (g : Nat) (S : NtP) (m : Ms) (w : World) (h : NtAt F w g S) (hs : S.sent < 1000000) : Calls Try.prog 36 #[.pointer (some ⟨g, 0, none⟩), msV m] w fun e w' => e = .returned (.bool (sendN S m).1) ∧ NtAt (F.since w w') w' g (sendN S m).2 ∧ Chg F w w' := by
  obtain ⟨W, hW⟩ : ∃ W, W = w.alloc (.cells #[.int .i64 m.node, .int .i64 m.kind, .int .i64 m.term, .int .i64 m.gen, .int .i64 m.job, .int .i64 m.inc, .int .i64 m.ver, .int .i64 m.epoch, .int .i64 m.til, .int .i64 m.mode, .int .i64 m.work] 49) := ⟨_, rfl⟩
  have hb : MsAt W w.heap.size m := by rw [hW]; exact ⟨Blk.new _ _ _⟩
  have hx : Ext w W := by rw [hW]; exact Ext.alloc_ _ _
  have HB := Lib.hid hb
  have HX := Lib.hid hx
  have HRM := Lib.hid (NRoom_any F g S W (h.ext hx))
  have HA := Lib.hid h
  clear h hb hx
  unfold msV
  go_enter Try.func36, Try.ntmps36
  go_upto_region 1 with (fail)
  rw [← hW]
  clear hW
  cases hr : roomN S with
  | false =>
    rw [hr] at HRM
    have HF : Hid (sendN S m = (false, S)) := Lib.hid (by unfold sendN; rw [if_neg (by rw [hr]; simp)])
    clear hr
    go_wp2_with fail
    refine HRM.out.mono ?_
    rintro e1 w1 ⟨rfl, hx1⟩
    replace HX := Lib.hid (HX.out.trans hx1)
    clear hx1 HRM
    go_wp2
    go_ret
    exact ⟨by rw [HF.out]; rfl, by rw [HF.out]; exact HA.out.grow HX.out⟩
  | true =>
    rw [hr] at HRM
    have HR0 := Lib.hid hr
    clear hr
    go_wp2_with fail
    refine HRM.out.mono ?_
    rintro e1 w1 ⟨rfl, hx1⟩
    replace HX := Lib.hid (HX.out.trans hx1)
    replace HB := Lib.hid (HB.out.ext hx1)
    have HRT := Lib.hid (Right12_any m w1)
    unfold msV at HRT
    clear hx1 HRM
    obtain ⟨m0, m1, m2, m3, m4, m5, m6, m7, m8, m9, m10⟩ := HB.out.cells
    cases hr : rightM m with
    | false =>
      rw [hr] at HRT
      have HF : Hid (sendN S m = (false, S)) := Lib.hid (by unfold sendN; rw [if_neg (by rw [hr]; simp)])
      clear hr
      go_wp2_with fail
      refine HRT.out.mono ?_
      rintro e2 w2 ⟨rfl, hx2⟩
      replace HX := Lib.hid (HX.out.trans hx2)
      clear m0 m1 m2 m3 m4 m5 m6 m7 m8 m9 m10
      replace HB := Lib.hid (HB.out.ext hx2)
      clear hx2 HRT
      go_wp2
      go_ret
      exact ⟨by rw [HF.out]; rfl, by rw [HF.out]; exact HA.out.grow HX.out⟩
    | true =>
      rw [hr] at HRT
      have HF : Hid (sendN S m = (true, ⟨S.way ++ [(m, none)], S.sent + 1⟩)) := Lib.hid (by unfold sendN; rw [if_pos ⟨HR0.out, hr⟩])
      have HPM : Hid (putM m = bsOf (m, none)) := Lib.hid (by unfold putM; rw [hr]; rfl)
      clear hr
      go_wp2_with fail
      refine HRT.out.mono ?_
      rintro e2 w2 ⟨rfl, hx2⟩
      replace HX := Lib.hid (HX.out.trans hx2)
      clear m0 m1 m2 m3 m4 m5 m6 m7 m8 m9 m10
      replace HB := Lib.hid (HB.out.ext hx2)
      clear hx2 HRT
      obtain ⟨v, ps, hi⟩ := (HA.out.ext HX.out).out
      obtain ⟨Av, cv, rfl, -, -, -⟩ := hi.row.slice_
      have HIN := Lib.hid hi
      have HFI := Lib.hid HA.out.isIn
      have HHR := Lib.hid HA.out.here
      clear hi
      have HC0 : Hid (∀ W', Ext w2 W' → W'.cell? ⟨g, 0, none⟩ = some (.slice Av ps.length cv)) := Lib.hid fun W' h => (HIN.out.blk.ext h).cell 0
      have HMC : Hid (∀ W', Ext w2 W' → (fun (W' : World) => W'.cell? ⟨w.heap.size, 0, none⟩ = some (.int .i64 m.node) ∧ W'.cell? ⟨w.heap.size, 1, none⟩ = some (.int .i64 m.kind) ∧ W'.cell? ⟨w.heap.size, 2, none⟩ = some (.int .i64 m.term) ∧ W'.cell? ⟨w.heap.size, 3, none⟩ = some (.int .i64 m.gen) ∧ W'.cell? ⟨w.heap.size, 4, none⟩ = some (.int .i64 m.job) ∧ W'.cell? ⟨w.heap.size, 5, none⟩ = some (.int .i64 m.inc) ∧ W'.cell? ⟨w.heap.size, 6, none⟩ = some (.int .i64 m.ver) ∧ W'.cell? ⟨w.heap.size, 7, none⟩ = some (.int .i64 m.epoch) ∧ W'.cell? ⟨w.heap.size, 8, none⟩ = some (.int .i64 m.til) ∧ W'.cell? ⟨w.heap.size, 9, none⟩ = some (.int .i64 m.mode) ∧ W'.cell? ⟨w.heap.size, 10, none⟩ = some (.int .i64 m.work)) W') := Lib.hid fun W' h => (HB.out.ext h).cells
      have HDR : Hid (Ext w2 w2.drew) := Lib.hid (Below.drewN' (Ext.refl w2) 1)
      have HPT := Lib.hid (Put12_any m w2.drew)
      unfold msV at HPT
      have c0 := HC0.out _ HDR.out
      have AddOne : Hid (∀ W : World, (Op.intArith .add .i64 (S.sent : Int) 1).run Try.prog W = .ok (.int .i64 ((S.sent + 1 : Nat) : Int)) W) := Lib.hid fun W => by
        simp [go_sem, IntKind.wrap_i64]
        omega
      have HFIN := Lib.hid (NtFin (F := F) (g := g) HA.out.isIn HA.out.here)
      clear hs
      have HN40 : Hid (ps.length < 40) := Lib.hid (by rw [HIN.out.len]; have := HR0.out; unfold roomN at this; simpa using this)
      go_upto_region 3 with (fail)
      refine held_begin (by kernel_rfl) ?_
      refine held_more (S' := fun (W' : World) => W'.cell? ⟨w.heap.size, 0, none⟩ = some (.int .i64 m.node) ∧ W'.cell? ⟨w.heap.size, 1, none⟩ = some (.int .i64 m.kind) ∧ W'.cell? ⟨w.heap.size, 2, none⟩ = some (.int .i64 m.term) ∧ W'.cell? ⟨w.heap.size, 3, none⟩ = some (.int .i64 m.gen) ∧ W'.cell? ⟨w.heap.size, 4, none⟩ = some (.int .i64 m.job) ∧ W'.cell? ⟨w.heap.size, 5, none⟩ = some (.int .i64 m.inc) ∧ W'.cell? ⟨w.heap.size, 6, none⟩ = some (.int .i64 m.ver) ∧ W'.cell? ⟨w.heap.size, 7, none⟩ = some (.int .i64 m.epoch) ∧ W'.cell? ⟨w.heap.size, 8, none⟩ = some (.int .i64 m.til) ∧ W'.cell? ⟨w.heap.size, 9, none⟩ = some (.int .i64 m.mode) ∧ W'.cell? ⟨w.heap.size, 10, none⟩ = some (.int .i64 m.work)) (fun _ _ => True.intro) ?_
      have hHeld0 : (fun (W' : World) => W'.cell? ⟨w.heap.size, 0, none⟩ = some (.int .i64 m.node) ∧ W'.cell? ⟨w.heap.size, 1, none⟩ = some (.int .i64 m.kind) ∧ W'.cell? ⟨w.heap.size, 2, none⟩ = some (.int .i64 m.term) ∧ W'.cell? ⟨w.heap.size, 3, none⟩ = some (.int .i64 m.gen) ∧ W'.cell? ⟨w.heap.size, 4, none⟩ = some (.int .i64 m.job) ∧ W'.cell? ⟨w.heap.size, 5, none⟩ = some (.int .i64 m.inc) ∧ W'.cell? ⟨w.heap.size, 6, none⟩ = some (.int .i64 m.ver) ∧ W'.cell? ⟨w.heap.size, 7, none⟩ = some (.int .i64 m.epoch) ∧ W'.cell? ⟨w.heap.size, 8, none⟩ = some (.int .i64 m.til) ∧ W'.cell? ⟨w.heap.size, 9, none⟩ = some (.int .i64 m.mode) ∧ W'.cell? ⟨w.heap.size, 10, none⟩ = some (.int .i64 m.work)) _ := HMC.out _ HDR.out
      refine held_take (i := 0) (v := ?_) rfl (by kernel_rfl) (by kernel_rfl) (by kernel_rfl) (by rfl) (by first | assumption | exact True.intro) ?_ ?_
      rotate_left
      · (intro w hSw; (try dsimp only at hSw); (try obtain ⟨k0, k1, k2, k3, k4, k5, k6, k7, k8, k9, k10⟩ := hSw); go_simp; (try with_reducible rfl))
      try simp only [Act.put, List.setIfInBounds_toArray, List.set_cons_zero, List.set_cons_succ]
      refine held_take (i := 1) (v := ?_) rfl (by kernel_rfl) (by kernel_rfl) (by kernel_rfl) (by rfl) (by first | assumption | exact True.intro) ?_ ?_
      rotate_left
      · (intro w hSw; (try dsimp only at hSw); (try obtain ⟨k0, k1, k2, k3, k4, k5, k6, k7, k8, k9, k10⟩ := hSw); go_simp; (try with_reducible rfl))
      try simp only [Act.put, List.setIfInBounds_toArray, List.set_cons_zero, List.set_cons_succ]
      refine held_take (i := 2) (v := ?_) rfl (by kernel_rfl) (by kernel_rfl) (by kernel_rfl) (by rfl) (by first | assumption | exact True.intro) ?_ ?_
      rotate_left
      · (intro w hSw; (try dsimp only at hSw); (try obtain ⟨k0, k1, k2, k3, k4, k5, k6, k7, k8, k9, k10⟩ := hSw); go_simp; (try with_reducible rfl))
      try simp only [Act.put, List.setIfInBounds_toArray, List.set_cons_zero, List.set_cons_succ]
      refine held_take (i := 3) (v := ?_) rfl (by kernel_rfl) (by kernel_rfl) (by kernel_rfl) (by rfl) (by first | assumption | exact True.intro) ?_ ?_
      rotate_left
      · (intro w hSw; (try dsimp only at hSw); (try obtain ⟨k0, k1, k2, k3, k4, k5, k6, k7, k8, k9, k10⟩ := hSw); go_simp; (try with_reducible rfl))
      try simp only [Act.put, List.setIfInBounds_toArray, List.set_cons_zero, List.set_cons_succ]
      refine held_take (i := 5) (v := ?_) rfl (by kernel_rfl) (by kernel_rfl) (by kernel_rfl) (by rfl) (by first | assumption | exact True.intro) ?_ ?_
      rotate_left
      · (intro w hSw; (try dsimp only at hSw); (try obtain ⟨k0, k1, k2, k3, k4, k5, k6, k7, k8, k9, k10⟩ := hSw); go_simp; (try with_reducible rfl))
      try simp only [Act.put, List.setIfInBounds_toArray, List.set_cons_zero, List.set_cons_succ]
      refine held_two (i := 4) (j := 6) (by kernel_rfl) rfl rfl (fun K hK => ?_) (fun K hK => ?_)
      · go_simp
        refine hK _ _ ?_ (fun hHeld3 => ?_)
        · exact HMC.out _ HDR.out
        clear hK K
        try simp only [Act.put, List.setIfInBounds_toArray, List.set_cons_zero, List.set_cons_succ]
        refine held_op (i := 6) (by kernel_rfl) rfl (fun K hK => ?_)
        go_simp
        go_at_call 33
        (with_reducible refine (HPT.out).mono ?_)
        rintro e3 w3 ⟨v3, rfl, hr3, hx3⟩
        rw [HPM.out] at hr3
        have HR3 := Lib.hid hr3
        have HX3 := Lib.hid (HDR.out.trans hx3)
        clear hr3 hx3
        have c0b := HC0.out _ HX3.out
        have hxa : Ext w3 (w3.alloc (.cells #[v3, .bool false] 117)) := Ext.alloc_ _ _
        have c0c := HC0.out _ (HX3.out.trans hxa)
        have HXA := Lib.hid hxa
        clear hxa
        obtain ⟨A3, c3, rfl, -, -⟩ := HR3.out.rd.sliceN (List.length_map _)
        refine hK _ _ ?_ (fun hHeld4 => ?_)
        · exact HMC.out _ HX3.out
        clear hK K
        try simp only [Act.put, List.setIfInBounds_toArray, List.set_cons_zero, List.set_cons_succ]
        refine held_take (i := 7) (v := ?_) rfl (by kernel_rfl) (by kernel_rfl) (by kernel_rfl) (by rfl) (by first | assumption | exact True.intro) ?_ ?_
        rotate_left
        · (intro w hSw; (try dsimp only at hSw); (try obtain ⟨k0, k1, k2, k3, k4, k5, k6, k7, k8, k9, k10⟩ := hSw); go_simp; (try with_reducible rfl))
        try simp only [Act.put, List.setIfInBounds_toArray, List.set_cons_zero, List.set_cons_succ]
        refine held_op (i := 8) (by kernel_rfl) rfl (fun K hK => ?_)
        go_simp
        refine hK _ _ ?_ (fun hHeld5 => ?_)
        · exact HMC.out _ (HX3.out.trans HXA.out)
        clear hK K
        try simp only [Act.put, List.setIfInBounds_toArray, List.set_cons_zero, List.set_cons_succ]
        refine held_op (i := 9) (by kernel_rfl) rfl (fun K hK => ?_)
        refine step_pushW (F := fun k => F k ∧ k ≠ g) _ _ 62 rfl (by rfl) 117 (.agg #[.slice none 0 0, .bool false]) 2 32 Try.underlying62 (by kernel_rfl) (by simp [Value.cells]) (by omega) _ _ _ (HIN.out.row.chg (Chg.of_ext (F := fun _ => False) HX3.out) (fun _ _ h => h)) rfl _ rfl (by simp [Value.oneCell']) rfl rfl (by have := HN40.out; unfold maxLen; omega) (by have := HN40.out; omega) ?_
        intro v4 w4 hg4
        have HG4 := Lib.hid hg4
        clear hg4
        have HB4 : Hid (MsAt w4 w.heap.size m) := Lib.hid ⟨(HB.out.ext HX3.out).blk.grown HG4.out.grown (fun e => by have := HFI.out _ (HIN.out.row.inF w.heap.size e.symm).1; omega)⟩
        have HN4 : Hid (Blk w4 g 69 #[.slice Av ps.length cv, .int .i64 (S.sent : Int)]) := Lib.hid ((HIN.out.blk.ext HX3.out).grown HG4.out.grown (fun e => HIN.out.off e.symm))
        obtain ⟨A4, c4, rfl⟩ := own_slice HG4.out.own
        refine hK _ _ ?_ (fun hHeld1 => ?_)
        · exact HB4.out.cells
        clear hK K
        try simp only [Act.put, List.setIfInBounds_toArray, List.set_cons_zero, List.set_cons_succ]
        refine held_take (i := 10) (v := ?_) rfl (by kernel_rfl) (by kernel_rfl) (by kernel_rfl) (by rfl) (by first | assumption | exact True.intro) ?_ ?_
        rotate_left
        · (intro w hSw; (try dsimp only at hSw); (try obtain ⟨k0, k1, k2, k3, k4, k5, k6, k7, k8, k9, k10⟩ := hSw); go_simp; (try with_reducible rfl))
        try simp only [Act.put, List.setIfInBounds_toArray, List.set_cons_zero, List.set_cons_succ]
        refine held_take (i := 11) (v := ?_) rfl (by kernel_rfl) (by kernel_rfl) (by kernel_rfl) (by rfl) (by first | assumption | exact True.intro) ?_ ?_
        rotate_left
        · (intro w hSw; (try dsimp only at hSw); (try obtain ⟨k0, k1, k2, k3, k4, k5, k6, k7, k8, k9, k10⟩ := hSw); go_simp; (try with_reducible rfl))
        try simp only [Act.put, List.setIfInBounds_toArray, List.set_cons_zero, List.set_cons_succ]
        refine held_op (i := 12) (by kernel_rfl) rfl (fun K hK => ?_)
        have c04 := HN4.out.cell 0
        have f04 := HN4.out.frozen 0
        go_simp
        refine hK _ _ ?_ (fun hHeld2 => ?_)
        · exact (show MsAt _ _ _ from ⟨HB4.out.blk.far (by have := HA.out.lt; show w.heap.size ≠ g; omega) _⟩).cells
        clear hK K
        try simp only [Act.put, List.setIfInBounds_toArray, List.set_cons_zero, List.set_cons_succ]
        refine wpAnyH_done (by kernel_rfl) ?_ _
        refine NoPanic.normal ?_
        obtain ⟨hi5, hc5⟩ := HIN.out.push (HFI.out.ext HX.out) HHR.out HX3.out (_, (m, none)) HR3.out HG4.out
        have HI5 := Lib.hid hi5
        have HC5 := Lib.hid hc5
        clear hi5 hc5
        obtain ⟨w5, hw5⟩ : ∃ W, W = w4.setCell ⟨g, 0, none⟩ (.slice A4 (ps.length + 1) c4) := ⟨_, rfl⟩
        rw [← hw5] at HI5 HC5
        have H45 : Hid (w4.heap.size = w5.heap.size) := Lib.hid (by rw [hw5]; simp)
        have HI6 := Lib.hid (HI5.out.count (.inl HHR.out) (S.sent + 1))
        have ha := run_call_add (P := Try.prog) Try.func91 (by kernel_rfl) (by kernel_rfl) (by kernel_rfl) .i64 (by kernel_rfl) (y := 1) (s := ((S.sent + 1 : Nat) : Int)) (HI5.out.blk.cell 1) (HI5.out.blk.frozen 1) (AddOne.out w5)
        (try rw [← hw5])
        clear hw5 c0 c0b c0c c04 f04
        go_wp2
        go_ret
        exact ⟨by rw [HF.out]; rfl, by rw [HF.out]; exact HFIN.out _ _ _ (S := S) (v := .slice none 0 0) (ps := []) HX.out H45.out HC5.out HI6.out⟩
      · go_simp
        go_at_call 33
        (with_reducible refine (HPT.out).mono ?_)
        rintro e3 w3 ⟨v3, rfl, hr3, hx3⟩
        rw [HPM.out] at hr3
        have HR3 := Lib.hid hr3
        have HX3 := Lib.hid (HDR.out.trans hx3)
        clear hr3 hx3
        have c0b := HC0.out _ HX3.out
        have hxa : Ext w3 (w3.alloc (.cells #[v3, .bool false] 117)) := Ext.alloc_ _ _
        have c0c := HC0.out _ (HX3.out.trans hxa)
        have HXA := Lib.hid hxa
        clear hxa
        obtain ⟨A3, c3, rfl, -, -⟩ := HR3.out.rd.sliceN (List.length_map _)
        refine hK _ _ ?_ (fun hHeld10 => ?_)
        · exact HMC.out _ HX3.out
        clear hK K
        try simp only [Act.put, List.setIfInBounds_toArray, List.set_cons_zero, List.set_cons_succ]
        refine held_take (i := 7) (v := ?_) rfl (by kernel_rfl) (by kernel_rfl) (by kernel_rfl) (by rfl) (by first | assumption | exact True.intro) ?_ ?_
        rotate_left
        · (intro w hSw; (try dsimp only at hSw); (try obtain ⟨k0, k1, k2, k3, k4, k5, k6, k7, k8, k9, k10⟩ := hSw); go_simp; (try with_reducible rfl))
        try simp only [Act.put, List.setIfInBounds_toArray, List.set_cons_zero, List.set_cons_succ]
        refine held_two (i := 4) (j := 8) (by kernel_rfl) rfl rfl (fun K hK => ?_) (fun K hK => ?_)
        · go_simp
          refine hK _ _ ?_ (fun hHeld6 => ?_)
          · exact HMC.out _ HX3.out
          clear hK K
          try simp only [Act.put, List.setIfInBounds_toArray, List.set_cons_zero, List.set_cons_succ]
          refine held_op (i := 8) (by kernel_rfl) rfl (fun K hK => ?_)
          go_simp
          refine hK _ _ ?_ (fun hHeld7 => ?_)
          · exact HMC.out _ (HX3.out.trans HXA.out)
          clear hK K
          try simp only [Act.put, List.setIfInBounds_toArray, List.set_cons_zero, List.set_cons_succ]
          refine held_op (i := 9) (by kernel_rfl) rfl (fun K hK => ?_)
          refine step_pushW (F := fun k => F k ∧ k ≠ g) _ _ 62 rfl (by rfl) 117 (.agg #[.slice none 0 0, .bool false]) 2 32 Try.underlying62 (by kernel_rfl) (by simp [Value.cells]) (by omega) _ _ _ (HIN.out.row.chg (Chg.of_ext (F := fun _ => False) HX3.out) (fun _ _ h => h)) rfl _ rfl (by simp [Value.oneCell']) rfl rfl (by have := HN40.out; unfold maxLen; omega) (by have := HN40.out; omega) ?_
          intro v4 w4 hg4
          have HG4 := Lib.hid hg4
          clear hg4
          have HB4 : Hid (MsAt w4 w.heap.size m) := Lib.hid ⟨(HB.out.ext HX3.out).blk.grown HG4.out.grown (fun e => by have := HFI.out _ (HIN.out.row.inF w.heap.size e.symm).1; omega)⟩
          have HN4 : Hid (Blk w4 g 69 #[.slice Av ps.length cv, .int .i64 (S.sent : Int)]) := Lib.hid ((HIN.out.blk.ext HX3.out).grown HG4.out.grown (fun e => HIN.out.off e.symm))
          obtain ⟨A4, c4, rfl⟩ := own_slice HG4.out.own
          refine hK _ _ ?_ (fun hHeld1 => ?_)
          · exact HB4.out.cells
          clear hK K
          try simp only [Act.put, List.setIfInBounds_toArray, List.set_cons_zero, List.set_cons_succ]
          refine held_take (i := 10) (v := ?_) rfl (by kernel_rfl) (by kernel_rfl) (by kernel_rfl) (by rfl) (by first | assumption | exact True.intro) ?_ ?_
          rotate_left
          · (intro w hSw; (try dsimp only at hSw); (try obtain ⟨k0, k1, k2, k3, k4, k5, k6, k7, k8, k9, k10⟩ := hSw); go_simp; (try with_reducible rfl))
          try simp only [Act.put, List.setIfInBounds_toArray, List.set_cons_zero, List.set_cons_succ]
          refine held_take (i := 11) (v := ?_) rfl (by kernel_rfl) (by kernel_rfl) (by kernel_rfl) (by rfl) (by first | assumption | exact True.intro) ?_ ?_
          rotate_left
          · (intro w hSw; (try dsimp only at hSw); (try obtain ⟨k0, k1, k2, k3, k4, k5, k6, k7, k8, k9, k10⟩ := hSw); go_simp; (try with_reducible rfl))
          try simp only [Act.put, List.setIfInBounds_toArray, List.set_cons_zero, List.set_cons_succ]
          refine held_op (i := 12) (by kernel_rfl) rfl (fun K hK => ?_)
          have c04 := HN4.out.cell 0
          have f04 := HN4.out.frozen 0
          go_simp
          refine hK _ _ ?_ (fun hHeld2 => ?_)
          · exact (show MsAt _ _ _ from ⟨HB4.out.blk.far (by have := HA.out.lt; show w.heap.size ≠ g; omega) _⟩).cells
          clear hK K
          try simp only [Act.put, List.setIfInBounds_toArray, List.set_cons_zero, List.set_cons_succ]
          refine wpAnyH_done (by kernel_rfl) ?_ _
          refine NoPanic.normal ?_
          obtain ⟨hi5, hc5⟩ := HIN.out.push (HFI.out.ext HX.out) HHR.out HX3.out (_, (m, none)) HR3.out HG4.out
          have HI5 := Lib.hid hi5
          have HC5 := Lib.hid hc5
          clear hi5 hc5
          obtain ⟨w5, hw5⟩ : ∃ W, W = w4.setCell ⟨g, 0, none⟩ (.slice A4 (ps.length + 1) c4) := ⟨_, rfl⟩
          rw [← hw5] at HI5 HC5
          have H45 : Hid (w4.heap.size = w5.heap.size) := Lib.hid (by rw [hw5]; simp)
          have HI6 := Lib.hid (HI5.out.count (.inl HHR.out) (S.sent + 1))
          have ha := run_call_add (P := Try.prog) Try.func91 (by kernel_rfl) (by kernel_rfl) (by kernel_rfl) .i64 (by kernel_rfl) (y := 1) (s := ((S.sent + 1 : Nat) : Int)) (HI5.out.blk.cell 1) (HI5.out.blk.frozen 1) (AddOne.out w5)
          (try rw [← hw5])
          clear hw5 c0 c0b c0c c04 f04
          go_wp2
          go_ret
          exact ⟨by rw [HF.out]; rfl, by rw [HF.out]; exact HFIN.out _ _ _ (S := S) (v := .slice none 0 0) (ps := []) HX.out H45.out HC5.out HI6.out⟩
        · go_simp
          refine hK _ _ ?_ (fun hHeld8 => ?_)
          · exact HMC.out _ (HX3.out.trans HXA.out)
          clear hK K
          try simp only [Act.put, List.setIfInBounds_toArray, List.set_cons_zero, List.set_cons_succ]
          refine held_op (i := 4) (by kernel_rfl) rfl (fun K hK => ?_)
          go_simp
          refine hK _ _ ?_ (fun hHeld9 => ?_)
          · exact HMC.out _ (HX3.out.trans HXA.out)
          clear hK K
          try simp only [Act.put, List.setIfInBounds_toArray, List.set_cons_zero, List.set_cons_succ]
          refine held_op (i := 9) (by kernel_rfl) rfl (fun K hK => ?_)
          refine step_pushW (F := fun k => F k ∧ k ≠ g) _ _ 62 rfl (by rfl) 117 (.agg #[.slice none 0 0, .bool false]) 2 32 Try.underlying62 (by kernel_rfl) (by simp [Value.cells]) (by omega) _ _ _ (HIN.out.row.chg (Chg.of_ext (F := fun _ => False) HX3.out) (fun _ _ h => h)) rfl _ rfl (by simp [Value.oneCell']) rfl rfl (by have := HN40.out; unfold maxLen; omega) (by have := HN40.out; omega) ?_
          intro v4 w4 hg4
          have HG4 := Lib.hid hg4
          clear hg4
          have HB4 : Hid (MsAt w4 w.heap.size m) := Lib.hid ⟨(HB.out.ext HX3.out).blk.grown HG4.out.grown (fun e => by have := HFI.out _ (HIN.out.row.inF w.heap.size e.symm).1; omega)⟩
          have HN4 : Hid (Blk w4 g 69 #[.slice Av ps.length cv, .int .i64 (S.sent : Int)]) := Lib.hid ((HIN.out.blk.ext HX3.out).grown HG4.out.grown (fun e => HIN.out.off e.symm))
          obtain ⟨A4, c4, rfl⟩ := own_slice HG4.out.own
          refine hK _ _ ?_ (fun hHeld1 => ?_)
          · exact HB4.out.cells
          clear hK K
          try simp only [Act.put, List.setIfInBounds_toArray, List.set_cons_zero, List.set_cons_succ]
          refine held_take (i := 10) (v := ?_) rfl (by kernel_rfl) (by kernel_rfl) (by kernel_rfl) (by rfl) (by first | assumption | exact True.intro) ?_ ?_
          rotate_left
          · (intro w hSw; (try dsimp only at hSw); (try obtain ⟨k0, k1, k2, k3, k4, k5, k6, k7, k8, k9, k10⟩ := hSw); go_simp; (try with_reducible rfl))
          try simp only [Act.put, List.setIfInBounds_toArray, List.set_cons_zero, List.set_cons_succ]
          refine held_take (i := 11) (v := ?_) rfl (by kernel_rfl) (by kernel_rfl) (by kernel_rfl) (by rfl) (by first | assumption | exact True.intro) ?_ ?_
          rotate_left
          · (intro w hSw; (try dsimp only at hSw); (try obtain ⟨k0, k1, k2, k3, k4, k5, k6, k7, k8, k9, k10⟩ := hSw); go_simp; (try with_reducible rfl))
          try simp only [Act.put, List.setIfInBounds_toArray, List.set_cons_zero, List.set_cons_succ]
          refine held_op (i := 12) (by kernel_rfl) rfl (fun K hK => ?_)
          have c04 := HN4.out.cell 0
          have f04 := HN4.out.frozen 0
          go_simp
          refine hK _ _ ?_ (fun hHeld2 => ?_)
          · exact (show MsAt _ _ _ from ⟨HB4.out.blk.far (by have := HA.out.lt; show w.heap.size ≠ g; omega) _⟩).cells
          clear hK K
          try simp only [Act.put, List.setIfInBounds_toArray, List.set_cons_zero, List.set_cons_succ]
          refine wpAnyH_done (by kernel_rfl) ?_ _
          refine NoPanic.normal ?_
          obtain ⟨hi5, hc5⟩ := HIN.out.push (HFI.out.ext HX.out) HHR.out HX3.out (_, (m, none)) HR3.out HG4.out
          have HI5 := Lib.hid hi5
          have HC5 := Lib.hid hc5
          clear hi5 hc5
          obtain ⟨w5, hw5⟩ : ∃ W, W = w4.setCell ⟨g, 0, none⟩ (.slice A4 (ps.length + 1) c4) := ⟨_, rfl⟩
          rw [← hw5] at HI5 HC5
          have H45 : Hid (w4.heap.size = w5.heap.size) := Lib.hid (by rw [hw5]; simp)
          have HI6 := Lib.hid (HI5.out.count (.inl HHR.out) (S.sent + 1))
          have ha := run_call_add (P := Try.prog) Try.func91 (by kernel_rfl) (by kernel_rfl) (by kernel_rfl) .i64 (by kernel_rfl) (y := 1) (s := ((S.sent + 1 : Nat) : Int)) (HI5.out.blk.cell 1) (HI5.out.blk.frozen 1) (AddOne.out w5)
          (try rw [← hw5])
          clear hw5 c0 c0b c0c c04 f04
          go_wp2
          go_ret
          exact ⟨by rw [HF.out]; rfl, by rw [HF.out]; exact HFIN.out _ _ _ (S := S) (v := .slice none 0 0) (ps := []) HX.out H45.out HC5.out HI6.out⟩

end Go.Proofs.Ytdijinboopdheaa

/- Package net: Drop. -/
namespace Go.Proofs.Ytdijinboopdheaa
open Go.RowKit

theorem map_erase : ∀ (ps : List PvP) (k : Nat), (ps.eraseIdx k).map (·.2) = (ps.map (·.2)).eraseIdx k
  | [], _ => rfl
  | _ :: _, 0 => rfl
  | x :: ps, k + 1 => by simp [map_erase ps k]
section
variable {F G : Fp} {w w' w3 w4 : World} {g : Nat} {S : NtP} {v v' : Value} {ps : List PvP}
theorem NtIn.drop (h : NtIn F w g S v ps) (hF : F.isIn w) (hg : F g) (k : Nat) (hk : k < ps.length) (hx : w.grownBy w4 none)
    (hp : WayF (Fp.since (fun k => F k ∧ k ≠ g) w w4) w4 117 2 v' (ps.length - 1) ((wayC ps).take (k * 2) ++ (wayC ps).drop ((k + 1) * 2))) (hv : v'.ownBlock = v.ownBlock ∨ ∀ q, v'.ownBlock = some q → w.heap.size ≤ q) :
    NtIn (F.since w w4) (w4.setCell ⟨g, 0, none⟩ v') g ⟨S.way.eraseIdx k, S.sent⟩ v' (ps.eraseIdx k) ∧ Chg (fun k => k = g) w (w4.setCell ⟨g, 0, none⟩ v') := by
  have hc4 : Chg (fun _ => False) w w4 := Chg.of_grown hx (fun k hk => by cases hk)
  have hi4 := h.chg hc4 (fun _ _ h => h) hg
  have hs4 := hc4.size
  have hgl := hF g hg
  have hc5 : Chg (fun k => k = g) w4 (w4.setCell ⟨g, 0, none⟩ v') := (Chg.refl _ _).setCell (fun _ => rfl)
  have hv' : ∀ k, v'.ownBlock = some k → v.ownBlock = some k ∨ w.heap.size ≤ k := fun k hk => by
    rcases hv with e | e
    · exact .inl (by rw [← e]; exact hk)
    · exact .inr (e k hk)
  have hoff' : ∀ k, v'.ownBlock = some k → k ≠ g := fun k hk e => by
    rcases hv' k hk with h1 | h1
    · rw [e] at h1; exact h.off h1
    · omega
  rw [wayC_drop ps k hk] at hp
  have hlen : (ps.eraseIdx k).length = ps.length - 1 := List.length_eraseIdx_of_lt hk
  refine ⟨⟨hi4.blk.set_ 0 v', by rw [← h.eq, map_erase], ?_, fun y hy => ?_, h.apart.sublist (List.eraseIdx_sublist _ _)⟩, (hc4.mono (fun _ _ h => h.elim)).trans hc5 (fun _ _ h => h)⟩
  · rw [hlen]
    exact (hp.chg hc5 hoff').mono (fun k hk => by
      rcases hk with hk | hk
      · exact ⟨.inl hk.1, hk.2⟩
      · exact ⟨.inr hk, by omega⟩)
  · have hy := List.mem_of_mem_eraseIdx hy
    exact ((hi4.bytes y hy).chg hc5 (fun k hk e => hk.2.1 e)).mono (fun k hk => ⟨.inl hk.1, hk.2.1, fun e => by
      rcases hv' k e with h2 | h2
      · exact hk.2.2 h2
      · have := hF k hk.1; omega⟩)
end

theorem NtDropFin {F : Fp} {w0 w2 w4 w6 : World} {g : Nat} {S6 : NtP} {v6 : Value} {ps6 : List PvP} (hF : F.isIn w0) (hg : F g) (hx : Ext w0 w2) (h46 : w4.heap.size = w6.heap.size) (h6 : NtIn (F.since w2 w4) w6 g S6 v6 ps6 ∧ Chg (fun k => k = g) w2 w6) : NtAt (F.since w0 w6) w6 g S6 ∧ Chg (fun k => k = g) w0 w6 := by
  obtain ⟨hi, hc6⟩ := h6
  have s1 := hx.size
  have s3 := hc6.size
  refine ⟨⟨⟨v6, ps6, hi.mono (fun k hk => ?_)⟩, hF.since (by omega), .inl hg⟩, (Chg.of_ext (F := fun k => k = g) hx).trans hc6 (fun _ _ h => h)⟩
  rcases hk with hk | hk
  · exact .inl hk
  · exact .inr ⟨by omega, by omega⟩

set_option maxRecDepth 100000 in
set_option maxHeartbeats 4000000 in
theorem NDrop_any (F : Fp) (g : Nat) (S : NtP) (i : Int) (w : World) (h : NtAt F w g S) (hm40 : S.way.length ≤ 1000000) : Calls Try.prog 37 #[.pointer (some ⟨g, 0, none⟩), .int .i64 i] w fun e w' => e = .returned (.bool (dropN S i).1) ∧ NtAt (F.since w w') w' g (dropN S i).2 ∧ Chg (fun k => k = g) w w' := by
  have HHN := Lib.hid (NHas_any F g S i w h)
  have HA := Lib.hid h
  clear h
  go_enter Try.func37, Try.ntmps37
  cases hr : hasN S i with
  | false =>
    rw [hr] at HHN
    have HF : Hid (dropN S i = (false, S)) := Lib.hid (by unfold dropN; rw [if_neg (by rw [hr]; simp)])
    clear hr
    go_wp2_with fail
    refine HHN.out.mono ?_
    rintro e1 w1 ⟨rfl, hx1⟩
    have HX := Lib.hid hx1
    clear hx1 HHN
    go_wp2
    go_ret
    exact ⟨by rw [HF.out]; rfl, by rw [HF.out]; exact ⟨(HA.out.grow HX.out).1, Chg.of_ext HX.out⟩⟩
  | true =>
    rw [hr] at HHN
    have HF : Hid (dropN S i = (true, ⟨S.way.eraseIdx i.toNat, S.sent⟩)) := Lib.hid (by unfold dropN; rw [if_pos hr])
    have HIX := Lib.hid (hasN_iff.1 hr)
    clear hr
    go_wp2_with fail
    refine HHN.out.mono ?_
    rintro e1 w1 ⟨rfl, hx1⟩
    have HX := Lib.hid hx1
    clear hx1 HHN
    obtain ⟨v, ps, hi⟩ := (HA.out.ext HX.out).out
    have HXD : Hid (Ext w1 w1.drew) := Lib.hid (Below.drewN' (Ext.refl w1) 1)
    have HIN := Lib.hid (hi.chg (Chg.of_ext (F := fun _ => False) HXD.out) (fun _ _ h => h) HA.out.here)
    have HFI := Lib.hid ((HA.out.isIn.ext HX.out).ext HXD.out)
    have HHR := Lib.hid HA.out.here
    obtain ⟨k, rfl⟩ : ∃ k : Nat, i = k := ⟨i.toNat, by have := HIX.out; omega⟩
    have hk : k < ps.length := by rw [hi.len]; have := HIX.out; omega
    obtain ⟨A, c, rfl, hnc, hcm, hA⟩ := hi.row.slice_
    obtain ⟨-, b, cur, rfl, -⟩ := hi.row.at_ (fun e => by have := (hA e).1; omega)
    clear hA hi
    have HK := Lib.hid hk
    have c0 : w1.drew.cell? ⟨g, 0, none⟩ = some (.slice (some ⟨b, 0, none⟩) ps.length c) := HIN.out.blk.cell 0
    have f0 := HIN.out.blk.frozen 0
    have hwq : wrap64 ((k : Int) + 1) = (k : Int) + 1 := IntWalk.wrap64_in _ (by unfold maxLen at hcm; omega)
    have x1 : k ≤ c := by omega
    have x2 : k + 1 ≤ ps.length := hk
    have x3 : (k : Int) + 1 ≤ (ps.length : Int) := by omega
    have x4 : (k : Int) ≤ (c : Int) := by omega
    have x5 : (0 : Int) ≤ (k : Int) + 1 := by omega
    have HM40 : Hid (S.way.length ≤ 1000000) := Lib.hid hm40
    have HCC := Lib.hid (And.intro hnc hcm)
    have hwi : IntKind.i64.wrap ((k : Int) + 1) = (k : Int) + 1 := by have := HCC.out; unfold maxLen at this; simp [IntKind.wrap_i64]; omega
    clear hk hnc hcm
    go_upto_region 3 with (fail)
    refine held_begin (by kernel_rfl) ?_
    refine held_take (i := 0) (v := ?_) rfl (by kernel_rfl) (by kernel_rfl) (by kernel_rfl) (by rfl) (by first | assumption | exact True.intro) ?_ ?_
    rotate_left
    · (intro w hSw; go_simp; (try with_reducible rfl))
    try simp only [Act.put, List.setIfInBounds_toArray, List.set_cons_zero, List.set_cons_succ]
    refine held_take (i := 1) (v := ?_) rfl (by kernel_rfl) (by kernel_rfl) (by kernel_rfl) (by rfl) (by first | assumption | exact True.intro) ?_ ?_
    rotate_left
    · (intro w hSw; go_simp; (try with_reducible rfl))
    try simp only [Act.put, List.setIfInBounds_toArray, List.set_cons_zero, List.set_cons_succ]
    refine held_take (i := 2) (v := ?_) rfl (by kernel_rfl) (by kernel_rfl) (by kernel_rfl) (by rfl) (by first | assumption | exact True.intro) ?_ ?_
    rotate_left
    · (intro w hSw; go_simp; (try with_reducible rfl))
    try simp only [Act.put, List.setIfInBounds_toArray, List.set_cons_zero, List.set_cons_succ]
    refine held_take (i := 3) (v := ?_) rfl (by kernel_rfl) (by kernel_rfl) (by kernel_rfl) (by rfl) (by first | assumption | exact True.intro) ?_ ?_
    rotate_left
    · (intro w hSw; go_simp; (try with_reducible rfl))
    try simp only [Act.put, List.setIfInBounds_toArray, List.set_cons_zero, List.set_cons_succ]
    refine held_take (i := 5) (v := ?_) rfl (by kernel_rfl) (by kernel_rfl) (by kernel_rfl) (by rfl) (by first | assumption | exact True.intro) ?_ ?_
    rotate_left
    · (intro w hSw; go_simp; (try with_reducible rfl))
    try simp only [Act.put, List.setIfInBounds_toArray, List.set_cons_zero, List.set_cons_succ]
    refine held_take (i := 6) (v := ?_) rfl (by kernel_rfl) (by kernel_rfl) (by kernel_rfl) (by rfl) (by first | assumption | exact True.intro) ?_ ?_
    rotate_left
    · (intro w hSw; go_simp; (try with_reducible rfl))
    try simp only [Act.put, List.setIfInBounds_toArray, List.set_cons_zero, List.set_cons_succ]
    refine held_take (i := 8) (v := ?_) rfl (by kernel_rfl) (by kernel_rfl) (by kernel_rfl) (by rfl) (by first | assumption | exact True.intro) ?_ ?_
    rotate_left
    · (intro w hSw; go_simp; (try with_reducible rfl))
    try simp only [Act.put, List.setIfInBounds_toArray, List.set_cons_zero, List.set_cons_succ]
    refine held_take (i := 9) (v := ?_) rfl (by kernel_rfl) (by kernel_rfl) (by kernel_rfl) (by rfl) (by first | assumption | exact True.intro) ?_ ?_
    rotate_left
    · (intro w hSw; go_simp; (try with_reducible rfl))
    try simp only [Act.put, List.setIfInBounds_toArray, List.set_cons_zero, List.set_cons_succ]
    refine held_take (i := 10) (v := ?_) rfl (by kernel_rfl) (by kernel_rfl) (by kernel_rfl) (by rfl) (by first | assumption | exact True.intro) ?_ ?_
    rotate_left
    · (intro w hSw; go_simp; (try with_reducible rfl))
    try simp only [Act.put, List.setIfInBounds_toArray, List.set_cons_zero, List.set_cons_succ]
    refine held_take (i := 12) (v := ?_) rfl (by kernel_rfl) (by kernel_rfl) (by kernel_rfl) (by rfl) (by first | assumption | exact True.intro) ?_ ?_
    rotate_left
    · (intro w hSw; go_simp; (try with_reducible rfl))
    try simp only [Act.put, List.setIfInBounds_toArray, List.set_cons_zero, List.set_cons_succ]
    refine held_take (i := 13) (v := ?_) rfl (by kernel_rfl) (by kernel_rfl) (by kernel_rfl) (by rfl) (by first | assumption | exact True.intro) ?_ ?_
    rotate_left
    · (intro w hSw; go_simp; (try with_reducible rfl))
    try simp only [Act.put, List.setIfInBounds_toArray, List.set_cons_zero, List.set_cons_succ]
    refine held_two (i := 4) (j := 11) (by kernel_rfl) rfl rfl (fun K hK => ?_) (fun K hK => ?_)
    · go_simp
      refine hK _ _ True.intro (fun _ => ?_)
      clear hK K
      try simp only [Act.put, List.setIfInBounds_toArray, List.set_cons_zero, List.set_cons_succ]
      refine held_take (i := 7) (v := ?_) rfl (by kernel_rfl) (by kernel_rfl) (by kernel_rfl) (by rfl) (by first | assumption | exact True.intro) ?_ ?_
      rotate_left
      · (intro w hSw; go_simp; (try with_reducible rfl))
      try simp only [Act.put, List.setIfInBounds_toArray, List.set_cons_zero, List.set_cons_succ]
      refine held_op (i := 11) (by kernel_rfl) rfl (fun K hK => ?_)
      go_simp
      refine hK _ _ True.intro (fun _ => ?_)
      clear hK K
      try simp only [Act.put, List.setIfInBounds_toArray, List.set_cons_zero, List.set_cons_succ]
      refine held_take (i := 14) (v := ?_) rfl (by kernel_rfl) (by kernel_rfl) (by kernel_rfl) (by rfl) (by first | assumption | exact True.intro) ?_ ?_
      rotate_left
      · (intro w hSw; go_simp; (try with_reducible rfl))
      try simp only [Act.put, List.setIfInBounds_toArray, List.set_cons_zero, List.set_cons_succ]
      refine held_op (i := 15) (by kernel_rfl) rfl (fun K hK => ?_)
      refine step_dropW (F := fun k => F k ∧ k ≠ g) _ _ 62 rfl (by rfl) 117 (.agg #[.slice none 0 0, .bool false]) 2 32 Try.underlying62 (by kernel_rfl) (by simp [Value.cells]) (by omega) b ps.length c _ (HIN.out.row) k HK.out rfl _ _ _ rfl rfl (by by_cases hc : c = k + 1; (· left; have := HCC.out; omega); (· right; rw [if_neg hc])) (by intro h; split at h <;> cases h) (by have := HCC.out; omega) (by have := HIN.out.len; have := HM40.out; omega) ?_
      intro v4 w4 hp4 hg4 hv4
      have HV4 := Lib.hid hv4
      have HG4 := Lib.hid hg4
      have HP4 := Lib.hid hp4
      clear hp4 hg4 hv4
      refine hK _ _ True.intro (fun _ => ?_)
      clear hK K
      try simp only [Act.put, List.setIfInBounds_toArray, List.set_cons_zero, List.set_cons_succ]
      refine held_take (i := 16) (v := ?_) rfl (by kernel_rfl) (by kernel_rfl) (by kernel_rfl) (by rfl) (by first | assumption | exact True.intro) ?_ ?_
      rotate_left
      · (intro w hSw; go_simp; (try with_reducible rfl))
      try simp only [Act.put, List.setIfInBounds_toArray, List.set_cons_zero, List.set_cons_succ]
      refine held_take (i := 17) (v := ?_) rfl (by kernel_rfl) (by kernel_rfl) (by kernel_rfl) (by rfl) (by first | assumption | exact True.intro) ?_ ?_
      rotate_left
      · (intro w hSw; go_simp; (try with_reducible rfl))
      try simp only [Act.put, List.setIfInBounds_toArray, List.set_cons_zero, List.set_cons_succ]
      refine held_op (i := 18) (by kernel_rfl) rfl (fun K hK => ?_)
      obtain ⟨A4, c4, rfl, -⟩ := HP4.out.slice_
      have c04 : w4.cell? ⟨g, 0, none⟩ = some (.slice (some ⟨b, 0, none⟩) ps.length c) := (HIN.out.blk.grown HG4.out (by simp)).cell 0
      have f04 := (HIN.out.blk.grown HG4.out (by simp)).frozen 0
      go_simp
      refine hK _ _ True.intro (fun _ => ?_)
      clear hK K
      try simp only [Act.put, List.setIfInBounds_toArray, List.set_cons_zero, List.set_cons_succ]
      refine wpAnyH_done (by kernel_rfl) ?_ _
      refine NoPanic.normal ?_
      clear c0 f0 c04 f04
      have H6 := Lib.hid (HIN.out.drop HFI.out HHR.out k HK.out HG4.out HP4.out HV4.out)
      go_wp2
      all_goals (go_ret; exact ⟨by rw [HF.out]; rfl, by rw [HF.out]; exact NtDropFin HA.out.isIn HA.out.here (HX.out.trans HXD.out) (by simp) H6.out⟩)
    · go_simp
      refine hK _ _ True.intro (fun _ => ?_)
      clear hK K
      try simp only [Act.put, List.setIfInBounds_toArray, List.set_cons_zero, List.set_cons_succ]
      refine held_take (i := 14) (v := ?_) rfl (by kernel_rfl) (by kernel_rfl) (by kernel_rfl) (by rfl) (by first | assumption | exact True.intro) ?_ ?_
      rotate_left
      · (intro w hSw; go_simp; (try with_reducible rfl))
      try simp only [Act.put, List.setIfInBounds_toArray, List.set_cons_zero, List.set_cons_succ]
      refine held_op (i := 4) (by kernel_rfl) rfl (fun K hK => ?_)
      go_simp
      refine hK _ _ True.intro (fun _ => ?_)
      clear hK K
      try simp only [Act.put, List.setIfInBounds_toArray, List.set_cons_zero, List.set_cons_succ]
      refine held_take (i := 7) (v := ?_) rfl (by kernel_rfl) (by kernel_rfl) (by kernel_rfl) (by rfl) (by first | assumption | exact True.intro) ?_ ?_
      rotate_left
      · (intro w hSw; go_simp; (try with_reducible rfl))
      try simp only [Act.put, List.setIfInBounds_toArray, List.set_cons_zero, List.set_cons_succ]
      refine held_op (i := 15) (by kernel_rfl) rfl (fun K hK => ?_)
      refine step_dropW (F := fun k => F k ∧ k ≠ g) _ _ 62 rfl (by rfl) 117 (.agg #[.slice none 0 0, .bool false]) 2 32 Try.underlying62 (by kernel_rfl) (by simp [Value.cells]) (by omega) b ps.length c _ (HIN.out.row) k HK.out rfl _ _ _ rfl rfl (by by_cases hc : c = k + 1; (· left; have := HCC.out; omega); (· right; rw [if_neg hc])) (by intro h; split at h <;> cases h) (by have := HCC.out; omega) (by have := HIN.out.len; have := HM40.out; omega) ?_
      intro v4 w4 hp4 hg4 hv4
      have HV4 := Lib.hid hv4
      have HG4 := Lib.hid hg4
      have HP4 := Lib.hid hp4
      clear hp4 hg4 hv4
      refine hK _ _ True.intro (fun _ => ?_)
      clear hK K
      try simp only [Act.put, List.setIfInBounds_toArray, List.set_cons_zero, List.set_cons_succ]
      refine held_take (i := 16) (v := ?_) rfl (by kernel_rfl) (by kernel_rfl) (by kernel_rfl) (by rfl) (by first | assumption | exact True.intro) ?_ ?_
      rotate_left
      · (intro w hSw; go_simp; (try with_reducible rfl))
      try simp only [Act.put, List.setIfInBounds_toArray, List.set_cons_zero, List.set_cons_succ]
      refine held_take (i := 17) (v := ?_) rfl (by kernel_rfl) (by kernel_rfl) (by kernel_rfl) (by rfl) (by first | assumption | exact True.intro) ?_ ?_
      rotate_left
      · (intro w hSw; go_simp; (try with_reducible rfl))
      try simp only [Act.put, List.setIfInBounds_toArray, List.set_cons_zero, List.set_cons_succ]
      refine held_op (i := 18) (by kernel_rfl) rfl (fun K hK => ?_)
      obtain ⟨A4, c4, rfl, -⟩ := HP4.out.slice_
      have c04 : w4.cell? ⟨g, 0, none⟩ = some (.slice (some ⟨b, 0, none⟩) ps.length c) := (HIN.out.blk.grown HG4.out (by simp)).cell 0
      have f04 := (HIN.out.blk.grown HG4.out (by simp)).frozen 0
      go_simp
      refine hK _ _ True.intro (fun _ => ?_)
      clear hK K
      try simp only [Act.put, List.setIfInBounds_toArray, List.set_cons_zero, List.set_cons_succ]
      refine wpAnyH_done (by kernel_rfl) ?_ _
      refine NoPanic.normal ?_
      clear c0 f0 c04 f04
      have H6 := Lib.hid (HIN.out.drop HFI.out HHR.out k HK.out HG4.out HP4.out HV4.out)
      go_wp2
      all_goals (go_ret; exact ⟨by rw [HF.out]; rfl, by rw [HF.out]; exact NtDropFin HA.out.isIn HA.out.here (HX.out.trans HXD.out) (by simp) H6.out⟩)

end Go.Proofs.Ytdijinboopdheaa

/- Package net: Deliver. -/
namespace Go.Proofs.Ytdijinboopdheaa
open Go.RowKit

set_option maxRecDepth 100000 in
theorem run_ctG {fn : Func} {p u : Tmp} (h : fn.results = #[.cell p 49, .tmp u]) {tmps : Array Value} {w : World} {g : Nat} {cs : Array Value} {b : Bool}
    (h2 : tmps.getD p undef = .pointer (some ⟨g, 0, none⟩)) (h3 : tmps.getD u undef = .bool b) (hb : Blk w g 49 cs) (hs : cs.size = 11) : (results fn tmps).run Try.prog w = .ok (.tuple #[.agg cs, .bool b]) w := by
  have i1 : (Try.prog.info? 49).map (·.size) = some cs.size := by rw [hs]; exact infoM12
  rw [results_ct h, h2, h3]
  simp only [asAddr, Sem.run_pure, Result.andThen_ok, run_loadVar_row w g 49 49 _ (0, 0) _ hb rfl rfl i1]
theorem NtAt.both {F : Fp} {w0 w1 w2 w3 w5 : World} {g r : Nat} {S : NtP} (hF : F.isIn w0) (hx : Ext w0 w1) (h : NtAt (F.since w1 w2) w2 g S) (hc : Chg (fun k => k = g) w1 w2) (hg : F g) (hx2 : Ext w2 w3) (hr : w0.heap.size ≤ r) (hr1 : r < w1.heap.size) (hc5 : Chg (fun k => k = r) w3 w5) :
    NtAt (F.since w0 w5) w5 g S ∧ Chg (fun k => k = g) w0 w5 := by
  have s1 := hx.size
  have s2 := hc.size
  have s3 := hx2.size
  have s5 := hc5.size
  obtain ⟨v, ps, hi⟩ := ((h.ext hx2).chg hc5 (fun k hk e => by
    have e : k = r := e
    rcases hk with hk | hk
    · have := hF k hk; omega
    · omega)).out
  refine ⟨⟨⟨v, ps, hi.mono (fun k hk => ?_)⟩, hF.since (by omega), .inl hg⟩, (((Chg.of_ext (F := fun k => k = g) hx).trans hc (fun _ _ h => h)).trans (Chg.of_ext (F := fun _ => False) hx2) (fun _ _ h => h.elim)).trans hc5 (fun k hk e => by have e : k = r := e; omega)⟩
  rcases hk with hk | hk
  · exact .inl hk
  · exact .inr ⟨by omega, by omega⟩

structure HeldF (F : Fp) (w w1 : World) (g : Nat) : Prop where
  ext : Ext w w1
  isIn : F.isIn w
  here : F g

set_option maxRecDepth 100000 in
set_option maxHeartbeats 4000000 in
theorem NDeliver_any (F : Fp) (g : Nat) (S : NtP) (i : Int) (w : World) (h : NtAt F w g S) (hok : OkNt S) : Calls Try.prog 35 #[.pointer (some ⟨g, 0, none⟩), .int .i64 i] w fun e w' => e = .returned (getA (delivN S i)) ∧ NtAt (F.since w w') w' g (dropN S i).2 ∧ Chg (fun k => k = g) w w' := by
  obtain ⟨W, hW⟩ : ∃ W, W = w.alloc (.cells #[.int .i64 0, .int .i64 0, .int .i64 0, .int .i64 0, .int .i64 0, .int .i64 0, .int .i64 0, .int .i64 0, .int .i64 0, .int .i64 0, .int .i64 0] 49) := ⟨_, rfl⟩
  have HB := Lib.hid (show Blk W w.heap.size 49 #[.int .i64 0, .int .i64 0, .int .i64 0, .int .i64 0, .int .i64 0, .int .i64 0, .int .i64 0, .int .i64 0, .int .i64 0, .int .i64 0, .int .i64 0] by rw [hW]; exact Blk.new _ _ _)
  have HX := Lib.hid (show Ext w W by rw [hW]; exact Ext.alloc_ _ _)
  have HI : Hid ((Try.prog.info? 49).map (·.size) = some (#[.int .i64 0, .int .i64 0, .int .i64 0, .int .i64 0, .int .i64 0, .int .i64 0, .int .i64 0, .int .i64 0, .int .i64 0, .int .i64 0, .int .i64 0] : Array Value).size) := Lib.hid infoM12
  have HO : Hid ((#[.int .i64 0, .int .i64 0, .int .i64 0, .int .i64 0, .int .i64 0, .int .i64 0, .int .i64 0, .int .i64 0, .int .i64 0, .int .i64 0, .int .i64 0] : Array Value).all (·.oneCell') = true) := Lib.hid (by simp [Value.oneCell'])
  have HHN := Lib.hid (NHas_any F g S i W (h.ext HX.out))
  have HA := Lib.hid h
  have HOK := Lib.hid hok
  clear h hok
  go_enter Try.func35, Try.ntmps35
  go_upto_region 1 with (fail)
  rw [← hW]
  clear hW
  cases hr : hasN S i with
  | false =>
    rw [hr] at HHN
    have HF : Hid (dropN S i = (false, S)) := Lib.hid (by unfold dropN; rw [if_neg (by rw [hr]; simp)])
    have HF2 : Hid (delivN S i = none) := Lib.hid (by unfold delivN; rw [if_neg (by rw [hr]; simp)])
    clear hr
    go_wp2_with fail
    refine HHN.out.mono ?_
    rintro e1 w1 ⟨rfl, hx1⟩
    replace HX := Lib.hid (HX.out.trans hx1)
    replace HB := Lib.hid (HB.out.ext hx1)
    clear hx1 HHN
    go_wp2_with (refine wpList_storeB rfl 49 _ _ rfl w.heap.size #[.int .i64 0, .int .i64 0, .int .i64 0, .int .i64 0, .int .i64 0, .int .i64 0, .int .i64 0, .int .i64 0, .int .i64 0, .int .i64 0, .int .i64 0] rfl rfl 49 _ HB.out HI.out rfl HO.out w.heap.size w HX.out (Nat.le_refl _) ?_; intro w5 hb5 hx5)
    exact bodyPost_ret (run_ctG rfl rfl rfl hb5 rfl) rfl ⟨by rw [HF2.out]; rfl, by rw [HF.out]; exact ⟨(HA.out.grow hx5).1, Chg.of_ext hx5⟩⟩
  | true =>
    rw [hr] at HHN
    have HF2 : Hid (delivN S i = gotOf (atN S i)) := Lib.hid (by unfold delivN; rw [if_pos hr])
    have HAT := Lib.hid (atN_get hr)
    have HOP := Lib.hid (HOK.out.each _ (atN_mem hr))
    have HIX := Lib.hid (hasN_iff.1 hr)
    clear hr
    go_wp2_with fail
    refine HHN.out.mono ?_
    rintro e1 w1 ⟨rfl, hx1⟩
    replace HX := Lib.hid (HX.out.trans hx1)
    replace HB := Lib.hid (HB.out.ext hx1)
    clear hx1 HHN
    obtain ⟨v, ps, hi⟩ := (HA.out.ext HX.out).out
    have HIN := Lib.hid hi
    obtain ⟨k, rfl⟩ : ∃ k : Nat, i = k := ⟨i.toNat, by have := HIX.out; omega⟩
    have hk : k < ps.length := by rw [hi.len]; have := HIX.out; omega
    obtain ⟨A, c, rfl, hnc, hcm, hA⟩ := hi.row.slice_
    obtain ⟨-, b, cur, rfl, -⟩ := hi.row.at_ (fun e => by have := (hA e).1; omega)
    clear hA
    obtain ⟨x, hx⟩ : ∃ x, ps[k]? = some x := ⟨_, List.getElem?_eq_getElem hk⟩
    have hxp : x.2 = atN S (k : Int) := by
      have h1 := HAT.out
      rw [← hi.eq, Int.toNat_natCast, List.getElem?_map, hx] at h1
      simpa using h1
    have hcl := hi.row.cells.2.1 _ _ (wayC_at ps k x hx).1
    have hbx := hi.bytes x (List.mem_of_getElem? hx)
    obtain ⟨vx, px⟩ := x
    simp only at hxp hcl hbx
    subst hxp
    obtain ⟨Ax, cx, rfl, -, -⟩ := hbx.rd.sliceN (List.length_map _)
    have HBX := Lib.hid hbx
    have c0 : w1.cell? ⟨g, 0, none⟩ = some (.slice (some ⟨b, 0, none⟩) ps.length c) := hi.blk.cell 0
    have x1 : (0 : Int) ≤ (k : Int) ∧ (k : Int) < (ps.length : Int) := by omega
    clear hi hbx hx hk hnc hcm
    have HDP := Lib.hid (NDrop_any F g S (k : Int) w1 (HA.out.ext HX.out) (by have := HOK.out.most; omega))
    have HRL := Lib.hid HB.out.lt
    have HFG : Hid (HeldF F w w1 g) := Lib.hid ⟨HX.out, HA.out.isIn, HA.out.here⟩
    go_wp2_with fail
    refine HDP.out.mono ?_
    rintro e2 w2 ⟨rfl, hn2, hc2⟩
    have HN2 := Lib.hid hn2
    have HC2 := Lib.hid hc2
    have HR2 := Lib.hid ((HBX.out.chg hc2 (fun k hk e => hk.2.1 e)).rd)
    replace HB := Lib.hid (show Blk w2 w.heap.size 49 #[.int .i64 0, .int .i64 0, .int .i64 0, .int .i64 0, .int .i64 0, .int .i64 0, .int .i64 0, .int .i64 0, .int .i64 0, .int .i64 0, .int .i64 0] from (hc2.block w.heap.size HB.out.lt (by have := HA.out.lt; show ¬ w.heap.size = g; omega)).trans HB.out)
    clear hn2 hc2 HDP c0 hcl
    have HGT := Lib.hid (Get12_any _ _ w2 HR2.out)
    rw [HOP.out.get] at HGT
    obtain ⟨r, hr⟩ : ∃ r, r = gotOf (atN S (k : Int)) := ⟨_, rfl⟩
    rw [← hr] at HGT
    have HRR := Lib.hid hr
    clear hr
    go_wp2_with fail
    refine HGT.out.mono ?_
    rintro e3 w3 ⟨rfl, hx3⟩
    replace HB := Lib.hid (HB.out.ext hx3)
    have HX3 := Lib.hid hx3
    clear hx3 HGT
    cases r with
    | none =>
      unfold getA msV
      go_wp2_with (refine wpList_storeC rfl 49 _ _ rfl w.heap.size #[.int .i64 0, .int .i64 0, .int .i64 0, .int .i64 0, .int .i64 0, .int .i64 0, .int .i64 0, .int .i64 0, .int .i64 0, .int .i64 0, .int .i64 0] rfl rfl 49 _ HB.out HI.out rfl HO.out ?_; intro w5 hb5 hc5)
      exact bodyPost_ret (run_ctG rfl rfl rfl hb5 rfl) rfl ⟨by rw [HF2.out, ← HRR.out]; rfl, NtAt.both HFG.out.isIn HFG.out.ext HN2.out HC2.out HFG.out.here HX3.out (Nat.le_refl _) HRL.out hc5⟩
    | some M =>
      have HI2 : Hid ((Try.prog.info? 49).map (·.size) = some (#[.int .i64 M.node, .int .i64 M.kind, .int .i64 M.term, .int .i64 M.gen, .int .i64 M.job, .int .i64 M.inc, .int .i64 M.ver, .int .i64 M.epoch, .int .i64 M.til, .int .i64 M.mode, .int .i64 M.work] : Array Value).size) := Lib.hid infoM12
      have HO2 : Hid ((#[.int .i64 M.node, .int .i64 M.kind, .int .i64 M.term, .int .i64 M.gen, .int .i64 M.job, .int .i64 M.inc, .int .i64 M.ver, .int .i64 M.epoch, .int .i64 M.til, .int .i64 M.mode, .int .i64 M.work] : Array Value).all (·.oneCell') = true) := Lib.hid (by simp [Value.oneCell'])
      unfold getA msV
      go_wp2_with (refine wpList_storeC rfl 49 _ _ rfl w.heap.size #[.int .i64 M.node, .int .i64 M.kind, .int .i64 M.term, .int .i64 M.gen, .int .i64 M.job, .int .i64 M.inc, .int .i64 M.ver, .int .i64 M.epoch, .int .i64 M.til, .int .i64 M.mode, .int .i64 M.work] rfl rfl 49 _ HB.out HI2.out rfl HO2.out ?_; intro w5 hb5 hc5)
      exact bodyPost_ret (run_ctG rfl rfl rfl hb5 rfl) rfl ⟨by rw [HF2.out, ← HRR.out]; rfl, NtAt.both HFG.out.isIn HFG.out.ext HN2.out HC2.out HFG.out.here HX3.out (Nat.le_refl _) HRL.out hc5⟩

end Go.Proofs.Ytdijinboopdheaa
