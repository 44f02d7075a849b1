/- Texts that the proof of R rests on, one behind the other. -/
import Derived.Test.YtdijinboopdheaaRQ8
import Derived.StillTailTactics

/- The reference's layer 1: the list at a place. -/
namespace Go.Proofs.Ytdijinboopdheaa
open Go.RowKit

/-- The reference's GetList while it goes: i numbers have been taken, the next one stands at q. -/
def RGL (bs : List UInt8) (p0 c : Nat) (w : World) (v' q' i' : Value) (wr : World) : Prop :=
  ∃ (i q : Nat) (ns : List Nat), i' = .int .i64 i ∧ q' = .int .i64 q ∧ i ≤ c ∧ q ≤ bs.length ∧ i ≤ q ∧ ns.length = i ∧ readK c bs p0 = (readK (c - i) bs q).map (fun r => (ns ++ r.1, r.2)) ∧
    Grew w.heap.size 3 (.slice none 0 0) w (ns.map fun (n : Nat) => Value.int .i64 n) v' wr

set_option maxHeartbeats 2000000 in
theorem RefGetList_at (bs : List UInt8) (v : Value) (p c j : Nat) (most : Int) (w : World) (hr : Rd w v (bs.map B)) (hp63 : p < 9223372036854775808) (h : getN (bs.drop p) = some (c, j)) (hc : (c : Int) ≤ most) (hlen : bs.length ≤ 1099511627776) :
    Calls Try.prog 71 #[v, .int .i64 p, .int .i64 most] w (GLPost (readK c bs (p + j)) w) := by
  have hj := getN_le h
  rw [List.length_drop] at hj
  have H := Lib.hid h
  clear h
  go_enter Try.func71, Try.ntmps71
  go_wp2_with (first | (go_at_call 97; refine (RefGetNum_some bs _ p c j _ hr (by omega) H.out).mono ?_; rintro e w1 ⟨rfl, hx1⟩))
  go_loopw [12, 10, 13] (fun v' q' i' wr => RGL bs (p + j) c w1 v' q' i' wr) (fun _ _ i' _ => c - (intOf i').toNat)
  case atStart => exact ⟨0, p + j, [], rfl, by go_num, by omega, by omega, by omega, rfl, by simp, Grew.nil w1⟩
  case round =>
    obtain ⟨i, q, ns, rfl, rfl, hic, hq, hiq, hns, hrd, hg⟩ := hrel
    have hr1 := hr.ext (hx1.trans hg.ext)
    by_cases hlt : i < c
    · rw [show c - i = (c - (i + 1)) + 1 by omega, readK] at hrd
      rcases hgn : getN (bs.drop q) with _ | ⟨n, j2⟩
      · rw [hgn] at hrd
        have HG := Lib.hid hgn
        have HRD : Hid (readK c bs (p + j) = none) := by unfold Hid; simpa using hrd
        clear hgn hrd hns
        go_wp2_with (first | (go_at_call 97; refine (RefGetNum_none bs _ q _ hr1 (by omega) HG.out).mono ?_; rintro e w2 ⟨rfl, hx2⟩))
        go_ret3
        rw [HRD.out]
        exact ⟨rfl, (hx1.trans hg.ext).trans hx2⟩
      · rw [hgn] at hrd
        have hj2 := getN_le hgn
        rw [List.length_drop] at hj2
        have HG := Lib.hid hgn
        have HRD : Hid (readK c bs (p + j) = Option.map (fun r => ((ns ++ [n]) ++ r.1, r.2)) (readK (c - (i + 1)) bs (q + j2))) := by
          unfold Hid
          rw [hrd]
          rcases h : readK (c - (i + 1)) bs (q + j2) with _ | ⟨a, b⟩ <;> simp [h]
        have hns2 : Hid ((ns ++ [n]).length = i + 1) := by unfold Hid; simp [hns]
        have hll : (ns.map fun (n : Nat) => Value.int .i64 n).length < 17592186044416 := by rw [List.length_map, hns]; omega
        clear hgn hrd hns
        go_wp2_with (first | (go_at_call 97; refine (RefGetNum_some bs _ q n j2 _ hr1 (by omega) HG.out).mono ?_; rintro e w2 ⟨rfl, hx2⟩; have hg2 := hg.step hx2; have hb2 := hg2.size) | (at_builtin; refine push_int rfl _ _ rfl w1.heap.size _ _ rfl hg2.1 _ rfl rfl hll hb2 ?_; intro v' w' hg'))
        go_roundw
        case rel => exact ⟨i + 1, q + j2, ns ++ [n], by go_num, by go_num, by omega, by omega, by omega, hns2.out, HRD.out, by simpa using hg2.trans hg'⟩
        case measure => simp [intOf]; omega
    · obtain rfl : i = c := by omega
      have HRD := Lib.hid hrd
      have HNS := Lib.hid hns
      clear hrd hns
      go_wp2
      go_ret3
      rw [HRD.out, Nat.sub_self, readK]
      refine ⟨_, rfl, ?_, hx1.trans hg.ext⟩
      have := hg.rebase
      simp only [List.append_nil, List.length_map] at this ⊢
      refine ⟨this.1, ?_⟩
      rcases this.2 with h | ⟨g, cap, cur, hv, hgg, r⟩
      · exact .inl h
      · exact .inr ⟨g, cap, cur, hv, Nat.le_trans hx1.size hgg, r⟩

theorem RefGetList_first (bs : List UInt8) (v : Value) (p : Nat) (most : Int) (w : World) (hr : Rd w v (bs.map B)) (hp63 : p < 9223372036854775808) (h : getN (bs.drop p) = none) :
    Calls Try.prog 71 #[v, .int .i64 p, .int .i64 most] w fun e w' => e = .returned (.tuple #[.slice none 0 0, .int .i64 0, .bool false]) ∧ Ext w w' := by
  have H := Lib.hid h
  clear h
  go_enter Try.func71, Try.ntmps71
  go_wp2_with (first | (go_at_call 97; refine (RefGetNum_none bs _ p _ hr (by omega) H.out).mono ?_; rintro e w1 ⟨rfl, hx1⟩))
  go_ret3
  exact ⟨rfl, hx1⟩

theorem RefGetList_many (bs : List UInt8) (v : Value) (p c j : Nat) (most : Int) (w : World) (hr : Rd w v (bs.map B)) (hp63 : p < 9223372036854775808) (h : getN (bs.drop p) = some (c, j)) (hc : ¬ (c : Int) ≤ most) :
    Calls Try.prog 71 #[v, .int .i64 p, .int .i64 most] w fun e w' => e = .returned (.tuple #[.slice none 0 0, .int .i64 0, .bool false]) ∧ Ext w w' := by
  have H := Lib.hid h
  clear h
  go_enter Try.func71, Try.ntmps71
  go_wp2_with (first | (go_at_call 97; refine (RefGetNum_some bs _ p c j _ hr (by omega) H.out).mono ?_; rintro e w1 ⟨rfl, hx1⟩))
  go_ret3
  exact ⟨rfl, hx1⟩

theorem RefGetList_neg (bs : List UInt8) (v : Value) (p : Int) (most : Int) (w : World) (hr : Rd w v (bs.map B)) (hp : p < 0) :
    Calls Try.prog 71 #[v, .int .i64 p, .int .i64 most] w fun e w' => e = .returned (.tuple #[.slice none 0 0, .int .i64 0, .bool false]) ∧ Ext w w' := by
  have hR := Lib.hid hr
  clear hr
  go_enter Try.func71, Try.ntmps71
  go_wp2_with (first | (go_at_call 97; refine (RefGetNum_neg _ _ p _ hR.out hp).mono ?_; rintro e w1 ⟨rfl, rfl⟩))
  go_ret3
  exact ⟨rfl, Ext.refl _⟩

theorem RefGetList_any (bs : List UInt8) (v : Value) (p : Nat) (most : Int) (w : World) (hr : Rd w v (bs.map B)) (hp63 : p < 9223372036854775808) (hlen : bs.length ≤ 1099511627776) :
    Calls Try.prog 71 #[v, .int .i64 p, .int .i64 most] w (GLPost (listAt bs p most) w) := by
  unfold listAt
  rcases h : getN (bs.drop p) with _ | ⟨c, j⟩
  · exact RefGetList_first bs v p most w hr hp63 h
  · by_cases hc : (c : Int) ≤ most
    · simp only [hc, if_true]
      exact RefGetList_at bs v p c j most w hr hp63 h hc hlen
    · simp only [hc, if_false]
      exact RefGetList_many bs v p c j most w hr hp63 h hc

end Go.Proofs.Ytdijinboopdheaa

/- The reference's Put and Get of messages. -/
namespace Go.Proofs.Ytdijinboopdheaa
open Go.RowKit

set_option maxRecDepth 100000 in
set_option maxHeartbeats 4000000 in
theorem RefPut12_any (m : Ms) (w : World) : Calls Try.prog 34 #[msV m] w fun e w' => ∃ v, e = .returned v ∧ Rd w' v ((putM m).map B) ∧ Ext w w' := by
  obtain ⟨W, hW⟩ : ∃ W, W = w.alloc (.cells #[.int .i64 m.node, .int .i64 m.kind, .int .i64 m.term, .int .i64 m.gen, .int .i64 m.job, .int .i64 m.inc, .int .i64 m.ver, .int .i64 m.epoch, .int .i64 m.til, .int .i64 m.mode, .int .i64 m.work] 49) := ⟨_, rfl⟩
  have hb : MsAt W w.heap.size m := by rw [hW]; exact ⟨Blk.new _ _ _⟩
  have hx : Ext w W := by rw [hW]; exact Ext.alloc_ _ _
  have HB := Lib.hid hb
  have HX := Lib.hid hx
  have HRT := Lib.hid (RefRight12_any m W)
  unfold msV at HRT
  clear hx hb
  unfold msV
  go_enter Try.func34, Try.ntmps34
  go_upto_region 1 with (fail)
  rw [← hW]
  clear hW
  obtain ⟨m0, m1, m2, m3, m4, m5, m6, m7, m8, m9, m10⟩ := HB.out.cells
  cases hr : rightM m with
  | false =>
    rw [hr] at HRT
    have HF : Hid (putM m = []) := Lib.hid (by unfold putM; rw [hr]; rfl)
    clear hr
    go_wp2_with fail
    refine HRT.out.mono ?_
    rintro e1 w1 ⟨rfl, hx1⟩
    have HX1 := Lib.hid (HX.out.trans hx1)
    clear hx1
    go_wp2
    go_ret
    exact ⟨_, rfl, by rw [HF.out]; exact Rd.nil _, HX1.out⟩
  | true =>
    rw [hr] at HRT
    have HF : Hid (putM m = frameB (listB (msL m))) := Lib.hid (by unfold putM; rw [hr]; rfl)
    have HRM := Lib.hid hr
    clear hr
    go_wp2_with fail
    refine HRT.out.mono ?_
    rintro e1 w1 ⟨rfl, hx1⟩
    have HX1 := Lib.hid (HX.out.trans hx1)
    have HB1 := Lib.hid (HB.out.ext hx1)
    clear hx1 HRT m0 m1 m2 m3 m4 m5 m6 m7 m8 m9 m10
    obtain ⟨m0, m1, m2, m3, m4, m5, m6, m7, m8, m9, m10⟩ := HB1.out.cells
    have HNM := Lib.hid (RefNums12_any m w1)
    unfold msV at HNM
    go_wp2_with fail
    refine HNM.out.mono ?_
    rintro e2 w2 ⟨v2, rfl, hr2, hx2⟩
    have HX2 := Lib.hid (HX1.out.trans hx2)
    obtain ⟨A2, c2, rfl, -, -⟩ := hr2.sliceN (List.length_map _)
    have HLI := Lib.hid (RefList_any (msL m) _ w2 hr2 (by show 11 ≤ _; decide))
    clear hx2 hr2 HNM m0 m1 m2 m3 m4 m5 m6 m7 m8 m9 m10
    go_wp2_with fail
    refine HLI.out.mono ?_
    intro e3 w3 hp
    obtain ⟨v3, rfl, hg3⟩ := hp.yes (okN_num (rightM_all HRM.out))
    have hr3 := Rd.own hg3.own
    have HX3 := Lib.hid (HX2.out.trans hg3.ext)
    obtain ⟨A3, c3, rfl, -, -⟩ := hr3.sliceN (List.length_map _)
    have HFP := Lib.hid (RefFrame_any (listB (msL m)) _ w3 hr3)
    clear hg3 hr3 HLI hp
    go_wp2_with fail
    refine HFP.out.mono ?_
    rintro e4 w4 ⟨v4, rfl, hg4⟩
    have H4 := Lib.hid (And.intro (Rd.own hg4.own) (HX3.out.trans hg4.ext))
    clear hg4
    go_wp2
    go_ret
    exact ⟨_, rfl, by rw [HF.out]; exact H4.out.1, H4.out.2⟩

/-! ### Get -/
theorem refG_n1 {b : List UInt8} (h : (getF b 0).2.2 ≠ 1) : getM b = none := getM_n1 h
theorem listB_nil_ne (b : List UInt8) (h : (getF b 0).2.2 = 1) : b ≠ [] := by
  intro e
  rw [e] at h
  exact absurd h (by decide)
theorem refG_y {b : List UInt8} {l : List Nat} {q : Nat} (h : listAt (getF b 0).1 0 11 = some (l, q)) (hl : l.length = 11) (h1 : (getF b 0).2.2 = 1) (hp : putM (ofL (l.map fun (n : Nat) => (n : Int))) = b) : getM b = some (ofL (l.map fun (n : Nat) => (n : Int))) := by
  generalize ofL (l.map fun (n : Nat) => (n : Int)) = m at hp
  rw [getM_iff]
  cases hr : rightM m with
  | false =>
    unfold putM at hp
    rw [hr, if_neg (by simp)] at hp
    exact absurd hp.symm (listB_nil_ne b h1)
  | true =>
    unfold putM at hp
    rw [hr, if_pos rfl] at hp
    exact ⟨rfl, hp.symm⟩
theorem refG_n {b : List UInt8} {l : List Nat} {q : Nat} (h : listAt (getF b 0).1 0 11 = some (l, q)) (hp : putM (ofL (l.map fun (n : Nat) => (n : Int))) ≠ b) : getM b = none := by
  cases hg : getM b with
  | none => rfl
  | some x =>
    exfalso
    obtain ⟨hx, e⟩ := getM_some hg
    have h1 := getF_msg hx
    rw [← e] at h1
    rw [h1] at h
    simp only [listAt_msg hx, Option.some.injEq, Prod.mk.injEq] at h
    apply hp
    rw [← h.1, show ((msL x).map Int.toNat).map (fun (n : Nat) => (n : Int)) = msL x from toNat_back (msL x) (okN_num (rightM_all hx)), ofL_msL]
    unfold putM
    rw [if_pos hx]
    exact e.symm
theorem listN11 {l : List Nat} (h : l.length = 11) : ∃ z0 z1 z2 z3 z4 z5 z6 z7 z8 z9 z10 : Nat, l = [z0, z1, z2, z3, z4, z5, z6, z7, z8, z9, z10] := by
  match l, h with
  | [a, b, c, d, e, f, g, h, i, j, k], _ => exact ⟨a, b, c, d, e, f, g, h, i, j, k, rfl⟩

set_option maxRecDepth 100000 in
set_option maxHeartbeats 4000000 in
theorem RefGet12_any (bs : List UInt8) (v : Value) (w : World) (hr : Rd w v (bs.map B)) : Calls Try.prog 30 #[v] w fun e w' => e = .returned (getA (getM bs)) ∧ Ext w w' := by
  obtain ⟨Av, cv, rfl, hle, hcm⟩ := hr.sliceN (List.length_map _)
  obtain ⟨W, hW⟩ : ∃ W, W = w.alloc (.cells #[.int .i64 0, .int .i64 0, .int .i64 0, .int .i64 0, .int .i64 0, .int .i64 0, .int .i64 0, .int .i64 0, .int .i64 0, .int .i64 0, .int .i64 0] 49) := ⟨_, rfl⟩
  have HB := Lib.hid (show Blk W w.heap.size 49 #[.int .i64 0, .int .i64 0, .int .i64 0, .int .i64 0, .int .i64 0, .int .i64 0, .int .i64 0, .int .i64 0, .int .i64 0, .int .i64 0, .int .i64 0] by rw [hW]; exact Blk.new _ _ _)
  have HI : Hid ((Try.prog.info? 49).map (·.size) = some (#[.int .i64 0, .int .i64 0, .int .i64 0, .int .i64 0, .int .i64 0, .int .i64 0, .int .i64 0, .int .i64 0, .int .i64 0, .int .i64 0, .int .i64 0] : Array Value).size) := Lib.hid infoM12
  have HO : Hid ((#[.int .i64 0, .int .i64 0, .int .i64 0, .int .i64 0, .int .i64 0, .int .i64 0, .int .i64 0, .int .i64 0, .int .i64 0, .int .i64 0, .int .i64 0] : Array Value).all (·.oneCell') = true) := Lib.hid (by simp [Value.oneCell'])
  have HXW := Lib.hid (show Ext w W by rw [hW]; exact Ext.alloc_ _ _)
  have HFG := Lib.hid (RefFrameGet_any bs _ 0 W (hr.ext HXW.out))
  have HRB := Lib.hid (hr.ext HXW.out)
  clear hr hle hcm
  go_enter Try.func30, Try.ntmps30
  go_wp2_with fail
  rw [← hW]
  clear hW
  refine HFG.out.mono ?_
  rintro e1 w1 ⟨v1, rfl, hg1⟩
  have hx1 := hg1.ext
  have HX := Lib.hid (HXW.out.trans hx1)
  replace HB := Lib.hid (HB.out.ext hx1)
  replace HRB := Lib.hid (HRB.out.ext hx1)
  obtain ⟨p, hp⟩ : ∃ p, p = (getF bs 0).1 := ⟨_, rfl⟩
  obtain ⟨ee, he⟩ : ∃ p, p = (getF bs 0).2.1 := ⟨_, rfl⟩
  obtain ⟨kk, hkk⟩ : ∃ p, p = (getF bs 0).2.2 := ⟨_, rfl⟩
  have hpl : p.length ≤ 4000 := by
    rw [hp]
    rcases getF_cases bs 0 with ⟨_, _, h3, _⟩ | ⟨h1, _⟩
    · exact (frameAt_some h3).1.2
    · rw [h1]; exact Nat.zero_le _
  rw [← hp] at hg1
  rw [← he, ← hkk]
  have HP := Lib.hid hp
  have HK := Lib.hid hkk
  have HR1 := Lib.hid (Rd.own hg1.own)
  obtain ⟨A1, c1, rfl, hlc, hlm⟩ := HR1.out.sliceN (List.length_map _)
  have HPL := Lib.hid hpl
  clear hp he hkk hg1 hx1 HFG hpl
  by_cases q1 : kk = 1
  · subst q1
    have HGL := Lib.hid (RefGetList_any p _ 0 11 w1 HR1.out (by decide) (by have := HPL.out; omega))
    go_wp2_with fail
    refine HGL.out.mono ?_
    intro e2 w2 hp2
    rcases hla : listAt p 0 11 with _ | ⟨l, q⟩
    · rw [hla] at hp2
      obtain ⟨rfl, hx2⟩ := hp2
      have HF : Hid (getM bs = none) := Lib.hid (getM_n3 (by rw [← HP.out]; exact hla))
      replace HX := Lib.hid (HX.out.trans hx2)
      replace HB := Lib.hid (HB.out.ext hx2)
      clear hx2 hla HGL
      go_wp2_with (refine wpList_storeB rfl 49 _ _ rfl w.heap.size #[.int .i64 0, .int .i64 0, .int .i64 0, .int .i64 0, .int .i64 0, .int .i64 0, .int .i64 0, .int .i64 0, .int .i64 0, .int .i64 0, .int .i64 0] rfl rfl 49 _ HB.out HI.out rfl HO.out w.heap.size w HX.out (Nat.le_refl _) ?_; intro w5 hb5 hx5)
      exact bodyPost_ret (run_ct rfl rfl rfl hb5 rfl) rfl ⟨by rw [HF.out]; rfl, hx5⟩
    · rw [hla] at hp2
      obtain ⟨v2, rfl, ho2, hx2⟩ := hp2
      replace HB := Lib.hid (HB.out.ext hx2)
      replace HX := Lib.hid (HX.out.trans hx2)
      replace HRB := Lib.hid (HRB.out.ext hx2)
      have HRL := Lib.hid (Rd.own ho2)
      have HLA := Lib.hid (show listAt (getF bs 0).1 0 11 = some (l, q) by rw [← HP.out]; exact hla)
      obtain ⟨A2, c2, rfl, hlc2, hlm2⟩ := HRL.out.sliceN (List.length_map _)
      clear hx2 hla HGL ho2 hlc2 hlm2
      by_cases q4 : l.length = 11
      · have HQ := Lib.hid q4
        obtain ⟨z0, z1, z2, z3, z4, z5, z6, z7, z8, z9, z10, hz⟩ := listN11 q4
        obtain ⟨M, hM⟩ : ∃ M, M = ofL (l.map fun (n : Nat) => (n : Int)) := ⟨_, rfl⟩
        have HMV : Hid (M = ⟨z0, z1, z2, z3, z4, z5, z6, z7, z8, z9, z10⟩) := Lib.hid (by rw [hM, hz]; rfl)
        have HM := Lib.hid hM
        obtain ⟨b2, o2, rfl, hb2, hc2⟩ := HRL.out.get (by rw [List.length_map, q4]; decide)
        rw [hz] at hc2
        have l0 := hc2 0 _ rfl
        have l1 := hc2 1 _ rfl
        have l2 := hc2 2 _ rfl
        have l3 := hc2 3 _ rfl
        have l4 := hc2 4 _ rfl
        have l5 := hc2 5 _ rfl
        have l6 := hc2 6 _ rfl
        have l7 := hc2 7 _ rfl
        have l8 := hc2 8 _ rfl
        have l9 := hc2 9 _ rfl
        have l10 := hc2 10 _ rfl
        rw [Nat.add_zero] at l0
        rw [q4]
        have HB2 := Lib.hid hb2
        have HB2 := Lib.hid hb2
        clear hc2 hb2 hz hM q4
        go_upto_region 7 with (fail)
        have HLC : Hid (∀ W', Ext w2 W' → W'.cell? ⟨b2, o2, none⟩ = some (.int .i64 (z0 : Int)) ∧ W'.cell? ⟨b2, o2 + 1, none⟩ = some (.int .i64 (z1 : Int)) ∧ W'.cell? ⟨b2, o2 + 2, none⟩ = some (.int .i64 (z2 : Int)) ∧ W'.cell? ⟨b2, o2 + 3, none⟩ = some (.int .i64 (z3 : Int)) ∧ W'.cell? ⟨b2, o2 + 4, none⟩ = some (.int .i64 (z4 : Int)) ∧ W'.cell? ⟨b2, o2 + 5, none⟩ = some (.int .i64 (z5 : Int)) ∧ W'.cell? ⟨b2, o2 + 6, none⟩ = some (.int .i64 (z6 : Int)) ∧ W'.cell? ⟨b2, o2 + 7, none⟩ = some (.int .i64 (z7 : Int)) ∧ W'.cell? ⟨b2, o2 + 8, none⟩ = some (.int .i64 (z8 : Int)) ∧ W'.cell? ⟨b2, o2 + 9, none⟩ = some (.int .i64 (z9 : Int)) ∧ W'.cell? ⟨b2, o2 + 10, none⟩ = some (.int .i64 (z10 : Int))) := Lib.hid fun W' h => ⟨(h.cell (p := ⟨b2, o2, none⟩) HB2.out).trans l0, (h.cell (p := ⟨b2, o2 + 1, none⟩) HB2.out).trans l1, (h.cell (p := ⟨b2, o2 + 2, none⟩) HB2.out).trans l2, (h.cell (p := ⟨b2, o2 + 3, none⟩) HB2.out).trans l3, (h.cell (p := ⟨b2, o2 + 4, none⟩) HB2.out).trans l4, (h.cell (p := ⟨b2, o2 + 5, none⟩) HB2.out).trans l5, (h.cell (p := ⟨b2, o2 + 6, none⟩) HB2.out).trans l6, (h.cell (p := ⟨b2, o2 + 7, none⟩) HB2.out).trans l7, (h.cell (p := ⟨b2, o2 + 8, none⟩) HB2.out).trans l8, (h.cell (p := ⟨b2, o2 + 9, none⟩) HB2.out).trans l9, (h.cell (p := ⟨b2, o2 + 10, none⟩) HB2.out).trans l10⟩
        have HXD : Hid (Ext w2 w2.drew) := Lib.hid (Below.drewN' (Ext.refl w2) 1)
        clear l0 l1 l2 l3 l4 l5 l6 l7 l8 l9 l10
        refine held_begin (by kernel_rfl) ?_
        refine held_more (S' := fun W' : World => Ext w2 W') (fun _ _ => True.intro) ?_
        have hSx : (fun W' : World => Ext w2 W') w2.drew := HXD.out
        refine held_take (i := 0) (v := ?_) rfl (by kernel_rfl) (by kernel_rfl) (by kernel_rfl) (by rfl) (by first | assumption | exact True.intro) ?_ ?_
        rotate_left
        · (intro W hSw; go_simp; (try with_reducible rfl))
        try simp only [Act.put, List.setIfInBounds_toArray, List.set_cons_zero, List.set_cons_succ]
        refine held_take (i := 1) (v := ?_) rfl (by kernel_rfl) (by kernel_rfl) (by kernel_rfl) (by rfl) (by first | assumption | exact True.intro) ?_ ?_
        rotate_left
        · (intro W hSw; go_simp; (try with_reducible rfl))
        try simp only [Act.put, List.setIfInBounds_toArray, List.set_cons_zero, List.set_cons_succ]
        refine held_take (i := 2) (v := ?_) rfl (by kernel_rfl) (by kernel_rfl) (by kernel_rfl) (by rfl) (by first | assumption | exact True.intro) ?_ ?_
        rotate_left
        · (intro W hSw; obtain ⟨c0, c1, c2, c3, c4, c5, c6, c7, c8, c9, c10⟩ := HLC.out W hSw; go_simp; (try with_reducible rfl))
        try simp only [Act.put, List.setIfInBounds_toArray, List.set_cons_zero, List.set_cons_succ]
        refine held_take (i := 3) (v := ?_) rfl (by kernel_rfl) (by kernel_rfl) (by kernel_rfl) (by rfl) (by first | assumption | exact True.intro) ?_ ?_
        rotate_left
        · (intro W hSw; go_simp; (try with_reducible rfl))
        try simp only [Act.put, List.setIfInBounds_toArray, List.set_cons_zero, List.set_cons_succ]
        refine held_take (i := 4) (v := ?_) rfl (by kernel_rfl) (by kernel_rfl) (by kernel_rfl) (by rfl) (by first | assumption | exact True.intro) ?_ ?_
        rotate_left
        · (intro W hSw; go_simp; (try with_reducible rfl))
        try simp only [Act.put, List.setIfInBounds_toArray, List.set_cons_zero, List.set_cons_succ]
        refine held_take (i := 5) (v := ?_) rfl (by kernel_rfl) (by kernel_rfl) (by kernel_rfl) (by rfl) (by first | assumption | exact True.intro) ?_ ?_
        rotate_left
        · (intro W hSw; obtain ⟨c0, c1, c2, c3, c4, c5, c6, c7, c8, c9, c10⟩ := HLC.out W hSw; go_simp; (try with_reducible rfl))
        try simp only [Act.put, List.setIfInBounds_toArray, List.set_cons_zero, List.set_cons_succ]
        refine held_take (i := 6) (v := ?_) rfl (by kernel_rfl) (by kernel_rfl) (by kernel_rfl) (by rfl) (by first | assumption | exact True.intro) ?_ ?_
        rotate_left
        · (intro W hSw; go_simp; (try with_reducible rfl))
        try simp only [Act.put, List.setIfInBounds_toArray, List.set_cons_zero, List.set_cons_succ]
        refine held_take (i := 7) (v := ?_) rfl (by kernel_rfl) (by kernel_rfl) (by kernel_rfl) (by rfl) (by first | assumption | exact True.intro) ?_ ?_
        rotate_left
        · (intro W hSw; go_simp; (try with_reducible rfl))
        try simp only [Act.put, List.setIfInBounds_toArray, List.set_cons_zero, List.set_cons_succ]
        refine held_take (i := 8) (v := ?_) rfl (by kernel_rfl) (by kernel_rfl) (by kernel_rfl) (by rfl) (by first | assumption | exact True.intro) ?_ ?_
        rotate_left
        · (intro W hSw; obtain ⟨c0, c1, c2, c3, c4, c5, c6, c7, c8, c9, c10⟩ := HLC.out W hSw; go_simp; (try with_reducible rfl))
        try simp only [Act.put, List.setIfInBounds_toArray, List.set_cons_zero, List.set_cons_succ]
        refine held_take (i := 9) (v := ?_) rfl (by kernel_rfl) (by kernel_rfl) (by kernel_rfl) (by rfl) (by first | assumption | exact True.intro) ?_ ?_
        rotate_left
        · (intro W hSw; go_simp; (try with_reducible rfl))
        try simp only [Act.put, List.setIfInBounds_toArray, List.set_cons_zero, List.set_cons_succ]
        refine held_take (i := 10) (v := ?_) rfl (by kernel_rfl) (by kernel_rfl) (by kernel_rfl) (by rfl) (by first | assumption | exact True.intro) ?_ ?_
        rotate_left
        · (intro W hSw; go_simp; (try with_reducible rfl))
        try simp only [Act.put, List.setIfInBounds_toArray, List.set_cons_zero, List.set_cons_succ]
        refine held_take (i := 11) (v := ?_) rfl (by kernel_rfl) (by kernel_rfl) (by kernel_rfl) (by rfl) (by first | assumption | exact True.intro) ?_ ?_
        rotate_left
        · (intro W hSw; obtain ⟨c0, c1, c2, c3, c4, c5, c6, c7, c8, c9, c10⟩ := HLC.out W hSw; go_simp; (try with_reducible rfl))
        try simp only [Act.put, List.setIfInBounds_toArray, List.set_cons_zero, List.set_cons_succ]
        refine held_take (i := 12) (v := ?_) rfl (by kernel_rfl) (by kernel_rfl) (by kernel_rfl) (by rfl) (by first | assumption | exact True.intro) ?_ ?_
        rotate_left
        · (intro W hSw; go_simp; (try with_reducible rfl))
        try simp only [Act.put, List.setIfInBounds_toArray, List.set_cons_zero, List.set_cons_succ]
        refine held_take (i := 13) (v := ?_) rfl (by kernel_rfl) (by kernel_rfl) (by kernel_rfl) (by rfl) (by first | assumption | exact True.intro) ?_ ?_
        rotate_left
        · (intro W hSw; go_simp; (try with_reducible rfl))
        try simp only [Act.put, List.setIfInBounds_toArray, List.set_cons_zero, List.set_cons_succ]
        refine held_take (i := 14) (v := ?_) rfl (by kernel_rfl) (by kernel_rfl) (by kernel_rfl) (by rfl) (by first | assumption | exact True.intro) ?_ ?_
        rotate_left
        · (intro W hSw; obtain ⟨c0, c1, c2, c3, c4, c5, c6, c7, c8, c9, c10⟩ := HLC.out W hSw; go_simp; (try with_reducible rfl))
        try simp only [Act.put, List.setIfInBounds_toArray, List.set_cons_zero, List.set_cons_succ]
        refine held_take (i := 15) (v := ?_) rfl (by kernel_rfl) (by kernel_rfl) (by kernel_rfl) (by rfl) (by first | assumption | exact True.intro) ?_ ?_
        rotate_left
        · (intro W hSw; go_simp; (try with_reducible rfl))
        try simp only [Act.put, List.setIfInBounds_toArray, List.set_cons_zero, List.set_cons_succ]
        refine held_take (i := 16) (v := ?_) rfl (by kernel_rfl) (by kernel_rfl) (by kernel_rfl) (by rfl) (by first | assumption | exact True.intro) ?_ ?_
        rotate_left
        · (intro W hSw; go_simp; (try with_reducible rfl))
        try simp only [Act.put, List.setIfInBounds_toArray, List.set_cons_zero, List.set_cons_succ]
        refine held_take (i := 17) (v := ?_) rfl (by kernel_rfl) (by kernel_rfl) (by kernel_rfl) (by rfl) (by first | assumption | exact True.intro) ?_ ?_
        rotate_left
        · (intro W hSw; obtain ⟨c0, c1, c2, c3, c4, c5, c6, c7, c8, c9, c10⟩ := HLC.out W hSw; go_simp; (try with_reducible rfl))
        try simp only [Act.put, List.setIfInBounds_toArray, List.set_cons_zero, List.set_cons_succ]
        refine held_take (i := 18) (v := ?_) rfl (by kernel_rfl) (by kernel_rfl) (by kernel_rfl) (by rfl) (by first | assumption | exact True.intro) ?_ ?_
        rotate_left
        · (intro W hSw; go_simp; (try with_reducible rfl))
        try simp only [Act.put, List.setIfInBounds_toArray, List.set_cons_zero, List.set_cons_succ]
        refine held_take (i := 19) (v := ?_) rfl (by kernel_rfl) (by kernel_rfl) (by kernel_rfl) (by rfl) (by first | assumption | exact True.intro) ?_ ?_
        rotate_left
        · (intro W hSw; go_simp; (try with_reducible rfl))
        try simp only [Act.put, List.setIfInBounds_toArray, List.set_cons_zero, List.set_cons_succ]
        refine held_take (i := 20) (v := ?_) rfl (by kernel_rfl) (by kernel_rfl) (by kernel_rfl) (by rfl) (by first | assumption | exact True.intro) ?_ ?_
        rotate_left
        · (intro W hSw; obtain ⟨c0, c1, c2, c3, c4, c5, c6, c7, c8, c9, c10⟩ := HLC.out W hSw; go_simp; (try with_reducible rfl))
        try simp only [Act.put, List.setIfInBounds_toArray, List.set_cons_zero, List.set_cons_succ]
        refine held_take (i := 21) (v := ?_) rfl (by kernel_rfl) (by kernel_rfl) (by kernel_rfl) (by rfl) (by first | assumption | exact True.intro) ?_ ?_
        rotate_left
        · (intro W hSw; go_simp; (try with_reducible rfl))
        try simp only [Act.put, List.setIfInBounds_toArray, List.set_cons_zero, List.set_cons_succ]
        refine held_take (i := 22) (v := ?_) rfl (by kernel_rfl) (by kernel_rfl) (by kernel_rfl) (by rfl) (by first | assumption | exact True.intro) ?_ ?_
        rotate_left
        · (intro W hSw; go_simp; (try with_reducible rfl))
        try simp only [Act.put, List.setIfInBounds_toArray, List.set_cons_zero, List.set_cons_succ]
        refine held_take (i := 23) (v := ?_) rfl (by kernel_rfl) (by kernel_rfl) (by kernel_rfl) (by rfl) (by first | assumption | exact True.intro) ?_ ?_
        rotate_left
        · (intro W hSw; obtain ⟨c0, c1, c2, c3, c4, c5, c6, c7, c8, c9, c10⟩ := HLC.out W hSw; go_simp; (try with_reducible rfl))
        try simp only [Act.put, List.setIfInBounds_toArray, List.set_cons_zero, List.set_cons_succ]
        refine held_take (i := 24) (v := ?_) rfl (by kernel_rfl) (by kernel_rfl) (by kernel_rfl) (by rfl) (by first | assumption | exact True.intro) ?_ ?_
        rotate_left
        · (intro W hSw; go_simp; (try with_reducible rfl))
        try simp only [Act.put, List.setIfInBounds_toArray, List.set_cons_zero, List.set_cons_succ]
        refine held_take (i := 25) (v := ?_) rfl (by kernel_rfl) (by kernel_rfl) (by kernel_rfl) (by rfl) (by first | assumption | exact True.intro) ?_ ?_
        rotate_left
        · (intro W hSw; go_simp; (try with_reducible rfl))
        try simp only [Act.put, List.setIfInBounds_toArray, List.set_cons_zero, List.set_cons_succ]
        refine held_take (i := 26) (v := ?_) rfl (by kernel_rfl) (by kernel_rfl) (by kernel_rfl) (by rfl) (by first | assumption | exact True.intro) ?_ ?_
        rotate_left
        · (intro W hSw; obtain ⟨c0, c1, c2, c3, c4, c5, c6, c7, c8, c9, c10⟩ := HLC.out W hSw; go_simp; (try with_reducible rfl))
        try simp only [Act.put, List.setIfInBounds_toArray, List.set_cons_zero, List.set_cons_succ]
        refine held_take (i := 27) (v := ?_) rfl (by kernel_rfl) (by kernel_rfl) (by kernel_rfl) (by rfl) (by first | assumption | exact True.intro) ?_ ?_
        rotate_left
        · (intro W hSw; go_simp; (try with_reducible rfl))
        try simp only [Act.put, List.setIfInBounds_toArray, List.set_cons_zero, List.set_cons_succ]
        refine held_take (i := 28) (v := ?_) rfl (by kernel_rfl) (by kernel_rfl) (by kernel_rfl) (by rfl) (by first | assumption | exact True.intro) ?_ ?_
        rotate_left
        · (intro W hSw; go_simp; (try with_reducible rfl))
        try simp only [Act.put, List.setIfInBounds_toArray, List.set_cons_zero, List.set_cons_succ]
        refine held_take (i := 29) (v := ?_) rfl (by kernel_rfl) (by kernel_rfl) (by kernel_rfl) (by rfl) (by first | assumption | exact True.intro) ?_ ?_
        rotate_left
        · (intro W hSw; obtain ⟨c0, c1, c2, c3, c4, c5, c6, c7, c8, c9, c10⟩ := HLC.out W hSw; go_simp; (try with_reducible rfl))
        try simp only [Act.put, List.setIfInBounds_toArray, List.set_cons_zero, List.set_cons_succ]
        refine held_take (i := 30) (v := ?_) rfl (by kernel_rfl) (by kernel_rfl) (by kernel_rfl) (by rfl) (by first | assumption | exact True.intro) ?_ ?_
        rotate_left
        · (intro W hSw; go_simp; (try with_reducible rfl))
        try simp only [Act.put, List.setIfInBounds_toArray, List.set_cons_zero, List.set_cons_succ]
        refine held_take (i := 31) (v := ?_) rfl (by kernel_rfl) (by kernel_rfl) (by kernel_rfl) (by rfl) (by first | assumption | exact True.intro) ?_ ?_
        rotate_left
        · (intro W hSw; go_simp; (try with_reducible rfl))
        try simp only [Act.put, List.setIfInBounds_toArray, List.set_cons_zero, List.set_cons_succ]
        refine held_take (i := 32) (v := ?_) rfl (by kernel_rfl) (by kernel_rfl) (by kernel_rfl) (by rfl) (by first | assumption | exact True.intro) ?_ ?_
        rotate_left
        · (intro W hSw; obtain ⟨c0, c1, c2, c3, c4, c5, c6, c7, c8, c9, c10⟩ := HLC.out W hSw; go_simp; (try with_reducible rfl))
        try simp only [Act.put, List.setIfInBounds_toArray, List.set_cons_zero, List.set_cons_succ]
        refine held_take (i := 33) (v := ?_) rfl (by kernel_rfl) (by kernel_rfl) (by kernel_rfl) (by rfl) (by first | assumption | exact True.intro) ?_ ?_
        rotate_left
        · (intro W hSw; go_simp; (try with_reducible rfl))
        try simp only [Act.put, List.setIfInBounds_toArray, List.set_cons_zero, List.set_cons_succ]
        refine held_op (i := 34) (by kernel_rfl) rfl (fun K hK => ?_)
        go_simp
        obtain ⟨W3, hW3⟩ : ∃ W, W = (w2.alloc (.cells #[.int .i64 0, .int .i64 0, .int .i64 0, .int .i64 0, .int .i64 0, .int .i64 0, .int .i64 0, .int .i64 0, .int .i64 0, .int .i64 0, .int .i64 0] 49)).drew := ⟨_, rfl⟩
        have hx3 : Ext w2 W3 := by rw [hW3]; exact (Ext.alloc_ _ _).trans (Below.drewN' (Ext.refl _) 1)
        have HX3 := Lib.hid hx3
        have HB3 : Hid (Blk W3 w2.heap.size 49 #[.int .i64 0, .int .i64 0, .int .i64 0, .int .i64 0, .int .i64 0, .int .i64 0, .int .i64 0, .int .i64 0, .int .i64 0, .int .i64 0, .int .i64 0]) := Lib.hid (by rw [hW3]; exact (Blk.new w2 _ _).ext (Below.drewN' (Ext.refl _) 1))
        rw [← hW3]
        clear hW3 hx3 hSx
        refine hK _ _ HX3.out (fun _ => ?_)
        clear hK K
        try simp only [Act.put, List.setIfInBounds_toArray, List.set_cons_zero, List.set_cons_succ]
        refine held_op (i := 35) (by kernel_rfl) rfl (fun K hK => ?_)
        refine step_storeC 49 _ _ rfl (by rfl) w2.heap.size #[.int .i64 (z0 : Int), .int .i64 (z1 : Int), .int .i64 (z2 : Int), .int .i64 (z3 : Int), .int .i64 (z4 : Int), .int .i64 (z5 : Int), .int .i64 (z6 : Int), .int .i64 (z7 : Int), .int .i64 (z8 : Int), .int .i64 (z9 : Int), .int .i64 (z10 : Int)] rfl rfl 49 _ HB3.out infoM12 rfl (by simp [Value.oneCell']) ?_
        intro w3 hb3 hc3
        have HX4 := Lib.hid (show Ext w2 w3 from hc3.ext HX3.out (fun q hq => by have hq : q = w2.heap.size := hq; rw [hq]; exact Nat.le_refl _))
        have HM3 : Hid (MsAt w3 w2.heap.size M) := Lib.hid ⟨by rw [HMV.out]; exact hb3⟩
        clear hb3 hc3
        refine hK _ _ HX4.out (fun _ => ?_)
        clear hK K
        try simp only [Act.put, List.setIfInBounds_toArray, List.set_cons_zero, List.set_cons_succ]
        refine wpAnyH_done (by kernel_rfl) ?_ _
        refine NoPanic.normal ?_
        replace HB := Lib.hid (HB.out.ext HX4.out)
        replace HX := Lib.hid (HX.out.trans HX4.out)
        replace HRB := Lib.hid (HRB.out.ext HX4.out)
        clear HB3 HX3 HXD HLC
        obtain ⟨m0, m1, m2, m3, m4, m5, m6, m7, m8, m9, m10⟩ := HM3.out.cells
        have HPU := Lib.hid (RefPut12_any M w3)
        unfold msV at HPU
        go_wp2_with fail
        refine HPU.out.mono ?_
        rintro e5 w5 ⟨v5, rfl, hr5, hx5⟩
        replace HB := Lib.hid (HB.out.ext hx5)
        replace HX := Lib.hid (HX.out.trans hx5)
        replace HRB := Lib.hid (HRB.out.ext hx5)
        replace HM3 := Lib.hid (HM3.out.ext hx5)
        obtain ⟨A5, c5, rfl, -, -⟩ := hr5.sliceN (List.length_map _)
        have HBY := Lib.hid (Bytes_any _ _ _ _ w5 hr5 HRB.out)
        clear m0 m1 m2 m3 m4 m5 m6 m7 m8 m9 m10 hr5 hx5 HPU
        by_cases hq : putM M = bs
        · have HF : Hid (getM bs = some M) := Lib.hid (by rw [HM.out] at hq ⊢; exact refG_y HLA.out HQ.out HK.out.symm hq)
          rw [decide_eq_true hq] at HBY
          clear hq
          go_wp2_with fail
          refine HBY.out.mono ?_
          rintro e6 w6 ⟨rfl, n6, hw6⟩
          have hx6 : Ext w5 w6 := by rw [hw6]; exact Below.drewN' (Ext.refl w5) n6
          replace HB := Lib.hid (HB.out.ext hx6)
          replace HX := Lib.hid (HX.out.trans hx6)
          replace HM3 := Lib.hid (HM3.out.ext hx6)
          clear hx6 hw6 HBY
          obtain ⟨m0, m1, m2, m3, m4, m5, m6, m7, m8, m9, m10⟩ := HM3.out.cells
          have HI2 : Hid ((Try.prog.info? 49).map (·.size) = some (#[.int .i64 M.node, .int .i64 M.kind, .int .i64 M.term, .int .i64 M.gen, .int .i64 M.job, .int .i64 M.inc, .int .i64 M.ver, .int .i64 M.epoch, .int .i64 M.til, .int .i64 M.mode, .int .i64 M.work] : Array Value).size) := Lib.hid infoM12
          have HO2 : Hid ((#[.int .i64 M.node, .int .i64 M.kind, .int .i64 M.term, .int .i64 M.gen, .int .i64 M.job, .int .i64 M.inc, .int .i64 M.ver, .int .i64 M.epoch, .int .i64 M.til, .int .i64 M.mode, .int .i64 M.work] : Array Value).all (·.oneCell') = true) := Lib.hid (by simp [Value.oneCell'])
          go_wp2_with (refine wpList_storeB rfl 49 _ _ rfl w.heap.size #[.int .i64 M.node, .int .i64 M.kind, .int .i64 M.term, .int .i64 M.gen, .int .i64 M.job, .int .i64 M.inc, .int .i64 M.ver, .int .i64 M.epoch, .int .i64 M.til, .int .i64 M.mode, .int .i64 M.work] rfl rfl 49 _ HB.out HI2.out rfl HO2.out w.heap.size w HX.out (Nat.le_refl _) ?_; intro w7 hb7 hx7)
          exact bodyPost_ret (run_ct rfl rfl rfl hb7 rfl) rfl ⟨by rw [HF.out]; rfl, hx7⟩
        · have HF : Hid (getM bs = none) := Lib.hid (by rw [HM.out] at hq; exact refG_n HLA.out hq)
          rw [decide_eq_false hq] at HBY
          clear hq
          go_wp2_with fail
          refine HBY.out.mono ?_
          rintro e6 w6 ⟨rfl, n6, hw6⟩
          have hx6 : Ext w5 w6 := by rw [hw6]; exact Below.drewN' (Ext.refl w5) n6
          replace HB := Lib.hid (HB.out.ext hx6)
          replace HX := Lib.hid (HX.out.trans hx6)
          replace HM3 := Lib.hid (HM3.out.ext hx6)
          clear hx6 hw6 HBY
          go_wp2_with (refine wpList_storeB rfl 49 _ _ rfl w.heap.size #[.int .i64 0, .int .i64 0, .int .i64 0, .int .i64 0, .int .i64 0, .int .i64 0, .int .i64 0, .int .i64 0, .int .i64 0, .int .i64 0, .int .i64 0] rfl rfl 49 _ HB.out HI.out rfl HO.out w.heap.size w HX.out (Nat.le_refl _) ?_; intro w7 hb7 hx7)
          exact bodyPost_ret (run_ct rfl rfl rfl hb7 rfl) rfl ⟨by rw [HF.out]; rfl, hx7⟩
      have d4 : ((l.length : Int) != 11) = true := by simp only [bne_iff_ne]; omega
      have HF : Hid (getM bs = none) := Lib.hid (by
        cases hg : getM bs with
        | none => rfl
        | some x =>
          exfalso
          obtain ⟨hx, e⟩ := getM_some hg
          have h1 := getF_msg hx
          rw [← e] at h1
          have h2 := HLA.out
          rw [h1] at h2
          simp only [listAt_msg hx, Option.some.injEq, Prod.mk.injEq] at h2
          exact q4 (by rw [← h2.1, List.length_map]; rfl))
      clear q4
      go_wp2_with (refine wpList_storeB rfl 49 _ _ rfl w.heap.size #[.int .i64 0, .int .i64 0, .int .i64 0, .int .i64 0, .int .i64 0, .int .i64 0, .int .i64 0, .int .i64 0, .int .i64 0, .int .i64 0, .int .i64 0] rfl rfl 49 _ HB.out HI.out rfl HO.out w.heap.size w HX.out (Nat.le_refl _) ?_; intro w5 hb5 hx5)
      exact bodyPost_ret (run_ct rfl rfl rfl hb5 rfl) rfl ⟨by rw [HF.out]; rfl, hx5⟩
  have d1 : (kk != 1) = true := by simp only [bne_iff_ne]; exact q1
  have HF : Hid (getM bs = none) := Lib.hid (getM_n1 (by rw [← HK.out]; exact q1))
  clear q1
  go_wp2_with (refine wpList_storeB rfl 49 _ _ rfl w.heap.size #[.int .i64 0, .int .i64 0, .int .i64 0, .int .i64 0, .int .i64 0, .int .i64 0, .int .i64 0, .int .i64 0, .int .i64 0, .int .i64 0, .int .i64 0] rfl rfl 49 _ HB.out HI.out rfl HO.out w.heap.size w HX.out (Nat.le_refl _) ?_; intro w5 hb5 hx5)
  exact bodyPost_ret (run_ct rfl rfl rfl hb5 rfl) rfl ⟨by rw [HF.out]; rfl, hx5⟩

end Go.Proofs.Ytdijinboopdheaa

/- The reference's net: messages, and which of them were turned, in a block. -/
namespace Go.Proofs.Ytdijinboopdheaa
open Go.RowKit

/-- A list of yes and no. -/
def BsF (G : Fp) (w : World) (v : Value) (T : List Bool) : Prop := WayF G w 4 1 v T.length (T.map Value.bool)
section
variable {G H : Fp} {w w' : World} {v v' : Value} {T : List Bool}
theorem BsF.nil (G : Fp) (w : World) : BsF G w (.slice none 0 0) [] := WayF.nil _ _ _ _
theorem BsF.chg (h : BsF G w v T) (hc : Chg H w w') (ha : ∀ q, v.ownBlock = some q → ¬ H q) : BsF G w' v T := WayF.chg h hc ha
theorem BsF.ext (h : BsF G w v T) (hx : Ext w w') : BsF G w' v T := h.chg (H := fun _ => False) (Chg.of_ext hx) (fun _ _ h => h)
theorem BsF.mono (h : BsF G w v T) (hf : ∀ q, G q → H q) : BsF H w v T := WayF.mono h hf
theorem BsF.slice_ (h : BsF G w v T) : ∃ A c, v = .slice A T.length c ∧ T.length ≤ c ∧ c ≤ maxLen ∧ (A = none → T.length = 0 ∧ c = 0) := WayF.slice_ h
theorem BsF.push {x : Bool} (h : BsF G w v T) (hg : WayG v w 4 1 (T.length + 1) (T.map Value.bool ++ [.bool x]) v' w') : BsF (G.since w w') w' v' (T ++ [x]) ∧ Chg (fun q => v.ownBlock = some q) w w' := by
  obtain ⟨h1, h2⟩ := hg.way h
  refine ⟨?_, h2⟩
  unfold BsF
  rw [List.map_append, List.length_append]
  exact h1
theorem BsF.at_ {A : Option Addr} {n c j : Nat} {x : Bool} (h : BsF G w (.slice A n c) T) (hj : T[j]? = some x) : ∃ b, A = some ⟨b, 0, none⟩ ∧ b < w.heap.size ∧ w.cell? ⟨b, j, none⟩ = some (.bool x) ∧ w.frozen? ⟨b, j, none⟩ = false := by
  have hlt : j < T.length := (List.getElem?_eq_some_iff.1 hj).1
  obtain ⟨-, b, cur, rfl, hb, -⟩ := WayF.at_ h (fun e => by
    obtain ⟨A', c', e', -, -, hA⟩ := h.slice_
    cases e'
    have := (hA e).1
    omega)
  exact ⟨b, rfl, (Array.getElem?_eq_some_iff.1 hb).1, (WayF.cells h).2.1 _ _ (by rw [List.getElem?_map, hj]; rfl), (WayF.cells h).2.2 j⟩
end
theorem LsF.chgO {G H : Fp} {w w' : World} {v : Value} {L : List Ms} (h : LsF G w v L) (hc : Chg H w w') (ha : ∀ q, v.ownBlock = some q → ¬ H q) : LsF G w' v L := WayF.chg h hc ha
theorem LsF.pushO {G : Fp} {w w' : World} {v v' : Value} {L : List Ms} {m : Ms} (h : LsF G w v L) (hg : WayG v w 49 11 (L.length + 1) (L.flatMap msC ++ msC m) v' w') : LsF (G.since w w') w' v' (L ++ [m]) ∧ Chg (fun q => v.ownBlock = some q) w w' := by
  obtain ⟨h1, h2⟩ := hg.way h
  refine ⟨?_, h2⟩
  unfold LsF
  rw [flatMs_push, List.length_append]
  exact h1

/-- The struct in block h, its two lists; F: the blocks that are written. -/
structure RnX (F : Fp) (w : World) (h : Nat) (L : List Ms) (T : List Bool) (s : Nat) (vL vT : Value) : Prop where
  blk : Blk w h 72 #[vL, vT, .int .i64 (s : Int)]
  rowL : LsF (fun k => F k ∧ k ≠ h) w vL L
  rowT : BsF (fun k => F k ∧ k ≠ h) w vT T
  apart : ∀ k, vL.ownBlock = some k → vT.ownBlock ≠ some k
structure RnAt (F : Fp) (w : World) (h : Nat) (S : NtP) : Prop where
  out : ∃ vL vT, RnX F w h (S.way.map (·.1)) (S.way.map tOf) S.sent vL vT
  isIn : F.isIn w
  here : F h

section
variable {F G : Fp} {w w' w3 w4 : World} {h s : Nat} {L : List Ms} {T : List Bool} {vL vT v' : Value} {S : NtP}
theorem RnX.chg (r : RnX F w h L T s vL vT) (hc : Chg G w w') (hG : ∀ k, F k → ¬ G k) (hh : F h) : RnX F w' h L T s vL vT :=
  ⟨(hc.block h r.blk.lt (hG h hh)).trans r.blk, r.rowL.chg hc (fun k hk => hG k hk.1), r.rowT.chg hc (fun k hk => hG k (r.rowT.inF k hk).1), r.apart⟩
theorem RnX.mono (r : RnX F w h L T s vL vT) (hf : ∀ k, F k → G k) : RnX G w h L T s vL vT := ⟨r.blk, r.rowL.mono (fun k hk => ⟨hf k hk.1, hk.2⟩), r.rowT.mono (fun k hk => ⟨hf k hk.1, hk.2⟩), r.apart⟩
theorem RnAt.chg (r : RnAt F w h S) (hc : Chg G w w') (hG : ∀ k, F k → ¬ G k) : RnAt F w' h S := by
  obtain ⟨vL, vT, hi⟩ := r.out
  exact ⟨⟨vL, vT, hi.chg hc hG r.here⟩, r.isIn.chg hc, r.here⟩
theorem RnAt.ext (r : RnAt F w h S) (hx : Ext w w') : RnAt F w' h S := r.chg (G := fun _ => False) (Chg.of_ext hx) (fun _ _ h => h)
theorem RnAt.lt (r : RnAt F w h S) : h < w.heap.size := r.isIn h r.here
theorem RnAt.grow (r : RnAt F w h S) (hx : Ext w w') : RnAt (F.since w w') w' h S ∧ Chg F w w' := by
  obtain ⟨vL, vT, hi⟩ := (r.ext hx).out
  exact ⟨⟨⟨vL, vT, hi.mono (fun k hk => .inl hk)⟩, r.isIn.since hx.size, .inl r.here⟩, Chg.of_ext hx⟩
theorem RnX.offL (r : RnX F w h L T s vL vT) : vL.ownBlock ≠ some h := fun e => (r.rowL.inF h e).2 rfl
theorem RnX.offT (r : RnX F w h L T s vL vT) : vT.ownBlock ≠ some h := fun e => (r.rowT.inF h e).2 rfl
/-- One more message. -/
theorem RnX.putL (r : RnX F w h L T s vL vT) (hF : F.isIn w) (hh : F h) (hx : Ext w w3) {m : Ms} (hg : WayG vL w3 49 11 (L.length + 1) (L.flatMap msC ++ msC m) v' w4) :
    RnX (F.since w w4) (w4.setCell ⟨h, 0, none⟩ v') h (L ++ [m]) T s v' vT ∧ Chg F w (w4.setCell ⟨h, 0, none⟩ v') := by
  have r3 := r.chg (Chg.of_ext (F := fun _ => False) hx) (fun _ _ h => h) hh
  obtain ⟨hl, hc4⟩ := r3.rowL.pushO hg
  have s3 := hx.size
  have s4 := hc4.size
  have hgl := hF h hh
  have hb4 : Blk w4 h 72 #[vL, vT, .int .i64 (s : Int)] := (hc4.block h r3.blk.lt r.offL).trans r3.blk
  have hc5 : Chg (fun k => k = h) w4 (w4.setCell ⟨h, 0, none⟩ v') := (Chg.refl _ _).setCell (fun _ => rfl)
  have hv' : ∀ k, v'.ownBlock = some k → vL.ownBlock = some k ∨ w3.heap.size ≤ k := fun k hk => by
    rcases hg.here with e | e
    · exact .inl (by rw [← e]; exact hk)
    · exact .inr (e k hk)
  have ht4 : BsF (fun k => F k ∧ k ≠ h) w4 vT T := r3.rowT.chg hc4 (fun q hq hq2 => r.apart q hq2 hq)
  refine ⟨⟨hb4.set_ 0 v', ?_, ?_, fun k hk e => ?_⟩, ((Chg.of_ext (F := F) hx).trans hc4 (fun k _ hk => (r.rowL.inF k hk).1)).trans hc5 (fun k _ hk => by have hk : k = h := hk; rw [hk]; exact hh)⟩
  · refine (hl.chgO hc5 (fun k hk e => ?_)).mono (fun k hk => ?_)
    · have e : k = h := e
      rcases hv' k hk with h1 | h1
      · rw [e] at h1; exact r.offL h1
      · omega
    · rcases hk with hk | hk
      · exact ⟨.inl hk.1, hk.2⟩
      · exact ⟨.inr ⟨by omega, hk.2⟩, by omega⟩
  · exact (ht4.chg hc5 (fun k hk e => by have e : k = h := e; rw [e] at hk; exact r.offT hk)).mono (fun k hk => ⟨.inl hk.1, hk.2⟩)
  · rcases hv' k hk with h1 | h1
    · exact r.apart k h1 e
    · have := hF k (r.rowT.inF k e).1; omega
/-- One more yes or no. -/
theorem RnX.putT (r : RnX F w h L T s vL vT) (hF : F.isIn w) (hh : F h) (hx : Ext w w3) {x : Bool} (hg : WayG vT w3 4 1 (T.length + 1) (T.map Value.bool ++ [.bool x]) v' w4) :
    RnX (F.since w w4) (w4.setCell ⟨h, 1, none⟩ v') h L (T ++ [x]) s vL v' ∧ Chg F w (w4.setCell ⟨h, 1, none⟩ v') := by
  have r3 := r.chg (Chg.of_ext (F := fun _ => False) hx) (fun _ _ h => h) hh
  obtain ⟨hl, hc4⟩ := r3.rowT.push hg
  have s3 := hx.size
  have s4 := hc4.size
  have hgl := hF h hh
  have hb4 : Blk w4 h 72 #[vL, vT, .int .i64 (s : Int)] := (hc4.block h r3.blk.lt r.offT).trans r3.blk
  have hc5 : Chg (fun k => k = h) w4 (w4.setCell ⟨h, 1, none⟩ v') := (Chg.refl _ _).setCell (fun _ => rfl)
  have hv' : ∀ k, v'.ownBlock = some k → vT.ownBlock = some k ∨ w3.heap.size ≤ k := fun k hk => by
    rcases hg.here with e | e
    · exact .inl (by rw [← e]; exact hk)
    · exact .inr (e k hk)
  have ht4 : LsF (fun k => F k ∧ k ≠ h) w4 vL L := r3.rowL.chgO hc4 (fun q hq hq2 => r.apart q hq hq2)
  refine ⟨⟨hb4.set_ 1 v', ?_, ?_, fun k hk e => ?_⟩, ((Chg.of_ext (F := F) hx).trans hc4 (fun k _ hk => (r.rowT.inF k hk).1)).trans hc5 (fun k _ hk => by have hk : k = h := hk; rw [hk]; exact hh)⟩
  · exact (ht4.chgO hc5 (fun k hk e => by have e : k = h := e; rw [e] at hk; exact r.offL hk)).mono (fun k hk => ⟨.inl hk.1, hk.2⟩)
  · refine (hl.chg hc5 (fun k hk e => ?_)).mono (fun k hk => ?_)
    · have e : k = h := e
      rcases hv' k hk with h1 | h1
      · rw [e] at h1; exact r.offT h1
      · omega
    · rcases hk with hk | hk
      · exact ⟨.inl hk.1, hk.2⟩
      · exact ⟨.inr ⟨by omega, hk.2⟩, by omega⟩
  · rcases hv' k e with h1 | h1
    · exact r.apart k hk h1
    · have := hF k (r.rowL.inF k hk).1; omega
theorem RnX.count (r : RnX F w h L T s vL vT) (hh : F h) (n : Nat) : RnX F (w.setCell ⟨h, 2, none⟩ (.int .i64 (n : Int))) h L T n vL vT ∧ Chg F w (w.setCell ⟨h, 2, none⟩ (.int .i64 (n : Int))) := by
  have hc : Chg (fun k => k = h) w (w.setCell ⟨h, 2, none⟩ (.int .i64 (n : Int))) := (Chg.refl _ _).setCell (fun _ => rfl)
  exact ⟨⟨r.blk.set_ 2 _, r.rowL.chg hc (fun k hk => hk.2), r.rowT.chg hc (fun k hk => (r.rowT.inF k hk).2), r.apart⟩, hc.mono (fun k _ hk => by have hk : k = h := hk; rw [hk]; exact hh)⟩
/-- One is turned. -/
theorem RnX.turn {b n c j : Nat} (r : RnX F w h L T s vL (.slice (some ⟨b, 0, none⟩) n c)) : RnX F (w.setCell ⟨b, j, none⟩ (.bool true)) h L (T.set j true) s vL (.slice (some ⟨b, 0, none⟩) n c) ∧ Chg F w (w.setCell ⟨b, j, none⟩ (.bool true)) := by
  have hbF := r.rowT.inF b rfl
  have hc : Chg (fun k => k = b) w (w.setCell ⟨b, j, none⟩ (.bool true)) := (Chg.refl _ _).setCell (fun _ => rfl)
  refine ⟨⟨(hc.block h r.blk.lt (fun e => hbF.2 e.symm)).trans r.blk, r.rowL.chgO hc (fun k hk e => by have e : k = b := e; rw [e] at hk; exact r.apart b hk rfl), ?_, r.apart⟩, hc.mono (fun k _ hk => by have hk : k = b := hk; rw [hk]; exact hbF.1)⟩
  have h1 := WayF.set r.rowT j (.bool true)
  unfold BsF
  rw [List.length_set, List.map_set]
  exact h1
/-- Two new lists in their places. -/
theorem RnX.both {L' : List Ms} {T' : List Bool} {vL' vT' : Value} (r : RnX F w h L T s vL vT) (hF : F.isIn w) (hh : F h) (hx : Ext w w3) (hl : LsF (fun q => w.heap.size ≤ q) w3 vL' L') (ht : BsF (fun q => w.heap.size ≤ q) w3 vT' T') (ha : ∀ k, vL'.ownBlock = some k → vT'.ownBlock ≠ some k) :
    RnX (F.since w w3) ((w3.setCell ⟨h, 0, none⟩ vL').setCell ⟨h, 1, none⟩ vT') h L' T' s vL' vT' ∧ Chg F w ((w3.setCell ⟨h, 0, none⟩ vL').setCell ⟨h, 1, none⟩ vT') := by
  have hgl := hF h hh
  have hc4 : Chg (fun k => k = h) w3 (w3.setCell ⟨h, 0, none⟩ vL') := (Chg.refl _ _).setCell (fun _ => rfl)
  have hc5 : Chg (fun k => k = h) (w3.setCell ⟨h, 0, none⟩ vL') ((w3.setCell ⟨h, 0, none⟩ vL').setCell ⟨h, 1, none⟩ vT') := (Chg.refl _ _).setCell (fun _ => rfl)
  have hl1 := (hl.chgO hc4 (fun k hk e => by have e : k = h := e; have := hl.inF k hk; omega)).chgO hc5 (fun k hk e => by have e : k = h := e; have := hl.inF k hk; omega)
  have ht1 := (ht.chg hc4 (fun k hk e => by have e : k = h := e; have := ht.inF k hk; omega)).chg hc5 (fun k hk e => by have e : k = h := e; have := ht.inF k hk; omega)
  have hl2 : ∀ k, vL'.ownBlock = some k → k < w3.heap.size := WayF.lt hl
  have ht2 : ∀ k, vT'.ownBlock = some k → k < w3.heap.size := WayF.lt ht
  refine ⟨⟨((r.blk.ext hx).set_ 0 vL').set_ 1 vT', ⟨hl1.row, fun k hk => ⟨.inr ⟨hl.inF k hk, hl2 k hk⟩, by have := hl.inF k hk; omega⟩⟩, ⟨ht1.row, fun k hk => ⟨.inr ⟨ht.inF k hk, ht2 k hk⟩, by have := ht.inF k hk; omega⟩⟩, ha⟩, ((Chg.of_ext (F := F) hx).trans hc4 (fun k _ hk => by have hk : k = h := hk; rw [hk]; exact hh)).trans hc5 (fun k _ hk => by have hk : k = h := hk; rw [hk]; exact hh)⟩
/-- A net that was turned is one since. -/
theorem RnAt.fin {F : Fp} {w0 w2 w4 w6 : World} {h : Nat} {S6 : NtP} {vL vT : Value} (hF : F.isIn w0) (hh : F h) (hx : Ext w0 w2) (h46 : w4.heap.size ≤ w6.heap.size) (h6 : RnX (F.since w2 w4) w6 h (S6.way.map (·.1)) (S6.way.map tOf) S6.sent vL vT) (hc6 : Chg F w2 w6) : RnAt (F.since w0 w6) w6 h S6 ∧ Chg F w0 w6 := by
  have s1 := hx.size
  have s3 := hc6.size
  refine ⟨⟨⟨vL, vT, h6.mono (fun k hk => ?_)⟩, hF.since (by omega), .inl hh⟩, (Chg.of_ext (F := F) hx).trans hc6 (fun _ _ h => h)⟩
  rcases hk with hk | hk
  · exact .inl hk
  · exact .inr ⟨by omega, by omega⟩
theorem RnAt.send_fin {w0 w2 w7 w8 w9 : World} {h n : Nat} {S : NtP} {m : Ms} {vL vT v9 : Value} (hF : F.isIn w0) (hh : F h) (hx : Ext w0 w2) (h78 : w7.heap.size = w8.heap.size) (hx27 : w2.heap.size ≤ w7.heap.size) (h8 : RnX (F.since w2 w7) w8 h (S.way.map (·.1) ++ [m]) (S.way.map tOf) S.sent vL vT) (hc8 : Chg F w2 w8)
    (hn : n = S.way.length) (hg : WayG vT w8 4 1 (n + 1) ((S.way.map tOf).map Value.bool ++ [.bool false]) v9 w9) :
    RnAt (F.since w0 ((w9.setCell ⟨h, 1, none⟩ v9).setCell ⟨h, 2, none⟩ (.int .i64 ((S.sent + 1 : Nat) : Int)))) ((w9.setCell ⟨h, 1, none⟩ v9).setCell ⟨h, 2, none⟩ (.int .i64 ((S.sent + 1 : Nat) : Int))) h ⟨S.way ++ [(m, none)], S.sent + 1⟩ ∧ Chg F w0 ((w9.setCell ⟨h, 1, none⟩ v9).setCell ⟨h, 2, none⟩ (.int .i64 ((S.sent + 1 : Nat) : Int))) := by
  have hF2 : F.isIn w2 := hF.ext hx
  have hF8 : (F.since w2 w7).isIn w8 := fun k hk => by rw [← h78]; exact (hF2.since hx27) k hk
  obtain ⟨h9, hc9⟩ := h8.putT (x := false) hF8 (.inl hh) (Ext.refl _) (by rw [List.length_map, ← hn]; exact hg)
  obtain ⟨h10, hc10⟩ := h9.count (.inl (.inl hh)) (S.sent + 1)
  have s9 : w8.heap.size ≤ w9.heap.size := hg.grown.size
  refine RnAt.fin (w4 := w9) (vL := vL) (vT := v9) hF hh hx (by simp) (S6 := ⟨S.way ++ [(m, none)], S.sent + 1⟩) ?_ ((hc8.trans hc9 (fun k hk hh2 => ?_)).trans hc10 (fun k hk hh2 => ?_))
  · have e1 : (S.way ++ [((m, none) : PcP)]).map (·.1) = S.way.map (·.1) ++ [m] := by simp
    have e2 : (S.way ++ [((m, none) : PcP)]).map tOf = S.way.map tOf ++ [false] := by simp [tOf]
    simp only [e1, e2]
    refine h10.mono (fun k hk => ?_)
    rcases hk with (hk | hk) | hk
    · exact .inl hk
    · exact .inr ⟨hk.1, by omega⟩
    · exact .inr ⟨by omega, hk.2⟩
  · rcases hh2 with hh2 | hh2
    · exact hh2
    · omega
  · rcases hh2 with (hh2 | hh2) | hh2
    · exact hh2
    · omega
    · omega
end

end Go.Proofs.Ytdijinboopdheaa

/- The reference's net: Has, Send. -/
namespace Go.Proofs.Ytdijinboopdheaa
open Go.RowKit

set_option maxRecDepth 100000 in
set_option maxHeartbeats 1000000 in
theorem RnHas_any (F : Fp) (h : Nat) (S : NtP) (i : Int) (w : World) (r : RnAt F w h S) : Calls Try.prog 79 #[.pointer (some ⟨h, 0, none⟩), .int .i64 i] w fun e w' => e = .returned (.bool (hasN S i)) ∧ Ext w w' := by
  obtain ⟨vL, vT, hi⟩ := r.out
  obtain ⟨AL, cL, rfl, -, -, -⟩ := hi.rowL.slice_
  have c0 : w.cell? ⟨h, 0, none⟩ = some (.slice AL (S.way.map (·.1)).length cL) := hi.blk.cell 0
  rw [List.length_map] at c0
  obtain ⟨n, hn⟩ : ∃ n, n = S.way.length := ⟨_, rfl⟩
  rw [← hn] at c0
  have HN := Lib.hid hn
  clear hn hi r
  by_cases h0 : 0 ≤ i
  · have d0 : decide ((0 : Int) ≤ i) = true := decide_eq_true h0
    have HF : Hid (hasN S i = decide (i < (n : Int))) := Lib.hid (by unfold hasN; rw [d0, HN.out]; rfl)
    clear h0
    go_enter Try.func79, Try.ntmps79
    go_wp2
    go_ret
    exact ⟨by rw [HF.out]; rfl, Ext.refl _⟩
  · have d0 : decide ((0 : Int) ≤ i) = false := decide_eq_false h0
    have HF : Hid (hasN S i = false) := Lib.hid (by unfold hasN; rw [d0]; rfl)
    clear h0
    go_enter Try.func79, Try.ntmps79
    go_wp2
    go_ret
    exact ⟨by rw [HF.out]; rfl, Ext.refl _⟩

set_option maxRecDepth 100000 in
set_option maxHeartbeats 4000000 in
theorem RnSend_any (F : Fp) (h : Nat) (S : NtP) (m : Ms) (w : World) (r : RnAt F w h S) (hs : S.sent < 1000000) : Calls Try.prog 43 #[.pointer (some ⟨h, 0, none⟩), msV m] w fun e w' => e = .returned (.bool (sendN S m).1) ∧ RnAt (F.since w w') w' h (sendN S m).2 ∧ Chg F w w' := by
  obtain ⟨W, hW⟩ : ∃ W, W = w.alloc (.cells #[.int .i64 m.node, .int .i64 m.kind, .int .i64 m.term, .int .i64 m.gen, .int .i64 m.job, .int .i64 m.inc, .int .i64 m.ver, .int .i64 m.epoch, .int .i64 m.til, .int .i64 m.mode, .int .i64 m.work] 49) := ⟨_, rfl⟩
  have HB := Lib.hid (show MsAt W w.heap.size m by rw [hW]; exact ⟨Blk.new _ _ _⟩)
  have HX := Lib.hid (show Ext w W by rw [hW]; exact Ext.alloc_ _ _)
  have HA := Lib.hid r
  have HS := Lib.hid hs
  clear r hs
  obtain ⟨vL, vT, hi⟩ := (HA.out.ext HX.out).out
  obtain ⟨AL, cL, rfl, -, -, -⟩ := hi.rowL.slice_
  obtain ⟨AT, cT, rfl, -, -, -⟩ := hi.rowT.slice_
  rw [List.length_map] at hi
  have HIN := Lib.hid hi
  have HFI := Lib.hid (HA.out.isIn.ext HX.out)
  have HHR := Lib.hid HA.out.here
  clear hi
  obtain ⟨n, hn⟩ : ∃ n, n = S.way.length := ⟨_, rfl⟩
  rw [List.length_map] at HIN
  rw [← hn] at HIN
  have HN := Lib.hid hn
  clear hn
  have c0 : W.cell? ⟨h, 0, none⟩ = some (.slice AL n cL) := HIN.out.blk.cell 0
  unfold msV
  go_enter Try.func43, Try.ntmps43
  go_upto_region 1 with (fail)
  rw [← hW]
  clear hW
  by_cases h40 : n < 40
  rotate_left
  · have d0 : decide ((40 : Int) ≤ (n : Int)) = true := decide_eq_true (by omega)
    have d0' : decide (40 ≤ n) = true := decide_eq_true (by omega)
    have HF : Hid (sendN S m = (false, S)) := Lib.hid (by unfold sendN; rw [if_neg (fun hc => h40 (by have := hc.1; unfold roomN at this; rw [HN.out]; simpa using this))])
    clear h40
    go_wp2
    go_ret
    exact ⟨by rw [HF.out]; rfl, by rw [HF.out]; exact HA.out.grow HX.out⟩
  have d0 : decide ((40 : Int) ≤ (n : Int)) = false := decide_eq_false (by omega)
  have d0' : decide (40 ≤ n) = false := decide_eq_false (by omega)
  have HN40 := Lib.hid h40
  clear h40
  obtain ⟨m0, m1, m2, m3, m4, m5, m6, m7, m8, m9, m10⟩ := HB.out.cells
  have HRT := Lib.hid (RefRight12_any m W)
  unfold msV at HRT
  cases hr : rightM m with
  | false =>
    rw [hr] at HRT
    have HF : Hid (sendN S m = (false, S)) := Lib.hid (by unfold sendN; rw [if_neg (by rw [hr]; simp)])
    clear hr
    go_wp2_with fail
    refine HRT.out.mono ?_
    rintro e2 w2 ⟨rfl, hx2⟩
    replace HX := Lib.hid (HX.out.trans hx2)
    clear hx2 HRT m0 m1 m2 m3 m4 m5 m6 m7 m8 m9 m10 c0
    go_wp2
    go_ret
    exact ⟨by rw [HF.out]; rfl, by rw [HF.out]; exact HA.out.grow HX.out⟩
  | true =>
    rw [hr] at HRT
    have HF : Hid (sendN S m = (true, ⟨S.way ++ [(m, none)], S.sent + 1⟩)) := Lib.hid (by unfold sendN; rw [if_pos ⟨by unfold roomN; rw [← HN.out]; exact decide_eq_true HN40.out, hr⟩])
    clear hr
    go_wp2_with fail
    refine HRT.out.mono ?_
    rintro e2 w2 ⟨rfl, hx2⟩
    have HX2 := Lib.hid (HX.out.trans hx2)
    have HB2 := Lib.hid (HB.out.ext hx2)
    have HI2 := Lib.hid (HIN.out.chg (Chg.of_ext (F := fun _ => False) hx2) (fun _ _ h => h) HHR.out)
    have HF2 := Lib.hid (HFI.out.ext hx2)
    clear hx2 HRT m0 m1 m2 m3 m4 m5 m6 m7 m8 m9 m10 c0 HX HB HIN HFI
    have HDR : Hid (Ext w2 w2.drew) := Lib.hid (Below.drewN' (Ext.refl w2) 1)
    have HBD := Lib.hid (HB2.out.ext HDR.out)
    have HID := Lib.hid (HI2.out.chg (Chg.of_ext (F := fun _ => False) HDR.out) (fun _ _ h => h) HHR.out)
    go_upto_region 3 with (fail)
    have c0 : w2.drew.cell? ⟨h, 0, none⟩ = some (.slice AL n cL) := HID.out.blk.cell 0
    obtain ⟨wa, hwa⟩ : ∃ W, W = (w2.alloc (.cells #[.int .i64 m.node, .int .i64 m.kind, .int .i64 m.term, .int .i64 m.gen, .int .i64 m.job, .int .i64 m.inc, .int .i64 m.ver, .int .i64 m.epoch, .int .i64 m.til, .int .i64 m.mode, .int .i64 m.work] 49)).drew := ⟨_, rfl⟩
    have HWA := Lib.hid hwa
    have HWB : Hid (wa = w2.drew.alloc (.cells #[.int .i64 m.node, .int .i64 m.kind, .int .i64 m.term, .int .i64 m.gen, .int .i64 m.job, .int .i64 m.inc, .int .i64 m.ver, .int .i64 m.epoch, .int .i64 m.til, .int .i64 m.mode, .int .i64 m.work] 49)) := Lib.hid (by rw [hwa]; rfl)
    have HXA : Hid (Ext w2.drew wa) := Lib.hid (by rw [HWB.out]; exact Ext.alloc_ _ _)
    have c0b := HXA.out.cellOf c0 (Nat.lt_of_lt_of_le (HF2.out _ HHR.out) HDR.out.size)
    clear hwa
    refine held_begin (by kernel_rfl) ?_
    refine held_more (S' := fun W' : World => W'.cell? ⟨w.heap.size, 0, none⟩ = some (.int .i64 m.node) ∧ W'.cell? ⟨w.heap.size, 1, none⟩ = some (.int .i64 m.kind) ∧ W'.cell? ⟨w.heap.size, 2, none⟩ = some (.int .i64 m.term) ∧ W'.cell? ⟨w.heap.size, 3, none⟩ = some (.int .i64 m.gen) ∧ W'.cell? ⟨w.heap.size, 4, none⟩ = some (.int .i64 m.job) ∧ W'.cell? ⟨w.heap.size, 5, none⟩ = some (.int .i64 m.inc) ∧ W'.cell? ⟨w.heap.size, 6, none⟩ = some (.int .i64 m.ver) ∧ W'.cell? ⟨w.heap.size, 7, none⟩ = some (.int .i64 m.epoch) ∧ W'.cell? ⟨w.heap.size, 8, none⟩ = some (.int .i64 m.til) ∧ W'.cell? ⟨w.heap.size, 9, none⟩ = some (.int .i64 m.mode) ∧ W'.cell? ⟨w.heap.size, 10, none⟩ = some (.int .i64 m.work)) (fun _ _ => True.intro) ?_
    have hHeld0 : (fun W' : World => W'.cell? ⟨w.heap.size, 0, none⟩ = some (.int .i64 m.node) ∧ W'.cell? ⟨w.heap.size, 1, none⟩ = some (.int .i64 m.kind) ∧ W'.cell? ⟨w.heap.size, 2, none⟩ = some (.int .i64 m.term) ∧ W'.cell? ⟨w.heap.size, 3, none⟩ = some (.int .i64 m.gen) ∧ W'.cell? ⟨w.heap.size, 4, none⟩ = some (.int .i64 m.job) ∧ W'.cell? ⟨w.heap.size, 5, none⟩ = some (.int .i64 m.inc) ∧ W'.cell? ⟨w.heap.size, 6, none⟩ = some (.int .i64 m.ver) ∧ W'.cell? ⟨w.heap.size, 7, none⟩ = some (.int .i64 m.epoch) ∧ W'.cell? ⟨w.heap.size, 8, none⟩ = some (.int .i64 m.til) ∧ W'.cell? ⟨w.heap.size, 9, none⟩ = some (.int .i64 m.mode) ∧ W'.cell? ⟨w.heap.size, 10, none⟩ = some (.int .i64 m.work)) _ := HBD.out.cells
    refine held_take (i := 0) (v := ?_) rfl (by kernel_rfl) (by kernel_rfl) (by kernel_rfl) (by rfl) (by first | assumption | exact True.intro) ?_ ?_
    rotate_left
    · (intro W hSw; (try dsimp only at hSw); (try obtain ⟨k0, k1, k2, k3, k4, k5, k6, k7, k8, k9, k10⟩ := hSw); go_simp; (try with_reducible rfl))
    try simp only [Act.put, List.setIfInBounds_toArray, List.set_cons_zero, List.set_cons_succ]
    refine held_take (i := 1) (v := ?_) rfl (by kernel_rfl) (by kernel_rfl) (by kernel_rfl) (by rfl) (by first | assumption | exact True.intro) ?_ ?_
    rotate_left
    · (intro W hSw; (try dsimp only at hSw); (try obtain ⟨k0, k1, k2, k3, k4, k5, k6, k7, k8, k9, k10⟩ := hSw); go_simp; (try with_reducible rfl))
    try simp only [Act.put, List.setIfInBounds_toArray, List.set_cons_zero, List.set_cons_succ]
    refine held_take (i := 2) (v := ?_) rfl (by kernel_rfl) (by kernel_rfl) (by kernel_rfl) (by rfl) (by first | assumption | exact True.intro) ?_ ?_
    rotate_left
    · (intro W hSw; (try dsimp only at hSw); (try obtain ⟨k0, k1, k2, k3, k4, k5, k6, k7, k8, k9, k10⟩ := hSw); go_simp; (try with_reducible rfl))
    try simp only [Act.put, List.setIfInBounds_toArray, List.set_cons_zero, List.set_cons_succ]
    refine held_take (i := 3) (v := ?_) rfl (by kernel_rfl) (by kernel_rfl) (by kernel_rfl) (by rfl) (by first | assumption | exact True.intro) ?_ ?_
    rotate_left
    · (intro W hSw; (try dsimp only at hSw); (try obtain ⟨k0, k1, k2, k3, k4, k5, k6, k7, k8, k9, k10⟩ := hSw); go_simp; (try with_reducible rfl))
    try simp only [Act.put, List.setIfInBounds_toArray, List.set_cons_zero, List.set_cons_succ]
    refine held_take (i := 5) (v := ?_) rfl (by kernel_rfl) (by kernel_rfl) (by kernel_rfl) (by rfl) (by first | assumption | exact True.intro) ?_ ?_
    rotate_left
    · (intro W hSw; (try dsimp only at hSw); (try obtain ⟨k0, k1, k2, k3, k4, k5, k6, k7, k8, k9, k10⟩ := hSw); go_simp; (try with_reducible rfl))
    try simp only [Act.put, List.setIfInBounds_toArray, List.set_cons_zero, List.set_cons_succ]
    refine held_two (i := 4) (j := 6) (by kernel_rfl) rfl rfl (fun K hK => ?_) (fun K hK => ?_)
    · go_simp
      refine hK _ _ ?_ (fun _ => ?_)
      · exact HBD.out.cells
      clear hK K
      try simp only [Act.put, List.setIfInBounds_toArray, List.set_cons_zero, List.set_cons_succ]
      refine held_op (i := 6) (by kernel_rfl) rfl (fun K hK => ?_)
      go_simp
      rw [← HWA.out]
      refine hK _ _ ?_ (fun _ => ?_)
      · exact (HBD.out.ext HXA.out).cells
      clear hK K
      try simp only [Act.put, List.setIfInBounds_toArray, List.set_cons_zero, List.set_cons_succ]
      rw [HWB.out]
      refine held_op (i := 7) (by kernel_rfl) rfl (fun K hK => ?_)
      refine step_pushW (F := fun k => F k ∧ k ≠ h) _ _ 60 rfl (by rfl) 49 (.agg #[.int .i64 0, .int .i64 0, .int .i64 0, .int .i64 0, .int .i64 0, .int .i64 0, .int .i64 0, .int .i64 0, .int .i64 0, .int .i64 0, .int .i64 0]) 11 88 Try.underlying60 (by kernel_rfl) (by simp [Value.cells]) (by omega) _ _ _ (show WayF (fun k => F k ∧ k ≠ h) w2.drew 49 11 (.slice AL n cL) n ((S.way.map (·.1)).flatMap msC) by have h1 := HID.out.rowL; unfold LsF at h1; rw [List.length_map, ← HN.out] at h1; exact h1) rfl _ rfl (by simp [Value.oneCell']) rfl rfl (by have := HN40.out; unfold maxLen; omega) (by have := HN40.out; omega) ?_
      intro v7 w7 hg7
      have HG7 : Hid (WayG (.slice AL n cL) w2.drew 49 11 (n + 1) ((S.way.map (·.1)).flatMap msC ++ msC m) v7 w7) := Lib.hid hg7
      clear hg7
      obtain ⟨A7, c7, rfl⟩ := own_slice HG7.out.own
      have HB7 : Hid (MsAt w7 w.heap.size m) := Lib.hid ⟨HBD.out.blk.grown HG7.out.grown (fun e => by have := HA.out.isIn _ (HID.out.rowL.inF _ e.symm).1; omega)⟩
      have HN7 := Lib.hid (HID.out.blk.grown HG7.out.grown (fun e => HID.out.offL e.symm))
      refine hK _ _ ?_ (fun _ => ?_)
      · exact HB7.out.cells
      clear hK K
      try simp only [Act.put, List.setIfInBounds_toArray, List.set_cons_zero, List.set_cons_succ]
      refine held_take (i := 8) (v := ?_) rfl (by kernel_rfl) (by kernel_rfl) (by kernel_rfl) (by rfl) (by first | assumption | exact True.intro) ?_ ?_
      rotate_left
      · (intro W hSw; (try dsimp only at hSw); (try obtain ⟨k0, k1, k2, k3, k4, k5, k6, k7, k8, k9, k10⟩ := hSw); go_simp; (try with_reducible rfl))
      try simp only [Act.put, List.setIfInBounds_toArray, List.set_cons_zero, List.set_cons_succ]
      refine held_take (i := 9) (v := ?_) rfl (by kernel_rfl) (by kernel_rfl) (by kernel_rfl) (by rfl) (by first | assumption | exact True.intro) ?_ ?_
      rotate_left
      · (intro W hSw; (try dsimp only at hSw); (try obtain ⟨k0, k1, k2, k3, k4, k5, k6, k7, k8, k9, k10⟩ := hSw); go_simp; (try with_reducible rfl))
      try simp only [Act.put, List.setIfInBounds_toArray, List.set_cons_zero, List.set_cons_succ]
      refine held_op (i := 10) (by kernel_rfl) rfl (fun K hK => ?_)
      have c07 := HN7.out.cell 0
      have f07 := HN7.out.frozen 0
      go_simp
      refine hK _ _ ?_ (fun _ => ?_)
      · exact (show MsAt _ _ _ from ⟨HB7.out.blk.far (by have := HA.out.lt; show w.heap.size ≠ h; omega) _⟩).cells
      clear hK K
      try simp only [Act.put, List.setIfInBounds_toArray, List.set_cons_zero, List.set_cons_succ]
      refine wpAnyH_done (by kernel_rfl) ?_ _
      refine NoPanic.normal ?_
      clear c0 c0b c07 f07
      obtain ⟨hi8, hc8⟩ := HID.out.putL (HF2.out.ext HDR.out) HHR.out (Ext.refl _) (by rw [List.length_map, ← HN.out]; exact HG7.out)
      obtain ⟨w8, hw8⟩ : ∃ W, W = w7.setCell ⟨h, 0, none⟩ (.slice A7 (n + 1) c7) := ⟨_, rfl⟩
      rw [← hw8] at hi8 hc8
      have HI8 := Lib.hid hi8
      have HC8 := Lib.hid hc8
      have H78 : Hid (w7.heap.size = w8.heap.size) := Lib.hid (by rw [hw8]; simp)
      (try rw [← hw8])
      clear hi8 hc8 hw8
      have c1 : w8.cell? ⟨h, 1, none⟩ = some (.slice AT n cT) := HI8.out.blk.cell 1
      have f1 := HI8.out.blk.frozen 1
      go_wp2_with (at_builtin; refine wpList_pushW (F := fun k => (F.since w2.drew w7) k ∧ k ≠ h) rfl _ _ 70 rfl 4 (.bool false) 1 1 Try.underlying70 (by kernel_rfl) (by simp [Value.cells]) (by omega) _ _ _ (show WayF (fun k => (F.since w2.drew w7) k ∧ k ≠ h) w8 4 1 (.slice AT n cT) n ((S.way.map tOf).map Value.bool) by have h1 := HI8.out.rowT; unfold BsF at h1; rw [List.length_map, ← HN.out] at h1; exact h1) rfl #[.bool false] rfl (by simp [Value.oneCell']) rfl rfl (by have := HN40.out; unfold maxLen; omega) (by have := HN40.out; omega) ?_; intro v9 w9 hg9; have HG9 := Lib.hid hg9; clear hg9 c1 f1; obtain ⟨A9, c9, rfl⟩ := own_slice HG9.out.own; have HN9 := Lib.hid (HI8.out.blk.grown HG9.out.grown (fun e => HI8.out.offT e.symm)); have c19 := HN9.out.cell 1; have f19 := HN9.out.frozen 1; have c29 := HN9.out.cell 2; have f29 := HN9.out.frozen 2)
      go_ret
      rw [show wrap64 ((S.sent : Int) + 1) = ((S.sent + 1 : Nat) : Int) by rw [IntWalk.wrap64_in _ (by have := HS.out; omega)]; rfl]
      exact ⟨by rw [HF.out]; rfl, by rw [HF.out]; exact RnAt.send_fin HA.out.isIn HHR.out (HX2.out.trans HDR.out) H78.out HG7.out.grown.size HI8.out HC8.out HN.out HG9.out⟩
    · have hwa := HWA.out
      go_simp
      rw [← hwa]
      clear hwa
      refine hK _ _ ?_ (fun _ => ?_)
      · exact (HBD.out.ext HXA.out).cells
      clear hK K
      try simp only [Act.put, List.setIfInBounds_toArray, List.set_cons_zero, List.set_cons_succ]
      refine held_op (i := 4) (by kernel_rfl) rfl (fun K hK => ?_)
      go_simp
      refine hK _ _ ?_ (fun _ => ?_)
      · exact (HBD.out.ext HXA.out).cells
      clear hK K
      try simp only [Act.put, List.setIfInBounds_toArray, List.set_cons_zero, List.set_cons_succ]
      rw [HWB.out]
      refine held_op (i := 7) (by kernel_rfl) rfl (fun K hK => ?_)
      refine step_pushW (F := fun k => F k ∧ k ≠ h) _ _ 60 rfl (by rfl) 49 (.agg #[.int .i64 0, .int .i64 0, .int .i64 0, .int .i64 0, .int .i64 0, .int .i64 0, .int .i64 0, .int .i64 0, .int .i64 0, .int .i64 0, .int .i64 0]) 11 88 Try.underlying60 (by kernel_rfl) (by simp [Value.cells]) (by omega) _ _ _ (show WayF (fun k => F k ∧ k ≠ h) w2.drew 49 11 (.slice AL n cL) n ((S.way.map (·.1)).flatMap msC) by have h1 := HID.out.rowL; unfold LsF at h1; rw [List.length_map, ← HN.out] at h1; exact h1) rfl _ rfl (by simp [Value.oneCell']) rfl rfl (by have := HN40.out; unfold maxLen; omega) (by have := HN40.out; omega) ?_
      intro v7 w7 hg7
      have HG7 : Hid (WayG (.slice AL n cL) w2.drew 49 11 (n + 1) ((S.way.map (·.1)).flatMap msC ++ msC m) v7 w7) := Lib.hid hg7
      clear hg7
      obtain ⟨A7, c7, rfl⟩ := own_slice HG7.out.own
      have HB7 : Hid (MsAt w7 w.heap.size m) := Lib.hid ⟨HBD.out.blk.grown HG7.out.grown (fun e => by have := HA.out.isIn _ (HID.out.rowL.inF _ e.symm).1; omega)⟩
      have HN7 := Lib.hid (HID.out.blk.grown HG7.out.grown (fun e => HID.out.offL e.symm))
      refine hK _ _ ?_ (fun _ => ?_)
      · exact HB7.out.cells
      clear hK K
      try simp only [Act.put, List.setIfInBounds_toArray, List.set_cons_zero, List.set_cons_succ]
      refine held_take (i := 8) (v := ?_) rfl (by kernel_rfl) (by kernel_rfl) (by kernel_rfl) (by rfl) (by first | assumption | exact True.intro) ?_ ?_
      rotate_left
      · (intro W hSw; (try dsimp only at hSw); (try obtain ⟨k0, k1, k2, k3, k4, k5, k6, k7, k8, k9, k10⟩ := hSw); go_simp; (try with_reducible rfl))
      try simp only [Act.put, List.setIfInBounds_toArray, List.set_cons_zero, List.set_cons_succ]
      refine held_take (i := 9) (v := ?_) rfl (by kernel_rfl) (by kernel_rfl) (by kernel_rfl) (by rfl) (by first | assumption | exact True.intro) ?_ ?_
      rotate_left
      · (intro W hSw; (try dsimp only at hSw); (try obtain ⟨k0, k1, k2, k3, k4, k5, k6, k7, k8, k9, k10⟩ := hSw); go_simp; (try with_reducible rfl))
      try simp only [Act.put, List.setIfInBounds_toArray, List.set_cons_zero, List.set_cons_succ]
      refine held_op (i := 10) (by kernel_rfl) rfl (fun K hK => ?_)
      have c07 := HN7.out.cell 0
      have f07 := HN7.out.frozen 0
      go_simp
      refine hK _ _ ?_ (fun _ => ?_)
      · exact (show MsAt _ _ _ from ⟨HB7.out.blk.far (by have := HA.out.lt; show w.heap.size ≠ h; omega) _⟩).cells
      clear hK K
      try simp only [Act.put, List.setIfInBounds_toArray, List.set_cons_zero, List.set_cons_succ]
      refine wpAnyH_done (by kernel_rfl) ?_ _
      refine NoPanic.normal ?_
      clear c0 c0b c07 f07
      obtain ⟨hi8, hc8⟩ := HID.out.putL (HF2.out.ext HDR.out) HHR.out (Ext.refl _) (by rw [List.length_map, ← HN.out]; exact HG7.out)
      obtain ⟨w8, hw8⟩ : ∃ W, W = w7.setCell ⟨h, 0, none⟩ (.slice A7 (n + 1) c7) := ⟨_, rfl⟩
      rw [← hw8] at hi8 hc8
      have HI8 := Lib.hid hi8
      have HC8 := Lib.hid hc8
      have H78 : Hid (w7.heap.size = w8.heap.size) := Lib.hid (by rw [hw8]; simp)
      (try rw [← hw8])
      clear hi8 hc8 hw8
      have c1 : w8.cell? ⟨h, 1, none⟩ = some (.slice AT n cT) := HI8.out.blk.cell 1
      have f1 := HI8.out.blk.frozen 1
      go_wp2_with (at_builtin; refine wpList_pushW (F := fun k => (F.since w2.drew w7) k ∧ k ≠ h) rfl _ _ 70 rfl 4 (.bool false) 1 1 Try.underlying70 (by kernel_rfl) (by simp [Value.cells]) (by omega) _ _ _ (show WayF (fun k => (F.since w2.drew w7) k ∧ k ≠ h) w8 4 1 (.slice AT n cT) n ((S.way.map tOf).map Value.bool) by have h1 := HI8.out.rowT; unfold BsF at h1; rw [List.length_map, ← HN.out] at h1; exact h1) rfl #[.bool false] rfl (by simp [Value.oneCell']) rfl rfl (by have := HN40.out; unfold maxLen; omega) (by have := HN40.out; omega) ?_; intro v9 w9 hg9; have HG9 := Lib.hid hg9; clear hg9 c1 f1; obtain ⟨A9, c9, rfl⟩ := own_slice HG9.out.own; have HN9 := Lib.hid (HI8.out.blk.grown HG9.out.grown (fun e => HI8.out.offT e.symm)); have c19 := HN9.out.cell 1; have f19 := HN9.out.frozen 1; have c29 := HN9.out.cell 2; have f29 := HN9.out.frozen 2)
      go_ret
      rw [show wrap64 ((S.sent : Int) + 1) = ((S.sent + 1 : Nat) : Int) by rw [IntWalk.wrap64_in _ (by have := HS.out; omega)]; rfl]
      exact ⟨by rw [HF.out]; rfl, by rw [HF.out]; exact RnAt.send_fin HA.out.isIn HHR.out (HX2.out.trans HDR.out) H78.out HG7.out.grown.size HI8.out HC8.out HN.out HG9.out⟩

end Go.Proofs.Ytdijinboopdheaa

/- The reference's net: Drop, Deliver. -/
namespace Go.Proofs.Ytdijinboopdheaa
open Go.RowKit

theorem ek_ne {α : Type} {l : List α} {q i : Nat} {x : α} (h : l[q]? = some x) (hne : q ≠ i) : (l.take (q + 1)).eraseIdx i = (l.take q).eraseIdx i ++ [x] := by
  have hl : q < l.length := (List.getElem?_eq_some_iff.1 h).1
  have e : l.take (q + 1) = l.take q ++ [x] := by rw [List.take_add_one, h]; rfl
  have hq : (l.take q).length = q := by rw [List.length_take]; omega
  rw [e]
  by_cases hi : i < q
  · rw [List.eraseIdx_append_of_lt_length (by omega)]
  · rw [List.eraseIdx_of_length_le (by rw [List.length_append, hq, List.length_singleton]; omega), List.eraseIdx_of_length_le (by omega)]
theorem ek_eq {α : Type} {l : List α} {q : Nat} {x : α} (h : l[q]? = some x) : (l.take (q + 1)).eraseIdx q = (l.take q).eraseIdx q := by
  have hl : q < l.length := (List.getElem?_eq_some_iff.1 h).1
  have e : l.take (q + 1) = l.take q ++ [x] := by rw [List.take_add_one, h]; rfl
  have hq : (l.take q).length = q := by rw [List.length_take]; omega
  rw [e, List.eraseIdx_append_of_length_le (by omega), List.eraseIdx_of_length_le (l := l.take q) (by omega), hq, Nat.sub_self]
  simp
theorem ek_at {α : Type} {l : List α} {q i : Nat} {x : α} (h : l[q]? = some x) (e : q = i) : (l.take (q + 1)).eraseIdx i = (l.take q).eraseIdx i := by
  rw [← e]
  exact ek_eq h
theorem ek_len {α : Type} {l : List α} {q i : Nat} : ((l.take q).eraseIdx i).length ≤ q := by
  have := List.length_eraseIdx_le (l.take q) i
  have h2 := List.length_take (i := q) (l := l)
  omega
theorem ek_map {α β : Type} (f : α → β) : ∀ (l : List α) (k : Nat), (l.eraseIdx k).map f = (l.map f).eraseIdx k
  | [], _ => rfl
  | _ :: _, 0 => rfl
  | x :: l, k + 1 => by simp [ek_map f l k]
/-- The two lists that are made anew. -/
structure DropR (w1 w : World) (v5 v6 : Value) (L : List Ms) (T : List Bool) : Prop where
  l : LsF (fun q => w1.heap.size ≤ q) w v5 L
  t : BsF (fun q => w1.heap.size ≤ q) w v6 T
  apart : ∀ k, v5.ownBlock = some k → v6.ownBlock ≠ some k
  ext : Ext w1 w
section
variable {w1 w w' : World} {v5 v6 v' : Value} {L : List Ms} {T : List Bool}
theorem DropR.more (h : DropR w1 w v5 v6 L T) (hx : Ext w w') : DropR w1 w' v5 v6 L T := ⟨h.l.ext hx, h.t.ext hx, h.apart, h.ext.trans hx⟩
theorem DropR.pushL {m : Ms} (h : DropR w1 w v5 v6 L T) (hg : WayG v5 w 49 11 (L.length + 1) (L.flatMap msC ++ msC m) v' w') : DropR w1 w' v' v6 (L ++ [m]) T := by
  obtain ⟨p1, p2⟩ := h.l.pushO hg
  have ht := WayF.lt h.t
  refine ⟨p1.mono (fun k hk => ?_), h.t.chg p2 (fun q hq hq2 => h.apart q hq2 hq), fun k hk e => ?_, p2.ext h.ext (fun k hk => h.l.inF k hk)⟩
  · rcases hk with hk | hk
    · exact hk
    · exact Nat.le_trans h.ext.size hk.1
  · rcases hg.here with e2 | e2
    · exact h.apart k (by rw [← e2]; exact hk) e
    · have := e2 k hk; have := ht k e; omega
theorem DropR.pushT {x : Bool} (h : DropR w1 w v5 v6 L T) (hg : WayG v6 w 4 1 (T.length + 1) (T.map Value.bool ++ [.bool x]) v' w') : DropR w1 w' v5 v' L (T ++ [x]) := by
  obtain ⟨p1, p2⟩ := h.t.push hg
  have hl := WayF.lt h.l
  refine ⟨h.l.chgO p2 (fun q hq hq2 => h.apart q hq hq2), p1.mono (fun k hk => ?_), fun k hk e => ?_, p2.ext h.ext (fun k hk => h.t.inF k hk)⟩
  · rcases hk with hk | hk
    · exact hk
    · exact Nat.le_trans h.ext.size hk.1
  · rcases hg.here with e2 | e2
    · exact h.apart k hk (by rw [← e2]; exact e)
    · have := e2 k e; have := hl k hk; omega
end
/-- A net, and another block that was turned, behind it. -/
theorem RnAt.both {F : Fp} {w0 w1 w2 w3 w5 : World} {h r : Nat} {S : NtP} (hF : F.isIn w0) (hx : Ext w0 w1) (hr_ : RnAt (F.since w1 w2) w2 h S) (hc : Chg F w1 w2) (hh : F h) (hx2 : Ext w2 w3) (hr : w0.heap.size ≤ r) (hr1 : r < w1.heap.size) (hc5 : Chg (fun k => k = r) w3 w5) :
    RnAt (F.since w0 w5) w5 h S ∧ Chg F w0 w5 := by
  have s1 := hx.size
  have s2 := hc.size
  have s3 := hx2.size
  have s5 := hc5.size
  obtain ⟨vL, vT, hi⟩ := ((hr_.ext hx2).chg hc5 (fun k hk e => by
    have e : k = r := e
    rcases hk with hk | hk
    · have := hF k hk; omega
    · omega)).out
  refine ⟨⟨⟨vL, vT, hi.mono (fun k hk => ?_)⟩, hF.since (by omega), .inl hh⟩, (((Chg.of_ext (F := F) hx).trans hc (fun _ _ h => h)).trans (Chg.of_ext (F := fun _ => False) hx2) (fun _ _ h => h.elim)).trans hc5 (fun k hk e => by have e : k = r := e; omega)⟩
  rcases hk with hk | hk
  · exact .inl hk
  · exact .inr ⟨by omega, by omega⟩

theorem RnAt.drop_fin {F : Fp} {w0 w1 wr : World} {h k : Nat} {S : NtP} {v5 v6 : Value} (hF : F.isIn w0) (hh : F h) (hx : Ext w0 w1) (h8 : RnX (F.since w1 wr) ((wr.setCell ⟨h, 0, none⟩ v5).setCell ⟨h, 1, none⟩ v6) h ((S.way.map (·.1)).eraseIdx k) ((S.way.map tOf).eraseIdx k) S.sent v5 v6) (hc8 : Chg F w1 ((wr.setCell ⟨h, 0, none⟩ v5).setCell ⟨h, 1, none⟩ v6)) :
    RnAt (F.since w0 ((wr.setCell ⟨h, 0, none⟩ v5).setCell ⟨h, 1, none⟩ v6)) ((wr.setCell ⟨h, 0, none⟩ v5).setCell ⟨h, 1, none⟩ v6) h ⟨S.way.eraseIdx k, S.sent⟩ ∧ Chg F w0 ((wr.setCell ⟨h, 0, none⟩ v5).setCell ⟨h, 1, none⟩ v6) := by
  refine RnAt.fin (w4 := wr) (vL := v5) (vT := v6) hF hh hx (by simp) (S6 := ⟨S.way.eraseIdx k, S.sent⟩) ?_ hc8
  simp only [ek_map]
  exact h8

set_option maxRecDepth 100000 in
set_option maxHeartbeats 4000000 in
theorem RnDrop_any (F : Fp) (h : Nat) (S : NtP) (i : Int) (w : World) (r : RnAt F w h S) (hm40 : S.way.length ≤ 1000000) : Calls Try.prog 45 #[.pointer (some ⟨h, 0, none⟩), .int .i64 i] w fun e w' => e = .returned (.bool (dropN S i).1) ∧ RnAt (F.since w w') w' h (dropN S i).2 ∧ Chg F w w' := by
  have HHN := Lib.hid (RnHas_any F h S i w r)
  have HA := Lib.hid r
  have HM40 := Lib.hid hm40
  clear r hm40
  go_enter Try.func45, Try.ntmps45
  cases hr : hasN S i with
  | false =>
    rw [hr] at HHN
    have HF : Hid (dropN S i = (false, S)) := Lib.hid (by unfold dropN; rw [if_neg (by rw [hr]; simp)])
    clear hr
    go_wp2_with fail
    refine HHN.out.mono ?_
    rintro e1 w1 ⟨rfl, hx1⟩
    have HX := Lib.hid hx1
    clear hx1 HHN
    go_wp2
    go_ret
    exact ⟨by rw [HF.out]; rfl, by rw [HF.out]; exact HA.out.grow HX.out⟩
  | true =>
    rw [hr] at HHN
    have HF : Hid (dropN S i = (true, ⟨S.way.eraseIdx i.toNat, S.sent⟩)) := Lib.hid (by unfold dropN; rw [if_pos hr])
    have HIX := Lib.hid (hasN_iff.1 hr)
    clear hr
    go_wp2_with fail
    refine HHN.out.mono ?_
    rintro e1 w1 ⟨rfl, hx1⟩
    have HX := Lib.hid hx1
    clear hx1 HHN
    obtain ⟨k, rfl⟩ : ∃ k : Nat, i = k := ⟨i.toNat, by have := HIX.out; omega⟩
    obtain ⟨vL, vT, hi⟩ := (HA.out.ext HX.out).out
    obtain ⟨AL, cL, rfl, -, -, -⟩ := hi.rowL.slice_
    obtain ⟨AT, cT, rfl, -, -, -⟩ := hi.rowT.slice_
    rw [List.length_map] at hi
    have HIN := Lib.hid hi
    have HFI := Lib.hid (HA.out.isIn.ext HX.out)
    have HHR := Lib.hid HA.out.here
    clear hi
    rw [List.length_map] at HIN
    obtain ⟨n, hn⟩ : ∃ n, n = S.way.length := ⟨_, rfl⟩
    rw [← hn] at HIN
    have HN := Lib.hid hn
    clear hn
    rw [Int.toNat_natCast] at HF
    have HR0 : Hid (DropR w1 w1 (.slice none 0 0) (.slice none 0 0) (((S.way.map (·.1)).take 0).eraseIdx k) (((S.way.map tOf).take 0).eraseIdx k)) := Lib.hid ⟨LsF.nil _ _, BsF.nil _ _, fun _ h => (by cases h), Ext.refl _⟩
    have c0 : w1.cell? ⟨h, 0, none⟩ = some (.slice AL n cL) := HIN.out.blk.cell 0
    go_wp2_with fail
    clear c0
    go_loopg [5, 6, 7] n (fun gg v5 v6 i wr => ∃ q : Nat, i = .int .i64 q ∧ q ≤ n ∧ gg = n - q ∧ Hid (DropR w1 wr v5 v6 (((S.way.map (·.1)).take q).eraseIdx k) (((S.way.map tOf).take q).eraseIdx k)))
    case atStart => exact ⟨0, rfl, Nat.zero_le _, rfl, HR0⟩
    case round =>
      obtain ⟨q, rfl, hq, rfl, HK⟩ := hrel
      clear HR0
      have HIW := Lib.hid (HIN.out.chg (Chg.of_ext (F := fun _ => False) HK.out.ext) (fun _ _ h => h) HHR.out)
      have c0 : wr.cell? ⟨h, 0, none⟩ = some (.slice AL n cL) := HIW.out.blk.cell 0
      have c1 : wr.cell? ⟨h, 1, none⟩ = some (.slice AT n cT) := HIW.out.blk.cell 1
      by_cases hlt : q < n
      · have e1 : decide ((q : Int) < (n : Int)) = true := decide_eq_true (by omega)
        have e1' : decide (q < n) = true := decide_eq_true hlt
        have HLT := Lib.hid hlt
        have hwq : wrap64 ((q : Int) + 1) = (q : Int) + 1 := IntWalk.wrap64_in _ (by have := HLT.out; have := HM40.out; have := HN.out; omega)
        obtain ⟨p, hp⟩ : ∃ p, S.way[q]? = some p := ⟨_, List.getElem?_eq_getElem (by rw [← HN.out]; exact hlt)⟩
        have hm : (S.way.map (·.1))[q]? = some p.1 := by rw [List.getElem?_map, hp]; rfl
        have ht : (S.way.map tOf)[q]? = some (tOf p) := by rw [List.getElem?_map, hp]; rfl
        by_cases hqk : q = k
        · have dq : ((q : Int) != (k : Int)) = false := by rw [hqk]; simp
          have HK2 : Hid (DropR w1 wr _ _ (((S.way.map (·.1)).take (q + 1)).eraseIdx k) (((S.way.map tOf).take (q + 1)).eraseIdx k)) := Lib.hid (by rw [ek_at hm hqk, ek_at ht hqk]; exact HK.out)
          clear hqk hlt hp hm ht
          go_wp2_with fail
          go_roundg (n - (q + 1))
          case measure => have := HLT.out; omega
          case rel => exact ⟨q + 1, by go_num, HLT.out, rfl, HK2⟩
        · have dq : ((q : Int) != (k : Int)) = true := by simp only [bne_iff_ne, ne_eq]; omega
          have HL2 := Lib.hid (ek_ne hm hqk)
          have HT2 := Lib.hid (ek_ne ht hqk)
          obtain ⟨m, hmm⟩ : ∃ m, m = p.1 := ⟨_, rfl⟩
          obtain ⟨t, htt⟩ : ∃ t, t = tOf p := ⟨_, rfl⟩
          rw [← hmm] at hm HL2
          rw [← htt] at ht HT2
          obtain ⟨bL, rfl, -, -, hcl⟩ := HIW.out.rowL.at_ hm
          obtain ⟨bT, rfl, hbT, htc, -⟩ := HIN.out.rowT.at_ ht
          have m0 := hcl 0 m.node rfl
          have m1 := hcl 1 m.kind rfl
          have m2 := hcl 2 m.term rfl
          have m3 := hcl 3 m.gen rfl
          have m4 := hcl 4 m.job rfl
          have m5 := hcl 5 m.inc rfl
          have m6 := hcl 6 m.ver rfl
          have m7 := hcl 7 m.epoch rfl
          have m8 := hcl 8 m.til rfl
          have m9 := hcl 9 m.mode rfl
          have m10 := hcl 10 m.work rfl
          rw [Nat.add_zero] at m0
          have x1 : (0 : Int) ≤ (q : Int) ∧ (q : Int) < (n : Int) := by have := HLT.out; omega
          have HBT := Lib.hid (show ∀ W, Ext w1 W → W.cell? ⟨bT, q, none⟩ = some (.bool t) from fun W hx => (hx.cell (p := ⟨bT, q, none⟩) hbT).trans htc)
          obtain ⟨L5, hL5⟩ : ∃ L, L = ((S.way.map (·.1)).take q).eraseIdx k := ⟨_, rfl⟩
          obtain ⟨T5, hT5⟩ : ∃ L, L = ((S.way.map tOf).take q).eraseIdx k := ⟨_, rfl⟩
          have HLN : Hid (L5.length ≤ q ∧ T5.length ≤ q) := Lib.hid (by rw [hL5, hT5]; exact ⟨ek_len, ek_len⟩)
          rw [← hL5] at HK HL2
          rw [← hT5] at HK HT2
          clear hcl hlt hqk hp hm ht hmm htt hL5 hT5 hbT htc
          obtain ⟨A5, c5, rfl, -, -, -⟩ := HK.out.l.slice_
          obtain ⟨A6, c6, rfl, -, -, -⟩ := HK.out.t.slice_
          have hl41 : L5.length + 1 ≤ 1000001 := by have := HLN.out; have := HLT.out; have := HM40.out; have := HN.out; omega
          have ht41 : T5.length + 1 ≤ 1000001 := by have := HLN.out; have := HLT.out; have := HM40.out; have := HN.out; omega
          go_upto_region 10 with (at_builtin; refine wpList_pushW (F := fun q => w1.heap.size ≤ q) rfl _ _ 60 rfl 49 (.agg #[.int .i64 0, .int .i64 0, .int .i64 0, .int .i64 0, .int .i64 0, .int .i64 0, .int .i64 0, .int .i64 0, .int .i64 0, .int .i64 0, .int .i64 0]) 11 88 Try.underlying60 (by kernel_rfl) (by simp [Value.cells]) (by omega) _ _ _ HK.out.l rfl #[.int .i64 m.node, .int .i64 m.kind, .int .i64 m.term, .int .i64 m.gen, .int .i64 m.job, .int .i64 m.inc, .int .i64 m.ver, .int .i64 m.epoch, .int .i64 m.til, .int .i64 m.mode, .int .i64 m.work] rfl (by simp [Value.oneCell']) rfl rfl (by unfold maxLen; omega) (by omega) ?_; intro v6 w6 hg6)
          have HK6 := Lib.hid (HK.out.pushL (m := m) hg6)
          have HIW6 := Lib.hid (HIN.out.chg (Chg.of_ext (F := fun _ => False) HK6.out.ext) (fun _ _ h => h) HHR.out)
          clear hg6 c0 c1 m0 m1 m2 m3 m4 m5 m6 m7 m8 m9 m10
          have c1 : w6.cell? ⟨h, 1, none⟩ = some (.slice (some ⟨bT, 0, none⟩) n cT) := HIW6.out.blk.cell 1
          have t0 := HBT.out w6 HK6.out.ext
          go_wp2_with (at_builtin; refine wpList_pushW (F := fun q => w1.heap.size ≤ q) rfl _ _ 70 rfl 4 (.bool false) 1 1 Try.underlying70 (by kernel_rfl) (by simp [Value.cells]) (by omega) _ _ _ HK6.out.t rfl #[.bool t] rfl (by simp [Value.oneCell']) rfl rfl (by unfold maxLen; omega) (by omega) ?_; intro v7 w7 hg7)
          have HK7 : Hid (DropR w1 w7 v6 v7 (((S.way.map (·.1)).take (q + 1)).eraseIdx k) (((S.way.map tOf).take (q + 1)).eraseIdx k)) := Lib.hid (by rw [HL2.out, HT2.out]; exact HK6.out.pushT (x := t) hg7)
          clear hg7
          go_roundg (n - (q + 1))
          case measure => have := HLT.out; omega
          case rel => exact ⟨q + 1, by go_num, HLT.out, rfl, HK7⟩
      · obtain rfl : q = n := by omega
        have e1 : decide ((q : Int) < (q : Int)) = false := decide_eq_false (by omega)
        have e1' : decide (q < q) = false := decide_eq_false (by omega)
        have HK2 : Hid (DropR w1 wr _ _ ((S.way.map (·.1)).eraseIdx k) ((S.way.map tOf).eraseIdx k)) := Lib.hid (by have h1 := HK.out; rw [List.take_of_length_le (by rw [List.length_map, HN.out]; exact Nat.le_refl _), List.take_of_length_le (by rw [List.length_map, HN.out]; exact Nat.le_refl _)] at h1; exact h1)
        obtain ⟨A5, c5, rfl, -, -, -⟩ := HK2.out.l.slice_
        obtain ⟨A6, c6, rfl, -, -, -⟩ := HK2.out.t.slice_
        have H8 := Lib.hid (HIN.out.both HFI.out HHR.out HK2.out.ext HK2.out.l HK2.out.t HK2.out.apart)
        have f0 := HIW.out.blk.frozen 0
        have f1 := HIW.out.blk.frozen 1
        clear hlt hq HK
        go_wp2
        go_ret
        exact ⟨by rw [HF.out]; rfl, by rw [HF.out]; exact RnAt.drop_fin HA.out.isIn HHR.out HX.out H8.out.1 H8.out.2⟩

end Go.Proofs.Ytdijinboopdheaa
