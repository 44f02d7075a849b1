/- Texts that the proof of K rests on, one behind the other. -/
import Derived.Test.YtkkmldoohokdfaaKQ10
import Derived.Test.YtkkmldoohokdfaaRows
import Derived.Deep.LoopGhost
import Derived.Deep.CutBlock
import Derived.Deep.DeepCutAuto
import Derived.BigQuiet

/- The reference's store: Find, Epoch, Get, Bytes, Fence, New. -/
namespace Go.Proofs.Ytkkmldoohokdfaa
open Go.RowKit

theorem PtsRd.len {N : Fp} {w : World} {v : Value} {lp : List PtL} (hp : PtsRd N w v lp) : ∃ A c, v = .slice A lp.length c := by
  obtain ⟨A, c, e, _⟩ := hp.row
  exact ⟨A, c, e⟩

/-- Where the first point is that is so; -1: nowhere. -/
def findR (L : List PtP) (q : PtP → Bool) : Int := match L.findIdx? q with | some i => (i : Int) | none => -1
theorem findR_at {L : List PtP} {q : PtP → Bool} {k : Nat} {x : PtP} (hx : L[k]? = some x) (hq : q x = true) (hn : ∀ j y, j < k → L[j]? = some y → q y = false) : findR L q = (k : Int) ∧ L.find? q = some x := by
  obtain ⟨hk, rfl⟩ := List.getElem?_eq_some_iff.1 hx
  have h1 : L.findIdx? q = some k := by
    rw [List.findIdx?_eq_some_iff_getElem]
    exact ⟨hk, hq, fun j hj => by rw [hn j _ hj (List.getElem?_eq_getElem (by omega))]; decide⟩
  refine ⟨by unfold findR; rw [h1], ?_⟩
  rw [List.find?_eq_some_iff_getElem]
  exact ⟨hq, k, hk, rfl, fun j hj => by rw [hn j _ hj (List.getElem?_eq_getElem (by omega))]; rfl⟩
theorem findR_none {L : List PtP} {q : PtP → Bool} (hn : ∀ j y, j < L.length → L[j]? = some y → q y = false) : findR L q = -1 ∧ L.find? q = none := by
  have h0 : ∀ y ∈ L, q y = false := fun y hy => by
    obtain ⟨j, hj, rfl⟩ := List.mem_iff_getElem.1 hy
    exact hn j _ hj (List.getElem?_eq_getElem hj)
  constructor
  · unfold findR
    rw [List.findIdx?_eq_none_iff.2 h0]
  · rw [List.find?_eq_none]
    intro y hy
    rw [h0 y hy]; decide

set_option maxRecDepth 100000 in
theorem RFind_any (N : Fp) (h : Nat) (R : RsP) (job : Int) (cnt : Bool) (w : World) (hr : RsAt N w h R) (hl : R.L.length ≤ 1000) :
    Calls Try.prog 54 #[.pointer (some ⟨h, 0, none⟩), .int .i64 job, .bool cnt] w fun e w' => e = .returned (.int .i64 (findR R.L (hitP job cnt))) ∧ w = w' := by
  obtain ⟨lp, v, h1, hb, hp⟩ := hr.out
  obtain ⟨A, c, rfl⟩ := hp.len
  have c2 : w.cell? ⟨h, 2, none⟩ = some (.slice A lp.length c) := hb.cell 2
  have HP := Lib.hid hp
  have hn : lp.length = R.L.length := by rw [← h1, List.length_map]
  have HL : Hid (lp.length ≤ 1000) := Lib.hid (by omega)
  obtain ⟨L, hL⟩ : ∃ L, L = R.L := ⟨_, rfl⟩
  rw [← hL] at h1 hn ⊢
  have H1 := Lib.hid h1
  have HLN := Lib.hid hn
  clear hr hb hp hn h1 hl hL
  have hlm := HL.out
  go_enter Try.func54, Try.ntmps54
  go_wp2
  go_loopw [7] (fun i wr => wr = w ∧ ∃ k : Nat, i = .int .i64 k ∧ k ≤ lp.length ∧ Hid (∀ j x, j < k → L[j]? = some x → hitP job cnt x = false)) (fun i _ => lp.length - (intOf i).toNat)
  case atStart => exact ⟨rfl, 0, rfl, Nat.zero_le _, Lib.hid (fun j x hj => absurd hj (by omega))⟩
  case round =>
    obtain ⟨rfl, k, rfl, hk, HK⟩ := hrel
    by_cases hlt : k < lp.length
    · have e1 : decide ((k : Int) < (lp.length : Int)) = true := decide_eq_true (by omega)
      have e1' : decide (k < lp.length) = true := decide_eq_true hlt
      obtain ⟨b, o, rfl, hb1, -, hat⟩ := HP.out.get (by omega)
      obtain ⟨x, hx⟩ : ∃ x, lp[k]? = some x := ⟨_, List.getElem?_eq_getElem hlt⟩
      obtain ⟨a0, a1, a2, a3⟩ := hat k x hx
      have HXL : Hid (L[k]? = some x.p) := Lib.hid (by rw [← H1.out, List.getElem?_map, hx]; rfl)
      have HLT := Lib.hid hlt
      clear hat hx hlt hb1
      have HN : Hid (hitP job cnt x.p = false → ∀ j y, j < k + 1 → L[j]? = some y → hitP job cnt y = false) := Lib.hid (fun h0 j y hj hy => by
        by_cases hjk : j = k
        · rw [hjk, HXL.out] at hy; cases hy; exact h0
        · exact HK.out j y (by omega) hy)
      by_cases hj : x.p.job = job
      · have g1 : (x.p.job == job) = true := by rw [hj]; simp
        cases hc : (x.p.cnt == cnt) with
        | true =>
          have HE := Lib.hid (findR_at HXL.out (q := hitP job cnt) (by unfold hitP; rw [hc, decide_eq_true hj]; rfl) HK.out)
          clear hj
          go_wp2
          go_ret
          exact ⟨by rw [HE.out.1]; rfl, rfl⟩
        | false =>
          have HM := Lib.hid (HN.out (by unfold hitP; rw [hc]; simp))
          clear hj
          go_wp2
          go_roundw
          case rel => first | exact ⟨rfl, k + 1, by go_num, HLT.out, HM⟩ | exact ⟨trivial, k + 1, by go_num, HLT.out, HM⟩
          case measure => simp [intOf]; have := HLT.out; omega
      · have g1 : (x.p.job == job) = false := by simpa using hj
        have HM := Lib.hid (HN.out (by unfold hitP; rw [decide_eq_false hj]; rfl))
        clear hj
        go_wp2
        go_roundw
        case rel => first | exact ⟨rfl, k + 1, by go_num, HLT.out, HM⟩ | exact ⟨trivial, k + 1, by go_num, HLT.out, HM⟩
        case measure => simp [intOf]; have := HLT.out; omega
    · obtain rfl : k = lp.length := by omega
      have e1 : decide ((lp.length : Int) < (lp.length : Int)) = false := decide_eq_false (by omega)
      have e1' : decide (lp.length < lp.length) = false := decide_eq_false (by omega)
      have HE := Lib.hid (findR_none (L := L) (q := hitP job cnt) (fun j y hj hy => HK.out j y (by rw [HLN.out]; exact hj) hy))
      clear hlt hk
      go_wp2
      go_ret
      exact ⟨by rw [HE.out.1]; rfl, rfl⟩

set_option maxRecDepth 100000 in
theorem REpoch_any (N : Fp) (h : Nat) (R : RsP) (job : Int) (cnt : Bool) (w : World) (hr : RsAt N w h R) (hl : R.L.length ≤ 1000) :
    Calls Try.prog 24 #[.pointer (some ⟨h, 0, none⟩), .int .i64 job, .bool cnt] w fun e w' => e = .returned (.int .i64 (epochR R job cnt)) ∧ w = w' := by
  have HF := Lib.hid (RFind_any N h R job cnt w hr hl)
  obtain ⟨lp, v, h1, hb, hp⟩ := hr.out
  obtain ⟨A, c, rfl⟩ := hp.len
  have c2 : w.cell? ⟨h, 2, none⟩ = some (.slice A lp.length c) := hb.cell 2
  have HP := Lib.hid hp
  have H1 := Lib.hid h1
  clear hr hb hp h1 hl
  cases hf : R.L.findIdx? (hitP job cnt) with
  | none =>
    have HE : Hid (epochR R job cnt = 0) := Lib.hid (by unfold epochR; rw [List.find?_eq_none.2 (fun y hy => by rw [List.findIdx?_eq_none_iff.1 hf y hy]; decide)])
    have h2 : findR R.L (hitP job cnt) = -1 := by unfold findR; rw [hf]
    rw [h2] at HF
    clear hf h2
    go_enter Try.func24, Try.ntmps24
    go_wp2_with fail
    refine HF.out.mono ?_
    rintro e1 w1 ⟨rfl, rfl⟩
    go_wp2
    go_ret
    exact ⟨by rw [HE.out]; rfl, rfl⟩
  | some k =>
    obtain ⟨hk, hq, hn⟩ := List.findIdx?_eq_some_iff_getElem.1 hf
    have hfd := findR_at (L := R.L) (k := k) (List.getElem?_eq_getElem hk) hq (fun j y hj hy => by have := hn j hj; obtain ⟨_, rfl⟩ := List.getElem?_eq_some_iff.1 hy; simpa using this)
    rw [hfd.1] at HF
    have hkl : k < lp.length := by have := H1.out; rw [← this, List.length_map] at hk; exact hk
    obtain ⟨b, o, rfl, hb1, -, hat⟩ := HP.out.get (by omega)
    obtain ⟨x, hx⟩ : ∃ x, lp[k]? = some x := ⟨_, List.getElem?_eq_getElem hkl⟩
    obtain ⟨a0, a1, a2, a3⟩ := hat k x hx
    have HE : Hid (epochR R job cnt = x.p.ep) := Lib.hid (by
      have h3 : R.L[k]? = some x.p := by rw [← H1.out, List.getElem?_map, hx]; rfl
      unfold epochR; rw [hfd.2]
      have h4 := (List.getElem?_eq_getElem hk).symm.trans h3
      rw [Option.some.inj h4])
    have x1 : (0 : Int) ≤ (k : Int) ∧ (k : Int) < (lp.length : Int) := by omega
    have d1 : decide ((k : Int) < 0) = false := decide_eq_false (by omega)
    clear hf hk hq hn hfd hat hx hb1 hkl
    go_enter Try.func24, Try.ntmps24
    go_wp2_with fail
    refine HF.out.mono ?_
    rintro e1 w1 ⟨rfl, rfl⟩
    go_wp2
    go_ret
    exact ⟨by rw [HE.out]; rfl, rfl⟩

set_option maxRecDepth 100000 in
theorem RGet_any (N : Fp) (h : Nat) (R : RsP) (job ep : Int) (w : World) (hr : RsAt N w h R) (hl : R.L.length ≤ 1000) :
    Calls Try.prog 22 #[.pointer (some ⟨h, 0, none⟩), .int .i64 job, .int .i64 ep] w fun e w' =>
      ∃ v, e = .returned (.tuple #[v, .bool (getR R job ep).2]) ∧ RdF (fun k => ¬ N k) w v ((getR R job ep).1.map B) ∧ w = w' := by
  obtain ⟨lp, v, h1, hb, hp⟩ := hr.out
  obtain ⟨A, c, rfl⟩ := hp.len
  have c2 : w.cell? ⟨h, 2, none⟩ = some (.slice A lp.length c) := hb.cell 2
  have HP := Lib.hid hp
  have hn : lp.length = R.L.length := by rw [← h1, List.length_map]
  have HL : Hid (lp.length ≤ 1000) := Lib.hid (by omega)
  obtain ⟨q, hq⟩ : ∃ q : PtP → Bool, q = fun p => decide (p.job = job) && decide (p.ep = ep) := ⟨_, rfl⟩
  have HG : Hid (getR R job ep = match R.L.find? q with | some p => (p.da, true) | none => ([], false)) := Lib.hid (by rw [hq]; rfl)
  have HQ : Hid (∀ p, q p = (decide (p.job = job) && decide (p.ep = ep))) := Lib.hid (fun p => by rw [hq])
  obtain ⟨L, hL⟩ : ∃ L, L = R.L := ⟨_, rfl⟩
  rw [← hL] at h1 hn HG
  have H1 := Lib.hid h1
  have HLN := Lib.hid hn
  clear hr hb hp hn h1 hl hL hq
  have hlm := HL.out
  go_enter Try.func22, Try.ntmps22
  go_wp2
  go_loopw [8] (fun i wr => wr = w ∧ ∃ k : Nat, i = .int .i64 k ∧ k ≤ lp.length ∧ Hid (∀ j x, j < k → L[j]? = some x → q x = false)) (fun i _ => lp.length - (intOf i).toNat)
  case atStart => exact ⟨rfl, 0, rfl, Nat.zero_le _, Lib.hid (fun j x hj => absurd hj (by omega))⟩
  case round =>
    obtain ⟨rfl, k, rfl, hk, HK⟩ := hrel
    by_cases hlt : k < lp.length
    · have e1 : decide ((k : Int) < (lp.length : Int)) = true := decide_eq_true (by omega)
      have e1' : decide (k < lp.length) = true := decide_eq_true hlt
      obtain ⟨b, o, rfl, hb1, -, hat⟩ := HP.out.get (by omega)
      obtain ⟨x, hx⟩ : ∃ x, lp[k]? = some x := ⟨_, List.getElem?_eq_getElem hlt⟩
      obtain ⟨a0, a1, a2, a3⟩ := hat k x hx
      have HXL : Hid (L[k]? = some x.p) := Lib.hid (by rw [← H1.out, List.getElem?_map, hx]; rfl)
      have HXD := Lib.hid (HP.out.dat x (List.mem_of_getElem? hx))
      have HLT := Lib.hid hlt
      clear hat hx hlt hb1
      have HN : Hid (q x.p = false → ∀ j y, j < k + 1 → L[j]? = some y → q y = false) := Lib.hid (fun h0 j y hj hy => by
        by_cases hjk : j = k
        · rw [hjk, HXL.out] at hy; cases hy; exact h0
        · exact HK.out j y (by omega) hy)
      by_cases hj : x.p.job = job
      · have g1 : (x.p.job == job) = true := by rw [hj]; simp
        by_cases hc : x.p.ep = ep
        · have g2 : (x.p.ep == ep) = true := by rw [hc]; simp
          have HE := Lib.hid (findR_at HXL.out (q := q) (by rw [HQ.out, decide_eq_true hj, decide_eq_true hc]; rfl) HK.out)
          have HGE : Hid (getR R job ep = (x.p.da, true)) := Lib.hid (by rw [HG.out, HE.out.2])
          clear hj hc
          go_wp2
          go_ret2
          exact ⟨_, by rw [HGE.out]; rfl, by rw [HGE.out]; exact HXD.out, rfl⟩
        · have g2 : (x.p.ep == ep) = false := by simpa using hc
          have HM := Lib.hid (HN.out (by rw [HQ.out, decide_eq_false hc, Bool.and_false]))
          clear hj hc
          go_wp2
          go_roundw
          case rel => first | exact ⟨rfl, k + 1, by go_num, HLT.out, HM⟩ | exact ⟨trivial, k + 1, by go_num, HLT.out, HM⟩
          case measure => simp [intOf]; have := HLT.out; omega
      · have g1 : (x.p.job == job) = false := by simpa using hj
        have HM := Lib.hid (HN.out (by rw [HQ.out, decide_eq_false hj, Bool.false_and]))
        clear hj
        go_wp2
        go_roundw
        case rel => first | exact ⟨rfl, k + 1, by go_num, HLT.out, HM⟩ | exact ⟨trivial, k + 1, by go_num, HLT.out, HM⟩
        case measure => simp [intOf]; have := HLT.out; omega
    · obtain rfl : k = lp.length := by omega
      have e1 : decide ((lp.length : Int) < (lp.length : Int)) = false := decide_eq_false (by omega)
      have e1' : decide (lp.length < lp.length) = false := decide_eq_false (by omega)
      have HE := Lib.hid (findR_none (L := L) (q := q) (fun j y hj hy => HK.out j y (by rw [HLN.out]; exact hj) hy))
      have HGE : Hid (getR R job ep = ([], false)) := Lib.hid (by rw [HG.out, HE.out.2])
      clear hlt hk
      go_wp2
      go_ret2
      exact ⟨_, by rw [HGE.out]; rfl, by rw [HGE.out]; exact ⟨none, 0, rfl, Nat.le_refl _, Nat.zero_le _, fun hh => absurd hh (by decide)⟩, rfl⟩

theorem bytesP_take (l : List PtP) (k : Nat) (x : PtP) (hx : l[k]? = some x) : bytesP (l.take (k + 1)) = bytesP (l.take k) + x.da.length := by
  rw [List.take_add_one, hx]
  simp only [bytesP, List.map_append, List.sum_append, List.map_cons, List.map_nil, List.sum_cons, List.sum_nil, Option.toList_some, Nat.add_zero]
theorem bytesP_take_le (l : List PtP) (k : Nat) : bytesP (l.take k) ≤ bytesP l := by
  have h : bytesP (l.take k ++ l.drop k) = bytesP l := by rw [List.take_append_drop]
  rw [← h]
  simp only [bytesP, List.map_append, List.sum_append]
  omega
set_option maxRecDepth 100000 in
theorem RBytes_any (N : Fp) (v : Value) (lp : List PtL) (w : World) (hp : PtsRd N w v lp) (hl : lp.length ≤ 1000) (hb : bytesP (lp.map PtL.p) ≤ 1000000000) :
    Calls Try.prog 25 #[v] w fun e w' => e = .returned (.int .i64 (bytesP (lp.map PtL.p) : Int)) ∧ w = w' := by
  obtain ⟨A, c, rfl⟩ := hp.len
  have HP := Lib.hid hp
  obtain ⟨L, hL⟩ : ∃ L, L = lp.map PtL.p := ⟨_, rfl⟩
  have HL := Lib.hid hL
  have HT : Hid (∀ k x, L[k]? = some x → bytesP (L.take (k + 1)) = bytesP (L.take k) + x.da.length ∧ bytesP (L.take (k + 1)) ≤ 1000000000) := Lib.hid (fun k x hx => ⟨bytesP_take L k x hx, Nat.le_trans (bytesP_take_le L _) (by rw [hL]; exact hb)⟩)
  rw [← hL]
  have HLL : Hid (L.length = lp.length) := Lib.hid (by rw [hL, List.length_map])
  clear hp hL hb
  go_enter Try.func25, Try.ntmps25
  go_wp2
  go_loopw [3, 4] (fun n i wr => wr = w ∧ ∃ k : Nat, i = .int .i64 k ∧ k ≤ lp.length ∧ n = .int .i64 (bytesP (L.take k) : Int)) (fun _ i _ => lp.length - (intOf i).toNat)
  case atStart => exact ⟨rfl, 0, rfl, Nat.zero_le _, rfl⟩
  case round =>
    obtain ⟨rfl, k, rfl, hk, rfl⟩ := hrel
    by_cases hlt : k < lp.length
    · have e1 : decide ((k : Int) < (lp.length : Int)) = true := decide_eq_true (by omega)
      have e1' : decide (k < lp.length) = true := decide_eq_true hlt
      obtain ⟨b, o, rfl, hb1, -, hat⟩ := HP.out.get (by omega)
      obtain ⟨x, hx⟩ : ∃ x, lp[k]? = some x := ⟨_, List.getElem?_eq_getElem hlt⟩
      obtain ⟨a0, a1, a2, a3⟩ := hat k x hx
      have hxl : L[k]? = some x.p := by rw [HL.out, List.getElem?_map, hx]; rfl
      have ht := HT.out k x.p hxl
      obtain ⟨Ax, cx, hv, -⟩ := HP.out.dat x (List.mem_of_getElem? hx)
      rw [List.length_map] at hv
      rw [hv] at a3
      obtain ⟨m, hm⟩ : ∃ m, m = bytesP (L.take k) := ⟨_, rfl⟩
      obtain ⟨n, hn⟩ : ∃ n, n = x.p.da.length := ⟨_, rfl⟩
      rw [← hn] at a3 ht
      rw [← hm] at ht ⊢
      have HTE := Lib.hid ht
      have HLT := Lib.hid hlt
      have hw1 : wrap64 ((m : Int) + (n : Int)) = (m : Int) + (n : Int) := IntWalk.wrap64_in _ (by omega)
      have HW := Lib.hid hw1
      clear hat hx hlt hb1 hxl ht hv hm hn
      go_wp2
      go_roundw
      case rel => first | exact ⟨rfl, k + 1, by go_num, HLT.out, by rw [HTE.out.1]; go_num⟩ | exact ⟨trivial, k + 1, by go_num, HLT.out, by rw [HTE.out.1]; go_num⟩ | exact ⟨trivial, k + 1, by go_num, HLT.out, by rw [HTE.out.1, HW.out]; go_num⟩
      case measure => clear hw1; simp [intOf]; have := HLT.out; omega
    · obtain rfl : k = lp.length := by omega
      have e1 : decide ((lp.length : Int) < (lp.length : Int)) = false := decide_eq_false (by omega)
      have e1' : decide (lp.length < lp.length) = false := decide_eq_false (by omega)
      rw [← HLL.out, List.take_length]
      clear hlt hk
      go_wp2
      go_ret
      exact ⟨rfl, rfl⟩

theorem RsAt.fence {N : Fp} {w : World} {h : Nat} {R : RsP} (hr : RsAt N w h R) (t : Int) : RsAt N (w.setCell ⟨h, 1, none⟩ (.int .i64 t)) h { R with term := t } := by
  obtain ⟨lp, v, h1, hb, hp⟩ := hr.out
  have hc : Chg (fun k => k = h) w (w.setCell ⟨h, 1, none⟩ (.int .i64 t)) := (Chg.refl _ _).setCell (fun _ => rfl)
  refine ⟨⟨lp, v, h1, ?_, hp.chg hc (fun k hk => by rw [hk]; exact hr.here)⟩, hr.isIn.chg hc, hr.here⟩
  have h2 := hb.set_ 1 (.int .i64 t)
  rw [List.setIfInBounds_toArray] at h2
  exact h2
theorem RFence_any (N : Fp) (h : Nat) (R : RsP) (t : Int) (w : World) (hr : RsAt N w h R) :
    Calls Try.prog 53 #[.pointer (some ⟨h, 0, none⟩), .int .i64 t] w fun e w' => e = .returned (.tuple #[]) ∧ RsAt N w' h (fenceR R t) ∧ Chg (fun k => k = h) w w' := by
  obtain ⟨lp, v, h1, hb, hp⟩ := hr.out
  have c1 : w.cell? ⟨h, 1, none⟩ = some (.int .i64 R.term) := hb.cell 1
  have f1 := hb.frozen 1
  have HR := Lib.hid hr
  clear hb hp h1 hr
  by_cases ht : R.term < t
  · have d1 : decide (R.term < t) = true := decide_eq_true ht
    have HF : Hid (fenceR R t = { R with term := t }) := Lib.hid (by unfold fenceR; rw [show max R.term t = t by omega])
    clear ht
    go_enter Try.func53, Try.ntmps53
    go_wp2
    go_end0
    exact ⟨rfl, by rw [HF.out]; exact HR.out.fence t, (Chg.refl _ _).setCell (fun _ => rfl)⟩
  · have d1 : decide (R.term < t) = false := decide_eq_false ht
    have HF : Hid (fenceR R t = R) := Lib.hid (by unfold fenceR; rw [show max R.term t = R.term by omega])
    clear ht
    go_enter Try.func53, Try.ntmps53
    go_wp2
    go_end0
    exact ⟨rfl, by rw [HF.out]; exact HR.out, Chg.refl _ _⟩
theorem RNew_any (room : Int) (w : World) :
    Calls Try.prog 20 #[.int .i64 room] w fun e w' => e = .returned (.pointer (some ⟨w.heap.size, 0, none⟩)) ∧ Ext w w' ∧ w.heap.size < w'.heap.size ∧
      ∀ N : Fp, N.isIn w' → N w.heap.size → RsAt N w' w.heap.size (newR room) := by
  have key : ∀ r, max room 0 = r → ∀ N : Fp, N.isIn (w.alloc (.cells #[.int .i64 r, .int .i64 0, .slice none 0 0, .int .i64 0] 46)) → N w.heap.size → RsAt N (w.alloc (.cells #[.int .i64 r, .int .i64 0, .slice none 0 0, .int .i64 0] 46)) w.heap.size (newR room) := fun r hr N hN hg => by
    subst hr
    exact ⟨⟨[], .slice none 0 0, rfl, Blk.new _ _ _, PtsRd.nil _ _⟩, hN, hg⟩
  have HK := Lib.hid key
  clear key
  by_cases ht : room < 0
  · have d1 : decide (room < 0) = true := decide_eq_true ht
    have HM : Hid (max room 0 = 0) := Lib.hid (by omega)
    clear ht
    go_enter Try.func20, Try.ntmps20
    go_wp2
    go_ret
    exact ⟨rfl, (Below.refl _ _).alloc (Nat.le_refl _) _, by simp, HK.out 0 HM.out⟩
  · have d1 : decide (room < 0) = false := decide_eq_false ht
    have HM : Hid (max room 0 = room) := Lib.hid (by omega)
    clear ht
    go_enter Try.func20, Try.ntmps20
    go_wp2
    go_ret
    exact ⟨rfl, (Below.refl _ _).alloc (Nat.le_refl _) _, by simp, HK.out room HM.out⟩

end Go.Proofs.Ytkkmldoohokdfaa

/- The reference's store as an object: its block, its list, its bytes; all in F. -/
namespace Go.Proofs.Ytkkmldoohokdfaa
open Go.RowKit

/-- A list of points, an own row. -/
def PsF (G : Fp) (w : World) (v : Value) (lp : List PtL) : Prop := WayF G w 93 4 v lp.length (lp.flatMap PtL.cells)
structure RsX (F : Fp) (w : World) (h : Nat) (R : RsP) (lp : List PtL) (v : Value) : Prop where
  eq : lp.map PtL.p = R.L
  blk : Blk w h 46 #[I R.room, I R.term, v, I R.writes]
  row : PsF (fun k => F k ∧ k ≠ h) w v lp
  dat : ∀ x ∈ lp, RdF (fun k => F k ∧ k ≠ h ∧ v.ownBlock ≠ some k) w x.v (x.p.da.map B)
structure RsF (F : Fp) (w : World) (h : Nat) (R : RsP) : Prop where
  out : ∃ lp v, RsX F w h R lp v
  isIn : F.isIn w
  here : F h

section
variable {F G : Fp} {w w' w3 w4 : World} {h : Nat} {R : RsP} {lp lp' : List PtL} {v v' : Value} {x : PtL}
theorem PsF.slice_ (p : PsF G w v lp) : ∃ A c, v = .slice A lp.length c ∧ lp.length ≤ c ∧ c ≤ maxLen ∧ (A = none → lp.length = 0 ∧ c = 0) := WayF.slice_ p
theorem PsF.at_ {A : Option Addr} {n c j : Nat} (p : PsF G w (.slice A n c) lp) (hj : lp[j]? = some x) : ∃ b, A = some ⟨b, 0, none⟩ ∧ b < w.heap.size ∧ G b ∧ PtL.at w b (j * 4) x := by
  have hlt : j < lp.length := (List.getElem?_eq_some_iff.1 hj).1
  obtain ⟨-, b, cur, rfl, hb, -⟩ := WayF.at_ p (fun e => by
    obtain ⟨A', c', e', -, -, hA⟩ := p.slice_
    cases e'
    have := (hA e).1
    omega)
  have hc : ∀ i u, i < 4 → x.cells[i]? = some u → w.cell? ⟨b, j * 4 + i, none⟩ = some u := fun i u hi hu => (WayF.cells p).2.1 _ _ ((flatP_at lp j i x hj hi).trans hu)
  exact ⟨b, rfl, (Array.getElem?_eq_some_iff.1 hb).1, p.inF b rfl, hc 0 _ (by omega) rfl, hc 1 _ (by omega) rfl, hc 2 _ (by omega) rfl, hc 3 _ (by omega) rfl⟩
theorem RsX.chg (r : RsX F w h R lp v) (hc : Chg G w w') (hG : ∀ k, F k → ¬ G k) (hh : F h) : RsX F w' h R lp v :=
  ⟨r.eq, (hc.block h r.blk.lt (hG h hh)).trans r.blk, WayF.chg r.row hc (fun k hk => hG k (r.row.inF k hk).1), fun x hx => (r.dat x hx).chg hc (fun k hk => hG k hk.1)⟩
theorem RsX.mono (r : RsX F w h R lp v) (hf : ∀ k, F k → G k) : RsX G w h R lp v := ⟨r.eq, r.blk, WayF.mono r.row (fun k hk => ⟨hf k hk.1, hk.2⟩), fun x hx => (r.dat x hx).mono (fun k hk => ⟨hf k hk.1, hk.2⟩)⟩
theorem RsF.chg (r : RsF F w h R) (hc : Chg G w w') (hG : ∀ k, F k → ¬ G k) : RsF F w' h R := by
  obtain ⟨lp, v, hi⟩ := r.out
  exact ⟨⟨lp, v, hi.chg hc hG r.here⟩, r.isIn.chg hc, r.here⟩
theorem RsF.ext (r : RsF F w h R) (hx : Ext w w') : RsF F w' h R := r.chg (G := fun _ => False) (Chg.of_ext hx) (fun _ _ h => h)
theorem RsF.lt (r : RsF F w h R) : h < w.heap.size := r.isIn h r.here
theorem RsF.grow (r : RsF F w h R) (hx : Ext w w') : RsF (F.since w w') w' h R ∧ Chg F w w' := by
  obtain ⟨lp, v, hi⟩ := (r.ext hx).out
  exact ⟨⟨⟨lp, v, hi.mono (fun k hk => .inl hk)⟩, r.isIn.since hx.size, .inl r.here⟩, Chg.of_ext hx⟩
/-- As what only asks it sees it. -/
theorem RsX.view (r : RsX F w h R lp v) : RsAt (fun k => k = h) w h R := by
  refine ⟨⟨lp, v, r.eq, r.blk, ⟨?_, fun x hx => (r.dat x hx).mono (fun k hk => hk.2.1)⟩⟩, fun k hk => by have hk : k = h := hk; rw [hk]; exact r.blk.lt, rfl⟩
  obtain ⟨A, c, rfl, h1, h2, -⟩ := r.row.slice_
  refine ⟨A, c, rfl, h1, h2, fun hn => ?_⟩
  obtain ⟨b, rfl, hb, hG, -⟩ := r.row.at_ (List.getElem?_eq_getElem hn)
  exact ⟨b, 0, rfl, hb, hG.2, fun j x hj => by
    obtain ⟨b', e, -, -, hat⟩ := r.row.at_ hj
    cases e
    rw [Nat.zero_add]
    exact hat⟩
theorem RsF.view (r : RsF F w h R) : RsAt (fun k => k = h) w h R := by
  obtain ⟨lp, v, hi⟩ := r.out
  exact hi.view
theorem flatP_push (lp : List PtL) (x : PtL) : (lp ++ [x]).flatMap PtL.cells = lp.flatMap PtL.cells ++ x.cells := by simp
theorem PsF.pushO (p : PsF G w v lp) (hg : WayG v w 93 4 (lp.length + 1) (lp.flatMap PtL.cells ++ x.cells) v' w') : PsF (G.since w w') w' v' (lp ++ [x]) ∧ Chg (fun q => v.ownBlock = some q) w w' := by
  obtain ⟨h1, h2⟩ := hg.way p
  refine ⟨?_, h2⟩
  unfold PsF
  rw [flatP_push, List.length_append]
  exact h1
theorem RdF.lt_ {D : Fp} {xs : List Value} {u : Value} (hd : RdF D w u xs) (hf : ∀ k, D k → k < w.heap.size → G k) : RdF G w u xs := by
  obtain ⟨A, c, e, h1, h2, h3⟩ := hd
  refine ⟨A, c, e, h1, h2, fun hn => ?_⟩
  obtain ⟨b, o, hA, hb, hD, hc⟩ := h3 hn
  exact ⟨b, o, hA, hb, hf b hD hb, hc⟩
/-- Another list in its place, made anew. -/
theorem RsX.put (r : RsX F w h R lp v) (hF : F.isIn w) (hh : F h) (hx : Ext w w4) (hrow : PsF (fun q => w.heap.size ≤ q) w4 v' lp') (hd : ∀ x ∈ lp', RdF (fun k => (F.since w w4) k ∧ k ≠ h ∧ v'.ownBlock ≠ some k) w4 x.v (x.p.da.map B)) :
    RsX (F.since w w4) (w4.setCell ⟨h, 2, none⟩ v') h { R with L := lp'.map PtL.p } lp' v' ∧ Chg F w (w4.setCell ⟨h, 2, none⟩ v') := by
  have hgl := hF h hh
  have hc : Chg (fun k => k = h) w4 (w4.setCell ⟨h, 2, none⟩ v') := (Chg.refl _ _).setCell (fun _ => rfl)
  have hb := (r.blk.ext hx).set_ 2 v'
  have hl : ∀ k, v'.ownBlock = some k → k < w4.heap.size := WayF.lt hrow
  refine ⟨⟨rfl, by rw [List.setIfInBounds_toArray] at hb; exact hb, ?_, fun x hx => (hd x hx).chg hc (fun k hk => hk.2.1)⟩, (Chg.of_ext (F := F) hx).trans hc (fun k _ hk => by have hk : k = h := hk; rw [hk]; exact hh)⟩
  have h1 := WayF.chg hrow hc (fun k hk e => by have e : k = h := e; have := hrow.inF k hk; omega)
  exact ⟨h1.row, fun k hk => ⟨.inr ⟨hrow.inF k hk, hl k hk⟩, by have := hrow.inF k hk; omega⟩⟩
/-- One more point behind its list. -/
theorem RsX.push (r : RsX F w h R lp v) (hF : F.isIn w) (hh : F h) (hx : Ext w w3) (hg : WayG v w3 93 4 (lp.length + 1) (lp.flatMap PtL.cells ++ x.cells) v' w4) (hxd : RdF (fun k => F k ∧ k ≠ h ∧ v.ownBlock ≠ some k) w3 x.v (x.p.da.map B)) :
    RsX (F.since w w4) (w4.setCell ⟨h, 2, none⟩ v') h { R with L := R.L ++ [x.p] } (lp ++ [x]) v' ∧ Chg F w (w4.setCell ⟨h, 2, none⟩ v') := by
  have r3 := r.chg (Chg.of_ext (F := fun _ => False) hx) (fun _ _ h => h) hh
  obtain ⟨hl, hc4⟩ := r3.row.pushO hg
  have s3 := hx.size
  have s4 := hc4.size
  have hgl := hF h hh
  have hoff : v.ownBlock ≠ some h := fun e => (r.row.inF h e).2 rfl
  have hb4 : Blk w4 h 46 #[I R.room, I R.term, v, I R.writes] := (hc4.block h r3.blk.lt hoff).trans r3.blk
  have hb5 := hb4.set_ 2 v'
  have hc5 : Chg (fun k => k = h) w4 (w4.setCell ⟨h, 2, none⟩ v') := (Chg.refl _ _).setCell (fun _ => rfl)
  have hv' : ∀ k, v'.ownBlock = some k → v.ownBlock = some k ∨ w3.heap.size ≤ k := fun k hk => by
    rcases hg.here with e | e
    · exact .inl (by rw [← e]; exact hk)
    · exact .inr (e k hk)
  refine ⟨⟨by rw [List.map_append, r.eq]; rfl, by rw [List.setIfInBounds_toArray] at hb5; exact hb5, ?_, fun y hy => ?_⟩, ((Chg.of_ext (F := F) hx).trans hc4 (fun k _ hk => (r.row.inF k hk).1)).trans hc5 (fun k _ hk => by have hk : k = h := hk; rw [hk]; exact hh)⟩
  · refine WayF.mono (WayF.chg hl hc5 (fun k hk e => ?_)) (fun k hk => ?_)
    · have e : k = h := e
      rcases hv' k hk with h1 | h1
      · rw [e] at h1; exact hoff h1
      · omega
    · rcases hk with hk | hk
      · exact ⟨.inl hk.1, hk.2⟩
      · exact ⟨.inr ⟨by omega, hk.2⟩, by omega⟩
  · have h1 : RdF (fun k => F k ∧ k ≠ h ∧ v.ownBlock ≠ some k) w3 y.v (y.p.da.map B) := by
      rcases List.mem_append.1 hy with hy | hy
      · exact r3.dat y hy
      · obtain rfl : y = x := by simpa using hy
        exact hxd
    have h2 := ((h1.chg hc4 (fun k hk e => hk.2.2 e)).chg hc5 (fun k hk e => hk.2.1 e))
    exact h2.mono (fun k hk => ⟨.inl hk.1, hk.2.1, fun e => by
      rcases hv' k e with h3 | h3
      · exact hk.2.2 h3
      · have := hF k hk.1; omega⟩)
theorem RsX.count (r : RsX F w h R lp v) (hh : F h) (n : Int) : RsX F (w.setCell ⟨h, 3, none⟩ (.int .i64 n)) h { R with writes := n } lp v ∧ Chg F w (w.setCell ⟨h, 3, none⟩ (.int .i64 n)) := by
  have hc : Chg (fun k => k = h) w (w.setCell ⟨h, 3, none⟩ (.int .i64 n)) := (Chg.refl _ _).setCell (fun _ => rfl)
  have hb := r.blk.set_ 3 (.int .i64 n)
  rw [List.setIfInBounds_toArray] at hb
  exact ⟨⟨r.eq, hb, WayF.chg r.row hc (fun k hk e => (r.row.inF k hk).2 e), fun x hx => (r.dat x hx).chg hc (fun k hk e => hk.2.1 e)⟩, hc.mono (fun k _ hk => by have hk : k = h := hk; rw [hk]; exact hh)⟩
theorem RsX.fence (r : RsX F w h R lp v) (hh : F h) (n : Int) : RsX F (w.setCell ⟨h, 1, none⟩ (.int .i64 n)) h { R with term := n } lp v ∧ Chg F w (w.setCell ⟨h, 1, none⟩ (.int .i64 n)) := by
  have hc : Chg (fun k => k = h) w (w.setCell ⟨h, 1, none⟩ (.int .i64 n)) := (Chg.refl _ _).setCell (fun _ => rfl)
  have hb := r.blk.set_ 1 (.int .i64 n)
  rw [List.setIfInBounds_toArray] at hb
  exact ⟨⟨r.eq, hb, WayF.chg r.row hc (fun k hk e => (r.row.inF k hk).2 e), fun x hx => (r.dat x hx).chg hc (fun k hk e => hk.2.1 e)⟩, hc.mono (fun k _ hk => by have hk : k = h := hk; rw [hk]; exact hh)⟩
/-- What was turned is one since. -/
theorem RsF.fin {w0 w2 w4 w6 : World} {R6 : RsP} {lp6 : List PtL} {v6 : Value} (hF : F.isIn w0) (hh : F h) (hx : Ext w0 w2) (h46 : w4.heap.size ≤ w6.heap.size) (h6 : RsX (F.since w2 w4) w6 h R6 lp6 v6) (hc6 : Chg F w2 w6) : RsF (F.since w0 w6) w6 h R6 ∧ Chg F w0 w6 := by
  have s1 := hx.size
  have s3 := hc6.size
  refine ⟨⟨⟨lp6, v6, h6.mono (fun k hk => ?_)⟩, hF.since (by omega), .inl hh⟩, (Chg.of_ext (F := F) hx).trans hc6 (fun _ _ h => h)⟩
  rcases hk with hk | hk
  · exact .inl hk
  · exact .inr ⟨by omega, by omega⟩
theorem RsF.step {w0 w1 w2 : World} {R2 : RsP} (hF : F.isIn w0) (hh : F h) (hc1 : Chg F w0 w1) (r : RsF ((F.since w0 w1).since w1 w2) w2 h R2) (hc2 : Chg (F.since w0 w1) w1 w2) : RsF (F.since w0 w2) w2 h R2 ∧ Chg F w0 w2 := by
  obtain ⟨lp, v, hi⟩ := r.out
  have s1 := hc1.size
  have s2 := hc2.size
  exact ⟨⟨⟨lp, v, hi.mono (Fp.since_since s1 s2)⟩, hF.since (by omega), .inl hh⟩, hc1.step hc2⟩
end

set_option maxRecDepth 100000 in
theorem XFence_any (F : Fp) (h : Nat) (R : RsP) (t : Int) (w : World) (r : RsF F w h R) :
    Calls Try.prog 53 #[.pointer (some ⟨h, 0, none⟩), .int .i64 t] w fun e w' => e = .returned (.tuple #[]) ∧ RsF (F.since w w') w' h (fenceR R t) ∧ Chg F w w' := by
  obtain ⟨lp, v, hi⟩ := r.out
  have c1 : w.cell? ⟨h, 1, none⟩ = some (.int .i64 R.term) := hi.blk.cell 1
  have f1 := hi.blk.frozen 1
  have HI := Lib.hid hi
  have HR := Lib.hid r
  clear hi r
  by_cases ht : R.term < t
  · have d1 : decide (R.term < t) = true := decide_eq_true ht
    have HF : Hid (fenceR R t = { R with term := t }) := Lib.hid (by unfold fenceR; rw [show max R.term t = t by omega])
    clear ht
    go_enter Try.func53, Try.ntmps53
    go_wp2
    go_end0
    exact ⟨rfl, by rw [HF.out]; exact RsF.fin (w4 := w) HR.out.isIn HR.out.here (Ext.refl w) (by simp) ((HI.out.fence HR.out.here t).1.mono (fun k hk => .inl hk)) (HI.out.fence HR.out.here t).2⟩
  · have d1 : decide (R.term < t) = false := decide_eq_false ht
    have HF : Hid (fenceR R t = R) := Lib.hid (by unfold fenceR; rw [show max R.term t = R.term by omega])
    clear ht
    go_enter Try.func53, Try.ntmps53
    go_wp2
    go_end0
    exact ⟨rfl, by rw [HF.out]; exact HR.out.grow (Ext.refl _)⟩
theorem XNew_any (room : Int) (w : World) :
    Calls Try.prog 20 #[.int .i64 room] w fun e w' => e = .returned (.pointer (some ⟨w.heap.size, 0, none⟩)) ∧ Ext w w' ∧ RsF (fun k => w.heap.size ≤ k ∧ k < w'.heap.size) w' w.heap.size (newR room) := by
  have key : ∀ r, max room 0 = r → RsF (fun k => w.heap.size ≤ k ∧ k < (w.alloc (.cells #[.int .i64 r, .int .i64 0, .slice none 0 0, .int .i64 0] 46)).heap.size) (w.alloc (.cells #[.int .i64 r, .int .i64 0, .slice none 0 0, .int .i64 0] 46)) w.heap.size (newR room) := fun r hr => by
    subst hr
    exact ⟨⟨[], .slice none 0 0, rfl, Blk.new _ _ _, WayF.nil _ _ _ _, fun x hx => (by cases hx)⟩, fun k hk => hk.2, ⟨Nat.le_refl _, by simp⟩⟩
  have HK := Lib.hid key
  clear key
  by_cases ht : room < 0
  · have d1 : decide (room < 0) = true := decide_eq_true ht
    have HM : Hid (max room 0 = 0) := Lib.hid (by omega)
    clear ht
    go_enter Try.func20, Try.ntmps20
    go_wp2
    go_ret
    exact ⟨rfl, (Below.refl _ _).alloc (Nat.le_refl _) _, HK.out 0 HM.out⟩
  · have d1 : decide (room < 0) = false := decide_eq_false ht
    have HM : Hid (max room 0 = room) := Lib.hid (by omega)
    clear ht
    go_enter Try.func20, Try.ntmps20
    go_wp2
    go_ret
    exact ⟨rfl, (Below.refl _ _).alloc (Nat.le_refl _) _, HK.out room HM.out⟩

end Go.Proofs.Ytkkmldoohokdfaa

/- The reference's store: without, End. -/
namespace Go.Proofs.Ytkkmldoohokdfaa
open Go.RowKit

def woL (lp : List PtL) (job : Int) (cnt : Bool) : List PtL := lp.filter fun x => !hitP job cnt x.p
theorem woL_map (lp : List PtL) (job : Int) (cnt : Bool) : (woL lp job cnt).map PtL.p = withoutR (lp.map PtL.p) job cnt := by unfold woL withoutR; rw [List.filter_map]; rfl
theorem woL_mem {lp : List PtL} {job : Int} {cnt : Bool} {x : PtL} (h : x ∈ woL lp job cnt) : x ∈ lp := (List.mem_filter.1 h).1
theorem woL_len (lp : List PtL) (job : Int) (cnt : Bool) : (woL lp job cnt).length ≤ lp.length := List.length_filter_le _ _
theorem woL_next {lp : List PtL} {job : Int} {cnt : Bool} {k : Nat} {x : PtL} (hx : lp[k]? = some x) : woL (lp.take (k + 1)) job cnt = woL (lp.take k) job cnt ++ (if hitP job cnt x.p = true then [] else [x]) := by
  unfold woL
  rw [List.take_add_one, hx, List.filter_append]
  cases hh : hitP job cnt x.p <;> simp [hh]
/-- The list that is made anew. -/
def WoR (w1 w : World) (v : Value) (lp : List PtL) : Prop := PsF (fun q => w1.heap.size ≤ q) w v lp ∧ Ext w1 w
theorem WoR.push {w1 w w' : World} {v v' : Value} {lp : List PtL} {x : PtL} (h : WoR w1 w v lp) (hg : WayG v w 93 4 (lp.length + 1) (lp.flatMap PtL.cells ++ x.cells) v' w') : WoR w1 w' v' (lp ++ [x]) := by
  obtain ⟨p1, p2⟩ := h.1.pushO hg
  refine ⟨WayF.mono p1 (fun k hk => ?_), p2.ext h.2 (fun k hk => h.1.inF k hk)⟩
  rcases hk with hk | hk
  · exact hk
  · exact Nat.le_trans h.2.size hk.1

set_option maxRecDepth 100000 in
set_option maxHeartbeats 2000000 in
theorem XWithout_any (F : Fp) (h : Nat) (R : RsP) (lp : List PtL) (v : Value) (job : Int) (cnt : Bool) (w : World) (r : RsX F w h R lp v) (hh : F h) (hl : lp.length ≤ 1000) : Calls Try.prog 84 #[.pointer (some ⟨h, 0, none⟩), .int .i64 job, .bool cnt] w fun e w' => ∃ v, e = .returned v ∧ WoR w w' v (woL lp job cnt) := by
  have HI := Lib.hid r
  have HH := Lib.hid hh
  have HL := Lib.hid hl
  obtain ⟨A, c, rfl, -, -, -⟩ := r.row.slice_
  clear r hh hl
  obtain ⟨n, hn⟩ : ∃ n, n = lp.length := ⟨_, rfl⟩
  rw [← hn] at HI HL
  have HN := Lib.hid hn
  clear hn
  have HR0 : Hid (WoR w w (.slice none 0 0) (woL (lp.take 0) job cnt)) := Lib.hid ⟨WayF.nil _ _ _ _, Ext.refl _⟩
  go_enter Try.func84, Try.ntmps84
  go_wp2_with fail
  go_loopg [7, 8] n (fun gg o i wr => ∃ k : Nat, i = .int .i64 k ∧ k ≤ n ∧ gg = n - k ∧ Hid (WoR w wr o (woL (lp.take k) job cnt)))
  case atStart => exact ⟨0, rfl, Nat.zero_le _, rfl, HR0⟩
  case round =>
    obtain ⟨k, rfl, hk, rfl, HK⟩ := hrel
    clear HR0
    have HIW := Lib.hid (HI.out.chg (Chg.of_ext (F := fun _ => False) HK.out.2) (fun _ _ h => h) HH.out)
    have c2 : wr.cell? ⟨h, 2, none⟩ = some (.slice A n c) := HIW.out.blk.cell 2
    by_cases hlt : k < n
    · have e1 : decide ((k : Int) < (n : Int)) = true := decide_eq_true (by omega)
      have e1' : decide (k < n) = true := decide_eq_true hlt
      have HLT := Lib.hid hlt
      have x1 : (0 : Int) ≤ (k : Int) ∧ (k : Int) < (n : Int) := by omega
      have hwq : wrap64 ((k : Int) + 1) = (k : Int) + 1 := IntWalk.wrap64_in _ (by have := HL.out; omega)
      obtain ⟨x, hx⟩ : ∃ x, lp[k]? = some x := ⟨_, List.getElem?_eq_getElem (by rw [← HN.out]; exact hlt)⟩
      obtain ⟨b, rfl, -, -, a0, a1, a2, a3⟩ := HIW.out.row.at_ hx
      obtain ⟨Ax, cx, hv, -⟩ := HI.out.dat x (List.mem_of_getElem? hx)
      rw [List.length_map] at hv
      have HTK := Lib.hid (woL_next (job := job) (cnt := cnt) hx)
      have HXC : Hid (x.cells = [.int .i64 x.p.job, .int .i64 x.p.ep, .bool x.p.cnt, .slice Ax x.p.da.length cx]) := Lib.hid (by unfold PtL.cells; rw [hv])
      rw [hv] at a3
      obtain ⟨j, hj⟩ : ∃ j, j = x.p.job := ⟨_, rfl⟩
      obtain ⟨e, he⟩ : ∃ j, j = x.p.ep := ⟨_, rfl⟩
      obtain ⟨b2, hb2⟩ : ∃ j, j = x.p.cnt := ⟨_, rfl⟩
      obtain ⟨nd, hnd⟩ : ∃ j, j = x.p.da.length := ⟨_, rfl⟩
      rw [← hj] at a0
      rw [← he] at a1
      rw [← hb2] at a2
      rw [← hnd] at a3
      rw [← hj, ← he, ← hb2, ← hnd] at HXC
      have HHIT : Hid (hitP job cnt x.p = (decide (j = job) && (b2 == cnt))) := Lib.hid (by unfold hitP; rw [hj, hb2])
      obtain ⟨ls, hls⟩ : ∃ ls, ls = woL (lp.take k) job cnt := ⟨_, rfl⟩
      have HLS : Hid (ls.length ≤ 1000) := Lib.hid (by rw [hls]; have h1 := woL_len (lp.take k) job cnt; rw [List.length_take] at h1; have := HL.out; omega)
      rw [← hls] at HK HTK
      clear hx hlt hv hj he hb2 hnd hls
      obtain ⟨Ao, co, rfl, -, -, -⟩ := HK.out.1.slice_
      by_cases hjj : j = job
      · have g1 : (j != job) = false := by rw [hjj]; simp
        cases hc : (b2 == cnt) with
        | true =>
          have g2 : (!(b2 == cnt)) = false := by rw [hc]; rfl
          have HQ : Hid (hitP job cnt x.p = true) := Lib.hid (by rw [HHIT.out, hc, decide_eq_true hjj]; rfl)
          have HK8 : Hid (WoR w wr (.slice Ao ls.length co) (woL (lp.take (k + 1)) job cnt)) := Lib.hid (by rw [HTK.out, HQ.out, if_pos rfl, List.append_nil]; exact HK.out)
          clear hjj hc
          go_wp2_with fail
          go_roundg (n - (k + 1))
          case measure => have := HLT.out; omega
          case rel => exact ⟨k + 1, by go_num, HLT.out, rfl, HK8⟩
        | false =>
          have g2 : (!(b2 == cnt)) = true := by rw [hc]; rfl
          have HQ : Hid (hitP job cnt x.p = false) := Lib.hid (by rw [HHIT.out, hc, Bool.and_false])
          clear hjj hc
          have hl41 : ls.length + 1 ≤ 1001 := by have := HLS.out; omega
          go_wp2_with (at_builtin; refine wpList_pushW (F := fun q => w.heap.size ≤ q) rfl _ _ 44 rfl 93 (.agg #[.int .i64 0, .int .i64 0, .bool false, .slice none 0 0]) 4 48 Try.underlying44 (by kernel_rfl) (by simp [Value.cells]) (by omega) _ _ _ HK.out.1 rfl #[.int .i64 j, .int .i64 e, .bool b2, .slice Ax nd cx] rfl (by simp [Value.oneCell']) rfl rfl (by unfold maxLen; omega) (by omega) ?_; intro v8 w8 hg8)
          have HK8 : Hid (WoR w w8 v8 (woL (lp.take (k + 1)) job cnt)) := Lib.hid (by rw [HTK.out, HQ.out, if_neg (by simp)]; exact HK.out.push (x := x) (by rw [HXC.out]; exact hg8))
          clear hg8
          go_roundg (n - (k + 1))
          case measure => have := HLT.out; omega
          case rel => exact ⟨k + 1, by go_num, HLT.out, rfl, HK8⟩
      · have g1 : (j != job) = true := by simp only [bne_iff_ne, ne_eq]; exact hjj
        have HQ : Hid (hitP job cnt x.p = false) := Lib.hid (by rw [HHIT.out, decide_eq_false hjj]; rfl)
        clear hjj
        have hl41 : ls.length + 1 ≤ 1001 := by have := HLS.out; omega
        go_wp2_with (at_builtin; refine wpList_pushW (F := fun q => w.heap.size ≤ q) rfl _ _ 44 rfl 93 (.agg #[.int .i64 0, .int .i64 0, .bool false, .slice none 0 0]) 4 48 Try.underlying44 (by kernel_rfl) (by simp [Value.cells]) (by omega) _ _ _ HK.out.1 rfl #[.int .i64 j, .int .i64 e, .bool b2, .slice Ax nd cx] rfl (by simp [Value.oneCell']) rfl rfl (by unfold maxLen; omega) (by omega) ?_; intro v8 w8 hg8)
        have HK8 : Hid (WoR w w8 v8 (woL (lp.take (k + 1)) job cnt)) := Lib.hid (by rw [HTK.out, HQ.out, if_neg (by simp)]; exact HK.out.push (x := x) (by rw [HXC.out]; exact hg8))
        clear hg8
        go_roundg (n - (k + 1))
        case measure => have := HLT.out; omega
        case rel => exact ⟨k + 1, by go_num, HLT.out, rfl, HK8⟩
    · obtain rfl : k = n := by omega
      have e1 : decide ((k : Int) < (k : Int)) = false := decide_eq_false (by omega)
      have e1' : decide (k < k) = false := decide_eq_false (by omega)
      have HFN : Hid (WoR w wr _ (woL lp job cnt)) := Lib.hid (by have h1 := HK.out; rw [List.take_of_length_le (by rw [HN.out]; exact Nat.le_refl _)] at h1; exact h1)
      clear hlt hk HK
      go_wp2
      go_ret
      exact ⟨_, rfl, HFN.out⟩

/-- The list is what was made anew, of its own points. -/
theorem RsX.cut {F : Fp} {w w4 : World} {h : Nat} {R : RsP} {lp : List PtL} {v v' : Value} (r : RsX F w h R lp v) (hF : F.isIn w) (hh : F h) {job : Int} {cnt : Bool} (hw : WoR w w4 v' (woL lp job cnt)) :
    RsX (F.since w w4) (w4.setCell ⟨h, 2, none⟩ v') h { R with L := withoutR R.L job cnt } (woL lp job cnt) v' ∧ Chg F w (w4.setCell ⟨h, 2, none⟩ v') := by
  have h1 := r.put hF hh hw.2 hw.1 (fun x hx => ((r.dat x (woL_mem hx)).chg (Chg.of_ext (F := fun _ => False) hw.2) (fun _ _ h => h)).mono (fun k hk => ⟨.inl hk.1, hk.2.1, fun e => by have := hw.1.inF k e; have := hF k hk.1; omega⟩))
  rw [woL_map, r.eq] at h1
  exact h1

theorem RsX.end_fin {F : Fp} {w w1 w2 w3 : World} {h : Nat} {R : RsP} {job : Int} {lp : List PtL} {v3 : Value} (h01 : w.heap.size ≤ w1.heap.size) (h12 : w1.heap.size = w2.heap.size) (h23 : w2.heap.size ≤ w3.heap.size)
    (h4 : RsX ((F.since w w1).since w2 w3) (w3.setCell ⟨h, 2, none⟩ v3) h { R with L := withoutR (withoutR R.L job true) job false } lp v3) :
    RsX (F.since w (w3.setCell ⟨h, 2, none⟩ v3)) (w3.setCell ⟨h, 2, none⟩ v3) h (endR R job) lp v3 := by
  refine h4.mono (fun k hk => ?_)
  rcases hk with (hk | hk) | hk
  · exact .inl hk
  · exact .inr ⟨hk.1, by simp; omega⟩
  · exact .inr ⟨by omega, by simp; exact hk.2⟩

set_option maxRecDepth 100000 in
set_option maxHeartbeats 1000000 in
theorem XEnd_own (F : Fp) (h : Nat) (R : RsP) (job : Int) (w : World) (r : RsF F w h R) (hl : R.L.length ≤ 1000) : Calls Try.prog 52 #[.pointer (some ⟨h, 0, none⟩), .int .i64 job] w fun e w' => ∃ lp' v', e = .returned (.tuple #[]) ∧ RsX (F.since w w') w' h (endR R job) lp' v' ∧ (∀ q, v'.ownBlock = some q → w.heap.size ≤ q) ∧ Chg (fun k => k = h) w w' := by
  have HR := Lib.hid r
  have HL := Lib.hid hl
  obtain ⟨lp, v, hi⟩ := r.out
  have HI := Lib.hid hi
  have HLP : Hid (lp.length ≤ 1000) := Lib.hid (by have h1 := congrArg List.length hi.eq; rw [List.length_map] at h1; omega)
  clear r hl hi
  have HW := Lib.hid (XWithout_any F h R lp v job true w HI.out HR.out.here HLP.out)
  go_enter Try.func52, Try.ntmps52
  go_wp2_with fail
  refine HW.out.mono ?_
  rintro e1 w1 ⟨v1, rfl, hw1⟩
  obtain ⟨A1, c1, rfl, -, -, -⟩ := hw1.1.slice_
  obtain ⟨h2, hc2⟩ := HI.out.cut HR.out.isIn HR.out.here hw1
  have hb1 := HI.out.blk.ext hw1.2
  have c2 : w1.cell? ⟨h, 2, none⟩ = some v := hb1.cell 2
  have f2 := hb1.frozen 2
  have hF2 : (F.since w w1).isIn (w1.setCell ⟨h, 2, none⟩ (.slice A1 (woL lp job true).length c1)) := fun k hk => by have := HR.out.isIn.since (w' := w1) hw1.2.size k hk; simpa using this
  obtain ⟨W2, hW2⟩ : ∃ W, W = w1.setCell ⟨h, 2, none⟩ (.slice A1 (woL lp job true).length c1) := ⟨_, rfl⟩
  have HCG := Lib.hid (show Chg (fun k => k = h) w W2 by rw [hW2]; exact (Chg.of_ext hw1.2).setCell (fun _ => rfl))
  rw [← hW2] at h2 hc2 hF2
  have H2 := Lib.hid h2
  have HC2 := Lib.hid hc2
  have HF2 := Lib.hid hF2
  have HS2 : Hid (w1.heap.size = W2.heap.size) := Lib.hid (by rw [hW2]; simp)
  have HXS := Lib.hid hw1.2.size
  clear h2 hc2 hF2 hb1 HW hw1
  have HW := Lib.hid (XWithout_any (F.since w w1) h _ _ _ job false W2 H2.out (.inl HR.out.here) (Nat.le_trans (woL_len _ _ _) HLP.out))
  go_upto_region 1 with (fail)
  (try rw [← hW2])
  clear hW2 c2 f2
  go_wp2_with fail
  refine HW.out.mono ?_
  rintro e3 w3 ⟨v3, rfl, hw3⟩
  obtain ⟨A3, c3, rfl, -, -, -⟩ := hw3.1.slice_
  obtain ⟨h4, hc4⟩ := H2.out.cut HF2.out (.inl HR.out.here) hw3
  have HCH := Lib.hid ((HCG.out.trans (Chg.of_ext (F := fun _ => False) hw3.2) (fun _ _ h => h.elim)).setCell (p := ⟨h, 2, none⟩) (v := .slice A3 (woL (woL lp job true) job false).length c3) (fun _ => rfl))
  have HNV : Hid (∀ q, (Value.slice A3 (woL (woL lp job true) job false).length c3).ownBlock = some q → w.heap.size ≤ q) := Lib.hid (fun q hq => by have h1 := hw3.1.inF q hq; have h2 := HS2.out; have h3 := HXS.out; omega)
  have hb3 := H2.out.blk.ext hw3.2
  have c2 := hb3.cell 2
  have f2 := hb3.frozen 2
  have H4 := Lib.hid h4
  have HC4 := Lib.hid hc4
  have HS3 := Lib.hid hw3.2.size
  clear h4 hc4 hb3 HW hw3
  go_wp2
  go_end0
  exact ⟨_, _, rfl, RsX.end_fin HXS.out HS2.out HS3.out H4.out, HNV.out, HCH.out⟩

theorem XEnd_any (F : Fp) (h : Nat) (R : RsP) (job : Int) (w : World) (r : RsF F w h R) (hl : R.L.length ≤ 1000) : Calls Try.prog 52 #[.pointer (some ⟨h, 0, none⟩), .int .i64 job] w fun e w' => e = .returned (.tuple #[]) ∧ RsF (F.since w w') w' h (endR R job) ∧ Chg F w w' :=
  (XEnd_own F h R job w r hl).mono (by
    rintro e w' ⟨lp, v, rfl, h1, -, hc⟩
    exact ⟨rfl, ⟨⟨lp, v, h1⟩, r.isIn.since hc.size, .inl r.here⟩, hc.mono (fun k _ hk => by have hk : k = h := hk; rw [hk]; exact r.here)⟩)

end Go.Proofs.Ytkkmldoohokdfaa

/- The reference's store: Stage. -/
namespace Go.Proofs.Ytkkmldoohokdfaa
open Go.RowKit

theorem WoR.rd {F : Fp} {w w4 : World} {h : Nat} {R : RsP} {lp : List PtL} {v v' : Value} (r : RsX F w h R lp v) (hF : F.isIn w) (hh : F h) {job : Int} {cnt : Bool} (hw : WoR w w4 v' (woL lp job cnt)) : PtsRd (fun k => k = h) w4 v' (woL lp job cnt) := by
  have hgl := hF h hh
  refine ⟨?_, fun x hx => ((r.dat x (woL_mem hx)).chg (Chg.of_ext (F := fun _ => False) hw.2) (fun _ _ h => h)).mono (fun k hk => hk.2.1)⟩
  obtain ⟨A, c, rfl, h1, h2, -⟩ := hw.1.slice_
  refine ⟨A, c, rfl, h1, h2, fun hn => ?_⟩
  obtain ⟨b, rfl, hb, hG, -⟩ := hw.1.at_ (List.getElem?_eq_getElem hn)
  exact ⟨b, 0, rfl, hb, by show ¬ b = h; omega, fun j x hj => by
    obtain ⟨b', e, -, -, hat⟩ := hw.1.at_ hj
    cases e
    rw [Nat.zero_add]
    exact hat⟩
theorem RsX.staged {F : Fp} {w w3 w5 w6 w8 : World} {h n nd c6 : Nat} {R : RsP} {lp : List PtL} {v v3 v8 : Value} {job ep : Int} {d : List UInt8} {A6 : Option Addr} (r : RsX F w h R lp v) (hF : F.isIn w) (hh : F h) (hw : WoR w w3 v3 (woL lp job false)) (hn : n = (woL lp job false).length) (hx : Ext w3 w5)
    (hg7 : Grew w5.heap.size 5 (.slice none 0 0) w5 (d.map B) (.slice A6 nd c6) w6) (hg8 : WayG v3 w6 93 4 (n + 1) ((woL lp job false).flatMap PtL.cells ++ [.int .i64 job, .int .i64 ep, .bool false, .slice A6 nd c6]) v8 w8) (k : Int) :
    RsF (F.since w ((w8.setCell ⟨h, 2, none⟩ v8).setCell ⟨h, 3, none⟩ (.int .i64 k))) ((w8.setCell ⟨h, 2, none⟩ v8).setCell ⟨h, 3, none⟩ (.int .i64 k)) h { R with L := withoutR R.L job false ++ [⟨job, ep, false, d⟩], writes := k } ∧ Chg F w ((w8.setCell ⟨h, 2, none⟩ v8).setCell ⟨h, 3, none⟩ (.int .i64 k)) := by
  subst hn
  have hgl := hF h hh
  have hx6 : Ext w3 w6 := hx.trans hg7.ext
  have hrow6 : PsF (fun q => w.heap.size ≤ q) w6 v3 (woL lp job false) := WayF.chg hw.1 (Chg.of_ext (F := fun _ => False) hx6) (fun _ _ h => h)
  obtain ⟨p1, p2⟩ := hrow6.pushO (x := ⟨⟨job, ep, false, d⟩, .slice A6 nd c6⟩) hg8
  have s1 := hw.2.size
  have s3 := hx.size
  have s6 := hg7.ext.size
  have s8 := p2.size
  have h3l : ∀ q, v3.ownBlock = some q → q < w3.heap.size := WayF.lt hw.1
  have hx8 : Ext w w8 := p2.ext (hw.2.trans hx6) (fun q hq => hw.1.inF q hq)
  have hv8 : ∀ q, v8.ownBlock = some q → v3.ownBlock = some q ∨ w6.heap.size ≤ q := fun q hq => by
    rcases hg8.here with e | e
    · exact .inl (by rw [← e]; exact hq)
    · exact .inr (e q hq)
  have p3 : PsF (fun q => w.heap.size ≤ q) w8 v8 (woL lp job false ++ [⟨⟨job, ep, false, d⟩, .slice A6 nd c6⟩]) := WayF.mono p1 (fun q hq => by
    rcases hq with hq | hq
    · exact hq
    · omega)
  obtain ⟨h1, hc1⟩ := r.put hF hh hx8 p3 (fun x hx' => by
    rcases List.mem_append.1 hx' with hx' | hx'
    · refine ((r.dat x (woL_mem hx')).chg (Chg.of_ext (F := fun _ => False) hx8) (fun _ _ h => h)).mono (fun q hq => ⟨.inl hq.1, hq.2.1, fun e => ?_⟩)
      have h5 := hF q hq.1
      rcases hv8 q e with h6 | h6
      · have := hw.1.inF q h6; omega
      · omega
    · obtain rfl : x = ⟨⟨job, ep, false, d⟩, .slice A6 nd c6⟩ := by simpa using hx'
      refine (((RowF.made hg7).rdF).chg p2 (fun q hq e => ?_)).mono (fun q hq => ⟨.inr ⟨by omega, by omega⟩, by omega, fun e => ?_⟩)
      · have := h3l q e; omega
      · rcases hv8 q e with h6 | h6
        · have := h3l q h6; omega
        · omega)
  obtain ⟨h2, hc2⟩ := h1.count (.inl hh) k
  rw [List.map_append, woL_map, r.eq] at h2
  exact RsF.fin (w4 := w8) hF hh (Ext.refl w) (by simp) h2 (hc1.trans hc2 (fun q hq hh2 => by
    rcases hh2 with hh2 | hh2
    · exact hh2
    · omega))

set_option maxRecDepth 100000 in
set_option maxHeartbeats 4000000 in
theorem XStage_any (F : Fp) (h : Nat) (R : RsP) (t job ep : Int) (d : List UInt8) (A : Option Addr) (c : Nat) (w : World) (r : RsF F w h R) (hd : Rd w (.slice A d.length c) (d.map B)) (hdl : d.length ≤ 1000) (hl : R.L.length ≤ 900) (hb : bytesP R.L ≤ 1000000) (h0 : 0 ≤ R.writes) (h1 : R.writes ≤ 1000000) :
    Calls Try.prog 50 #[.pointer (some ⟨h, 0, none⟩), .int .i64 t, .int .i64 job, .int .i64 ep, .slice A d.length c] w fun e w' => e = .returned (.int .i64 (stageR R t job ep d).1) ∧ RsF (F.since w w') w' h (stageR R t job ep d).2 ∧ Chg F w w' := by
  have HR := Lib.hid r
  have HD := Lib.hid hd
  have HE1 := Lib.hid (fun W (hx : Ext w W) => REpoch_any (fun k => k = h) h R job false W ((r.ext hx).view) (by omega))
  have HE2 := Lib.hid (fun W (hx : Ext w W) => REpoch_any (fun k => k = h) h R job true W ((r.ext hx).view) (by omega))
  have HBS := Lib.hid hb
  have HLS := Lib.hid hl
  have HWR := Lib.hid (And.intro h0 h1)
  obtain ⟨lp, v, hi⟩ := r.out
  have HI := Lib.hid hi
  have HLP : Hid (lp.length ≤ 900) := Lib.hid (by have h1 := congrArg List.length hi.eq; rw [List.length_map] at h1; omega)
  have s1 : w.cell? ⟨h, 1, none⟩ = some (.int .i64 R.term) := hi.blk.cell 1
  obtain ⟨nd, hnd⟩ : ∃ n, n = d.length := ⟨_, rfl⟩
  obtain ⟨Q, hQ⟩ : ∃ Q, Q = stageR R t job ep d := ⟨_, rfl⟩
  rw [← hQ, ← hnd]
  unfold stageR at hQ
  rw [← hnd] at hQ hdl HD
  have HND := Lib.hid hnd
  have HDL := Lib.hid hdl
  clear r hd hi hnd hl hb h0 h1 hdl
  go_enter Try.func50, Try.ntmps50
  by_cases c1 : t < R.term
  · have d1 : decide (t < R.term) = true := decide_eq_true c1
    rw [if_pos c1] at hQ
    have HQ := Lib.hid hQ
    clear c1 hQ
    go_wp2
    go_ret
    exact ⟨by rw [HQ.out]; rfl, by rw [HQ.out]; exact HR.out.grow (Ext.refl _)⟩
  have d1 : decide (t < R.term) = false := decide_eq_false c1
  rw [if_neg c1] at hQ
  clear c1
  by_cases q0 : job < 1
  · have p0 : decide (job < 1) = true := decide_eq_true (by omega)
    rw [if_pos (fun hc => by have h9 := isJ_iff.1 hc.1; omega)] at hQ
    have HQ := Lib.hid hQ
    clear hQ q0
    go_wp2
    go_ret
    exact ⟨by rw [HQ.out]; rfl, by rw [HQ.out]; exact HR.out.grow (Ext.refl _)⟩
  have p0 : decide (job < 1) = false := decide_eq_false (by omega)
  by_cases q1 : 24 < job
  · have p1 : decide ((24 : Int) < job) = true := decide_eq_true (by omega)
    rw [if_pos (fun hc => by have h9 := isJ_iff.1 hc.1; omega)] at hQ
    have HQ := Lib.hid hQ
    clear hQ q0 q1
    go_wp2
    go_ret
    exact ⟨by rw [HQ.out]; rfl, by rw [HQ.out]; exact HR.out.grow (Ext.refl _)⟩
  have p1 : decide ((24 : Int) < job) = false := decide_eq_false (by omega)
  by_cases q2 : ep < 1
  · have p2 : decide (ep < 1) = true := decide_eq_true (by omega)
    rw [if_pos (fun hc => by have h9 := isJ_iff.1 hc.1; omega)] at hQ
    have HQ := Lib.hid hQ
    clear hQ q0 q1 q2
    go_wp2
    go_ret
    exact ⟨by rw [HQ.out]; rfl, by rw [HQ.out]; exact HR.out.grow (Ext.refl _)⟩
  have p2 : decide (ep < 1) = false := decide_eq_false (by omega)
  by_cases q3 : 1000000 < ep
  · have p3 : decide ((1000000 : Int) < ep) = true := decide_eq_true (by omega)
    rw [if_pos (fun hc => by have h9 := isJ_iff.1 hc.1; omega)] at hQ
    have HQ := Lib.hid hQ
    clear hQ q0 q1 q2 q3
    go_wp2
    go_ret
    exact ⟨by rw [HQ.out]; rfl, by rw [HQ.out]; exact HR.out.grow (Ext.refl _)⟩
  have p3 : decide ((1000000 : Int) < ep) = false := decide_eq_false (by omega)
  by_cases q4 : nd < 1
  · have p4 : decide ((nd : Int) < 1) = true := decide_eq_true (by omega)
    have p4' : decide (nd < 1) = true := decide_eq_true q4
    rw [if_pos (fun hc => by have h9 := isJ_iff.1 hc.1; omega)] at hQ
    have HQ := Lib.hid hQ
    clear hQ q0 q1 q2 q3 q4
    go_wp2
    go_ret
    exact ⟨by rw [HQ.out]; rfl, by rw [HQ.out]; exact HR.out.grow (Ext.refl _)⟩
  have p4 : decide ((nd : Int) < 1) = false := decide_eq_false (by omega)
  have p4' : decide (nd < 1) = false := decide_eq_false q4
  by_cases q5 : 100 < nd
  · have p5 : decide ((100 : Int) < (nd : Int)) = true := decide_eq_true (by omega)
    have p5' : decide (100 < nd) = true := decide_eq_true q5
    rw [if_pos (fun hc => by have h9 := isJ_iff.1 hc.1; omega)] at hQ
    have HQ := Lib.hid hQ
    clear hQ q0 q1 q2 q3 q4 q5
    go_wp2
    go_ret
    exact ⟨by rw [HQ.out]; rfl, by rw [HQ.out]; exact HR.out.grow (Ext.refl _)⟩
  have p5 : decide ((100 : Int) < (nd : Int)) = false := decide_eq_false (by omega)
  have p5' : decide (100 < nd) = false := decide_eq_false q5
  rw [if_neg (Classical.not_not.2 ⟨isJ_iff.2 ⟨by omega, by omega⟩, by omega, by omega, by omega, by omega⟩)] at hQ
  have HN100 : Hid (nd ≤ 100) := Lib.hid (by omega)
  clear q0 q1 q2 q3 q4 q5
  obtain ⟨es, hes⟩ : ∃ n, n = epochR R job false := ⟨_, rfl⟩
  obtain ⟨ec, hec⟩ : ∃ n, n = epochR R job true := ⟨_, rfl⟩
  rw [← hes, ← hec] at hQ
  rw [← hes] at HE1
  rw [← hec] at HE2
  clear hes hec
  go_wp2_with fail
  refine (HE1.out w (Ext.refl w)).mono ?_
  rintro e1 w1 ⟨rfl, rfl⟩
  go_wp2_with fail
  refine (HE2.out w (Ext.refl w)).mono ?_
  rintro e2 w2 ⟨rfl, rfl⟩
  clear HE1 HE2 d1 p0 p1 p2 p3 p4 p5 p4' p5'
  by_cases c6 : ep ≤ ec
  · have d6 : decide (ep ≤ ec) = true := decide_eq_true c6
    have HQ : Hid (Q = (6, R)) := Lib.hid (hQ.trans (if_pos (.inl c6)))
    clear c6 hQ
    go_wp2
    go_ret
    exact ⟨by rw [HQ.out]; rfl, by rw [HQ.out]; exact HR.out.grow (Ext.refl _)⟩
  have d6 : decide (ep ≤ ec) = false := decide_eq_false c6
  by_cases c7 : ep < es
  · have d7 : decide (ep < es) = true := decide_eq_true c7
    have HQ : Hid (Q = (6, R)) := Lib.hid (hQ.trans (if_pos (.inr c7)))
    clear c6 c7 hQ
    go_wp2
    go_ret
    exact ⟨by rw [HQ.out]; rfl, by rw [HQ.out]; exact HR.out.grow (Ext.refl _)⟩
  have d7 : decide (ep < es) = false := decide_eq_false c7
  rw [if_neg (fun hc => hc.elim c6 c7)] at hQ
  clear c6 c7
  by_cases c8 : ep = es
  · have d8 : (ep == es) = true := by rw [c8]; simp
    have HQ : Hid (Q = (0, R)) := Lib.hid (hQ.trans (if_pos c8))
    clear c8 hQ
    go_wp2
    go_ret
    exact ⟨by rw [HQ.out]; rfl, by rw [HQ.out]; exact HR.out.grow (Ext.refl _)⟩
  have d8 : (ep == es) = false := by simpa using c8
  rw [if_neg c8] at hQ
  clear c8
  have HW := Lib.hid (XWithout_any F h R lp v job false w HI.out HR.out.here (by have := HLP.out; omega))
  go_wp2_with fail
  refine HW.out.mono ?_
  rintro e3 w3 ⟨v3, rfl, hw3⟩
  obtain ⟨A3, c3, rfl, -, -, -⟩ := hw3.1.slice_
  have HW3 := Lib.hid hw3
  have hrd := WoR.rd HI.out HR.out.isIn HR.out.here hw3
  obtain ⟨n, hn⟩ : ∃ n, n = (woL lp job false).length := ⟨_, rfl⟩
  have HN := Lib.hid hn
  have HLN : Hid (n ≤ 900) := Lib.hid (by rw [hn]; exact Nat.le_trans (woL_len _ _ _) HLP.out)
  obtain ⟨nb, hnb⟩ : ∃ n, n = bytesP (withoutR R.L job false) := ⟨_, rfl⟩
  have hml : bytesP ((woL lp job false).map PtL.p) = nb := by rw [woL_map, HI.out.eq, hnb]
  have HNB : Hid (nb ≤ 1000000) := Lib.hid (by rw [hnb]; have h9 := bytes_split (hitP job false) R.L; unfold withoutR; have := HBS.out; omega)
  rw [← hnb] at hQ
  rw [← hn] at HW3 ⊢
  have KB : Hid (∀ W, Ext w3 W → Calls Try.prog 25 #[.slice A3 n c3] W fun e w' => e = .returned (.int .i64 (nb : Int)) ∧ Ext W w') := Lib.hid fun W hW => by
    have h8 := RBytes_any (fun k => k = h) (.slice A3 n c3) (woL lp job false) W (by rw [hn]; exact hrd.chg (G := fun _ => False) (Chg.of_ext hW) (fun _ h => h.elim)) (by rw [← hn]; have := HLN.out; omega) (by rw [hml]; have := HNB.out; omega)
    refine h8.mono ?_
    rintro e w' ⟨rfl, rfl⟩
    exact ⟨by rw [hml], Ext.refl _⟩
  have HX3 := Lib.hid hw3.2
  have HCR : Hid (∀ W', Ext w3 W' → W'.cell? ⟨h, 0, none⟩ = some (.int .i64 R.room)) := Lib.hid fun W' hW => (HI.out.blk.ext (HX3.out.trans hW)).cell 0
  obtain ⟨M, hM⟩ : ∃ M, M = (nb : Int) + (nd : Int) := ⟨_, rfl⟩
  have HM := Lib.hid hM
  have hw1 : wrap64 ((nb : Int) + (nd : Int)) = M := by rw [hM]; exact IntWalk.wrap64_in _ (by have := HDL.out; have := HNB.out; omega)
  have hw2 : IntKind.i64.wrap ((nb : Int) + (nd : Int)) = M := by rw [hM]; exact IntWalk.i64_in _ (by have := HDL.out; have := HNB.out; omega)
  rw [← hM] at hQ
  have HW12 := Lib.hid (And.intro hw1 hw2)
  clear hw1 hw2
  have HQ0 := Lib.hid hQ
  clear hw3 hrd hn hnb hml hM hQ HW d6 d7 d8 s1
  have HXD : Hid (Ext w3 w3.drew) := Lib.hid (Below.drewN' (Ext.refl w3) 1)
  go_upto_region 11 with (fail)
  refine held_begin (by kernel_rfl) ?_
  refine held_more (S' := fun W' : World => Ext w3 W') (fun _ _ => True.intro) ?_
  have hSx : (fun W' : World => Ext w3 W') w3.drew := HXD.out
  refine held_take (i := 0) (v := ?_) rfl (by kernel_rfl) (by kernel_rfl) (by kernel_rfl) (by rfl) (by first | assumption | exact True.intro) ?_ ?_
  rotate_left
  · (intro W hSw; go_simp; (try with_reducible rfl))
  try simp only [Act.put, List.setIfInBounds_toArray, List.set_cons_zero, List.set_cons_succ]
  refine held_take (i := 2) (v := ?_) rfl (by kernel_rfl) (by kernel_rfl) (by kernel_rfl) (by rfl) (by first | assumption | exact True.intro) ?_ ?_
  rotate_left
  · (intro W hSw; go_simp; (try with_reducible rfl))
  try simp only [Act.put, List.setIfInBounds_toArray, List.set_cons_zero, List.set_cons_succ]
  refine held_take (i := 3) (v := ?_) rfl (by kernel_rfl) (by kernel_rfl) (by kernel_rfl) (by rfl) (by first | assumption | exact True.intro) ?_ ?_
  rotate_left
  · (intro W hSw; go_simp; (try with_reducible rfl))
  try simp only [Act.put, List.setIfInBounds_toArray, List.set_cons_zero, List.set_cons_succ]
  refine held_take (i := 5) (v := ?_) rfl (by kernel_rfl) (by kernel_rfl) (by kernel_rfl) (by rfl) (by first | assumption | exact True.intro) ?_ ?_
  rotate_left
  · (intro W hSw; go_simp; (try with_reducible rfl))
  try simp only [Act.put, List.setIfInBounds_toArray, List.set_cons_zero, List.set_cons_succ]
  refine held_take (i := 6) (v := ?_) rfl (by kernel_rfl) (by kernel_rfl) (by kernel_rfl) (by rfl) (by first | assumption | exact True.intro) ?_ ?_
  rotate_left
  · (intro W hSw; go_simp; (try with_reducible rfl))
  try simp only [Act.put, List.setIfInBounds_toArray, List.set_cons_zero, List.set_cons_succ]
  refine held_take (i := 7) (v := ?_) rfl (by kernel_rfl) (by kernel_rfl) (by kernel_rfl) (by rfl) (by first | assumption | exact True.intro) ?_ ?_
  rotate_left
  · (intro W hSw; go_simp; (try with_reducible rfl))
  try simp only [Act.put, List.setIfInBounds_toArray, List.set_cons_zero, List.set_cons_succ]
  refine held_take (i := 8) (v := ?_) rfl (by kernel_rfl) (by kernel_rfl) (by kernel_rfl) (by rfl) (by first | assumption | exact True.intro) ?_ ?_
  rotate_left
  · (intro W hSw; have k0 := HCR.out W hSw; go_simp; (try with_reducible rfl))
  try simp only [Act.put, List.setIfInBounds_toArray, List.set_cons_zero, List.set_cons_succ]
  clear hSx
  refine held_op (i := 1) (by kernel_rfl) rfl (fun K hK => ?_)
  go_simp
  go_at_call 25
  refine (KB.out _ HXD.out).mono ?_
  rintro e5 w5 ⟨rfl, hx5⟩
  have HX5 := Lib.hid (HXD.out.trans hx5)
  clear hx5
  refine hK _ _ HX5.out (fun hSx => ?_)
  clear hK K
  try simp only [Act.put, List.setIfInBounds_toArray, List.set_cons_zero, List.set_cons_succ]
  refine held_take (i := 4) (v := ?_) rfl (by kernel_rfl) (by kernel_rfl) (by kernel_rfl) (by rfl) (by first | assumption | exact True.intro) ?_ ?_
  rotate_left
  · (intro W hSw; go_simp; (try with_reducible rfl))
  try simp only [Act.put, List.setIfInBounds_toArray, List.set_cons_zero, List.set_cons_succ]
  refine held_take (i := 9) (v := ?_) rfl (by kernel_rfl) (by kernel_rfl) (by kernel_rfl) (by rfl) (by first | assumption | exact True.intro) ?_ ?_
  rotate_left
  · (intro W hSw; go_simp; (try with_reducible rfl))
  try simp only [Act.put, List.setIfInBounds_toArray, List.set_cons_zero, List.set_cons_succ]
  clear hSx
  refine wpAnyH_done (by kernel_rfl) ?_ _
  refine NoPanic.normal ?_
  have HXW := Lib.hid (HX3.out.trans HX5.out)
  by_cases c9 : R.room < M
  · have d9 : decide (R.room < wrap64 ((nb : Int) + (nd : Int))) = true := by rw [HW12.out.1]; exact decide_eq_true c9
    have d9' : decide (R.room < IntKind.i64.wrap ((nb : Int) + (nd : Int))) = true := by rw [HW12.out.2]; exact decide_eq_true c9
    have HQ : Hid (Q = (3, R)) := Lib.hid (HQ0.out.trans (if_pos c9))
    clear c9
    (first | rw [d9'] | rw [d9])
    go_wp2
    go_ret
    exact ⟨by rw [HQ.out]; rfl, by rw [HQ.out]; exact HR.out.grow HXW.out⟩
  have d9 : decide (R.room < wrap64 ((nb : Int) + (nd : Int))) = false := by rw [HW12.out.1]; exact decide_eq_false c9
  have d9' : decide (R.room < IntKind.i64.wrap ((nb : Int) + (nd : Int))) = false := by rw [HW12.out.2]; exact decide_eq_false c9
  have HQ := Lib.hid (HQ0.out.trans (if_neg c9))
  clear c9
  (first | rw [d9'] | rw [d9])
  have hrD : Rd (w5.alloc (.cells #[] 5)) (.slice A nd c) (d.map B) := HD.out.ext (HXW.out.trans (Ext.alloc_ _ _))
  have hn41 : n + 1 ≤ 901 := by have := HLN.out; omega
  go_wp2_with (first | (at_builtin; refine app_u8 rfl _ _ rfl w5.heap.size _ [] rfl (own_none _ _ _ rfl) _ d rfl hrD (by simp; have := HN100.out; have := HND.out; omega) (by simp) ?_; intro v6 w6 hg6; rw [List.nil_append] at hg6; have hg7 := Grew.from_empty rfl hg6; obtain ⟨A6, c6, rfl⟩ := hg7.slice_ (n := nd) (by rw [List.length_map, HND.out]); have HG7 := Lib.hid hg7; have HX6 := Lib.hid (HX5.out.trans hg7.ext); clear hg6 hg7 hrD d9 d9') | (at_builtin; refine wpList_pushW (F := fun q => w.heap.size ≤ q) rfl _ _ 44 rfl 93 (.agg #[.int .i64 0, .int .i64 0, .bool false, .slice none 0 0]) 4 48 Try.underlying44 (by kernel_rfl) (by simp [Value.cells]) (by omega) _ _ _ (show WayF (fun q => w.heap.size ≤ q) w6 93 4 (.slice A3 n c3) n ((woL lp job false).flatMap PtL.cells) by have h1 := WayF.chg HW3.out.1 (Chg.of_ext (F := fun _ => False) HX6.out) (fun _ _ h => h); rw [← HN.out] at h1; exact h1) rfl #[.int .i64 job, .int .i64 ep, .bool false, .slice A6 nd c6] rfl (by simp [Value.oneCell']) rfl rfl (by unfold maxLen; omega) (by omega) ?_; intro v8 w8 hg8; have HG8 : Hid (WayG (.slice A3 n c3) w6 93 4 (n + 1) ((woL lp job false).flatMap PtL.cells ++ [.int .i64 job, .int .i64 ep, .bool false, .slice A6 nd c6]) v8 w8) := Lib.hid hg8; clear hg8; obtain ⟨A8, c8, rfl⟩ := own_slice HG8.out.own; have HB8 := Lib.hid ((HI.out.blk.ext (HX3.out.trans HX6.out)).grown HG8.out.grown (fun e => by have h1 := HW3.out.1.inF h e.symm; have := HR.out.lt; omega)); have c28 := HB8.out.cell 2; have f28 := HB8.out.frozen 2; have c38 := HB8.out.cell 3; have f38 := HB8.out.frozen 3))
  go_ret
  rw [show wrap64 (R.writes + 1) = R.writes + 1 from IntWalk.wrap64_in _ (by have := HWR.out; omega)]
  exact ⟨by rw [HQ.out]; rfl, by rw [HQ.out]; exact HI.out.staged HR.out.isIn HR.out.here HW3.out HN.out HX5.out HG7.out HG8.out _⟩

end Go.Proofs.Ytkkmldoohokdfaa

/- The reference's layer 1: a text's bytes. -/
namespace Go.Proofs.Ytkkmldoohokdfaa
open Go.RowKit

set_option maxHeartbeats 1000000 in
theorem RefText_any (s : ByteArray) (w : World) (hs : s.size ≤ 1099511627776) :
    Calls Try.prog 78 #[.string s] w fun e w' => ∃ v', e = .returned v' ∧ Grew w.heap.size 5 (.slice none 0 0) w ((numB s.size ++ s.data.toList).map B) v' w' := by
  have hlen := numB_len8 (n := s.size) (by omega)
  go_enter Try.func78, Try.ntmps78
  go_wp2_with (first | (go_at_call 79; refine (RefNum_yes s.size _ (by omega)).mono ?_; rintro e w' ⟨v', rfl, hg⟩))
  go_loopw [3, 4] (fun v' i' wr => ∃ k : Nat, i' = .int .i64 k ∧ k ≤ s.size ∧ Grew w.heap.size 5 (.slice none 0 0) w ((numB s.size ++ s.data.toList.take k).map B) v' wr) (fun _ i' _ => s.size - (intOf i').toNat)
  case atStart => exact ⟨0, rfl, by omega, by simpa using hg⟩
  case round =>
    obtain ⟨k, rfl, hk, hg⟩ := hrel
    have hl : ((numB s.size ++ s.data.toList.take k).map B).length < 140737488355328 := by
      rw [List.length_map, List.length_append, List.length_take]
      omega
    have hbw := hg.size
    by_cases hlt : k < s.size
    · go_wp2_with (first | (at_builtin; refine push_u8 rfl _ _ rfl w.heap.size _ _ rfl hg.1 _ rfl rfl hl hbw ?_; intro v' w' hg'))
      go_roundw
      case rel =>
        have hgg := hg.trans hg'
        have e : s.data.toList.take (k + 1) = s.data.toList.take k ++ [s[k]] := take_snoc s.data.toList k (by rw [Array.length_toList]; exact hlt)
        refine ⟨k + 1, by go_num, by omega, ?_⟩
        rw [e, ← List.append_assoc, List.map_append]
        exact hgg
      case measure => simp [intOf]; omega
    · obtain rfl : k = s.size := by omega
      go_wp2
      go_ret
      refine ⟨_, rfl, ?_⟩
      rw [List.take_of_length_le (by rw [Array.length_toList]; exact Nat.le_refl _)] at hg
      exact hg

end Go.Proofs.Ytkkmldoohokdfaa

/- The reference's Take. -/
namespace Go.Proofs.Ytkkmldoohokdfaa
open Go.RowKit

theorem goesA_iff {a : Ag} {m : Ms} : goesA a m = true ↔ a.up = true ∧ 1 ≤ m.kind ∧ m.kind ≤ 5 ∧ ¬ (m.term < a.term) ∧ ¬ (m.term = a.term ∧ m.gen < a.gen) := by
  unfold goesA elderA
  cases a.up <;> simp <;> omega
/-- The four blocks of a call of the reference's Take. -/
structure RkAt (w : World) (gl : Nat) (a1 al : Ag) (m : Ms) (W : World) : Prop where
  ag : AgAt W w.heap.size a1
  ms : MsAt W (w.heap.size + 1) m
  ze : Blk W (w.heap.size + 1 + 1) 56 #[.bool false, .int .i64 0, .int .i64 0, .int .i64 0, .int .i64 0, .int .i64 0, .int .i64 0, .int .i64 0, .int .i64 0, .int .i64 0]
  lo : AgAt W gl al
  ext : Ext w W
  here : gl = w.heap.size + 1 + 1 + 1
section
variable {w W W6 W9 : World} {gl : Nat} {a1 al a9 : Ag} {m : Ms}
theorem RkAt.made (hgl : gl = w.heap.size + 1 + 1 + 1) (b1 : Blk W w.heap.size 56 (agA a1)) (b2 : Blk W (w.heap.size + 1) 49 (msA m)) (b3 : Blk W (w.heap.size + 1 + 1) 56 #[.bool false, .int .i64 0, .int .i64 0, .int .i64 0, .int .i64 0, .int .i64 0, .int .i64 0, .int .i64 0, .int .i64 0, .int .i64 0]) (hx : Ext w W) (hb6 : Blk W6 gl 56 (agA al)) (hc : Chg (fun k => k = gl) W W6) : RkAt w gl a1 al m W6 :=
  ⟨⟨(hc.block _ b1.lt (by intro e; have e : w.heap.size = gl := e; omega)).trans b1⟩, ⟨(hc.block _ b2.lt (by intro e; have e : w.heap.size + 1 = gl := e; omega)).trans b2⟩, (hc.block _ b3.lt (by intro e; have e : w.heap.size + 1 + 1 = gl := e; omega)).trans b3, ⟨hb6⟩, hc.ext hx (fun k hk => by have hk : k = gl := hk; omega), hgl⟩
theorem RkAt.put (q : RkAt w gl a1 al m W) (hq : WB W w.heap.size 56 W9 (agA a9)) : RkAt w gl a9 al m W9 :=
  ⟨⟨hq.blk⟩, q.ms.chg hq.chg (by intro e; have e : w.heap.size + 1 = w.heap.size := e; omega), (hq.chg.block _ q.ze.lt (by intro e; have e : w.heap.size + 1 + 1 = w.heap.size := e; omega)).trans q.ze, q.lo.chg hq.chg (by intro e; have e : gl = w.heap.size := e; have := q.here; omega), hq.ext q.ext (Nat.le_refl _), q.here⟩
theorem RkAt.long (q : RkAt w gl a1 al m W) (hq : WB W gl 56 W9 (agA a9)) : RkAt w gl a1 a9 m W9 :=
  RkAt.made q.here q.ag.blk q.ms.blk q.ze q.ext hq.blk hq.chg
/-- The reference's store, and blocks of the caller's own that turned about it. -/
theorem RsF.over {F K : Fp} {w w4 w5 w9 : World} {h : Nat} {R' : RsP} (hF : F.isIn w) (hh : F h) (hx : Ext w w4) (r : RsF (F.since w4 w5) w5 h R') (hc : Chg F w4 w5) (hk : Chg K w5 w9) (hK : ∀ k, K k → w.heap.size ≤ k ∧ k < w4.heap.size) : RsF (F.since w w9) w9 h R' ∧ Chg F w w9 := by
  have r9 := r.chg hk (fun k hk1 hk2 => by
    have h2 := hK k hk2
    rcases hk1 with hk1 | hk1
    · have := hF k hk1; omega
    · omega)
  have s1 := hx.size
  have s2 := hc.size
  have s3 := hk.size
  obtain ⟨lp, v, hi⟩ := r9.out
  refine ⟨⟨⟨lp, v, hi.mono (fun k hk => ?_)⟩, hF.since (by omega), .inl hh⟩, ((Chg.of_ext (F := F) hx).trans hc (fun _ _ h => h)).trans hk (fun k hlt hkk => by have := hK k hkk; omega)⟩
  rcases hk with hk | hk
  · exact .inl hk
  · exact .inr ⟨by omega, by omega⟩
end

/-- What the reference's Take answers. -/
structure RkQ (a : Ag) (m : Ms) (now : Int) (h : Nat) (R : RsP) (F : Fp) (w : World) (e : Ending) (w' : World) : Prop where
  out : ∃ sv : Bool, e = .returned (.tuple #[agV (doA (toldA a m) m now sv), .bool true]) ∧ (asksA a m now = false → sv = true ∧ RsF (F.since w w') w' h R ∧ Chg F w w') ∧ (asksA a m now = true → sv = ((stageR R m.term a.job a.inc (svB a.worked)).1 == 0) ∧ RsF (F.since w w') w' h (stageR R m.term a.job a.inc (svB a.worked)).2 ∧ Chg F w w')

set_option maxRecDepth 100000 in
set_option maxHeartbeats 1000000 in
theorem RefTake_no (a : Ag) (m : Ms) (now : Int) (v : Option Addr) (w : World) (hg : goesA a m = false) : Calls Try.prog 36 #[agV a, msV m, .int .i64 now, .pointer v] w fun e w' => e = .returned (.tuple #[agV a, .bool false]) ∧ Ext w w' := by
  have HI := Lib.hid infoA_
  have HG := Lib.hid hg
  clear hg
  unfold agV msV
  cases hu : a.up with
  | false =>
    obtain ⟨h1, -, h3, hx⟩ := three_new w #[.bool false, .int .i64 a.term, .int .i64 a.gen, .int .i64 a.mode, .int .i64 a.job, .int .i64 a.inc, .int .i64 a.ver, .int .i64 a.lease, .int .i64 a.worked, .int .i64 a.aim] #[.int .i64 m.node, .int .i64 m.kind, .int .i64 m.term, .int .i64 m.gen, .int .i64 m.job, .int .i64 m.inc, .int .i64 m.ver, .int .i64 m.epoch, .int .i64 m.til, .int .i64 m.mode, .int .i64 m.work] #[.bool false, .int .i64 0, .int .i64 0, .int .i64 0, .int .i64 0, .int .i64 0, .int .i64 0, .int .i64 0, .int .i64 0, .int .i64 0] 56 49 56
    obtain ⟨W, hW⟩ : ∃ W, W = (((w.alloc (.cells #[.bool false, .int .i64 a.term, .int .i64 a.gen, .int .i64 a.mode, .int .i64 a.job, .int .i64 a.inc, .int .i64 a.ver, .int .i64 a.lease, .int .i64 a.worked, .int .i64 a.aim] 56)).alloc (.cells #[.int .i64 m.node, .int .i64 m.kind, .int .i64 m.term, .int .i64 m.gen, .int .i64 m.job, .int .i64 m.inc, .int .i64 m.ver, .int .i64 m.epoch, .int .i64 m.til, .int .i64 m.mode, .int .i64 m.work] 49)).alloc (.cells #[.bool false, .int .i64 0, .int .i64 0, .int .i64 0, .int .i64 0, .int .i64 0, .int .i64 0, .int .i64 0, .int .i64 0, .int .i64 0] 56)) := ⟨_, rfl⟩
    rw [← hW] at h1 h3 hx
    have HA : Hid (AgAt W w.heap.size a) := Lib.hid ⟨by rw [hu]; exact h1⟩
    have HB := Lib.hid h3
    have HX := Lib.hid hx
    have HU := Lib.hid hu
    clear h1 h3 hx hu
    go_enter Try.func36, Try.ntmps36
    go_upto_region 2 with (fail)
    rw [← hW]
    clear hW
    obtain ⟨c0, c1, c2, c3, c4, c5, c6, c7, c8, c9⟩ := HA.out.cells
    rw [HU.out] at c0
    have HO : Hid ((#[.bool false, .int .i64 a.term, .int .i64 a.gen, .int .i64 a.mode, .int .i64 a.job, .int .i64 a.inc, .int .i64 a.ver, .int .i64 a.lease, .int .i64 a.worked, .int .i64 a.aim] : Array Value).all (·.oneCell') = true) := Lib.hid (by simp [Value.oneCell'])
    go_wp2_with (refine wpList_storeB rfl 56 _ _ rfl (w.heap.size + 1 + 1) #[.bool false, .int .i64 a.term, .int .i64 a.gen, .int .i64 a.mode, .int .i64 a.job, .int .i64 a.inc, .int .i64 a.ver, .int .i64 a.lease, .int .i64 a.worked, .int .i64 a.aim] rfl rfl 56 _ HB.out HI.out rfl HO.out w.heap.size w HX.out (by omega) ?_; intro w9 hb9 hx9)
    exact bodyPost_ret (run_ctA rfl rfl rfl hb9 rfl) rfl ⟨rfl, hx9⟩
  | true =>
    obtain ⟨h1, -, h3, hx⟩ := three_new w #[.bool true, .int .i64 a.term, .int .i64 a.gen, .int .i64 a.mode, .int .i64 a.job, .int .i64 a.inc, .int .i64 a.ver, .int .i64 a.lease, .int .i64 a.worked, .int .i64 a.aim] #[.int .i64 m.node, .int .i64 m.kind, .int .i64 m.term, .int .i64 m.gen, .int .i64 m.job, .int .i64 m.inc, .int .i64 m.ver, .int .i64 m.epoch, .int .i64 m.til, .int .i64 m.mode, .int .i64 m.work] #[.bool false, .int .i64 0, .int .i64 0, .int .i64 0, .int .i64 0, .int .i64 0, .int .i64 0, .int .i64 0, .int .i64 0, .int .i64 0] 56 49 56
    obtain ⟨W, hW⟩ : ∃ W, W = (((w.alloc (.cells #[.bool true, .int .i64 a.term, .int .i64 a.gen, .int .i64 a.mode, .int .i64 a.job, .int .i64 a.inc, .int .i64 a.ver, .int .i64 a.lease, .int .i64 a.worked, .int .i64 a.aim] 56)).alloc (.cells #[.int .i64 m.node, .int .i64 m.kind, .int .i64 m.term, .int .i64 m.gen, .int .i64 m.job, .int .i64 m.inc, .int .i64 m.ver, .int .i64 m.epoch, .int .i64 m.til, .int .i64 m.mode, .int .i64 m.work] 49)).alloc (.cells #[.bool false, .int .i64 0, .int .i64 0, .int .i64 0, .int .i64 0, .int .i64 0, .int .i64 0, .int .i64 0, .int .i64 0, .int .i64 0] 56)) := ⟨_, rfl⟩
    rw [← hW] at h1 h3 hx
    have HA : Hid (AgAt W w.heap.size a) := Lib.hid ⟨by rw [hu]; exact h1⟩
    have HB := Lib.hid h3
    have HX := Lib.hid hx
    have HU := Lib.hid hu
    clear h1 h3 hx hu
    have HW := Lib.hid hW
    clear hW
    go_enter Try.func36, Try.ntmps36
    go_upto_region 1 with (fail)
    go_cut [46] (fun s wc => s = .bool true ∧ wc = (((w.alloc (.cells #[.bool true, .int .i64 a.term, .int .i64 a.gen, .int .i64 a.mode, .int .i64 a.job, .int .i64 a.inc, .int .i64 a.ver, .int .i64 a.lease, .int .i64 a.worked, .int .i64 a.aim] 56)).alloc (.cells #[.int .i64 m.node, .int .i64 m.kind, .int .i64 m.term, .int .i64 m.gen, .int .i64 m.job, .int .i64 m.inc, .int .i64 m.ver, .int .i64 m.epoch, .int .i64 m.til, .int .i64 m.mode, .int .i64 m.work] 49)).alloc (.cells #[.bool false, .int .i64 0, .int .i64 0, .int .i64 0, .int .i64 0, .int .i64 0, .int .i64 0, .int .i64 0, .int .i64 0, .int .i64 0] 56)))
    case first =>
      by_cases k1 : m.kind < 1
      · have d1 : decide (m.kind < 1) = true := decide_eq_true k1
        clear k1
        go_wp2_with fail
        go_meet
        exact ⟨rfl, rfl⟩
      have d1 : decide (m.kind < 1) = false := decide_eq_false k1
      by_cases k2 : 5 < m.kind
      · have d2 : decide ((5 : Int) < m.kind) = true := decide_eq_true k2
        clear k1 k2
        go_wp2_with fail
        go_meet
        exact ⟨rfl, rfl⟩
      have d2 : decide ((5 : Int) < m.kind) = false := decide_eq_false k2
      by_cases k3 : m.term < a.term
      · have d3 : decide (m.term < a.term) = true := decide_eq_true k3
        clear k1 k2 k3
        go_wp2_with fail
        go_meet
        exact ⟨rfl, rfl⟩
      have d3 : decide (m.term < a.term) = false := decide_eq_false k3
      have k4 : m.term = a.term ∧ m.gen < a.gen := Classical.byContradiction fun hc => by have h9 := goesA_iff.2 ⟨HU.out, Int.not_lt.1 k1, Int.not_lt.1 k2, k3, hc⟩; rw [HG.out] at h9; exact absurd h9 (by decide)
      have d4 : (m.term == a.term) = true := by rw [k4.1]; simp
      have d5 : decide (m.gen < a.gen) = true := decide_eq_true k4.2
      clear k1 k2 k3 k4
      go_wp2_with fail
      go_meet
      exact ⟨rfl, rfl⟩
    case rest =>
      obtain ⟨rfl, hw⟩ := hcut
      rw [hw, ← HW.out]
      clear hw
      obtain ⟨c0, c1, c2, c3, c4, c5, c6, c7, c8, c9⟩ := HA.out.cells
      rw [HU.out] at c0
      have HO : Hid ((#[.bool true, .int .i64 a.term, .int .i64 a.gen, .int .i64 a.mode, .int .i64 a.job, .int .i64 a.inc, .int .i64 a.ver, .int .i64 a.lease, .int .i64 a.worked, .int .i64 a.aim] : Array Value).all (·.oneCell') = true) := Lib.hid (by simp [Value.oneCell'])
      go_wp2_with (refine wpList_storeB rfl 56 _ _ rfl (w.heap.size + 1 + 1) #[.bool true, .int .i64 a.term, .int .i64 a.gen, .int .i64 a.mode, .int .i64 a.job, .int .i64 a.inc, .int .i64 a.ver, .int .i64 a.lease, .int .i64 a.worked, .int .i64 a.aim] rfl rfl 56 _ HB.out HI.out rfl HO.out w.heap.size w HX.out (by omega) ?_; intro w9 hb9 hx9)
      exact bodyPost_ret (run_ctA rfl rfl rfl hb9 rfl) rfl ⟨rfl, hx9⟩

end Go.Proofs.Ytkkmldoohokdfaa

/- The reference's Take: an order of kind 1. -/
namespace Go.Proofs.Ytkkmldoohokdfaa
open Go.RowKit

set_option maxRecDepth 100000 in
set_option maxHeartbeats 8000000 in
theorem RefTake_k1 (a : Ag) (m : Ms) (now : Int) (h : Nat) (R : RsP) (F : Fp) (w : World) (hg : goesA a m = true) (hk : m.kind = 1) (r : RsF F w h R) (h0 : 0 ≤ a.worked) (h1 : a.worked ≤ 1000000000) (hl : R.L.length ≤ 900) (hb : bytesP R.L ≤ 1000000) (hw0 : 0 ≤ R.writes) (hw1 : R.writes ≤ 1000000) :
    Calls Try.prog 36 #[agV a, msV m, .int .i64 now, .pointer (some ⟨h, 0, none⟩)] w fun e w' => RkQ a m now h R F w e w' := by
  have HK := Lib.hid hk
  clear hk
  have HR := Lib.hid r
  have HBD := Lib.hid (And.intro h0 (And.intro h1 (And.intro hl (And.intro hb (And.intro hw0 hw1)))))
  have HG := Lib.hid (goesA_iff.1 hg)
  have HGA := Lib.hid hg
  clear r h0 h1 hl hb hw0 hw1 hg
  have HI := Lib.hid infoA_
  have HO1 := Lib.hid (agA_one ({ a with up := true, term := m.term, gen := m.gen } : Ag))
  have HT1 : Hid (toldA a m = ({ a with up := true, term := m.term, gen := m.gen } : Ag)) := Lib.hid (by have h9 := HG.out.1; unfold toldA; rw [← h9])
  unfold agV msV
  rw [HG.out.1]
  go_enter Try.func36, Try.ntmps36
  go_upto_region 1 with (fail)
  go_cut [46] (fun s wc => s = .bool false ∧ wc = (((w.alloc (.cells #[.bool true, .int .i64 a.term, .int .i64 a.gen, .int .i64 a.mode, .int .i64 a.job, .int .i64 a.inc, .int .i64 a.ver, .int .i64 a.lease, .int .i64 a.worked, .int .i64 a.aim] 56)).alloc (.cells #[.int .i64 m.node, .int .i64 m.kind, .int .i64 m.term, .int .i64 m.gen, .int .i64 m.job, .int .i64 m.inc, .int .i64 m.ver, .int .i64 m.epoch, .int .i64 m.til, .int .i64 m.mode, .int .i64 m.work] 49)).alloc (.cells #[.bool false, .int .i64 0, .int .i64 0, .int .i64 0, .int .i64 0, .int .i64 0, .int .i64 0, .int .i64 0, .int .i64 0, .int .i64 0] 56)))
  case first =>
    obtain ⟨-, k1, k2, k3, k4⟩ := HG.out
    have d1 : decide (m.kind < 1) = false := decide_eq_false (by omega)
    have d2 : decide ((5 : Int) < m.kind) = false := decide_eq_false (by omega)
    have d3 : decide (m.term < a.term) = false := decide_eq_false k3
    by_cases k5 : m.term = a.term
    · have d4 : (m.term == a.term) = true := by rw [k5]; simp
      have d5 : decide (m.gen < a.gen) = false := decide_eq_false (fun hc => k4 ⟨k5, hc⟩)
      clear k1 k2 k3 k4 k5
      go_wp2_with fail
      go_meet
      exact ⟨rfl, rfl⟩
    · have d4 : (m.term == a.term) = false := by simpa using k5
      clear k1 k2 k3 k4 k5
      go_wp2_with fail
      go_meet
      exact ⟨rfl, rfl⟩
  case rest =>
    obtain ⟨rfl, rfl⟩ := hcut
    obtain ⟨sm, hsm⟩ : ∃ s, s = (decide (a.job = m.job) && decide (a.inc = m.inc)) := ⟨_, rfl⟩
    go_upto_region 5 with (fail)
    go_cut [10] (fun s wc => s = .bool sm ∧ wc = (((w.alloc (.cells #[.bool true, .int .i64 m.term, .int .i64 m.gen, .int .i64 a.mode, .int .i64 a.job, .int .i64 a.inc, .int .i64 a.ver, .int .i64 a.lease, .int .i64 a.worked, .int .i64 a.aim] 56)).alloc (.cells #[.int .i64 m.node, .int .i64 m.kind, .int .i64 m.term, .int .i64 m.gen, .int .i64 m.job, .int .i64 m.inc, .int .i64 m.ver, .int .i64 m.epoch, .int .i64 m.til, .int .i64 m.mode, .int .i64 m.work] 49)).alloc (.cells #[.bool false, .int .i64 0, .int .i64 0, .int .i64 0, .int .i64 0, .int .i64 0, .int .i64 0, .int .i64 0, .int .i64 0, .int .i64 0] 56)))
    case first =>
      by_cases hj : a.job = m.job
      · have e1 : (a.job == m.job) = true := by rw [hj]; simp
        by_cases hi : a.inc = m.inc
        · have e2 : (a.inc == m.inc) = true := by rw [hi]; simp
          have HS : Hid (sm = true) := Lib.hid (by rw [hsm]; simp [hj, hi])
          clear hsm hj hi
          go_wp2_with fail
          go_meet
          exact ⟨by rw [HS.out], rfl⟩
        · have e2 : (a.inc == m.inc) = false := by simpa using hi
          have HS : Hid (sm = false) := Lib.hid (by rw [hsm]; simp [hj, hi])
          clear hsm hj hi
          go_wp2_with fail
          go_meet
          exact ⟨by rw [HS.out], rfl⟩
      · have e1 : (a.job == m.job) = false := by simpa using hj
        have HS : Hid (sm = false) := Lib.hid (by rw [hsm]; simp [hj])
        clear hsm hj
        go_wp2_with fail
        go_meet
        exact ⟨by rw [HS.out], rfl⟩
    case rest =>
      obtain ⟨rfl, hw⟩ := hcut
      obtain ⟨b1, b2, b3, hx⟩ := three_new w #[.bool true, .int .i64 m.term, .int .i64 m.gen, .int .i64 a.mode, .int .i64 a.job, .int .i64 a.inc, .int .i64 a.ver, .int .i64 a.lease, .int .i64 a.worked, .int .i64 a.aim] #[.int .i64 m.node, .int .i64 m.kind, .int .i64 m.term, .int .i64 m.gen, .int .i64 m.job, .int .i64 m.inc, .int .i64 m.ver, .int .i64 m.epoch, .int .i64 m.til, .int .i64 m.mode, .int .i64 m.work] #[.bool false, .int .i64 0, .int .i64 0, .int .i64 0, .int .i64 0, .int .i64 0, .int .i64 0, .int .i64 0, .int .i64 0, .int .i64 0] 56 49 56
      have HGL : Hid (wc.heap.size = w.heap.size + 1 + 1 + 1) := Lib.hid (by rw [hw]; simp)
      rw [← hw] at b1 b2 b3 hx
      have HB1 := Lib.hid (b1.alloc (.cells #[.bool false, .int .i64 0, .int .i64 0, .int .i64 0, .int .i64 0, .int .i64 0, .int .i64 0, .int .i64 0, .int .i64 0, .int .i64 0] 56))
      have HB2 := Lib.hid (b2.alloc (.cells #[.bool false, .int .i64 0, .int .i64 0, .int .i64 0, .int .i64 0, .int .i64 0, .int .i64 0, .int .i64 0, .int .i64 0, .int .i64 0] 56))
      have HB3 := Lib.hid (b3.alloc (.cells #[.bool false, .int .i64 0, .int .i64 0, .int .i64 0, .int .i64 0, .int .i64 0, .int .i64 0, .int .i64 0, .int .i64 0, .int .i64 0] 56))
      have HX4 := Lib.hid (hx.trans (Ext.alloc_ wc (.cells #[.bool false, .int .i64 0, .int .i64 0, .int .i64 0, .int .i64 0, .int .i64 0, .int .i64 0, .int .i64 0, .int .i64 0, .int .i64 0] 56)))
      have HB4 := Lib.hid (Blk.new wc 56 #[.bool false, .int .i64 0, .int .i64 0, .int .i64 0, .int .i64 0, .int .i64 0, .int .i64 0, .int .i64 0, .int .i64 0, .int .i64 0])
      have HA0 : Hid (AgAt wc w.heap.size ({ a with up := true, term := m.term, gen := m.gen } : Ag)) := Lib.hid ⟨b1⟩
      clear b1 b2 b3 hx hw
      obtain ⟨c0, c1, c2, c3, c4, c5, c6, c7, c8, c9⟩ := HA0.out.cells
      go_upto_region 7 with (refine wpList_storeC rfl 56 _ _ rfl wc.heap.size (agA ({ a with up := true, term := m.term, gen := m.gen } : Ag)) rfl rfl 56 _ HB4.out HI.out rfl HO1.out ?_; intro W6 hb6 hc6)
      clear c0 c1 c2 c3 c4 c5 c6 c7 c8 c9 HA0
      obtain ⟨gl, hgl⟩ : ∃ q, q = wc.heap.size := ⟨_, rfl⟩
      rw [← hgl] at hb6 hc6 HGL ⊢
      clear hgl
      have HT6 : Hid (RkAt w gl ({ a with up := true, term := m.term, gen := m.gen } : Ag) ({ a with up := true, term := m.term, gen := m.gen } : Ag) m W6) := Lib.hid (RkAt.made HGL.out HB1.out HB2.out HB3.out HX4.out hb6 hc6)
      have HIS : Hid (∀ k, isA ({ a with up := true, term := m.term, gen := m.gen } : Ag) m k = (decide (a.mode = k) && sm)) := Lib.hid (fun k => by unfold isA; rw [hsm, Bool.and_assoc])
      have HAK : Hid (asksA a m now = (decide (m.kind = 4) && (decide (a.mode = 2) && sm) && decide (now < a.lease) && decide (m.mode = 1))) := Lib.hid (by unfold asksA dueA isA; rw [HGA.out, hsm, Bool.true_and, Bool.and_assoc (decide (a.mode = 2))])
      clear hb6 hc6 hsm HB1 HB2 HB3 HB4 HX4 HO1
      obtain ⟨a1, ha1⟩ : ∃ x, x = ({ a with up := true, term := m.term, gen := m.gen } : Ag) := ⟨_, rfl⟩
      rw [← ha1] at HT6 HIS HT1
      have HAE : Hid (a.mode = a1.mode ∧ a.job = a1.job ∧ a.inc = a1.inc ∧ a.lease = a1.lease ∧ a.worked = a1.worked) := Lib.hid (by rw [ha1]; exact ⟨rfl, rfl, rfl, rfl, rfl⟩)
      rw [HAE.out.1] at HIS HAK
      rw [HAE.out.2.2.2.1] at HAK
      clear ha1
      obtain ⟨c0, c1, c2, c3, c4, c5, c6, c7, c8, c9⟩ := HT6.out.ag.cells
      obtain ⟨m0, m1, m2, m3, m4, m5, m6, m7, m8, m9, m10⟩ := HT6.out.ms.cells
      go_upto_if 71 with (fail)
      go_cut [] (fun wx => Hid (RkAt w gl a1 (longA a1 m) m wx))
      case first =>
        by_cases hl : a1.lease < m.til
        · have d : decide (a1.lease < m.til) = true := decide_eq_true hl
          have f7 := HT6.out.lo.blk.frozen 7
          have l7 := HT6.out.lo.blk.cell 7
          have hq := (WB.start HT6.out.lo.blk).set 7 (.int .i64 m.til)
          simp only [List.setIfInBounds_toArray, List.set_cons_zero, List.set_cons_succ] at hq
          have HN := Lib.hid (HT6.out.long (a9 := longA a1 m) (by unfold longA; rw [show max a1.lease m.til = m.til by omega]; exact hq))
          clear hq hl
          rw [d]
          go_wp2_with fail
          go_meet
          exact HN
        · have d : decide (a1.lease < m.til) = false := decide_eq_false hl
          have HN : Hid (RkAt w gl a1 (longA a1 m) m W6) := Lib.hid (by have h9 := HT6.out; unfold longA; rw [show max a1.lease m.til = a1.lease by omega]; exact h9)
          clear hl
          rw [d]
          go_wp2_with fail
          go_meet
          exact HN
      case rest =>
        have HT := hcut
        clear hcut HT6 c0 c1 c2 c3 c4 c5 c6 c7 c8 c9 m0 m1 m2 m3 m4 m5 m6 m7 m8 m9 m10
        obtain ⟨c0, c1, c2, c3, c4, c5, c6, c7, c8, c9⟩ := HT.out.ag.cells
        obtain ⟨m0, m1, m2, m3, m4, m5, m6, m7, m8, m9, m10⟩ := HT.out.ms.cells
        have k1 : m.kind = 1 := HK.out
        have g1 : (m.kind == 1) = true := by rw [k1]; rfl
        by_cases hm : a1.mode = 4
        · have e1 : (a1.mode != 4) = false := by rw [hm]; rfl
          have HD : Hid (doA a1 m now true = a1) := Lib.hid (by unfold doA; simp [k1, HIS.out, hm])
          have HNA : Hid (¬ asksA a m now = true) := Lib.hid (by rw [HAK.out]; simp [k1, hm])
          have HO := Lib.hid (agA_one a1)
          clear hm k1
          go_upto_region 39 with (fail)
          have HT9 := HT
          clear c0 c1 c2 c3 c4 c5 c6 c7 c8 c9
          obtain ⟨c0, c1, c2, c3, c4, c5, c6, c7, c8, c9⟩ := HT9.out.ag.cells
          repeat (first | (go_big_may; refine wpList_storeB rfl 56 _ _ rfl (w.heap.size + 1 + 1) (agA a1) rfl rfl 56 _ HT9.out.ze HI.out rfl HO.out w.heap.size w HT9.out.ext (by omega) ?_; intro w9 hb9 hx9) | go_values | go_skip | go_guarded | go_step | go_upon)
          exact bodyPost_ret (run_ctA rfl rfl rfl hb9 rfl) rfl ⟨⟨true, by rw [HT1.out, HD.out]; rfl, fun _ => ⟨rfl, HR.out.grow hx9⟩, fun hc => absurd hc HNA.out⟩⟩
        · have e1 : (a1.mode != 4) = true := by simp only [bne_iff_ne, ne_eq]; exact hm
          have HD : Hid (doA a1 m now true = looseA a1) := Lib.hid (by unfold doA; simp [k1, HIS.out, hm])
          have HNA : Hid (¬ asksA a m now = true) := Lib.hid (by rw [HAK.out]; simp [k1, hm])
          have HO := Lib.hid (agA_one (looseA a1))
          have HLO := Lib.hid (RefLoose_any a1 wc)
          unfold agV at HLO
          clear hm k1
          go_wp2_with fail
          refine HLO.out.mono ?_
          rintro e9 w8 ⟨rfl, hx8⟩
          have HZ8 := Lib.hid (HT.out.ze.ext hx8)
          have HX8 := Lib.hid (HT.out.ext.trans hx8)
          clear hx8
          go_wp2_with (refine wpList_storeB rfl 56 _ _ rfl (w.heap.size + 1 + 1) (agA (looseA a1)) rfl rfl 56 _ HZ8.out HI.out rfl HO.out w.heap.size w HX8.out (by omega) ?_; intro w9 hb9 hx9)
          exact bodyPost_ret (run_ctA rfl rfl rfl hb9 rfl) rfl ⟨⟨true, by rw [HT1.out, HD.out]; rfl, fun _ => ⟨rfl, HR.out.grow hx9⟩, fun hc => absurd hc HNA.out⟩⟩

end Go.Proofs.Ytkkmldoohokdfaa
