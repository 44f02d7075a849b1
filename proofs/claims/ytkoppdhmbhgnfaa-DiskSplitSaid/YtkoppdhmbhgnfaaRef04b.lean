/- Layer 4, the reference: a crash, a sync, the bytes as they are read. -/
import Derived.Test.YtkoppdhmbhgnfaaRef04
namespace Go.Proofs.Ytkoppdhmbhgnfaa
open Go.RowKit

section
variable {F : Fp} {w w' : World} {g : Nat} {bs : List UInt8} {as_ : List Nat} {vs : List UInt8} {n : Int} {vB vA vV : Value}
/-- One byte that lasts is written. -/
theorem RefDk.setB {gB N cB : Nat} (h : RefDk F w g bs as_ vs n (.slice (some ⟨gB, 0, none⟩) N cB) vA vV) (j : Nat) (x : UInt8) :
    RefDk F (w.setCell ⟨gB, j, none⟩ (B x)) g (bs.set j x) as_ vs n (.slice (some ⟨gB, 0, none⟩) N cB) vA vV ∧ Chg F w (w.setCell ⟨gB, j, none⟩ (B x)) := by
  have hg := (Grew.start h.rowB).set j (B x)
  obtain ⟨h1, h2⟩ := ObjF.grew h 0 (by simp) rfl hg
  refine ⟨?_, h2⟩
  have hs : (w.setCell ⟨gB, j, none⟩ (B x)).heap.size = w.heap.size := by simp
  have h3 := ObjF.mono h1 (G := F) (fun k hk => by
    rcases hk with hk | hk
    · exact hk
    · rw [hs] at hk
      omega) ((ObjF.isIn h).chg h2)
  unfold RefDk
  have e : (bs.set j x).map B = (bs.map B).set j (B x) := by rw [List.map_set]
  have e2 : (bs.set j x).length = ((bs.map B).set j (B x)).length := by simp
  rw [e, e2]
  exact h3
theorem RefDk.formB (h : RefDk F w g bs as_ vs n vB vA vV) (h0 : 0 < bs.length) : ∃ gB cB, vB = .slice (some ⟨gB, 0, none⟩) bs.length cB ∧ bs.length ≤ cB := by
  obtain ⟨gB, cB, hv, hc, _⟩ := (Grew.start h.rowB).form (by rw [List.length_map]; exact h0)
  rw [List.length_map] at hv hc
  exact ⟨gB, cB, hv, hc⟩
theorem RefDk.dropA (h : RefDk F w g bs as_ vs n vB vA vV) : RefDk F (w.setCell ⟨g, 1, none⟩ (.slice none 0 0)) g bs [] vs n vB (.slice none 0 0) vV ∧ Chg F w (w.setCell ⟨g, 1, none⟩ (.slice none 0 0)) :=
  ObjF.drop h 1 1 (by simp) 3 1
theorem RefDk.dropV (h : RefDk F w g bs as_ vs n vB vA vV) : RefDk F (w.setCell ⟨g, 2, none⟩ (.slice none 0 0)) g bs as_ [] n vB vA (.slice none 0 0) ∧ Chg F w (w.setCell ⟨g, 2, none⟩ (.slice none 0 0)) :=
  ObjF.drop h 2 2 (by simp) 5 1
end

/-- How far a crash has come. -/
def CrashSt (F : Fp) (w : World) (g : Nat) (bs : List UInt8) (as_ : List Nat) (vs : List UInt8) (n : Int) (vB vA vV : Value) (kp : Nat) (v : Value) (wr : World) : Prop :=
  ∃ k : Nat, v = .int .i64 k ∧ k ≤ as_.length ∧ k ≤ kp ∧ RefDk F wr g (putAll bs ((as_.zip vs).take k)) as_ vs n vB vA vV ∧ Chg F w wr

set_option maxHeartbeats 1000000 in
theorem RefCrash_any (F : Fp) (g : Nat) (bs : List UInt8) (as_ : List Nat) (vs : List UInt8) (n : Int) (vB vA vV : Value) (keep : Int) (w : World) (hd : RefDk F w g bs as_ vs n vB vA vV)
    (hl : as_.length = vs.length) (hlt : ∀ a ∈ as_, a < bs.length) (hlen : as_.length ≤ 1000000000) :
    Calls Try.prog 28 #[.pointer (some ⟨g, 0, none⟩), .int .i64 keep] w fun e w' =>
      e = .returned (.tuple #[]) ∧ RefDk F w' g (putAll bs ((as_.zip vs).take keep.toNat)) [] [] n vB (.slice none 0 0) (.slice none 0 0) ∧ Chg F w w' := by
  obtain ⟨AA, cA, rfl⟩ := hd.slA
  have hv2 := (Rd.own hd.rowV).sliceN (n := as_.length) (by rw [List.length_map, hl])
  obtain ⟨AV, cV, rfl, _, _⟩ := hv2
  have HD := Lib.hid hd
  have HL := Lib.hid hl
  have HLT := Lib.hid hlt
  clear hd hl hlt
  go_enter Try.func28, Try.ntmps28
  go_wp2
  go_loopw [4] (fun i' wr => CrashSt F w g bs as_ vs n vB (.slice AA as_.length cA) (.slice AV as_.length cV) keep.toNat i' wr) (fun i' _ => as_.length - (intOf i').toNat)
  case atStart => exact ⟨0, rfl, Nat.zero_le _, Nat.zero_le _, HD.out, Chg.refl _ _⟩
  case round =>
    obtain ⟨k, rfl, hk, hkp, hd, hc⟩ := hrel
    have c1 := hd.c1
    by_cases hlt : k < as_.length ∧ (k : Int) < keep
    · obtain ⟨hlt, hlk⟩ := hlt
      have hlv : k < vs.length := by have := HL.out; omega
      have ha := HLT.out as_[k] (List.getElem_mem hlt)
      have hbl := putAll_len bs ((as_.zip vs).take k)
      have hz : (as_.zip vs).take (k + 1) = (as_.zip vs).take k ++ [(as_[k], vs[k])] := by
        rw [List.take_succ_eq_append_getElem (by rw [List.length_zip]; omega), List.getElem_zip]
      have hstep : putAll bs ((as_.zip vs).take (k + 1)) = (putAll bs ((as_.zip vs).take k)).set as_[k] vs[k] := by rw [hz, putAll_snoc]
      obtain ⟨gB, cB, rfl, hcB⟩ := hd.formB (by rw [hbl]; omega)
      have hcB2 : cB ≤ maxLen := by
        obtain ⟨_, _, e, _, h⟩ := (Rd.own hd.rowB).sliceN (List.length_map _)
        injection e with _ _ e
        rw [e]
        exact h
      unfold maxLen at hcB2
      have hstB := Grew.start hd.rowB
      have hB0 := hstB.cellAt as_[k] (by rw [List.length_map, hbl]; exact ha)
      rw [List.getElem?_map, List.getElem?_eq_getElem (by rw [hbl]; exact ha), Option.map_some] at hB0
      have hBz : ∃ z : UInt8, wr.cell? ⟨gB, as_[k], none⟩ = some (B z) := ⟨_, hB0⟩
      clear hB0
      obtain ⟨z, hB0⟩ := hBz
      have hBf := hstB.frozenAt as_[k]
      obtain ⟨gA, oA, rfl, hgA, hcA⟩ := (Rd.own hd.rowA).get (by rw [List.length_map]; omega)
      have eA : wr.cell? ⟨gA, oA + k, none⟩ = some (.int .i64 (as_[k] : Int)) := hcA k _ (by rw [List.getElem?_map, List.getElem?_eq_getElem hlt]; rfl)
      obtain ⟨gV, oV, rfl, hgV, hcV⟩ := (Rd.own hd.rowV).get (by rw [List.length_map]; omega)
      have eV : wr.cell? ⟨gV, oV + k, none⟩ = some (B vs[k]) := hcV k _ (by rw [List.getElem?_map, List.getElem?_eq_getElem hlv]; rfl)
      have c0 := hd.c0
      have c2 := hd.c2
      have hset := hd.setB as_[k] vs[k]
      rw [← hstep] at hset
      rw [hbl] at c0
      have HS := Lib.hid hset
      have HC := Lib.hid hc
      have hab : as_[k] < bs.length := ha
      clear hcA hcV hset hc hstB hd hz hstep hbl ha
      generalize as_[k] = a at *
      generalize vs[k] = x at *
      simp only [B] at eV hB0
      go_wp2
      go_still_tail 19, (by kernel_rfl)
      change wpList _ _ _ _ _ wr.drew
      go_wp2
      refine ⟨⟨k + 1, by go_num, by omega, by omega, RefDk.drew HS.out.1, (HC.out.trans HS.out.2 (fun _ _ h => h)).drew⟩, ?_⟩
      simp [intOf]
      omega
    · have hfin : putAll bs ((as_.zip vs).take k) = putAll bs ((as_.zip vs).take keep.toNat) := by
        by_cases hk2 : k < as_.length
        · rw [show keep.toNat = k by omega]
        · rw [List.take_of_length_le (by rw [List.length_zip]; omega), List.take_of_length_le (by rw [List.length_zip]; omega)]
      rw [hfin] at hd
      have hcase : (k < as_.length ∧ keep ≤ (k : Int)) ∨ as_.length ≤ k := by omega
      have f1 := hd.fr 1
      have f2 := hd.fr 2
      have c2 := hd.c2
      obtain ⟨h1, hc1⟩ := hd.dropA
      obtain ⟨h2, hc2⟩ := h1.dropV
      have HDD := Lib.hid h2
      have HC := Lib.hid ((hc.trans hc1 (fun _ _ h => h)).trans hc2 (fun _ _ h => h))
      have c2' := h1.c2
      have f2' := h1.fr 2
      clear hd hc hfin hlt h1 h2 hc1 hc2
      rcases hcase with ⟨ha, hb⟩ | ha
      · go_wp2
        go_end0
        exact ⟨rfl, HDD.out, HC.out⟩
      · go_wp2
        go_end0
        exact ⟨rfl, HDD.out, HC.out⟩

set_option maxHeartbeats 400000 in
theorem RefSync_any (F : Fp) (g : Nat) (bs : List UInt8) (as_ : List Nat) (vs : List UInt8) (n : Int) (vB vA vV : Value) (w : World) (hd : RefDk F w g bs as_ vs n vB vA vV)
    (hl : as_.length = vs.length) (hlt : ∀ a ∈ as_, a < bs.length) (hlen : as_.length ≤ 1000000000) (hn0 : 0 ≤ n) (hn : n ≤ 1000000000) :
    Calls Try.prog 27 #[.pointer (some ⟨g, 0, none⟩)] w fun e w' =>
      e = .returned (.tuple #[]) ∧ RefDk F w' g (putAll bs (as_.zip vs)) [] [] (n + 1) vB (.slice none 0 0) (.slice none 0 0) ∧ Chg F w w' := by
  have hz : (as_.zip vs).take (as_.length : Int).toNat = as_.zip vs := by rw [Int.toNat_natCast, List.take_of_length_le (by rw [List.length_zip]; omega)]
  have hcr := RefCrash_any F g bs as_ vs n vB vA vV (as_.length : Int) w hd hl hlt hlen
  rw [hz] at hcr
  have HCR := Lib.hid hcr
  obtain ⟨AA, cA, rfl⟩ := hd.slA
  have c1 := hd.c1
  have HD := Lib.hid hd
  clear hd hcr hz hl hlt
  go_enter Try.func27, Try.ntmps27
  go_wp2_with fail
  refine HCR.out.mono ?_
  rintro e w1 ⟨rfl, hd1, hc1⟩
  have c3 := hd1.c3
  have f3 := hd1.fr 3
  have hset := ObjF.setCell hd1 3 (.int .i64 (n + 1))
  have HS := Lib.hid hset
  have HC := Lib.hid hc1
  clear hd1 hset hc1
  go_wp2
  go_end0
  exact ⟨rfl, HS.out.1, HC.out.trans HS.out.2 (fun _ _ h => h)⟩

theorem RefBytes4_any (F : Fp) (g : Nat) (bs : List UInt8) (as_ : List Nat) (vs : List UInt8) (n : Int) (vB vA vV : Value) (w : World) (hd : RefDk F w g bs as_ vs n vB vA vV)
    (hl : as_.length = vs.length) (hlt : ∀ a ∈ as_, a < bs.length) (hlen : as_.length ≤ 1000000000) (hbs : bs.length ≤ 65536) :
    Calls Try.prog 20 #[.pointer (some ⟨g, 0, none⟩)] w fun e w' =>
      ∃ v', e = .returned v' ∧ Grew w.heap.size 5 (.slice none 0 0) w ((putAll bs (as_.zip vs)).map B) v' w' := by
  obtain ⟨AA, cA, rfl⟩ := hd.slA
  obtain ⟨AV, cV, rfl, _, _⟩ := (Rd.own hd.rowV).sliceN (n := as_.length) (by rw [List.length_map, hl])
  obtain ⟨AB, cB, rfl⟩ := hd.slB
  have c0 := hd.c0
  have hgl := (ObjF.blk hd).lt
  have hrB := Rd.own hd.rowB
  have HD := Lib.hid hd
  have HL := Lib.hid hl
  have HLT := Lib.hid hlt
  have hrB1 := hrB.ext (((Below.refl _ _).alloc (Nat.le_refl _) (.cells #[] 5)) : Ext w _)
  clear hd hl hlt
  go_enter Try.func20, Try.ntmps20
  go_wp2_with (at_builtin; refine app_u8 rfl _ _ rfl w.heap.size _ [] rfl (own_none _ _ _ rfl) _ bs rfl hrB1 (by simp; omega) (by simp) ?_; intro v2 w2 hg2; rw [List.nil_append] at hg2; have hg3 := Grew.from_empty rfl hg2; obtain ⟨A3, c3, rfl⟩ := hg3.slice_ (n := bs.length) (List.length_map _); clear hg2)
  go_loopw [4] (fun i' wr => ∃ k : Nat, i' = .int .i64 k ∧ k ≤ as_.length ∧ Grew w.heap.size 5 (.slice none 0 0) w ((putAll bs ((as_.zip vs).take k)).map B) (.slice A3 bs.length c3) wr) (fun i' _ => as_.length - (intOf i').toNat)
  case atStart => exact ⟨0, rfl, Nat.zero_le _, hg3⟩
  case round =>
    obtain ⟨k, rfl, hk, hg⟩ := hrel
    have hdr : RefDk F wr g bs as_ vs n _ _ _ := ObjF.ext HD.out hg.ext
    have c1 := hdr.c1
    by_cases hlt : k < as_.length
    · have hlv : k < vs.length := by have := HL.out; omega
      have ha := HLT.out as_[k] (List.getElem_mem hlt)
      have hbl := putAll_len bs ((as_.zip vs).take k)
      have hz : (as_.zip vs).take (k + 1) = (as_.zip vs).take k ++ [(as_[k], vs[k])] := by
        rw [List.take_succ_eq_append_getElem (by rw [List.length_zip]; omega), List.getElem_zip]
      have hstep : putAll bs ((as_.zip vs).take (k + 1)) = (putAll bs ((as_.zip vs).take k)).set as_[k] vs[k] := by rw [hz, putAll_snoc]
      obtain ⟨gO, cO, hv3, hcO, _⟩ := hg.form (by rw [List.length_map, hbl]; omega)
      rw [List.length_map, hbl] at hv3 hcO
      injection hv3 with hv3 _ hv4
      subst hv3 hv4
      have hO0 := hg.cellAt as_[k] (by rw [List.length_map, hbl]; exact ha)
      rw [List.getElem?_map, List.getElem?_eq_getElem (by rw [hbl]; exact ha), Option.map_some] at hO0
      have hOz : ∃ z : UInt8, wr.cell? ⟨gO, as_[k], none⟩ = some (B z) := ⟨_, hO0⟩
      clear hO0
      obtain ⟨z, hO0⟩ := hOz
      have hOf := hg.frozenAt as_[k]
      obtain ⟨gA, oA, rfl, hgA, hcA⟩ := (Rd.own hdr.rowA).get (by rw [List.length_map]; omega)
      have eA : wr.cell? ⟨gA, oA + k, none⟩ = some (.int .i64 (as_[k] : Int)) := hcA k _ (by rw [List.getElem?_map, List.getElem?_eq_getElem hlt]; rfl)
      obtain ⟨gV, oV, rfl, hgV, hcV⟩ := (Rd.own hdr.rowV).get (by rw [List.length_map]; omega)
      have eV : wr.cell? ⟨gV, oV + k, none⟩ = some (B vs[k]) := hcV k _ (by rw [List.getElem?_map, List.getElem?_eq_getElem hlv]; rfl)
      have c2 := hdr.c2
      have hset := hg.set as_[k] (B vs[k])
      rw [← List.map_set, ← hstep] at hset
      have HS := Lib.hid hset
      have hab : as_[k] < bs.length := ha
      clear hcA hcV hset hg hdr hz hstep hbl ha
      generalize as_[k] = a at *
      generalize vs[k] = x at *
      simp only [B] at eV hO0
      go_wp2
      go_still_tail 16, (by kernel_rfl)
      change wpList _ _ _ _ _ wr.drew
      go_wp2
      go_roundw
      case rel => exact ⟨k + 1, by go_num, by omega, HS.out.step (Below.drewN' (Ext.refl _) 1)⟩
      case measure => simp [intOf]; omega
    · obtain rfl : k = as_.length := by omega
      have hfin : (as_.zip vs).take as_.length = as_.zip vs := List.take_of_length_le (by rw [List.length_zip]; omega)
      rw [hfin] at hg
      have HG := Lib.hid hg
      clear hg hdr hfin
      go_wp2
      go_ret
      exact ⟨_, rfl, HG.out⟩

/-- Which error a write has. -/
def writeE (N : Nat) (i : Int) (m : Nat) : Int := if i < 0 then 1 else if (N : Int) < i ∨ (N : Int) - i < (m : Int) then 3 else 0

theorem RefWrite_err (F : Fp) (g : Nat) (bs : List UInt8) (as_ : List Nat) (vs : List UInt8) (n : Int) (vB vA vV : Value) (i : Int) (v : Value) (l : List UInt8) (w : World) (hd : RefDk F w g bs as_ vs n vB vA vV) (hr : Rd w v (l.map B)) (hb : bs.length ≤ 65536)
    (he : writeE bs.length i l.length ≠ 0) :
    Calls Try.prog 26 #[.pointer (some ⟨g, 0, none⟩), .int .i64 i, v] w fun e w' => e = .returned (.int .i64 (writeE bs.length i l.length)) ∧ w = w' := by
  obtain ⟨A, c, rfl, hlc, hcm⟩ := hr.sliceN (List.length_map _)
  unfold maxLen at hcm
  obtain ⟨AB, cB, rfl⟩ := hd.slB
  have c0 := hd.c0
  clear hd
  by_cases h0 : i < 0
  · have hE : writeE bs.length i l.length = 1 := by rw [writeE, if_pos h0]
    rw [hE]
    clear he hE
    go_enter Try.func26, Try.ntmps26
    go_wp2
    go_ret
    exact ⟨rfl, rfl⟩
  · by_cases h1 : (bs.length : Int) < i
    · have hE : writeE bs.length i l.length = 3 := by rw [writeE, if_neg h0, if_pos (.inl h1)]
      rw [hE]
      clear he hE
      go_enter Try.func26, Try.ntmps26
      go_wp2
      go_ret
      exact ⟨rfl, rfl⟩
    · by_cases h2 : (bs.length : Int) - i < (l.length : Int)
      · have hE : writeE bs.length i l.length = 3 := by rw [writeE, if_neg h0, if_pos (.inr h2)]
        rw [hE]
        clear he hE
        go_enter Try.func26, Try.ntmps26
        go_wp2
        go_ret
        exact ⟨rfl, rfl⟩
      · exact absurd (by rw [writeE, if_neg h0, if_neg (by omega)]) he

end Go.Proofs.Ytkoppdhmbhgnfaa
