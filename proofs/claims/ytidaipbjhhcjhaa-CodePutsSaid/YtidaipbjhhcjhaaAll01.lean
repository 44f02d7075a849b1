/- Layer 1: each function's answer in one form, whatever it is given. -/
import Derived.Test.YtidaipbjhhcjhaaRef01c
namespace Go.Proofs.Ytidaipbjhhcjhaa
open Go.RowKit

def numOr (n : Int) : List UInt8 := if 0 ≤ n ∧ n < 9007199254740992 then numB n.toNat else []
def listOr (l : List Int) : List UInt8 := if l.all isNumB = true then listB l else []

/-- 'A value that reads as these bytes, in memory where all that was there stands.' -/
def RdPost (w : World) (l : List UInt8) (e : Ending) (w' : World) : Prop := ∃ v', e = .returned v' ∧ Rd w' v' (l.map B) ∧ Ext w w'

theorem Num_rd (n : Int) (w : World) : Calls Try.prog 10 #[.int .i64 n] w (RdPost w (numOr n)) := by
  by_cases h : 0 ≤ n ∧ n < 9007199254740992
  · obtain ⟨m, rfl, hm⟩ := isNum_some h
    refine (Num_yes m w hm).mono fun e w' ⟨v', he, hg⟩ => ⟨v', he, ?_, hg.ext⟩
    rw [numOr, if_pos h, Int.toNat_natCast]
    exact Rd.own hg.own
  · refine (Num_no n w h).mono fun e w' ⟨he, hw⟩ => ⟨_, he, ?_, by subst hw; exact Ext.refl _⟩
    rw [numOr, if_neg h]
    exact Rd.nil _
theorem RefNum_rd (n : Int) (w : World) : Calls Try.prog 11 #[.int .i64 n] w (RdPost w (numOr n)) := by
  by_cases h : 0 ≤ n ∧ n < 9007199254740992
  · obtain ⟨m, rfl, hm⟩ := isNum_some h
    refine (RefNum_yes m w hm).mono fun e w' ⟨v', he, hg⟩ => ⟨v', he, ?_, hg.ext⟩
    rw [numOr, if_pos h, Int.toNat_natCast]
    exact Rd.own hg.own
  · refine (RefNum_no n w h).mono fun e w' ⟨he, hw⟩ => ⟨_, he, ?_, by subst hw; exact Ext.refl _⟩
    rw [numOr, if_neg h]
    exact Rd.nil _
theorem Text_rd (s : ByteArray) (w : World) (hs : s.size ≤ 1000000) : Calls Try.prog 12 #[.string s] w (RdPost w (numB s.size ++ s.data.toList)) :=
  (Text_any s w (by omega)).mono fun e w' ⟨v', he, hg⟩ => ⟨v', he, Rd.own hg.own, hg.ext⟩
theorem RefText_rd (s : ByteArray) (w : World) (hs : s.size ≤ 1000000) : Calls Try.prog 13 #[.string s] w (RdPost w (numB s.size ++ s.data.toList)) :=
  (RefText_any s w (by omega)).mono fun e w' ⟨v', he, hg⟩ => ⟨v', he, Rd.own hg.own, hg.ext⟩
theorem List_rd (l : List Int) (v : Value) (w : World) (hr : Rd w v (l.map I)) (hl : l.length ≤ 1000000) : Calls Try.prog 14 #[v] w (RdPost w (listOr l)) := by
  refine (List_any l v w hr (by omega)).mono ?_
  rintro e w' (⟨v', he, ha, hg⟩ | ⟨he, ha, hx⟩)
  · refine ⟨v', he, ?_, hg.ext⟩
    rw [listOr, if_pos ha]
    exact Rd.own hg.own
  · refine ⟨_, he, ?_, hx⟩
    rw [listOr, if_neg (by rw [ha]; simp)]
    exact Rd.nil _
theorem RefList_rd (l : List Int) (v : Value) (w : World) (hr : Rd w v (l.map I)) (hl : l.length ≤ 1000000) : Calls Try.prog 15 #[v] w (RdPost w (listOr l)) := by
  refine (RefList_any l v w hr (by omega)).mono ?_
  rintro e w' (⟨v', he, ha, hg⟩ | ⟨he, ha, hx⟩)
  · refine ⟨v', he, ?_, hg.ext⟩
    rw [listOr, if_pos ha]
    exact Rd.own hg.own
  · refine ⟨_, he, ?_, hx⟩
    rw [listOr, if_neg (by rw [ha]; simp)]
    exact Rd.nil _

/-! ### What is read -/
def gnum (bs : List UInt8) (p : Int) : Nat × Nat × Bool := if p < 0 then (0, 0, false) else match getN (bs.drop p.toNat) with
  | some (n, j) => (n, p.toNat + j, true)
  | none => (0, 0, false)
def gtext (bs : List UInt8) (p : Int) : List UInt8 × Nat × Bool := if p < 0 then ([], 0, false) else match textAt bs p.toNat with
  | some (t, q) => (t, q, true)
  | none => ([], 0, false)
def glist (bs : List UInt8) (p most : Int) : List Nat × Nat × Bool := if p < 0 then ([], 0, false) else match listAt bs p.toNat most with
  | some (l, q) => (l, q, true)
  | none => ([], 0, false)
def TupPost (w : World) (v : Value) (q : Nat) (ok : Bool) (e : Ending) (w' : World) : Prop := e = .returned (.tuple #[v, .int .i64 (q : Int), .bool ok]) ∧ Ext w w'
def LstPost (w : World) (l : List Nat) (q : Nat) (ok : Bool) (e : Ending) (w' : World) : Prop := ∃ v, e = .returned (.tuple #[v, .int .i64 (q : Int), .bool ok]) ∧ Rd w' v ((l.map fun (n : Nat) => (n : Int)).map I) ∧ Ext w w'

theorem GetNum_g (bs : List UInt8) (v : Value) (p : Int) (w : World) (hr : Rd w v (bs.map B)) (hp63 : p ≤ 9223372036854775807) :
    Calls Try.prog 16 #[v, .int .i64 p] w (TupPost w (.int .i64 ((gnum bs p).1 : Int)) (gnum bs p).2.1 (gnum bs p).2.2) := by
  unfold gnum
  by_cases hp : p < 0
  · rw [if_pos hp]
    exact (GetNum_neg v p w hp).mono fun e w' ⟨he, hw⟩ => ⟨he, by subst hw; exact Ext.refl _⟩
  · rw [if_neg hp]
    obtain ⟨k, rfl⟩ : ∃ k : Nat, p = k := ⟨p.toNat, by omega⟩
    rw [Int.toNat_natCast]
    rcases h : getN (bs.drop k) with _ | ⟨n, j⟩
    · exact (GetNum_none bs v k w hr (by omega) h).mono fun e w' ⟨he, hw⟩ => ⟨he, by subst hw; exact Ext.refl _⟩
    · exact (GetNum_some bs v k n j w hr (by omega) h).mono fun e w' ⟨he, hw⟩ => ⟨he, by subst hw; exact Ext.refl _⟩
theorem RefGetNum_g (bs : List UInt8) (v : Value) (p : Int) (w : World) (hr : Rd w v (bs.map B)) (hp63 : p ≤ 9223372036854775807) :
    Calls Try.prog 17 #[v, .int .i64 p] w (TupPost w (.int .i64 ((gnum bs p).1 : Int)) (gnum bs p).2.1 (gnum bs p).2.2) := by
  unfold gnum
  by_cases hp : p < 0
  · rw [if_pos hp]
    exact (RefGetNum_neg bs v p w hr hp).mono fun e w' ⟨he, hw⟩ => ⟨he, by subst hw; exact Ext.refl _⟩
  · rw [if_neg hp]
    obtain ⟨k, rfl⟩ : ∃ k : Nat, p = k := ⟨p.toNat, by omega⟩
    rw [Int.toNat_natCast]
    rcases h : getN (bs.drop k) with _ | ⟨n, j⟩
    · exact (RefGetNum_none bs v k w hr (by omega) h).mono fun e w' ⟨he, hw⟩ => ⟨he, hw⟩
    · exact (RefGetNum_some bs v k n j w hr (by omega) h).mono fun e w' ⟨he, hw⟩ => ⟨he, hw⟩
theorem GetText_g (bs : List UInt8) (v : Value) (p : Int) (w : World) (hr : Rd w v (bs.map B)) (hp63 : p ≤ 9223372036854775807) :
    Calls Try.prog 18 #[v, .int .i64 p] w (TupPost w (.string ⟨(gtext bs p).1.toArray⟩) (gtext bs p).2.1 (gtext bs p).2.2) := by
  unfold gtext
  by_cases hp : p < 0
  · rw [if_pos hp]
    exact (GetText_neg v p w hp).mono fun e w' ⟨he, hw⟩ => ⟨he, by subst hw; exact Ext.refl _⟩
  · rw [if_neg hp]
    obtain ⟨k, rfl⟩ : ∃ k : Nat, p = k := ⟨p.toNat, by omega⟩
    rw [Int.toNat_natCast]
    rcases h : textAt bs k with _ | ⟨t, q⟩
    · exact (GetText_none bs v k w hr (by omega) h).mono fun e w' ⟨he, hw⟩ => ⟨he, by subst hw; exact Ext.refl _⟩
    · unfold textAt at h
      rcases hg : getN (bs.drop k) with _ | ⟨n, j⟩
      · rw [hg] at h
        cases h
      · rw [hg] at h
        by_cases hn : n ≤ bs.length - (k + j)
        · simp only [hn, if_true, Option.some.injEq, Prod.mk.injEq] at h
          obtain ⟨h1, h2⟩ := h
          have := GetText_some bs v k n j w hr (by omega) hg hn
          rw [h1, h2] at this
          exact this.mono fun e w' ⟨he, hw⟩ => ⟨he, by subst hw; exact Ext.refl _⟩
        · simp only [hn, if_false] at h
          cases h
theorem RefGetText_g (bs : List UInt8) (v : Value) (p : Int) (w : World) (hr : Rd w v (bs.map B)) (hp63 : p ≤ 9223372036854775807) :
    Calls Try.prog 19 #[v, .int .i64 p] w (TupPost w (.string ⟨(gtext bs p).1.toArray⟩) (gtext bs p).2.1 (gtext bs p).2.2) := by
  unfold gtext
  by_cases hp : p < 0
  · rw [if_pos hp]
    exact (RefGetText_neg bs v p w hr hp).mono fun e w' ⟨he, hw⟩ => ⟨he, hw⟩
  · rw [if_neg hp]
    obtain ⟨k, rfl⟩ : ∃ k : Nat, p = k := ⟨p.toNat, by omega⟩
    rw [Int.toNat_natCast]
    rcases h : textAt bs k with _ | ⟨t, q⟩
    · exact (RefGetText_none bs v k w hr (by omega) h).mono fun e w' ⟨he, hw⟩ => ⟨he, hw⟩
    · unfold textAt at h
      rcases hg : getN (bs.drop k) with _ | ⟨n, j⟩
      · rw [hg] at h
        cases h
      · rw [hg] at h
        by_cases hn : n ≤ bs.length - (k + j)
        · simp only [hn, if_true, Option.some.injEq, Prod.mk.injEq] at h
          obtain ⟨h1, h2⟩ := h
          have := RefGetText_some bs v k n j w hr (by omega) hg hn
          rw [h1, h2] at this
          exact this.mono fun e w' ⟨he, hw⟩ => ⟨he, hw⟩
        · simp only [hn, if_false] at h
          cases h
theorem GetList_g (bs : List UInt8) (v : Value) (p most : Int) (w : World) (hr : Rd w v (bs.map B)) (hp63 : p ≤ 9223372036854775807) (hlen : bs.length ≤ 1099511627776) :
    Calls Try.prog 20 #[v, .int .i64 p, .int .i64 most] w (LstPost w (glist bs p most).1 (glist bs p most).2.1 (glist bs p most).2.2) := by
  unfold glist
  by_cases hp : p < 0
  · rw [if_pos hp]
    exact (GetList_neg bs v p most w hr hp).mono fun e w' ⟨he, hw⟩ => ⟨_, he, Rd.nil _, hw⟩
  · rw [if_neg hp]
    obtain ⟨k, rfl⟩ : ∃ k : Nat, p = k := ⟨p.toNat, by omega⟩
    rw [Int.toNat_natCast]
    have h := GetList_any bs v k most w hr (by omega) hlen
    rcases hl : listAt bs k most with _ | ⟨l, q⟩
    · rw [hl] at h
      exact h.mono fun e w' ⟨he, hw⟩ => ⟨_, he, Rd.nil _, hw⟩
    · rw [hl] at h
      refine h.mono fun e w' ⟨v', he, hown, hw⟩ => ⟨v', he, ?_, hw⟩
      rw [List.map_map]
      exact Rd.own hown
theorem RefGetList_g (bs : List UInt8) (v : Value) (p most : Int) (w : World) (hr : Rd w v (bs.map B)) (hp63 : p ≤ 9223372036854775807) (hlen : bs.length ≤ 1099511627776) :
    Calls Try.prog 21 #[v, .int .i64 p, .int .i64 most] w (LstPost w (glist bs p most).1 (glist bs p most).2.1 (glist bs p most).2.2) := by
  unfold glist
  by_cases hp : p < 0
  · rw [if_pos hp]
    exact (RefGetList_neg bs v p most w hr hp).mono fun e w' ⟨he, hw⟩ => ⟨_, he, Rd.nil _, hw⟩
  · rw [if_neg hp]
    obtain ⟨k, rfl⟩ : ∃ k : Nat, p = k := ⟨p.toNat, by omega⟩
    rw [Int.toNat_natCast]
    have h := RefGetList_any bs v k most w hr (by omega) hlen
    rcases hl : listAt bs k most with _ | ⟨l, q⟩
    · rw [hl] at h
      exact h.mono fun e w' ⟨he, hw⟩ => ⟨_, he, Rd.nil _, hw⟩
    · rw [hl] at h
      refine h.mono fun e w' ⟨v', he, hown, hw⟩ => ⟨v', he, ?_, hw⟩
      rw [List.map_map]
      exact Rd.own hown

end Go.Proofs.Ytidaipbjhhcjhaa
