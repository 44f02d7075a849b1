/- Layer 4, the reference's disk in one word: what lasts, what waits, how often it was synced. -/
import Derived.Test.YtkoppdhmbhgnfaaRef04b
import Derived.Test.YtkoppdhmbhgnfaaP04b
namespace Go.Proofs.Ytkoppdhmbhgnfaa
open Go.RowKit

/-- The reference's disk at r. -/
def Rk (F : Fp) (w : World) (r : Nat) (s : DkS) : Prop :=
  ∃ as_ vs vB vA vV, RefDk F w r s.1 as_ vs s.2.2 vB vA vV ∧ as_.length = vs.length ∧ as_.zip vs = s.2.1 ∧ (∀ a ∈ as_, a < s.1.length)

section
variable {F G : Fp} {w w' : World} {r : Nat} {s : DkS}
theorem Rk.isIn (h : Rk F w r s) : F.isIn w := by
  obtain ⟨as_, vs, vB, vA, vV, h1, _⟩ := h
  exact ObjF.isIn h1
theorem Rk.chg (h : Rk F w r s) (hc : Chg G w w') (ha : F.apart G) : Rk F w' r s := by
  obtain ⟨as_, vs, vB, vA, vV, h1, h2⟩ := h
  exact ⟨as_, vs, vB, vA, vV, ObjF.chg h1 hc ha, h2⟩
theorem Rk.mono (h : Rk F w r s) (hf : ∀ k, F k → G k) (hi : G.isIn w) : Rk G w r s := by
  obtain ⟨as_, vs, vB, vA, vV, h1, h2⟩ := h
  exact ⟨as_, vs, vB, vA, vV, ObjF.mono h1 hf hi, h2⟩
theorem Rk.okD (h : Rk F w r s) : okD s := by
  obtain ⟨as_, vs, vB, vA, vV, h1, h2, h3, h4⟩ := h
  intro x hx
  rw [← h3] at hx
  exact h4 x.1 (List.of_mem_zip hx).1
/-- Its fields: how many places wait, how often it was synced. -/
theorem Rk.cells (h : Rk F w r s) : r < w.heap.size ∧ (∃ A c, w.cell? ⟨r, 1, none⟩ = some (.slice A s.2.1.length c) ∧ s.2.1.length ≤ c ∧ c ≤ 9223372036854775807) ∧ w.cell? ⟨r, 3, none⟩ = some (.int .i64 s.2.2) := by
  obtain ⟨as_, vs, vB, vA, vV, h1, h2, h3, h4⟩ := h
  have e : as_.length = s.2.1.length := by rw [← h3, List.length_zip]; omega
  obtain ⟨A, c, hv, hc1, hc2⟩ := (Rd.own h1.rowA).sliceN (n := s.2.1.length) (by rw [List.length_map, e])
  refine ⟨(ObjF.blk h1).lt, ⟨A, c, by rw [h1.c1, hv], hc1, by unfold maxLen at hc2; omega⟩, h1.c3⟩
end

theorem RkNew (n : Nat) (w : World) (hn : n ≤ 65536) : Calls Try.prog 17 #[.int .i64 (n : Int)] w fun e w' =>
    ∃ r, e = .returned (.pointer (some ⟨r, 0, none⟩)) ∧ Rk (fun k => w.heap.size ≤ k ∧ k < w'.heap.size) w' r (List.replicate n 0, [], 0) ∧ Ext w w' :=
  (RefNew_any n w hn).mono fun e w' ⟨r, vB, he, hd, hx⟩ => ⟨r, he, ⟨[], [], vB, _, _, hd, rfl, rfl, by simp⟩, hx⟩

theorem RkWrite (F H : Fp) (r : Nat) (s : DkS) (i : Int) (v : Value) (l : List UInt8) (w : World) (hd : Rk F w r s) (hr : RdF H w v (l.map B)) (ha : H.apart F) (hH : H.isIn w) (hb : s.1.length ≤ 65536) (hw : s.2.1.length ≤ 1000000000) :
    Calls Try.prog 26 #[.pointer (some ⟨r, 0, none⟩), .int .i64 i, v] w fun e w' => e = .returned (.int .i64 (wrE s.1.length i l.length)) ∧ Rk (F.since w w') w' r (wrD s i l) ∧ Chg F w w' := by
  have hin := hd.isIn
  obtain ⟨as_, vs, vB, vA, vV, h1, h2, h3, h4⟩ := hd
  have e0 : as_.length = s.2.1.length := by rw [← h3, List.length_zip]; omega
  by_cases he : wrE s.1.length i l.length = 0
  · obtain ⟨hi0, hi1⟩ := wrE_ok he
    obtain ⟨j, rfl⟩ : ∃ j : Nat, i = j := ⟨i.toNat, by omega⟩
    rw [Int.toNat_natCast] at hi1
    refine (RefWrite_yes F H r s.1 as_ vs s.2.2 vB vA vV j v l w h1 hr ha hH hb hi1 (by omega) (by omega)).mono ?_
    rintro e w' ⟨rfl, vA', vV', hd', hc⟩
    rw [he]
    refine ⟨rfl, ?_, hc⟩
    rw [wrD, if_pos he]
    refine ⟨_, _, vB, vA', vV', hd', ?_, ?_, ?_⟩
    · simp [h2]
    · show _ = s.2.1 ++ spanB _ l
      rw [List.zip_append h2, h3, range_zip, Int.toNat_natCast]
    · intro a ha
      rcases List.mem_append.1 ha with ha | ha
      · exact h4 a ha
      · obtain ⟨x, hx, rfl⟩ := List.mem_map.1 ha
        have := List.mem_range.1 hx
        show j + x < s.1.length
        omega
  · have hee : writeE s.1.length i l.length = wrE s.1.length i l.length := rfl
    refine (RefWrite_err F r s.1 as_ vs s.2.2 vB vA vV i v l w h1 hr.rd hb (by rw [hee]; exact he)).mono ?_
    rintro e w' ⟨rfl, rfl⟩
    refine ⟨rfl, ?_, Chg.refl _ _⟩
    rw [wrD, if_neg he]
    exact ⟨as_, vs, vB, vA, vV, ObjF.mono h1 (fun k hk => .inl hk) (hin.since (Nat.le_refl _)), h2, h3, h4⟩

theorem RkCrash (F : Fp) (r : Nat) (s : DkS) (k : Int) (w : World) (hd : Rk F w r s) (hw : s.2.1.length ≤ 1000000000) :
    Calls Try.prog 28 #[.pointer (some ⟨r, 0, none⟩), .int .i64 k] w fun e w' => e = .returned (.tuple #[]) ∧ Rk F w' r (crD s k) ∧ Chg F w w' := by
  obtain ⟨as_, vs, vB, vA, vV, h1, h2, h3, h4⟩ := hd
  have e0 : as_.length = s.2.1.length := by rw [← h3, List.length_zip]; omega
  refine (RefCrash_any F r s.1 as_ vs s.2.2 vB vA vV k w h1 h2 h4 (by omega)).mono ?_
  rintro e w' ⟨rfl, hd', hc⟩
  rw [h3] at hd'
  exact ⟨rfl, ⟨[], [], vB, _, _, hd', rfl, rfl, by simp⟩, hc⟩

theorem RkSync (F : Fp) (r : Nat) (s : DkS) (w : World) (hd : Rk F w r s) (hw : s.2.1.length ≤ 1000000000) (hn0 : 0 ≤ s.2.2) (hn1 : s.2.2 ≤ 1000000000) :
    Calls Try.prog 27 #[.pointer (some ⟨r, 0, none⟩)] w fun e w' => e = .returned (.tuple #[]) ∧ Rk F w' r (syD s) ∧ Chg F w w' := by
  obtain ⟨as_, vs, vB, vA, vV, h1, h2, h3, h4⟩ := hd
  have e0 : as_.length = s.2.1.length := by rw [← h3, List.length_zip]; omega
  refine (RefSync_any F r s.1 as_ vs s.2.2 vB vA vV w h1 h2 h4 (by omega) hn0 hn1).mono ?_
  rintro e w' ⟨rfl, hd', hc⟩
  rw [h3] at hd'
  exact ⟨rfl, ⟨[], [], vB, _, _, hd', rfl, rfl, by simp⟩, hc⟩

theorem RkBytes (F : Fp) (r : Nat) (s : DkS) (w : World) (hd : Rk F w r s) (hb : s.1.length ≤ 65536) (hw : s.2.1.length ≤ 1000000000) :
    Calls Try.prog 20 #[.pointer (some ⟨r, 0, none⟩)] w fun e w' => ∃ v', e = .returned v' ∧ Grew w.heap.size 5 (.slice none 0 0) w ((rdD s).map B) v' w' := by
  obtain ⟨as_, vs, vB, vA, vV, h1, h2, h3, h4⟩ := hd
  have e0 : as_.length = s.2.1.length := by rw [← h3, List.length_zip]; omega
  refine (RefBytes4_any F r s.1 as_ vs s.2.2 vB vA vV w h1 h2 h4 (by omega) hb).mono ?_
  rintro e w' ⟨v', rfl, hg⟩
  rw [h3] at hg
  exact ⟨v', rfl, hg⟩

end Go.Proofs.Ytkoppdhmbhgnfaa
