/- Layer 3, the reference: all payloads from a place on. -/
import Derived.Test.YticgpldpbbfklaaRefFrameGet
import Derived.Test.YticgpldpbbfklaaTrows
import Derived.Deep.LoopGhost
import Derived.Outline
namespace Go.Proofs.Yticgpldpbbfklaa
open Go.RowKit

/-- What All answers. -/
def AllPost (bs : List UInt8) (i : Int) (w : World) (e : Ending) (w' : World) : Prop :=
  ∃ v', e = .returned (.tuple #[v', .int .i64 (allB bs i).2]) ∧ OwnL w 22 v' w' (allB bs i).1

/-- How far it has come: the lists so far, the place, and what stood ahead of that. -/
def AllSt (bs : List UInt8) (i : Int) (ls : List (List UInt8)) (a t : Int) : Prop :=
  ls.length ≤ bs.length ∧ i ≤ a ∧ (a ≤ i ∨ a ≤ bs.length) ∧ ((t = 1 ∧ (ls.length : Int) ≤ a - i ∧ allB bs i = (ls ++ (allB bs a).1, (allB bs a).2)) ∨ (t ≠ 1 ∧ allB bs i = (ls, a)))

theorem AllSt.first (bs : List UInt8) (i : Int) : AllSt bs i [] i 1 := ⟨Nat.zero_le _, Int.le_refl _, .inl (Int.le_refl _), .inl ⟨rfl, by simp, by simp⟩⟩
theorem AllSt.on {bs : List UInt8} {i a : Int} {ls : List (List UInt8)} (h : AllSt bs i ls a 1) (hw : (getF bs a).2.2 = 1) : AllSt bs i (ls ++ [(getF bs a).1]) (getF bs a).2.1 1 := by
  have ho := getF_on hw
  obtain ⟨h1, h2, h3, h4⟩ := h
  rcases h4 with ⟨_, h5, h6⟩ | ⟨h5, _⟩
  · by_cases hi : 0 ≤ i
    · refine ⟨by rw [List.length_append, List.length_singleton]; omega, by omega, .inr (by omega), .inl ⟨rfl, by rw [List.length_append, List.length_singleton]; omega, ?_⟩⟩
      rw [h6, allB_step bs a, if_pos hw]
      simp
    · -- a place below 0 holds none
      exfalso
      have : allB bs i = ([], i) := by rw [allB_step, if_neg]; intro hw2; have := getF_on hw2; omega
      rw [this] at h6
      have e1 := congrArg Prod.snd h6
      have := (allB_end bs a).2.1
      simp only at e1
      omega
  · exact absurd rfl h5
theorem AllSt.off {bs : List UInt8} {i a t : Int} {ls : List (List UInt8)} (h : AllSt bs i ls a 1) (ht : (getF bs a).2.2 = t) (hw : t ≠ 1) : AllSt bs i ls a t := by
  obtain ⟨h1, h2, h3, h4⟩ := h
  rcases h4 with ⟨_, h5, h6⟩ | ⟨h5, _⟩
  · refine ⟨h1, h2, h3, .inr ⟨hw, ?_⟩⟩
    rw [h6, allB_step bs a, if_neg (by rw [ht]; exact hw)]
    simp
  · exact absurd rfl h5
theorem AllSt.end_ {bs : List UInt8} {i a t : Int} {ls : List (List UInt8)} (h : AllSt bs i ls a t) (ht : t ≠ 1) : allB bs i = (ls, a) := by
  obtain ⟨_, _, _, h4⟩ := h
  rcases h4 with ⟨h5, _⟩ | ⟨_, h6⟩
  · exact absurd h5 ht
  · exact h6

def AllLoop (bs : List UInt8) (i : Int) (w : World) (u v t : Value) (wr : World) : Prop :=
  ∃ (a x : Int) (ls : List (List UInt8)), u = .int .i64 a ∧ t = .int .i64 x ∧ AllSt bs i ls a x ∧ OwnL w 22 v wr ls

set_option maxHeartbeats 1000000 in
theorem RefFrameAll_any (bs : List UInt8) (v : Value) (i : Int) (w : World) (hr : Rd w v (bs.map B)) (hlen : bs.length < 1000000000000) : Calls Try.prog 16 #[v, .int .i64 i] w (AllPost bs i w) := by
  obtain ⟨A, c, rfl, hlc, hcm⟩ := hr.sliceN (List.length_map _)
  unfold maxLen at hcm
  go_enter Try.func16, Try.ntmps16
  go_wp2
  go_loopw [1, 6, 7] (fun u v t wr => AllLoop bs i w u v t wr) (fun u _ t _ => if intOf t = 1 then ((bs.length : Int) + 1 - intOf u).toNat + 1 else 0)
  case atStart => exact ⟨i, 1, [], rfl, rfl, AllSt.first bs i, OwnL.nil w _⟩
  case round =>
    obtain ⟨a, x, ls, rfl, rfl, hst, hown⟩ := hrel
    by_cases hx : x = 1
    · subst hx
      have HS := Lib.hid hst
      clear hst
      go_wp2_with fail
      refine (RefFrameGet_any bs _ a _ (hr.ext hown.ext)).mono ?_
      rintro e w1 ⟨v1, rfl, hg1⟩
      have hl1 : (getF bs a).1.length = (getF bs a).1.length := rfl
      obtain ⟨A1, c1, rfl⟩ := hg1.slice_ (List.length_map _)
      by_cases hw : (getF bs a).2.2 = 1
      · have hon := HS.out.on hw
        have hgo := getF_on hw
        have hls := hon.1
        rw [List.length_append, List.length_singleton] at hls
        have HO := Lib.hid hon
        have hu := RdN.fresh hg1 hown.block
        have hown1 := hown.step hg1.ext
        rw [hw]
        clear hon hw HS hown hg1 hl1
        generalize (getF bs a).2.1 = a' at *
        generalize (getF bs a).1 = q at *
        go_wp2_with (at_builtin; refine push_row rfl _ _ rfl _ ls hown1 A1 q.length c1 q hu rfl rfl (by omega) ?_; intro v2 w2 hown2)
        go_roundw
        case rel => exact ⟨a', 1, ls ++ [q], rfl, rfl, HO.out, hown2⟩
        case measure => simp [intOf]; omega
      · have hoff := HS.out.off rfl hw
        have HO := Lib.hid hoff
        have hne : ((getF bs a).2.2 == 1) = false := by rw [beq_eq_false_iff_ne]; exact hw
        have hown1 := hown.step hg1.ext
        clear hoff HS hown hg1 hl1
        generalize (getF bs a).2.2 = t' at *
        generalize (getF bs a).2.1 = a' at *
        generalize (getF bs a).1 = q at *
        go_wp2
        go_roundw
        case rel => exact ⟨a, t', ls, rfl, rfl, HO.out, hown1⟩
        case measure => simp [intOf, hw]
    · have hend := hst.end_ hx
      have HE := Lib.hid hend
      have hne : (x == 1) = false := by rw [beq_eq_false_iff_ne]; exact hx
      clear hend hst hx
      go_wp2
      go_ret2
      rw [AllPost, HE.out]
      exact ⟨_, rfl, hown⟩

end Go.Proofs.Yticgpldpbbfklaa
