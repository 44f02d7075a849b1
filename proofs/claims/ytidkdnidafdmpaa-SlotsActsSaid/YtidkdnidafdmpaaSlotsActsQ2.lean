/- Texts that the proof of SlotsActs rests on, one behind the other. -/
import Derived.Test.YtidkdnidafdmpaaSlotsActsQ1

/- Layer 6, plain mathematics: pictures in two pieces of a disk. -/
namespace Go.Proofs.Ytidkdnidafdmpaa

/-- A picture: its bytes, its age. -/
abbrev Pic : Type := Option (List UInt8 × Nat)
/-- The picture of a payload. -/
def payP (p : List UInt8) : Pic := match getN p with
  | none => none
  | some x => some (p.drop x.2, x.1)
/-- The picture that stands at the first of these bytes. -/
def picB (b : List UInt8) : Pic := if (getF b 0).2.2 = 1 then payP (getF b 0).1 else none
def ageI : Pic → Int
  | none => -1
  | some x => (x.2 : Int)
def bytP : Pic → List UInt8
  | none => []
  | some x => x.1
/-- That of a slot. -/
def picD (s : DkS) (f z k : Nat) : Pic := picB (pieceB (rdD s) (f + k * z) z)
/-- The picture. -/
def loadP (x y : Pic) : Pic := if ageI x < ageI y then y else x
def loadD (s : DkS) (f z : Nat) : Pic := loadP (picD s f z 0) (picD s f z 1)
/-- Its payload; its frame. -/
def payB (age : Nat) (b : List UInt8) : List UInt8 := numB age ++ b
abbrev frP (age : Int) (b : List UInt8) : List UInt8 := frameB (payB age.toNat b)
/-- Which error a Start has; where it writes; what it does. -/
def stE (s : DkS) (f z : Nat) (b : List UInt8) (age : Int) : Int :=
  if ¬ (0 ≤ age ∧ age < 9007199254740992) then 1 else if age ≤ ageI (picD s f z 0) ∨ age ≤ ageI (picD s f z 1) then 6 else if frP age b = [] ∨ z < (frP age b).length then 3 else 0
def stK (s : DkS) (f z : Nat) : Nat := if ageI (picD s f z 1) ≤ ageI (picD s f z 0) ∧ 0 ≤ ageI (picD s f z 0) then 1 else 0
def wpD (s : DkS) (f z k : Nat) : DkS := syD (wrD s ((f + k * z : Nat) : Int) (List.replicate z 0))
def stD (s : DkS) (f z : Nat) (b : List UInt8) (age : Int) : DkS := wrD (wpD s f z (stK s f z)) ((f + stK s f z * z : Nat) : Int) (frP age b)
def stS (s : DkS) (f z : Nat) (b : List UInt8) (age : Int) : DkS := if stE s f z b age = 0 then stD s f z b age else s
def svS (s : DkS) (f z : Nat) (b : List UInt8) (age : Int) : DkS := if stE s f z b age = 0 then syD (stD s f z b age) else s

theorem ageI_ge (x : Pic) : -1 ≤ ageI x := by
  cases x with
  | none => exact Int.le_refl _
  | some x =>
    simp only [ageI]
    omega
theorem payP_put {n : Nat} (h : n < 9007199254740992) (b : List UInt8) : payP (payB n b) = some (b, n) := by
  simp [payP, payB, getN_put h]
theorem payP_lt {p : List UInt8} {x : List UInt8 × Nat} (h : payP p = some x) : x.2 < 9007199254740992 ∧ x.1.length ≤ p.length := by
  unfold payP at h
  cases hg : getN p with
  | none => rw [hg] at h; cases h
  | some y =>
    rw [hg] at h
    simp only [Option.some.injEq] at h
    obtain ⟨h1, h2, h3, h4⟩ := getN_le (n := y.1) (j := y.2) hg
    rw [← h]
    exact ⟨h4, by simp⟩
theorem picB_lt {b : List UInt8} : ageI (picB b) < 9007199254740992 ∧ (bytP (picB b)).length ≤ 4000 := by
  unfold picB
  split
  · rename_i hw
    have ho := getF_on hw
    cases hp : payP (getF b 0).1 with
    | none => simp [ageI, bytP]
    | some x =>
      have := payP_lt hp
      simp only [ageI, bytP]
      omega
  · simp [ageI, bytP]
theorem picD_lt (s : DkS) (f z k : Nat) : ageI (picD s f z k) < 9007199254740992 ∧ (bytP (picD s f z k)).length ≤ 4000 := picB_lt
theorem loadP_cases (x y : Pic) : loadP x y = x ∨ loadP x y = y := by
  unfold loadP
  split
  · exact .inr rfl
  · exact .inl rfl
theorem loadD_lt (s : DkS) (f z : Nat) : ageI (loadD s f z) < 9007199254740992 ∧ (bytP (loadD s f z)).length ≤ 4000 := by
  rcases loadP_cases (picD s f z 0) (picD s f z 1) with h | h <;> rw [loadD, h] <;> exact picD_lt _ _ _ _

theorem stE_yes {s : DkS} {f z : Nat} {b : List UInt8} {age : Int} (h : stE s f z b age = 0) :
    0 ≤ age ∧ age < 9007199254740992 ∧ ageI (picD s f z 0) < age ∧ ageI (picD s f z 1) < age ∧ okP (payB age.toNat b) ∧ (frP age b).length ≤ z := by
  unfold stE at h
  split at h
  · cases h
  · split at h
    · cases h
    · split at h
      · cases h
      · rename_i h1 h2 h3
        have h4 : okP (payB age.toNat b) := by
          rcases Classical.em (okP (payB age.toNat b)) with hk | hk
          · exact hk
          · exact absurd (.inl (frameB_nil.2 hk)) h3
        exact ⟨by omega, by omega, by omega, by omega, h4, by omega⟩

/-! ### What stands in the slots behind a Start -/
theorem picB_full {n : Nat} {b : List UInt8} (h : n < 9007199254740992) (hp : okP (payB n b)) (rest : List UInt8) : picB (frameB (payB n b) ++ rest) = some (b, n) := by
  have hg := getF_put hp [] rest
  rw [List.nil_append] at hg
  have hg0 : getF (frameB (payB n b) ++ rest) 0 = (payB n b, ((([] : List UInt8).length : Int) + (frameB (payB n b)).length), 1) := hg
  rw [picB, hg0, if_pos rfl]
  exact payP_put h b
theorem picB_torn {p : List UInt8} (hp : okP p) {k : Nat} (r : Nat) (hk : k < (frameB p).length) : picB ((frameB p).take k ++ List.replicate r 0) = none := by
  rw [picB, getF_torn hp k r hk, if_neg]
  by_cases h0 : k = 0 <;> simp [h0]
theorem picB_zeros (r : Nat) : picB (List.replicate r 0) = none := by rw [picB, if_neg (zeros_none r)]

/-- A piece that is apart of a write stands. -/
theorem pieceB_far {b : List UInt8} {f z i : Nat} {l : List UInt8} (_h : f + z ≤ b.length) (hi : i + l.length ≤ b.length) (ha : i + l.length ≤ f ∨ f + z ≤ i) : pieceB (putAt b i l) f z = pieceB b f z := by
  apply List.ext_getElem?
  intro j
  simp only [pieceB, putAt]
  rw [List.getElem?_take, List.getElem?_take]
  split
  · rename_i hj
    rw [List.getElem?_drop, List.getElem?_drop]
    have e1 : (b.take i).length = i := by rw [List.length_take]; omega
    rcases ha with ha | ha
    · rw [List.getElem?_append_right (by omega), e1, List.getElem?_append_right (by omega), List.getElem?_drop]
      congr 1
      omega
    · rw [List.getElem?_append_left (by omega), List.getElem?_take, if_pos (by omega)]
  · rfl
/-- The whole piece is written. -/
theorem pieceB_over {b : List UInt8} {f z : Nat} {l : List UInt8} (h : f + z ≤ b.length) (hl : l.length ≤ z) : pieceB (putAt b f l) f z = l ++ (pieceB b f z).drop l.length := by
  have := pieceB_put (b := b) (f := f) (z := z) (u := 0) (l := l) h (by omega)
  rw [Nat.add_zero] at this
  rw [this, List.take_zero, List.nil_append, Nat.zero_add]

theorem wpD_len (s : DkS) (f z k : Nat) : (wpD s f z k).1.length = s.1.length := by rw [wpD, syD_len, wrD_len]
theorem wpD_waits (s : DkS) (f z k : Nat) : (wpD s f z k).2.1 = [] := rfl
theorem wpD_n (s : DkS) (f z k : Nat) : (wpD s f z k).2.2 = s.2.2 + 1 := by rw [wpD, syD, wrD_n]
theorem stD_len (s : DkS) (f z : Nat) (b : List UInt8) (age : Int) : (stD s f z b age).1.length = s.1.length := by rw [stD, wrD_len, wpD_len]
theorem stD_n (s : DkS) (f z : Nat) (b : List UInt8) (age : Int) : (stD s f z b age).2.2 = s.2.2 + 1 := by rw [stD, wrD_n, wpD_n]
theorem stD_waits (s : DkS) (f z : Nat) (b : List UInt8) (age : Int) : (stD s f z b age).2.1.length ≤ (frP age b).length := by
  have := wrD_waits (wpD s f z (stK s f z)) ((f + stK s f z * z : Nat) : Int) (frP age b)
  rw [wpD_waits] at this
  simpa [stD] using this
theorem stK_le (s : DkS) (f z : Nat) : stK s f z ≤ 1 := by unfold stK; split <;> omega
theorem slot_in {f z k N : Nat} (h : f + 2 * z ≤ N) (hk : k ≤ 1) : f + k * z + z ≤ N := by
  rcases Nat.lt_or_ge k 1 with h1 | h1
  · obtain rfl : k = 0 := by omega
    omega
  · obtain rfl : k = 1 := by omega
    omega
theorem wpD_rd {s : DkS} {f z k : Nat} (h : f + 2 * z ≤ s.1.length) (hk : k ≤ 1) : rdD (wpD s f z k) = putAt (rdD s) (f + k * z) (List.replicate z 0) := by
  have := slot_in h hk
  rw [wpD, syD_rd, rdD_wr (by rw [List.length_replicate]; exact this)]
/-- The slots behind the first of a Start's writes. -/
theorem wpD_pic {s : DkS} {f z k : Nat} (h : f + 2 * z ≤ s.1.length) (hk : k ≤ 1) : picD (wpD s f z k) f z k = none ∧ picD (wpD s f z k) f z (1 - k) = picD s f z (1 - k) := by
  have h1 := slot_in h hk
  have h2 := slot_in h (show 1 - k ≤ 1 by omega)
  have hl := rdD_len s
  rw [picD, picD, wpD_rd h hk, pieceB_over (by omega) (by rw [List.length_replicate]; omega), List.length_replicate, List.drop_of_length_le (by rw [pieceB_len (by omega)]; omega), List.append_nil, picB_zeros]
  refine ⟨rfl, ?_⟩
  rw [pieceB_far (by omega) (by rw [List.length_replicate]; omega), picD]
  rw [List.length_replicate]
  rcases Nat.lt_or_ge k 1 with hk1 | hk1
  · obtain rfl : k = 0 := by omega
    left
    omega
  · obtain rfl : k = 1 := by omega
    right
    omega
/-- What is read behind a crash at any place of a Start. -/
theorem stD_crash {s : DkS} {f z : Nat} {b : List UInt8} {age : Int} (h : f + 2 * z ≤ s.1.length) (he : stE s f z b age = 0) (keep : Int) :
    rdD (crD (stD s f z b age) keep) = putAt (rdD (wpD s f z (stK s f z))) (f + stK s f z * z) ((frP age b).take keep.toNat) := by
  have hy := stE_yes he
  have hk := stK_le s f z
  have h1 := slot_in h hk
  have hwe : wrE (wpD s f z (stK s f z)).1.length ((f + stK s f z * z : Nat) : Int) (frP age b).length = 0 := wrE_yes (by rw [wpD_len]; omega)
  rw [stD, wrD, if_pos hwe, wpD_waits, List.nil_append]
  unfold crD rdD
  simp only
  rw [wpD_waits, Int.toNat_natCast, spanB_take, putAll_span _ _ _ (by rw [wpD_len, List.length_take]; omega)]
  rfl
theorem stD_rd {s : DkS} {f z : Nat} {b : List UInt8} {age : Int} (h : f + 2 * z ≤ s.1.length) (he : stE s f z b age = 0) :
    rdD (stD s f z b age) = putAt (rdD (wpD s f z (stK s f z))) (f + stK s f z * z) (frP age b) := by
  have hy := stE_yes he
  have h1 := slot_in h (stK_le s f z)
  rw [stD, rdD_wr (by rw [wpD_len]; omega)]

/-- The picture behind it. -/
theorem putAt_pic {s : DkS} {f z : Nat} {b : List UInt8} {age : Int} {t : DkS} (h : f + 2 * z ≤ s.1.length) (he : stE s f z b age = 0) (n : Nat)
    (ht : rdD t = putAt (rdD (wpD s f z (stK s f z))) (f + stK s f z * z) ((frP age b).take n)) :
    loadD t f z = if (frP age b).length ≤ n then some (b, age.toNat) else loadD s f z := by
  obtain ⟨a0, a1, a2, a3, a4, a5⟩ := stE_yes he
  have hk := stK_le s f z
  have h1 := slot_in h hk
  have h2 := slot_in h (show 1 - stK s f z ≤ 1 by omega)
  obtain ⟨p1, p2⟩ := wpD_pic h hk
  have hl : (rdD (wpD s f z (stK s f z))).length = s.1.length := by rw [rdD_len, wpD_len]
  have hlt : ((frP age b).take n).length ≤ z := by rw [List.length_take]; omega
  have hz : pieceB (rdD (wpD s f z (stK s f z))) (f + stK s f z * z) z = List.replicate z 0 := by
    rw [wpD_rd h hk, pieceB_over (by rw [rdD_len]; omega) (by rw [List.length_replicate]; omega), List.length_replicate, List.drop_of_length_le (by rw [pieceB_len (by rw [rdD_len]; omega)]; omega), List.append_nil]
  have e1 : picD t f z (stK s f z) = if (frP age b).length ≤ n then some (b, age.toNat) else none := by
    rw [picD, ht, pieceB_over (by omega) hlt, hz, List.drop_replicate]
    by_cases hn : (frP age b).length ≤ n
    · rw [if_pos hn, List.take_of_length_le hn, picB_full (by omega) a4]
    · rw [if_neg hn, picB_torn a4 _ (Nat.lt_of_not_le hn)]
  have e2 : picD t f z (1 - stK s f z) = picD s f z (1 - stK s f z) := by
    rw [← p2, picD, picD, ht, pieceB_far (by omega) (by omega)]
    rcases Nat.lt_or_ge (stK s f z) 1 with hk1 | hk1
    · have : stK s f z = 0 := by omega
      rw [this]
      left
      omega
    · have : stK s f z = 1 := by omega
      rw [this]
      right
      omega
  have g0 := ageI_ge (picD s f z 0)
  have g1 := ageI_ge (picD s f z 1)
  have hA : ageI (some (b, age.toNat)) = age := by simp only [ageI]; omega
  have hN : ageI (none : Pic) = -1 := rfl
  by_cases hc : ageI (picD s f z 1) ≤ ageI (picD s f z 0) ∧ 0 ≤ ageI (picD s f z 0)
  · have hk1 : stK s f z = 1 := by rw [stK, if_pos hc]
    rw [hk1] at e1 e2
    have e2' : picD t f z 0 = picD s f z 0 := e2
    rw [loadD, loadD, loadP, loadP, e1, e2']
    by_cases hn : (frP age b).length ≤ n
    · rw [if_pos hn, if_pos hn, hA, if_pos a2]
    · rw [if_neg hn, if_neg hn, hN, if_neg (by omega), if_neg (by omega)]
  · have hk0 : stK s f z = 0 := by rw [stK, if_neg hc]
    rw [hk0] at e1 e2
    have e2' : picD t f z 1 = picD s f z 1 := e2
    rw [loadD, loadD, loadP, loadP, e1, e2']
    by_cases hn : (frP age b).length ≤ n
    · rw [if_pos hn, if_pos hn, hA, if_neg (by omega)]
    · rw [if_neg hn, if_neg hn, hN]
      by_cases hx : ageI (picD s f z 0) < ageI (picD s f z 1)
      · rw [if_pos (by omega), if_pos hx]
      · have h0 : ageI (picD s f z 0) = -1 := by omega
        have h1 : ageI (picD s f z 1) = -1 := by omega
        rw [if_neg hx, if_neg (by omega)]
        cases hp : picD s f z 0 with
        | none => rfl
        | some x => rw [hp] at h0; simp only [ageI] at h0; omega

end Go.Proofs.Ytidkdnidafdmpaa

/- Layer 6, plain mathematics: what the picture is behind these. -/
namespace Go.Proofs.Ytidkdnidafdmpaa

section
variable {s : DkS} {f z : Nat} {b : List UInt8} {age : Int}
theorem age_load (s : DkS) (f z : Nat) (age : Int) : (age ≤ ageI (picD s f z 0) ∨ age ≤ ageI (picD s f z 1)) ↔ age ≤ ageI (loadD s f z) := by
  rw [loadD, loadP]
  split <;> omega
theorem stE_load (s : DkS) (f z : Nat) (b : List UInt8) (age : Int) :
    stE s f z b age = if ¬ (0 ≤ age ∧ age < 9007199254740992) then 1 else if age ≤ ageI (loadD s f z) then 6 else if frP age b = [] ∨ z < (frP age b).length then 3 else 0 := by
  unfold stE
  by_cases h1 : ¬ (0 ≤ age ∧ age < 9007199254740992)
  · rw [if_pos h1, if_pos h1]
  · rw [if_neg h1, if_neg h1]
    by_cases h2 : age ≤ ageI (loadD s f z)
    · rw [if_pos h2, if_pos ((age_load s f z age).2 h2)]
    · rw [if_neg h2, if_neg (fun h => h2 ((age_load s f z age).1 h))]
theorem stE_cases (s : DkS) (f z : Nat) (b : List UInt8) (age : Int) : stE s f z b age = 0 ∨ stE s f z b age = 1 ∨ stE s f z b age = 3 ∨ stE s f z b age = 6 := by
  unfold stE
  repeat' split
  all_goals simp
theorem stS_len (s : DkS) (f z : Nat) (b : List UInt8) (age : Int) : (stS s f z b age).1.length = s.1.length := by
  unfold stS
  split
  · exact stD_len _ _ _ _ _
  · rfl
theorem svS_len (s : DkS) (f z : Nat) (b : List UInt8) (age : Int) : (svS s f z b age).1.length = s.1.length := by
  unfold svS
  split
  · rw [syD_len, stD_len]
  · rfl
theorem stS_n (s : DkS) (f z : Nat) (b : List UInt8) (age : Int) : s.2.2 ≤ (stS s f z b age).2.2 ∧ (stS s f z b age).2.2 ≤ s.2.2 + 1 := by
  unfold stS
  split
  · rw [stD_n]
    omega
  · omega
theorem svS_n (s : DkS) (f z : Nat) (b : List UInt8) (age : Int) : s.2.2 ≤ (svS s f z b age).2.2 ∧ (svS s f z b age).2.2 ≤ s.2.2 + 2 := by
  unfold svS
  split
  · simp only [syD, stD_n]
    omega
  · omega
/-- How much waits behind a Start. -/
theorem stD_waitsN (h : f + 2 * z ≤ s.1.length) (he : stE s f z b age = 0) : (stD s f z b age).2.1.length = (frP age b).length := by
  have hy := stE_yes he
  have h1 := slot_in h (stK_le s f z)
  have hwe : wrE (wpD s f z (stK s f z)).1.length ((f + stK s f z * z : Nat) : Int) (frP age b).length = 0 := wrE_yes (by rw [wpD_len]; omega)
  rw [stD, wrD, if_pos hwe, wpD_waits, List.nil_append]
  exact spanB_len _ _
theorem stS_waits (hz : z ≤ 65536) : (stS s f z b age).2.1.length ≤ s.2.1.length + 65536 := by
  unfold stS
  split
  · rename_i he
    have := stD_waits s f z b age
    have := stE_yes he
    omega
  · omega
theorem svS_waits : (svS s f z b age).2.1.length ≤ s.2.1.length := by
  unfold svS
  split
  · simp [syD]
  · omega
/-- A picture that was saved is there. -/
theorem svS_load (h : f + 2 * z ≤ s.1.length) (he : stE s f z b age = 0) : loadD (svS s f z b age) f z = some (b, age.toNat) := by
  have := putAt_pic (t := syD (stD s f z b age)) h he (frP age b).length (by rw [syD_rd, stD_rd h he, List.take_length])
  rw [if_pos (Nat.le_refl _)] at this
  rw [svS, if_pos he]
  exact this
theorem stS_load (h : f + 2 * z ≤ s.1.length) (he : stE s f z b age = 0) : loadD (stS s f z b age) f z = some (b, age.toNat) := by
  have := putAt_pic (t := stD s f z b age) h he (frP age b).length (by rw [stD_rd h he, List.take_length])
  rw [if_pos (Nat.le_refl _)] at this
  rw [stS, if_pos he]
  exact this
/-- Behind a crash there is the picture that there was, or the new one. -/
theorem stS_crash (h : f + 2 * z ≤ s.1.length) (he : stE s f z b age = 0) (keep : Int) : loadD (crD (stS s f z b age) keep) f z = if ((frP age b).length : Int) ≤ keep then some (b, age.toNat) else loadD s f z := by
  have hy := stE_yes he
  have hl : (frP age b).length = (numB (payB age.toNat b).length).length + (payB age.toNat b).length + 5 := frameB_len hy.2.2.2.2.1
  have := putAt_pic (t := crD (stD s f z b age) keep) h he keep.toNat (stD_crash h he keep)
  rw [stS, if_pos he, this]
  by_cases hk : ((frP age b).length : Int) ≤ keep
  · rw [if_pos hk, if_pos (by omega)]
  · rw [if_neg hk, if_neg (by omega)]
end

/-- New slots have no picture. -/
theorem new_load {n f z : Nat} {s : DkS} (hs : s = (List.replicate n 0, [], 0)) (h : f + 2 * z ≤ n) : loadD s f z = none := by
  have hp : ∀ k, k ≤ 1 → picD s f z k = none := fun k hk => by
    have := slot_in h hk
    have hr : rdD s = List.replicate n 0 := by rw [hs]; rfl
    rw [picD, hr, pieceB, List.drop_replicate, List.take_replicate]
    exact picB_zeros _
  rw [loadD, hp 0 (by decide), hp 1 (by decide)]
  rfl
/-- How long a frame is. -/
theorem frP_max (age : Int) (b : List UInt8) (h : age < 9007199254740992) : (frP age b).length ≤ b.length + 21 := by
  by_cases hp : okP (payB age.toNat b)
  · have h1 : (frP age b).length = (numB (payB age.toNat b).length).length + (payB age.toNat b).length + 5 := frameB_len hp
    have h2 := numB_len8 (n := age.toNat) (by omega)
    have h3 := numB_len8 (n := (payB age.toNat b).length) (by omega)
    have h4 : (payB age.toNat b).length = (numB age.toNat).length + b.length := List.length_append
    omega
  · rw [frP, frameB_no hp]
    simp
theorem frP_yes (age : Nat) (b : List UInt8) (ha : age < 9007199254740992) (hb : b.length ≤ 3000) : ¬ frP (age : Int) b = [] := by
  rw [frP, frameB_nil, Int.toNat_natCast]
  have h2 := numB_len8 (n := age) ha
  have h3 := numB_pos age
  have h4 : (payB age b).length = (numB age).length + b.length := List.length_append
  omega

end Go.Proofs.Ytidkdnidafdmpaa
