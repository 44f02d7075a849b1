/- Texts that the proof of JournalActs rests on, one behind the other. -/
import Derived.Test.YtdcmjmanalijfaaJournalActsQ1

/- Layer 6, plain mathematics: pictures in two pieces of a disk. -/
namespace Go.Proofs.Ytdcmjmanalijfaa

/-- A picture: its bytes, its age. -/
abbrev Pic : Type := Option (List UInt8 × Nat)
/-- The picture of a payload. -/
def payP (p : List UInt8) : Pic := match getN p with
  | none => none
  | some x => some (p.drop x.2, x.1)
/-- The picture that stands at the first of these bytes. -/
def picB (b : List UInt8) : Pic := if (getF b 0).2.2 = 1 then payP (getF b 0).1 else none
def ageI : Pic → Int
  | none => -1
  | some x => (x.2 : Int)
def bytP : Pic → List UInt8
  | none => []
  | some x => x.1
/-- That of a slot. -/
def picD (s : DkS) (f z k : Nat) : Pic := picB (pieceB (rdD s) (f + k * z) z)
/-- The picture. -/
def loadP (x y : Pic) : Pic := if ageI x < ageI y then y else x
def loadD (s : DkS) (f z : Nat) : Pic := loadP (picD s f z 0) (picD s f z 1)
/-- Its payload; its frame. -/
def payB (age : Nat) (b : List UInt8) : List UInt8 := numB age ++ b
abbrev frP (age : Int) (b : List UInt8) : List UInt8 := frameB (payB age.toNat b)
/-- Which error a Start has; where it writes; what it does. -/
def stE (s : DkS) (f z : Nat) (b : List UInt8) (age : Int) : Int :=
  if ¬ (0 ≤ age ∧ age < 9007199254740992) then 1 else if age ≤ ageI (picD s f z 0) ∨ age ≤ ageI (picD s f z 1) then 6 else if frP age b = [] ∨ z < (frP age b).length then 3 else 0
def stK (s : DkS) (f z : Nat) : Nat := if ageI (picD s f z 1) ≤ ageI (picD s f z 0) ∧ 0 ≤ ageI (picD s f z 0) then 1 else 0
def wpD (s : DkS) (f z k : Nat) : DkS := syD (wrD s ((f + k * z : Nat) : Int) (List.replicate z 0))
def stD (s : DkS) (f z : Nat) (b : List UInt8) (age : Int) : DkS := wrD (wpD s f z (stK s f z)) ((f + stK s f z * z : Nat) : Int) (frP age b)
def stS (s : DkS) (f z : Nat) (b : List UInt8) (age : Int) : DkS := if stE s f z b age = 0 then stD s f z b age else s
def svS (s : DkS) (f z : Nat) (b : List UInt8) (age : Int) : DkS := if stE s f z b age = 0 then syD (stD s f z b age) else s

theorem ageI_ge (x : Pic) : -1 ≤ ageI x := by
  cases x with
  | none => exact Int.le_refl _
  | some x =>
    simp only [ageI]
    omega
theorem payP_put {n : Nat} (h : n < 9007199254740992) (b : List UInt8) : payP (payB n b) = some (b, n) := by
  simp [payP, payB, getN_put h]
theorem payP_lt {p : List UInt8} {x : List UInt8 × Nat} (h : payP p = some x) : x.2 < 9007199254740992 ∧ x.1.length ≤ p.length := by
  unfold payP at h
  cases hg : getN p with
  | none => rw [hg] at h; cases h
  | some y =>
    rw [hg] at h
    simp only [Option.some.injEq] at h
    obtain ⟨h1, h2, h3, h4⟩ := getN_le (n := y.1) (j := y.2) hg
    rw [← h]
    exact ⟨h4, by simp⟩
theorem picB_lt {b : List UInt8} : ageI (picB b) < 9007199254740992 ∧ (bytP (picB b)).length ≤ 4000 := by
  unfold picB
  split
  · rename_i hw
    have ho := getF_on hw
    cases hp : payP (getF b 0).1 with
    | none => simp [ageI, bytP]
    | some x =>
      have := payP_lt hp
      simp only [ageI, bytP]
      omega
  · simp [ageI, bytP]
theorem picD_lt (s : DkS) (f z k : Nat) : ageI (picD s f z k) < 9007199254740992 ∧ (bytP (picD s f z k)).length ≤ 4000 := picB_lt
theorem loadP_cases (x y : Pic) : loadP x y = x ∨ loadP x y = y := by
  unfold loadP
  split
  · exact .inr rfl
  · exact .inl rfl
theorem loadD_lt (s : DkS) (f z : Nat) : ageI (loadD s f z) < 9007199254740992 ∧ (bytP (loadD s f z)).length ≤ 4000 := by
  rcases loadP_cases (picD s f z 0) (picD s f z 1) with h | h <;> rw [loadD, h] <;> exact picD_lt _ _ _ _

theorem stE_yes {s : DkS} {f z : Nat} {b : List UInt8} {age : Int} (h : stE s f z b age = 0) :
    0 ≤ age ∧ age < 9007199254740992 ∧ ageI (picD s f z 0) < age ∧ ageI (picD s f z 1) < age ∧ okP (payB age.toNat b) ∧ (frP age b).length ≤ z := by
  unfold stE at h
  split at h
  · cases h
  · split at h
    · cases h
    · split at h
      · cases h
      · rename_i h1 h2 h3
        have h4 : okP (payB age.toNat b) := by
          rcases Classical.em (okP (payB age.toNat b)) with hk | hk
          · exact hk
          · exact absurd (.inl (frameB_nil.2 hk)) h3
        exact ⟨by omega, by omega, by omega, by omega, h4, by omega⟩

/-! ### What stands in the slots behind a Start -/
theorem picB_full {n : Nat} {b : List UInt8} (h : n < 9007199254740992) (hp : okP (payB n b)) (rest : List UInt8) : picB (frameB (payB n b) ++ rest) = some (b, n) := by
  have hg := getF_put hp [] rest
  rw [List.nil_append] at hg
  have hg0 : getF (frameB (payB n b) ++ rest) 0 = (payB n b, ((([] : List UInt8).length : Int) + (frameB (payB n b)).length), 1) := hg
  rw [picB, hg0, if_pos rfl]
  exact payP_put h b
theorem picB_torn {p : List UInt8} (hp : okP p) {k : Nat} (r : Nat) (hk : k < (frameB p).length) : picB ((frameB p).take k ++ List.replicate r 0) = none := by
  rw [picB, getF_torn hp k r hk, if_neg]
  by_cases h0 : k = 0 <;> simp [h0]
theorem picB_zeros (r : Nat) : picB (List.replicate r 0) = none := by rw [picB, if_neg (zeros_none r)]

/-- A piece that is apart of a write stands. -/
theorem pieceB_far {b : List UInt8} {f z i : Nat} {l : List UInt8} (_h : f + z ≤ b.length) (hi : i + l.length ≤ b.length) (ha : i + l.length ≤ f ∨ f + z ≤ i) : pieceB (putAt b i l) f z = pieceB b f z := by
  apply List.ext_getElem?
  intro j
  simp only [pieceB, putAt]
  rw [List.getElem?_take, List.getElem?_take]
  split
  · rename_i hj
    rw [List.getElem?_drop, List.getElem?_drop]
    have e1 : (b.take i).length = i := by rw [List.length_take]; omega
    rcases ha with ha | ha
    · rw [List.getElem?_append_right (by omega), e1, List.getElem?_append_right (by omega), List.getElem?_drop]
      congr 1
      omega
    · rw [List.getElem?_append_left (by omega), List.getElem?_take, if_pos (by omega)]
  · rfl
/-- The whole piece is written. -/
theorem pieceB_over {b : List UInt8} {f z : Nat} {l : List UInt8} (h : f + z ≤ b.length) (hl : l.length ≤ z) : pieceB (putAt b f l) f z = l ++ (pieceB b f z).drop l.length := by
  have := pieceB_put (b := b) (f := f) (z := z) (u := 0) (l := l) h (by omega)
  rw [Nat.add_zero] at this
  rw [this, List.take_zero, List.nil_append, Nat.zero_add]

theorem wpD_len (s : DkS) (f z k : Nat) : (wpD s f z k).1.length = s.1.length := by rw [wpD, syD_len, wrD_len]
theorem wpD_waits (s : DkS) (f z k : Nat) : (wpD s f z k).2.1 = [] := rfl
theorem wpD_n (s : DkS) (f z k : Nat) : (wpD s f z k).2.2 = s.2.2 + 1 := by rw [wpD, syD, wrD_n]
theorem stD_len (s : DkS) (f z : Nat) (b : List UInt8) (age : Int) : (stD s f z b age).1.length = s.1.length := by rw [stD, wrD_len, wpD_len]
theorem stD_n (s : DkS) (f z : Nat) (b : List UInt8) (age : Int) : (stD s f z b age).2.2 = s.2.2 + 1 := by rw [stD, wrD_n, wpD_n]
theorem stD_waits (s : DkS) (f z : Nat) (b : List UInt8) (age : Int) : (stD s f z b age).2.1.length ≤ (frP age b).length := by
  have := wrD_waits (wpD s f z (stK s f z)) ((f + stK s f z * z : Nat) : Int) (frP age b)
  rw [wpD_waits] at this
  simpa [stD] using this
theorem stK_le (s : DkS) (f z : Nat) : stK s f z ≤ 1 := by unfold stK; split <;> omega
theorem slot_in {f z k N : Nat} (h : f + 2 * z ≤ N) (hk : k ≤ 1) : f + k * z + z ≤ N := by
  rcases Nat.lt_or_ge k 1 with h1 | h1
  · obtain rfl : k = 0 := by omega
    omega
  · obtain rfl : k = 1 := by omega
    omega
theorem wpD_rd {s : DkS} {f z k : Nat} (h : f + 2 * z ≤ s.1.length) (hk : k ≤ 1) : rdD (wpD s f z k) = putAt (rdD s) (f + k * z) (List.replicate z 0) := by
  have := slot_in h hk
  rw [wpD, syD_rd, rdD_wr (by rw [List.length_replicate]; exact this)]
/-- The slots behind the first of a Start's writes. -/
theorem wpD_pic {s : DkS} {f z k : Nat} (h : f + 2 * z ≤ s.1.length) (hk : k ≤ 1) : picD (wpD s f z k) f z k = none ∧ picD (wpD s f z k) f z (1 - k) = picD s f z (1 - k) := by
  have h1 := slot_in h hk
  have h2 := slot_in h (show 1 - k ≤ 1 by omega)
  have hl := rdD_len s
  rw [picD, picD, wpD_rd h hk, pieceB_over (by omega) (by rw [List.length_replicate]; omega), List.length_replicate, List.drop_of_length_le (by rw [pieceB_len (by omega)]; omega), List.append_nil, picB_zeros]
  refine ⟨rfl, ?_⟩
  rw [pieceB_far (by omega) (by rw [List.length_replicate]; omega), picD]
  rw [List.length_replicate]
  rcases Nat.lt_or_ge k 1 with hk1 | hk1
  · obtain rfl : k = 0 := by omega
    left
    omega
  · obtain rfl : k = 1 := by omega
    right
    omega
/-- What is read behind a crash at any place of a Start. -/
theorem stD_crash {s : DkS} {f z : Nat} {b : List UInt8} {age : Int} (h : f + 2 * z ≤ s.1.length) (he : stE s f z b age = 0) (keep : Int) :
    rdD (crD (stD s f z b age) keep) = putAt (rdD (wpD s f z (stK s f z))) (f + stK s f z * z) ((frP age b).take keep.toNat) := by
  have hy := stE_yes he
  have hk := stK_le s f z
  have h1 := slot_in h hk
  have hwe : wrE (wpD s f z (stK s f z)).1.length ((f + stK s f z * z : Nat) : Int) (frP age b).length = 0 := wrE_yes (by rw [wpD_len]; omega)
  rw [stD, wrD, if_pos hwe, wpD_waits, List.nil_append]
  unfold crD rdD
  simp only
  rw [wpD_waits, Int.toNat_natCast, spanB_take, putAll_span _ _ _ (by rw [wpD_len, List.length_take]; omega)]
  rfl
theorem stD_rd {s : DkS} {f z : Nat} {b : List UInt8} {age : Int} (h : f + 2 * z ≤ s.1.length) (he : stE s f z b age = 0) :
    rdD (stD s f z b age) = putAt (rdD (wpD s f z (stK s f z))) (f + stK s f z * z) (frP age b) := by
  have hy := stE_yes he
  have h1 := slot_in h (stK_le s f z)
  rw [stD, rdD_wr (by rw [wpD_len]; omega)]

/-- The picture behind it. -/
theorem putAt_pic {s : DkS} {f z : Nat} {b : List UInt8} {age : Int} {t : DkS} (h : f + 2 * z ≤ s.1.length) (he : stE s f z b age = 0) (n : Nat)
    (ht : rdD t = putAt (rdD (wpD s f z (stK s f z))) (f + stK s f z * z) ((frP age b).take n)) :
    loadD t f z = if (frP age b).length ≤ n then some (b, age.toNat) else loadD s f z := by
  obtain ⟨a0, a1, a2, a3, a4, a5⟩ := stE_yes he
  have hk := stK_le s f z
  have h1 := slot_in h hk
  have h2 := slot_in h (show 1 - stK s f z ≤ 1 by omega)
  obtain ⟨p1, p2⟩ := wpD_pic h hk
  have hl : (rdD (wpD s f z (stK s f z))).length = s.1.length := by rw [rdD_len, wpD_len]
  have hlt : ((frP age b).take n).length ≤ z := by rw [List.length_take]; omega
  have hz : pieceB (rdD (wpD s f z (stK s f z))) (f + stK s f z * z) z = List.replicate z 0 := by
    rw [wpD_rd h hk, pieceB_over (by rw [rdD_len]; omega) (by rw [List.length_replicate]; omega), List.length_replicate, List.drop_of_length_le (by rw [pieceB_len (by rw [rdD_len]; omega)]; omega), List.append_nil]
  have e1 : picD t f z (stK s f z) = if (frP age b).length ≤ n then some (b, age.toNat) else none := by
    rw [picD, ht, pieceB_over (by omega) hlt, hz, List.drop_replicate]
    by_cases hn : (frP age b).length ≤ n
    · rw [if_pos hn, List.take_of_length_le hn, picB_full (by omega) a4]
    · rw [if_neg hn, picB_torn a4 _ (Nat.lt_of_not_le hn)]
  have e2 : picD t f z (1 - stK s f z) = picD s f z (1 - stK s f z) := by
    rw [← p2, picD, picD, ht, pieceB_far (by omega) (by omega)]
    rcases Nat.lt_or_ge (stK s f z) 1 with hk1 | hk1
    · have : stK s f z = 0 := by omega
      rw [this]
      left
      omega
    · have : stK s f z = 1 := by omega
      rw [this]
      right
      omega
  have g0 := ageI_ge (picD s f z 0)
  have g1 := ageI_ge (picD s f z 1)
  have hA : ageI (some (b, age.toNat)) = age := by simp only [ageI]; omega
  have hN : ageI (none : Pic) = -1 := rfl
  by_cases hc : ageI (picD s f z 1) ≤ ageI (picD s f z 0) ∧ 0 ≤ ageI (picD s f z 0)
  · have hk1 : stK s f z = 1 := by rw [stK, if_pos hc]
    rw [hk1] at e1 e2
    have e2' : picD t f z 0 = picD s f z 0 := e2
    rw [loadD, loadD, loadP, loadP, e1, e2']
    by_cases hn : (frP age b).length ≤ n
    · rw [if_pos hn, if_pos hn, hA, if_pos a2]
    · rw [if_neg hn, if_neg hn, hN, if_neg (by omega), if_neg (by omega)]
  · have hk0 : stK s f z = 0 := by rw [stK, if_neg hc]
    rw [hk0] at e1 e2
    have e2' : picD t f z 1 = picD s f z 1 := e2
    rw [loadD, loadD, loadP, loadP, e1, e2']
    by_cases hn : (frP age b).length ≤ n
    · rw [if_pos hn, if_pos hn, hA, if_neg (by omega)]
    · rw [if_neg hn, if_neg hn, hN]
      by_cases hx : ageI (picD s f z 0) < ageI (picD s f z 1)
      · rw [if_pos (by omega), if_pos hx]
      · have h0 : ageI (picD s f z 0) = -1 := by omega
        have h1 : ageI (picD s f z 1) = -1 := by omega
        rw [if_neg hx, if_neg (by omega)]
        cases hp : picD s f z 0 with
        | none => rfl
        | some x => rw [hp] at h0; simp only [ageI] at h0; omega

end Go.Proofs.Ytdcmjmanalijfaa

/- Layer 6, plain mathematics: what the picture is behind these. -/
namespace Go.Proofs.Ytdcmjmanalijfaa

section
variable {s : DkS} {f z : Nat} {b : List UInt8} {age : Int}
theorem age_load (s : DkS) (f z : Nat) (age : Int) : (age ≤ ageI (picD s f z 0) ∨ age ≤ ageI (picD s f z 1)) ↔ age ≤ ageI (loadD s f z) := by
  rw [loadD, loadP]
  split <;> omega
theorem stE_load (s : DkS) (f z : Nat) (b : List UInt8) (age : Int) :
    stE s f z b age = if ¬ (0 ≤ age ∧ age < 9007199254740992) then 1 else if age ≤ ageI (loadD s f z) then 6 else if frP age b = [] ∨ z < (frP age b).length then 3 else 0 := by
  unfold stE
  by_cases h1 : ¬ (0 ≤ age ∧ age < 9007199254740992)
  · rw [if_pos h1, if_pos h1]
  · rw [if_neg h1, if_neg h1]
    by_cases h2 : age ≤ ageI (loadD s f z)
    · rw [if_pos h2, if_pos ((age_load s f z age).2 h2)]
    · rw [if_neg h2, if_neg (fun h => h2 ((age_load s f z age).1 h))]
theorem stE_cases (s : DkS) (f z : Nat) (b : List UInt8) (age : Int) : stE s f z b age = 0 ∨ stE s f z b age = 1 ∨ stE s f z b age = 3 ∨ stE s f z b age = 6 := by
  unfold stE
  repeat' split
  all_goals simp
theorem stS_len (s : DkS) (f z : Nat) (b : List UInt8) (age : Int) : (stS s f z b age).1.length = s.1.length := by
  unfold stS
  split
  · exact stD_len _ _ _ _ _
  · rfl
theorem svS_len (s : DkS) (f z : Nat) (b : List UInt8) (age : Int) : (svS s f z b age).1.length = s.1.length := by
  unfold svS
  split
  · rw [syD_len, stD_len]
  · rfl
theorem stS_n (s : DkS) (f z : Nat) (b : List UInt8) (age : Int) : s.2.2 ≤ (stS s f z b age).2.2 ∧ (stS s f z b age).2.2 ≤ s.2.2 + 1 := by
  unfold stS
  split
  · rw [stD_n]
    omega
  · omega
theorem svS_n (s : DkS) (f z : Nat) (b : List UInt8) (age : Int) : s.2.2 ≤ (svS s f z b age).2.2 ∧ (svS s f z b age).2.2 ≤ s.2.2 + 2 := by
  unfold svS
  split
  · simp only [syD, stD_n]
    omega
  · omega
/-- How much waits behind a Start. -/
theorem stD_waitsN (h : f + 2 * z ≤ s.1.length) (he : stE s f z b age = 0) : (stD s f z b age).2.1.length = (frP age b).length := by
  have hy := stE_yes he
  have h1 := slot_in h (stK_le s f z)
  have hwe : wrE (wpD s f z (stK s f z)).1.length ((f + stK s f z * z : Nat) : Int) (frP age b).length = 0 := wrE_yes (by rw [wpD_len]; omega)
  rw [stD, wrD, if_pos hwe, wpD_waits, List.nil_append]
  exact spanB_len _ _
theorem stS_waits (hz : z ≤ 65536) : (stS s f z b age).2.1.length ≤ s.2.1.length + 65536 := by
  unfold stS
  split
  · rename_i he
    have := stD_waits s f z b age
    have := stE_yes he
    omega
  · omega
theorem svS_waits : (svS s f z b age).2.1.length ≤ s.2.1.length := by
  unfold svS
  split
  · simp [syD]
  · omega
/-- A picture that was saved is there. -/
theorem svS_load (h : f + 2 * z ≤ s.1.length) (he : stE s f z b age = 0) : loadD (svS s f z b age) f z = some (b, age.toNat) := by
  have := putAt_pic (t := syD (stD s f z b age)) h he (frP age b).length (by rw [syD_rd, stD_rd h he, List.take_length])
  rw [if_pos (Nat.le_refl _)] at this
  rw [svS, if_pos he]
  exact this
theorem stS_load (h : f + 2 * z ≤ s.1.length) (he : stE s f z b age = 0) : loadD (stS s f z b age) f z = some (b, age.toNat) := by
  have := putAt_pic (t := stD s f z b age) h he (frP age b).length (by rw [stD_rd h he, List.take_length])
  rw [if_pos (Nat.le_refl _)] at this
  rw [stS, if_pos he]
  exact this
/-- Behind a crash there is the picture that there was, or the new one. -/
theorem stS_crash (h : f + 2 * z ≤ s.1.length) (he : stE s f z b age = 0) (keep : Int) : loadD (crD (stS s f z b age) keep) f z = if ((frP age b).length : Int) ≤ keep then some (b, age.toNat) else loadD s f z := by
  have hy := stE_yes he
  have hl : (frP age b).length = (numB (payB age.toNat b).length).length + (payB age.toNat b).length + 5 := frameB_len hy.2.2.2.2.1
  have := putAt_pic (t := crD (stD s f z b age) keep) h he keep.toNat (stD_crash h he keep)
  rw [stS, if_pos he, this]
  by_cases hk : ((frP age b).length : Int) ≤ keep
  · rw [if_pos hk, if_pos (by omega)]
  · rw [if_neg hk, if_neg (by omega)]
end

/-- New slots have no picture. -/
theorem new_load {n f z : Nat} {s : DkS} (hs : s = (List.replicate n 0, [], 0)) (h : f + 2 * z ≤ n) : loadD s f z = none := by
  have hp : ∀ k, k ≤ 1 → picD s f z k = none := fun k hk => by
    have := slot_in h hk
    have hr : rdD s = List.replicate n 0 := by rw [hs]; rfl
    rw [picD, hr, pieceB, List.drop_replicate, List.take_replicate]
    exact picB_zeros _
  rw [loadD, hp 0 (by decide), hp 1 (by decide)]
  rfl
/-- How long a frame is. -/
theorem frP_max (age : Int) (b : List UInt8) (h : age < 9007199254740992) : (frP age b).length ≤ b.length + 21 := by
  by_cases hp : okP (payB age.toNat b)
  · have h1 : (frP age b).length = (numB (payB age.toNat b).length).length + (payB age.toNat b).length + 5 := frameB_len hp
    have h2 := numB_len8 (n := age.toNat) (by omega)
    have h3 := numB_len8 (n := (payB age.toNat b).length) (by omega)
    have h4 : (payB age.toNat b).length = (numB age.toNat).length + b.length := List.length_append
    omega
  · rw [frP, frameB_no hp]
    simp
theorem frP_yes (age : Nat) (b : List UInt8) (ha : age < 9007199254740992) (hb : b.length ≤ 3000) : ¬ frP (age : Int) b = [] := by
  rw [frP, frameB_nil, Int.toNat_natCast]
  have h2 := numB_len8 (n := age) ha
  have h3 := numB_pos age
  have h4 : (payB age b).length = (numB age).length + b.length := List.length_append
  omega

end Go.Proofs.Ytdcmjmanalijfaa

/- Layer 7, plain mathematics: ops, each by its number, in a log's records. -/
namespace Go.Proofs.Ytdcmjmanalijfaa

/-- The ops of records, from a number on, and how many there are in all. -/
def jr : List (List UInt8) → Nat → List (List UInt8) × Nat
  | [], c => ([], c)
  | r :: rs, c => match getN r with
    | none => ([], c)
    | some x => if r.length = x.2 then ([], c) else if x.1 < c then jr rs c else if x.1 = c then (r.drop x.2 :: (jr rs (c + 1)).1, (jr rs (c + 1)).2) else ([], c)
/-- Has a record a lower number? -/
def lowR (c : Nat) (r : List UInt8) : Bool := match getN r with
  | none => false
  | some x => decide (x.1 < c)
/-- Have all of them, and is there one? -/
def oldR (l : List (List UInt8)) (c : Nat) : Bool := !l.isEmpty && l.all (lowR c)

theorem jr_ge : ∀ (l : List (List UInt8)) (c : Nat), c ≤ (jr l c).2 ∧ (jr l c).2 = c + (jr l c).1.length ∧ (jr l c).1.length ≤ l.length
  | [], c => by simp [jr]
  | r :: rs, c => by
    rw [jr]
    cases getN r with
    | none => simp
    | some x =>
      simp only
      split
      · simp
      · split
        · have := jr_ge rs c
          simp only [List.length_cons]
          omega
        · split
          · have := jr_ge rs (c + 1)
            simp only [List.length_cons]
            omega
          · simp

/-! ### The records of ops, from a number on -/
def recsW : Nat → List (List UInt8) → List (List UInt8)
  | _, [] => []
  | k, w :: ws => payB k w :: recsW (k + 1) ws
theorem recsW_snoc : ∀ (k : Nat) (l : List (List UInt8)) (w : List UInt8), recsW k (l ++ [w]) = recsW k l ++ [payB (k + l.length) w]
  | k, [], w => by simp [recsW]
  | k, x :: xs, w => by
    rw [List.cons_append, recsW, recsW_snoc (k + 1) xs w, recsW, List.cons_append, List.length_cons, show k + 1 + xs.length = k + (xs.length + 1) by omega]
theorem recsW_len : ∀ (k : Nat) (l : List (List UInt8)), (recsW k l).length = l.length
  | _, [] => rfl
  | k, _ :: xs => by rw [recsW, List.length_cons, recsW_len (k + 1) xs, List.length_cons]
theorem payB_getN {n : Nat} (h : n < 9007199254740992) (b : List UInt8) : getN (payB n b) = some (n, (numB n).length) := by rw [payB, getN_put h]
theorem payB_len (n : Nat) (b : List UInt8) : (payB n b).length = (numB n).length + b.length := by rw [payB, List.length_append]
/-- They are read again. -/
theorem jr_recsW : ∀ (l : List (List UInt8)) (k : Nat), (∀ w ∈ l, 1 ≤ w.length) → k + l.length < 9007199254740992 → jr (recsW k l) k = (l, k + l.length)
  | [], k, _, _ => rfl
  | w :: ws, k, h, hk => by
    have h1 := h w List.mem_cons_self
    rw [List.length_cons] at hk
    rw [recsW, jr, payB_getN (by omega)]
    simp only
    rw [if_neg (by rw [payB_len]; omega), if_neg (Nat.lt_irrefl k), if_pos trivial, jr_recsW ws (k + 1) (fun x hx => h x (List.mem_cons_of_mem _ hx)) (by omega)]
    simp only [payB, List.drop_left, List.length_cons]
    rw [show k + 1 + ws.length = k + (ws.length + 1) by omega]
/-- None of them is of a lower number. -/
theorem oldR_recsW (l : List (List UInt8)) (k : Nat) (hk : k + l.length < 9007199254740992) : oldR (recsW k l) k = false := by
  cases l with
  | nil => rfl
  | cons w ws =>
    rw [List.length_cons] at hk
    have : lowR k (payB k w) = false := by
      rw [lowR, payB_getN (by omega)]
      simp
    rw [oldR, recsW, List.all_cons, this]
    simp

/-! ### Two disks that are read alike -/
def Eqv (s t : DkS) : Prop := s.1 = t.1 ∧ s.2.1 = t.2.1
theorem Eqv.refl (s : DkS) : Eqv s s := ⟨rfl, rfl⟩
theorem Eqv.symm {s t : DkS} (h : Eqv s t) : Eqv t s := ⟨h.1.symm, h.2.symm⟩
theorem Eqv.trans {s t u : DkS} (h : Eqv s t) (k : Eqv t u) : Eqv s u := ⟨h.1.trans k.1, h.2.trans k.2⟩
theorem Eqv.rd {s t : DkS} (h : Eqv s t) : rdD s = rdD t := by rw [rdD, rdD, h.1, h.2]
theorem Eqv.wr {s t : DkS} (h : Eqv s t) (i : Int) (l : List UInt8) : Eqv (wrD s i l) (wrD t i l) := by
  unfold wrD
  rw [h.1]
  split
  · exact ⟨rfl, by simp only; rw [h.2]⟩
  · exact ⟨h.1, h.2⟩
theorem Eqv.sy {s t : DkS} (h : Eqv s t) : Eqv (syD s) (syD t) := ⟨by rw [syD, syD, h.1, h.2], rfl⟩
theorem Eqv.cr {s t : DkS} (h : Eqv s t) (k : Int) : Eqv (crD s k) (crD t k) := ⟨by rw [crD, crD, h.1, h.2], rfl⟩
theorem Eqv.rec {s t : DkS} (h : Eqv s t) (f z : Nat) : recD s f z = recD t f z := by rw [recD, recD, h.rd]
theorem Eqv.end_ {s t : DkS} (h : Eqv s t) (f z : Nat) : endD s f z = endD t f z := by rw [endD, endD, h.rec]
theorem Eqv.zr {s t : DkS} (h : Eqv s t) (f z u : Nat) : Eqv (zrD s f z u) (zrD t f z u) := (h.wr _ _).sy
theorem Eqv.op {s t : DkS} (h : Eqv s t) (f z : Nat) : Eqv (opD s f z) (opD t f z) := by
  rw [opD, opD, h.end_]
  exact h.zr _ _ _
theorem Eqv.pt {s t : DkS} (h : Eqv s t) (f u : Nat) (p : List UInt8) : Eqv (ptD s f u p) (ptD t f u p) := h.wr _ _
theorem Eqv.pic {s t : DkS} (h : Eqv s t) (f z k : Nat) : picD s f z k = picD t f z k := by rw [picD, picD, h.rd]
theorem Eqv.load {s t : DkS} (h : Eqv s t) (f z : Nat) : loadD s f z = loadD t f z := by rw [loadD, loadD, h.pic, h.pic]
theorem Eqv.stE {s t : DkS} (h : Eqv s t) (f z : Nat) (b : List UInt8) (age : Int) : Go.Proofs.Ytdcmjmanalijfaa.stE s f z b age = Go.Proofs.Ytdcmjmanalijfaa.stE t f z b age := by
  unfold Go.Proofs.Ytdcmjmanalijfaa.stE
  rw [h.pic, h.pic]
theorem Eqv.stK {s t : DkS} (h : Eqv s t) (f z : Nat) : Go.Proofs.Ytdcmjmanalijfaa.stK s f z = Go.Proofs.Ytdcmjmanalijfaa.stK t f z := by
  unfold Go.Proofs.Ytdcmjmanalijfaa.stK
  rw [h.pic, h.pic]
theorem Eqv.stD {s t : DkS} (h : Eqv s t) (f z : Nat) (b : List UInt8) (age : Int) : Eqv (Go.Proofs.Ytdcmjmanalijfaa.stD s f z b age) (Go.Proofs.Ytdcmjmanalijfaa.stD t f z b age) := by
  unfold Go.Proofs.Ytdcmjmanalijfaa.stD wpD
  rw [h.stK]
  exact ((h.wr _ _).sy).wr _ _
theorem Eqv.sv {s t : DkS} (h : Eqv s t) (f z : Nat) (b : List UInt8) (age : Int) : Eqv (svS s f z b age) (svS t f z b age) := by
  unfold svS
  rw [h.stE]
  split
  · exact (h.stD _ _ _ _).sy
  · exact h

end Go.Proofs.Ytdcmjmanalijfaa

/- Layer 7, plain mathematics: what is done to a journal, in terms of its disk. -/
namespace Go.Proofs.Ytdcmjmanalijfaa

/-- Where a journal's slots and its log lie: slots of q bytes from 0 on, a log of z bytes from f on. -/
structure Geo (N q f z : Nat) : Prop where
  small : 64 ≤ N
  big : N ≤ 65536
  hq : q = N / 4
  hf : f = 2 * q
  hz : f + z = N
theorem Geo.slots {N q f z : Nat} (h : Geo N q f z) : 0 + 2 * q ≤ N ∧ 1 ≤ q ∧ f + z ≤ N ∧ 1 ≤ z ∧ z ≤ 65536 ∧ 2 * q ≤ f := by
  obtain ⟨h1, h2, h3, h4, h5⟩ := h
  omega

/-- How many ops are in the picture. -/
def c0D (s : DkS) (q : Nat) : Nat := (ageI (loadD s 0 q)).toNat
/-- A journal is opened: its disk, its log's records, how many ops there are, the ops. -/
def jopS (s : DkS) (q f z : Nat) : DkS := if oldR (recD s f z) (c0D s q) = true then zrD (opD s f z) f z 0 else opD s f z
def jopL (s : DkS) (q f z : Nat) : List (List UInt8) := if oldR (recD s f z) (c0D s q) = true then [] else recD s f z
def jopC (s : DkS) (q f z : Nat) : Nat := (jr (recD s f z) (c0D s q)).2
def jopO (s : DkS) (q f z : Nat) : List (List UInt8) := (jr (recD s f z) (c0D s q)).1
/-- Which error an op has; a picture. -/
def jE (z u c : Nat) (p : List UInt8) : Int := if ¬ (1 ≤ p.length ∧ p.length ≤ 3900) then 1 else if z - u < (frameB (payB c p)).length then 3 else 0
def cpE (s : DkS) (q : Nat) (p : List UInt8) (c : Nat) (a : Int) : Int := if a = (c : Int) then 3 else if stE s 0 q p (c : Int) = 0 then 0 else 3
/-- What an op, and a picture, do to the disk. -/
def jsD (s : DkS) (f u c : Nat) (p : List UInt8) : DkS := ptD s f u (payB c p)
def cpD (s : DkS) (q f z : Nat) (p : List UInt8) (c : Nat) : DkS := zrD (svS s 0 q p (c : Int)) f z 0
/-- Has an op of n bytes room? -/
def jroom (z u c : Nat) (n : Int) : Bool := decide (1 ≤ n ∧ n ≤ 3900) && roomB z u ((numB c).length + n.toNat : Nat)

theorem payB_ok {c : Nat} {p : List UInt8} (hc : c < 9007199254740992) (h : 1 ≤ p.length ∧ p.length ≤ 3900) : okP (payB c p) := by
  have := numB_len8 hc
  have := numB_pos c
  exact ⟨by rw [payB_len]; omega, by rw [payB_len]; omega⟩
theorem jE_put {z u c : Nat} {p : List UInt8} (hc : c < 9007199254740992) (h : 1 ≤ p.length ∧ p.length ≤ 3900) : jE z u c p = putE z u (payB c p) := by
  have hok := payB_ok hc h
  have hnf : ¬ frameB (payB c p) = [] := by rw [frameB_nil]; exact fun h' => h' hok
  rw [jE, if_neg (fun h' => h' h), putE, if_neg hnf]
theorem jroom_e {z u c : Nat} {p : List UInt8} (hc : c < 9007199254740992) : jroom z u c p.length = decide (jE z u c p = 0) := by
  unfold jroom
  by_cases h : 1 ≤ p.length ∧ p.length ≤ 3900
  · rw [decide_eq_true (show 1 ≤ (p.length : Int) ∧ (p.length : Int) ≤ 3900 by omega), Bool.true_and, Int.toNat_natCast, ← payB_len, roomB_put, jE_put hc h]
  · rw [decide_eq_false (by omega), Bool.false_and, jE, if_pos h]
    rfl
theorem jE_yes {z u c : Nat} {p : List UInt8} (hc : c < 9007199254740992) (h : jE z u c p = 0) : (1 ≤ p.length ∧ p.length ≤ 3900) ∧ okP (payB c p) ∧ (frameB (payB c p)).length ≤ z - u := by
  have h1 : 1 ≤ p.length ∧ p.length ≤ 3900 := by
    rcases Classical.em (1 ≤ p.length ∧ p.length ≤ 3900) with h1 | h1
    · exact h1
    · rw [jE, if_pos h1] at h
      cases h
  rw [jE_put hc h1] at h
  exact ⟨h1, putE_yes h⟩
/-- How long a record's frame is. -/
theorem jframe_len {c : Nat} {p : List UInt8} (hc : c < 9007199254740992) (h : 1 ≤ p.length ∧ p.length ≤ 3900) : (frameB (payB c p)).length = (numB ((numB c).length + p.length)).length + (numB c).length + p.length + 5 := by
  rw [frameB_len (payB_ok hc h), payB_len]
  omega

/-! ### A write behind the slots, a write ahead of the log -/
theorem load_far {s t : DkS} {q i : Nat} {l : List UInt8} (h : rdD t = putAt (rdD s) i l) (hq : 2 * q ≤ i) (hi : i + l.length ≤ s.1.length) : loadD t 0 q = loadD s 0 q := by
  have hp : ∀ k, k ≤ 1 → picD t 0 q k = picD s 0 q k := by
    intro k hk
    have hk2 : 0 + k * q + q ≤ 2 * q := slot_in (by omega) hk
    rw [picD, picD, h, pieceB_far (by rw [rdD_len]; omega) (by rw [rdD_len]; exact hi) (.inr (by omega))]
  rw [loadD, loadD, hp 0 (by omega), hp 1 (by omega)]
theorem LogIs.far {b : List UInt8} {f z i : Nat} {l : List UInt8} {L : List (List UInt8)} (h : LogIs b f z L) (hi : i + l.length ≤ f) : LogIs (putAt b i l) f z L := by
  obtain ⟨h1, h2, h3, h4⟩ := h
  refine ⟨by rw [putAt_len (by omega)]; exact h1, h2, h3, ?_⟩
  rw [pieceB_far h1 (by omega) (.inl hi)]
  exact h4

/-- A journal: its disk, the records of its log, how many ops there are, the picture's age; nothing waits. -/
structure JI (s : DkS) (q f z : Nat) (L : List (List UInt8)) (c : Nat) (a : Int) : Prop where
  geo : Geo s.1.length q f z
  still : s.2.1 = []
  is : LogIs (rdD s) f z L
  age : ageI (loadD s 0 q) = a
  le : a ≤ (c : Int)

theorem opD_load {s : DkS} {q f z : Nat} (g : Geo s.1.length q f z) : loadD (opD s f z) 0 q = loadD s 0 q := by
  have := g.slots
  have he := endD_le (s := s) (f := f) (z := z) (by omega)
  refine load_far (i := f + endD s f z) (l := List.replicate (z - endD s f z) 0) ?_ (by omega) (by rw [List.length_replicate]; omega)
  rw [opD, zrD_rd (by omega) he]
theorem zrD_load {s : DkS} {q f z : Nat} (g : Geo s.1.length q f z) : loadD (zrD s f z 0) 0 q = loadD s 0 q := by
  have := g.slots
  refine load_far (i := f + 0) (l := List.replicate (z - 0) 0) ?_ (by omega) (by rw [List.length_replicate]; omega)
  rw [zrD_rd (by omega) (Nat.zero_le _)]
theorem jopS_len (s : DkS) (q f z : Nat) : (jopS s q f z).1.length = s.1.length := by
  unfold jopS
  split
  · rw [zrD_len, opD_len]
  · rw [opD_len]
theorem jopS_waits (s : DkS) (q f z : Nat) : (jopS s q f z).2.1 = [] := by
  unfold jopS
  split <;> rfl
theorem jopS_load {s : DkS} {q f z : Nat} (g : Geo s.1.length q f z) : loadD (jopS s q f z) 0 q = loadD s 0 q := by
  unfold jopS
  split
  · rw [zrD_load (by rw [opD_len]; exact g), opD_load g]
  · rw [opD_load g]
theorem jopC_ge (s : DkS) (q f z : Nat) : c0D s q ≤ jopC s q f z ∧ jopC s q f z = c0D s q + (jopO s q f z).length := by
  have := jr_ge (recD s f z) (c0D s q)
  exact ⟨this.1, this.2.1⟩
/-- A journal is opened. -/
theorem JI.open_ {s : DkS} {q f z : Nat} (g : Geo s.1.length q f z) : JI (jopS s q f z) q f z (jopL s q f z) (jopC s q f z) (ageI (loadD s 0 q)) := by
  have hs := g.slots
  refine ⟨by rw [jopS_len]; exact g, jopS_waits _ _ _ _, ?_, by rw [jopS_load g], ?_⟩
  · unfold jopS jopL
    split
    · exact clD_is (by rw [opD_len]; omega)
    · exact opD_is (by omega)
  · have h1 := jopC_ge s q f z
    have h2 := ageI_ge (loadD s 0 q)
    unfold c0D at h1
    omega
section
variable {s : DkS} {q f z c : Nat} {L : List (List UInt8)} {a : Int} {p : List UInt8}
theorem JI.recs (h : JI s q f z L c a) : recD s f z = L ∧ endD s f z = (catF L).length := h.is.rec
theorem JI.used (h : JI s q f z L c a) : (catF L).length ≤ z := h.is.2.2.1
theorem JI.rd (h : JI s q f z L c a) : rdD s = s.1 := rdD_lasts h.still
theorem jsD_load (g : Geo s.1.length q f z) (hl : (catF L).length ≤ z) (hc : c < 9007199254740992) (he : jE z (catF L).length c p = 0) : loadD (jsD s f (catF L).length c p) 0 q = loadD s 0 q := by
  have hs := g.slots
  have hy := jE_yes hc he
  refine load_far (i := f + (catF L).length) (l := frameB (payB c p)) ?_ (by omega) (by omega)
  rw [jsD, Go.Proofs.Ytdcmjmanalijfaa.ptD, rdD_wr (by omega)]
/-- An op that lasts. -/
theorem JI.append (h : JI s q f z L c a) (hc : c < 9007199254740992) (he : jE z (catF L).length c p = 0) : JI (syD (jsD s f (catF L).length c p)) q f z (L ++ [payB c p]) (c + 1) a := by
  have hy := jE_yes hc he
  refine ⟨?_, rfl, ?_, ?_, by have := h.le; omega⟩
  · rw [syD_len, jsD, ptD_len]
    exact h.geo
  · exact h.is.ptD hy.2.1 hy.2.2
  · have := jsD_load h.geo h.used hc he
    rw [loadD, picD, picD, syD_rd, ← picD, ← picD, ← loadD, this]
    exact h.age
/-- Behind a crash at any place of a Start. -/
theorem JI.crash (h : JI s q f z L c a) (hc : c < 9007199254740992) (he : jE z (catF L).length c p = 0) (k : Int) :
    recD (crD (jsD s f (catF L).length c p) k) f z = (if ((frameB (payB c p)).length : Int) ≤ k then L ++ [payB c p] else L) ∧ loadD (crD (jsD s f (catF L).length c p) k) 0 q = loadD s 0 q ∧ (crD (jsD s f (catF L).length c p) k).1.length = s.1.length := by
  have hy := jE_yes hc he
  have hs := h.geo.slots
  have hu := h.used
  refine ⟨h.is.crash h.still hy.2.1 hy.2.2 k, ?_, by rw [crD_len, jsD, ptD_len]⟩
  have hwe : wrE s.1.length ((f + (catF L).length : Nat) : Int) (frameB (payB c p)).length = 0 := wrE_yes (by omega)
  refine load_far (i := f + (catF L).length) (l := (frameB (payB c p)).take k.toNat) ?_ (by omega) (by rw [List.length_take]; omega)
  rw [jsD, Go.Proofs.Ytdcmjmanalijfaa.ptD, wrD, if_pos hwe, h.still, List.nil_append]
  unfold crD rdD
  simp only
  rw [h.still, Int.toNat_natCast, spanB_take, putAll_span _ _ _ (by rw [List.length_take]; omega)]
  rfl
/-- A crash where nothing waits. -/
theorem JI.crash0 (h : JI s q f z L c a) (k : Int) : Eqv (crD s k) s := by
  refine ⟨?_, h.still.symm⟩
  rw [crD, h.still]
  simp [putAll]
theorem jsD_waits (h : JI s q f z L c a) (hc : c < 9007199254740992) (he : jE z (catF L).length c p = 0) : (jsD s f (catF L).length c p).2.1.length = (frameB (payB c p)).length := by
  have hy := jE_yes hc he
  have hs := h.geo.slots
  have hu := h.used
  have hwe : wrE s.1.length ((f + (catF L).length : Nat) : Int) (frameB (payB c p)).length = 0 := wrE_yes (by omega)
  rw [jsD, Go.Proofs.Ytdcmjmanalijfaa.ptD, wrD, if_pos hwe, h.still]
  simp [spanB_len]

theorem cpE_cases (s : DkS) (q : Nat) (p : List UInt8) (c : Nat) (a : Int) : cpE s q p c a = 0 ∨ cpE s q p c a = 3 := by
  unfold cpE
  split
  · exact .inr rfl
  · split
    · exact .inl rfl
    · exact .inr rfl
theorem cpE_yes (h : cpE s q p c a = 0) : a ≠ (c : Int) ∧ stE s 0 q p (c : Int) = 0 := by
  rw [cpE] at h
  by_cases h1 : a = (c : Int)
  · rw [if_pos h1] at h
    cases h
  · rw [if_neg h1] at h
    by_cases h2 : stE s 0 q p (c : Int) = 0
    · exact ⟨h1, h2⟩
    · rw [if_neg h2] at h
      cases h
/-- A picture takes the place of all ops. -/
theorem JI.compact (h : JI s q f z L c a) (he : cpE s q p c a = 0) : JI (cpD s q f z p c) q f z [] c (c : Int) ∧ loadD (cpD s q f z p c) 0 q = some (p, c) := by
  have hs := h.geo.slots
  obtain ⟨h1, h2⟩ := cpE_yes he
  have hlen : (svS s 0 q p (c : Int)).1.length = s.1.length := svS_len _ _ _ _ _
  have hl : loadD (cpD s q f z p c) 0 q = some (p, c) := by
    rw [cpD, zrD_load (by rw [hlen]; exact h.geo), svS_load (by omega) h2, Int.toNat_natCast]
  refine ⟨⟨by rw [cpD, zrD_len, hlen]; exact h.geo, rfl, ?_, by rw [hl]; rfl, Int.le_refl _⟩, hl⟩
  exact clD_is (by rw [hlen]; omega)
/-- Why a picture isn't saved: there were no ops, or it has no room. -/
theorem cpE_of (h : JI s q f z L c a) (hc : c < 9007199254740992) (hp : okP (payB c p)) (hr : (frameB (payB c p)).length ≤ q) : cpE s q p c a = if a = (c : Int) then 3 else 0 := by
  unfold cpE
  by_cases hac : a = (c : Int)
  · rw [if_pos hac, if_pos hac]
  · rw [if_neg hac, if_neg hac, if_pos]
    have hle := h.le
    have hage := h.age
    rw [stE, if_neg (by omega), if_neg (by rw [age_load]; omega), frP, Int.toNat_natCast, if_neg]
    rw [frameB_nil]
    exact fun hh => hh.elim (fun h' => h' hp) (by omega)
end

/-! ### Ops that were appended, and are read again -/
/-- The log has the records of these ops, numbered from the picture's age on. -/
structure GJ (W L : List (List UInt8)) (c : Nat) (a : Int) : Prop where
  recs : L = recsW a.toNat W
  count : c = a.toNat + W.length
  one : ∀ w ∈ W, 1 ≤ w.length
theorem GJ.append {W L : List (List UInt8)} {c : Nat} {a : Int} {p : List UInt8} (h : GJ W L c a) (hp : 1 ≤ p.length) : GJ (W ++ [p]) (L ++ [payB c p]) (c + 1) a := by
  obtain ⟨h1, h2, h3⟩ := h
  refine ⟨by rw [recsW_snoc, h1, h2], by rw [List.length_append, h2]; simp; omega, fun w hw => ?_⟩
  rcases List.mem_append.1 hw with hw | hw
  · exact h3 w hw
  · rw [List.mem_singleton.1 hw]
    exact hp
theorem GJ.nil (c : Nat) : GJ [] [] c (c : Int) := ⟨rfl, by simp, fun w hw => absurd hw List.not_mem_nil⟩
/-- A disk that holds them is opened: they are read. -/
theorem GJ.open_ {W L : List (List UInt8)} {c : Nat} {a : Int} {s : DkS} {q f z : Nat} (h : GJ W L c a) (hc : c < 9007199254740992) (hr : recD s f z = L) (ha : ageI (loadD s 0 q) = a) : jopS s q f z = opD s f z ∧ jopL s q f z = L ∧ jopC s q f z = c ∧ jopO s q f z = W := by
  obtain ⟨h1, h2, h3⟩ := h
  have hc0 : c0D s q = a.toNat := by rw [c0D, ha]
  have hr' : recD s f z = recsW a.toNat W := by rw [hr, h1]
  have ho : oldR (recD s f z) (c0D s q) = false := by rw [hr', hc0]; exact oldR_recsW _ _ (by omega)
  have hj : jr (recD s f z) (c0D s q) = (W, a.toNat + W.length) := by rw [hr', hc0]; exact jr_recsW _ _ h3 (by omega)
  refine ⟨by rw [jopS, ho]; rfl, by rw [jopL, ho]; exact hr, by rw [jopC, hj, h2], by rw [jopO, hj]⟩
/-- A new disk. -/
theorem new_journal {n q f z : Nat} {s : DkS} (hs : s = (List.replicate n 0, [], 0)) (g : Geo n q f z) : JI s q f z [] 0 (-1) ∧ GJ [] [] 0 (-1) ∧ loadD s 0 q = none := by
  obtain ⟨s0, e0, e1, e2, e3, e4⟩ := newD n
  have hgs := g.slots
  have hl := new_load (n := n) (f := 0) (z := q) hs (by omega)
  rw [← hs] at e0
  subst e0
  refine ⟨⟨by rw [e1]; exact g, e2, e4 f z (by omega), by rw [hl]; rfl, by decide⟩, ⟨rfl, rfl, fun w hw => absurd hw List.not_mem_nil⟩, hl⟩

end Go.Proofs.Ytdcmjmanalijfaa

/- Layer 7, plain mathematics: records are read one behind the other. -/
namespace Go.Proofs.Ytdcmjmanalijfaa

/-- The ops so far, how many there are in all, how many records were of lower numbers, whether one came that isn't next. -/
abbrev JT : Type := List (List UInt8) × Nat × Nat × Bool
def jstep (a : Int) (t : JT) (r : List UInt8) : JT := match getN r with
  | none => (t.1, t.2.1, t.2.2.1, true)
  | some x =>
    if t.2.2.2 = true ∨ (x.1 < t.2.1 ∧ x.2 < r.length) then (t.1, t.2.1, (if x.1 < t.2.1 ∧ t.1 = [] ∧ (x.1 : Int) < a then t.2.2.1 + 1 else t.2.2.1), t.2.2.2)
    else if x.1 ≠ t.2.1 ∨ r.length = x.2 then (t.1, t.2.1, (if x.1 < t.2.1 ∧ t.1 = [] ∧ (x.1 : Int) < a then t.2.2.1 + 1 else t.2.2.1), true)
    else (t.1 ++ [r.drop x.2], t.2.1 + 1, (if x.1 < t.2.1 ∧ t.1 = [] ∧ (x.1 : Int) < a then t.2.2.1 + 1 else t.2.2.1), false)
def jfold (a : Int) (c : Nat) (l : List (List UInt8)) : JT := l.foldl (jstep a) ([], c, 0, false)
theorem jfold_snoc {a : Int} {c : Nat} {l : List (List UInt8)} {k : Nat} (h : k < l.length) : jfold a c (l.take (k + 1)) = jstep a (jfold a c (l.take k)) l[k] := by
  rw [jfold, List.take_succ_eq_append_getElem h, List.foldl_append]
  rfl

theorem jfold_stop (a : Int) : ∀ (l ops : List (List UInt8)) (c old : Nat), (l.foldl (jstep a) (ops, c, old, true)).1 = ops ∧ (l.foldl (jstep a) (ops, c, old, true)).2.1 = c
  | [], _, _, _ => ⟨rfl, rfl⟩
  | r :: rs, ops, c, old => by
    rw [List.foldl_cons, jstep]
    cases getN r with
    | none => exact jfold_stop a rs _ _ _
    | some x =>
      simp only
      rw [if_pos (.inl trivial)]
      exact jfold_stop a rs _ _ _
theorem jfold_jr0 (a : Int) : ∀ (l ops : List (List UInt8)) (c old : Nat), (l.foldl (jstep a) (ops, c, old, false)).1 = ops ++ (jr l c).1 ∧ (l.foldl (jstep a) (ops, c, old, false)).2.1 = (jr l c).2
  | [], ops, c, old => ⟨by rw [jr, List.append_nil]; rfl, rfl⟩
  | r :: rs, ops, c, old => by
    rw [List.foldl_cons, jstep, jr]
    cases hg : getN r with
    | none =>
      simp only [List.append_nil]
      exact jfold_stop a rs _ _ _
    | some x =>
      have hx := getN_le (n := x.1) (j := x.2) hg
      simp only
      by_cases h1 : r.length = x.2
      · rw [if_pos h1, if_neg (by intro h; rcases h with h | h; cases h; omega), if_pos (.inr h1)]
        simp only [List.append_nil]
        exact jfold_stop a rs _ _ _
      · rw [if_neg h1]
        by_cases h2 : x.1 < c
        · rw [if_pos h2, if_pos (.inr ⟨h2, by omega⟩)]
          exact jfold_jr0 a rs _ _ _
        · rw [if_neg h2, if_neg (by intro h; rcases h with h | h; cases h; omega)]
          by_cases h3 : x.1 = c
          · rw [if_pos h3, if_neg (by omega)]
            have := jfold_jr0 a rs (ops ++ [r.drop x.2]) (c + 1) (if x.1 < c ∧ ops = [] ∧ (x.1 : Int) < a then old + 1 else old)
            simpa using this
          · rw [if_neg h3, if_pos (.inl h3)]
            simp only [List.append_nil]
            exact jfold_stop a rs _ _ _
/-- So the ops are read. -/
theorem jfold_jr (a : Int) (c : Nat) (l : List (List UInt8)) : (jfold a c l).1 = (jr l c).1 ∧ (jfold a c l).2.1 = (jr l c).2 := by
  have := jfold_jr0 a l [] c 0
  simpa [jfold] using this

theorem notLow {m n : Nat} (h : m ≤ n) : m = n + 1 ↔ false = true := by
  constructor
  · intro h'
    omega
  · intro h'
    cases h'
/-- As long as all are of lower numbers each is told. -/
def JOld (c0 : Nat) (t : JT) (n : Nat) (low : Bool) : Prop := (t.1 = [] → t.2.1 = c0) ∧ t.2.2.1 ≤ n ∧ (t.2.2.1 = n ↔ low = true) ∧ (low = true → t.1 = [])
theorem JOld.step {a : Int} {t : JT} {n : Nat} {low : Bool} {r : List UInt8} (h : JOld a.toNat t n low) : JOld a.toNat (jstep a t r) (n + 1) (low && lowR a.toNat r) := by
  obtain ⟨h1, h2, h3, h4⟩ := h
  rw [jstep, lowR]
  cases getN r with
  | none =>
    simp only [Bool.and_false]
    exact ⟨h1, by simp only; omega, notLow h2, fun h => by cases h⟩
  | some x =>
    simp only
    by_cases he : t.1 = []
    · have hc := h1 he
      by_cases hl : x.1 < a.toNat
      · have hcond : x.1 < t.2.1 ∧ t.1 = [] ∧ (x.1 : Int) < a := ⟨by omega, he, by omega⟩
        rw [if_pos hcond, decide_eq_true hl, Bool.and_true]
        have hfin : ∀ b : Bool, JOld a.toNat (t.1, t.2.1, t.2.2.1 + 1, b) (n + 1) low := fun b => ⟨fun _ => hc, by simp only; omega, by simp only; rw [← h3]; omega, fun _ => he⟩
        split
        · exact hfin _
        · rw [if_pos (.inl (by omega))]
          exact hfin _
      · have hcond : ¬ (x.1 < t.2.1 ∧ t.1 = [] ∧ (x.1 : Int) < a) := by omega
        rw [if_neg hcond, decide_eq_false hl, Bool.and_false]
        have hfin : ∀ b : Bool, JOld a.toNat (t.1, t.2.1, t.2.2.1, b) (n + 1) false := fun b => ⟨fun _ => hc, by simp only; omega, notLow h2, fun h => by cases h⟩
        split
        · exact hfin _
        · split
          · exact hfin _
          · refine ⟨fun h => by simp at h, by simp only; omega, notLow h2, fun h => by cases h⟩
    · have hlow : low = false := by
        cases low with
        | false => rfl
        | true => exact absurd (h4 rfl) he
      have hcond : ¬ (x.1 < t.2.1 ∧ t.1 = [] ∧ (x.1 : Int) < a) := fun h => he h.2.1
      rw [if_neg hcond, hlow, Bool.false_and]
      have hfin : ∀ b : Bool, JOld a.toNat (t.1, t.2.1, t.2.2.1, b) (n + 1) false := fun b => ⟨fun h => absurd h he, by simp only; omega, notLow h2, fun h => by cases h⟩
      split
      · exact hfin _
      · split
        · exact hfin _
        · refine ⟨fun h => by simp at h, by simp only; omega, notLow h2, fun h => by cases h⟩
theorem JOld.fold {a : Int} : ∀ {l : List (List UInt8)} {t : JT} {n : Nat} {low : Bool}, JOld a.toNat t n low → JOld a.toNat (l.foldl (jstep a) t) (n + l.length) (low && l.all (lowR a.toNat))
  | [], t, n, low, h => by simpa using h
  | r :: rs, t, n, low, h => by
    have := JOld.fold (l := rs) (h.step (r := r))
    rw [List.foldl_cons, List.all_cons, List.length_cons, show n + (rs.length + 1) = n + 1 + rs.length by omega, ← Bool.and_assoc]
    exact this
/-- Whether the log is cleared. -/
theorem jfold_old (a : Int) (l : List (List UInt8)) : (0 < (jfold a a.toNat l).2.2.1 ∧ (jfold a a.toNat l).2.2.1 = l.length) ↔ oldR l a.toNat = true := by
  have h : JOld a.toNat (([], a.toNat, 0, false) : JT) 0 true := ⟨fun _ => rfl, Nat.le_refl _, by simp, fun _ => rfl⟩
  have := h.fold (l := l)
  rw [Nat.zero_add, Bool.true_and] at this
  obtain ⟨-, -, h3, -⟩ := this
  rw [jfold, oldR, Bool.and_eq_true, ← h3]
  cases l with
  | nil => simp
  | cons r rs => simp; omega
theorem jfold_le (a : Int) (l : List (List UInt8)) : (jfold a a.toNat l).2.2.1 ≤ l.length := by
  have h : JOld a.toNat (([], a.toNat, 0, false) : JT) 0 true := ⟨fun _ => rfl, Nat.le_refl _, by simp, fun _ => rfl⟩
  have := (h.fold (l := l)).2.1
  rw [Nat.zero_add] at this
  exact this

end Go.Proofs.Ytdcmjmanalijfaa

/- Layer 7, plain mathematics: a journal that is used as its users do. -/
namespace Go.Proofs.Ytdcmjmanalijfaa

theorem catF_mem {p : List UInt8} : ∀ {L : List (List UInt8)}, p ∈ L → (frameB p).length ≤ (catF L).length
  | x :: xs, h => by
    rw [show x :: xs = [x] ++ xs from rfl, catF_append, catF_one, List.length_append]
    rcases List.mem_cons.1 h with h | h
    · subst h
      omega
    · have := catF_mem h
      omega
theorem catF_count : ∀ {L : List (List UInt8)}, (∀ p ∈ L, okP p) → L.length ≤ (catF L).length
  | [], _ => by simp
  | x :: xs, h => by
    have h1 := catF_count (L := xs) (fun p hp => h p (List.mem_cons_of_mem _ hp))
    have h2 := frameB_len (h x List.mem_cons_self)
    rw [show x :: xs = [x] ++ xs from rfl, catF_append, catF_one, List.length_append, List.length_append, List.length_singleton]
    omega
theorem LogIs.small {b : List UInt8} {f z : Nat} {L : List (List UInt8)} (h : LogIs b f z L) : (∀ p ∈ L, p.length ≤ z) ∧ L.length ≤ z := by
  obtain ⟨h1, h2, h3, h4⟩ := h
  refine ⟨fun p hp => ?_, ?_⟩
  · have := catF_mem hp
    have := frameB_len (h2 p hp)
    omega
  · have := catF_count h2
    omega

/-- Behind k acts: a disk of N bytes that is a journal's; the records of its log, the ops since the picture, how many ops there are, the picture's age, its bytes. -/
structure JS (N q f z k : Nat) (t : DkS) (L W : List (List UInt8)) (c : Nat) (a : Int) (pic : List UInt8) : Prop where
  ji : JI t q f z L c a
  gj : GJ W L c a
  pic : bytP (loadD t 0 q) = pic
  len : t.1.length = N
  n0 : 0 ≤ t.2.2
  n1 : t.2.2 ≤ 10 * k
  ck : c ≤ k
  hk : k ≤ 1000000
  hz : z ≤ 3900

section
variable {N q f z k c : Nat} {t : DkS} {L W : List (List UInt8)} {a : Int} {pic p : List UInt8}
theorem JS.used (h : JS N q f z k t L W c a pic) : (catF L).length ≤ z := h.ji.used
theorem JS.geo (h : JS N q f z k t L W c a pic) : Geo N q f z := by rw [← h.len]; exact h.ji.geo
theorem JS.clt (h : JS N q f z k t L W c a pic) : c < 9007199254740992 := by have := h.ck; have := h.hk; omega
theorem JS.later (h : JS N q f z k t L W c a pic) {k' : Nat} (hk : k ≤ k') (hk' : k' ≤ 1000000) : JS N q f z k' t L W c a pic :=
  ⟨h.ji, h.gj, h.pic, h.len, h.n0, by have := h.n1; omega, by have := h.ck; omega, hk', h.hz⟩

/-- An op that lasts. -/
theorem JS.append (h : JS N q f z k t L W c a pic) (hk : k + 1 ≤ 1000000) (he : jE z (catF L).length c p = 0) : JS N q f z (k + 1) (syD (jsD t f (catF L).length c p)) (L ++ [payB c p]) (W ++ [p]) (c + 1) a pic := by
  have hc := h.clt
  have hy := jE_yes hc he
  have hld := jsD_load h.ji.geo h.used hc he
  have hn : (syD (jsD t f (catF L).length c p)).2.2 = t.2.2 + 1 := by
    show (jsD t f (catF L).length c p).2.2 + 1 = _
    rw [jsD, ptD_n]
  refine ⟨h.ji.append hc he, h.gj.append hy.1.1, ?_, ?_, ?_, ?_, by have := h.ck; omega, hk, h.hz⟩
  · rw [loadD, picD, picD, syD_rd, ← picD, ← picD, ← loadD, hld]
    exact h.pic
  · rw [syD_len, jsD, ptD_len]
    exact h.len
  · rw [hn]
    have := h.n0
    omega
  · rw [hn]
    have := h.n1
    omega
/-- A picture. -/
theorem JS.compact (h : JS N q f z k t L W c a pic) (hk : k + 1 ≤ 1000000) (he : cpE t q p c a = 0) : JS N q f z (k + 1) (cpD t q f z p c) [] [] c (c : Int) p := by
  obtain ⟨h1, h2⟩ := h.ji.compact he
  have hs := svS_n t 0 q p (c : Int)
  have hn : (cpD t q f z p c).2.2 = (svS t 0 q p (c : Int)).2.2 + 1 := by rw [cpD, zrD_n]
  have hl : (svS t 0 q p (c : Int)).1.length = t.1.length := svS_len _ _ _ _ _
  refine ⟨h1, GJ.nil c, by rw [h2]; rfl, by rw [cpD, zrD_len, hl]; exact h.len, ?_, ?_, by have := h.ck; omega, hk, h.hz⟩
  · rw [hn]
    have h0 := h.n0
    have h1 := hs.1
    clear hs hn hl
    generalize (svS t 0 q p (c : Int)).2.2 = m at *
    omega
  · rw [hn]
    have h0 := h.n1
    have h1 := hs.2
    clear hs hn hl
    generalize (svS t 0 q p (c : Int)).2.2 = m at *
    omega
/-- What a disk must be so that a journal is opened there: what it tells. -/
structure JOpens (N q f z k : Nat) (s : DkS) (L W : List (List UInt8)) (c : Nat) (a : Int) (pic : List UInt8) : Prop where
  recs : recD s f z = L
  gj : GJ W L c a
  age : ageI (loadD s 0 q) = a
  pic : bytP (loadD s 0 q) = pic
  len : s.1.length = N
  geo : Geo N q f z
  n0 : 0 ≤ s.2.2
  n1 : s.2.2 ≤ 10 * k
  ck : c ≤ k
  hk : k ≤ 1000000
  hz : z ≤ 3900
theorem JOpens.what {s : DkS} (h : JOpens N q f z k s L W c a pic) : oldR (recD s f z) (c0D s q) = false ∧ jopC s q f z = c ∧ jopO s q f z = W ∧ endD s f z = (catF L).length ∧ (∀ r ∈ recD s f z, r.length ≤ 3900) ∧ c0D s q + (recD s f z).length ≤ 1000000000 := by
  have hck := h.ck
  have hkk := h.hk
  obtain ⟨e1, e2, e3, e4⟩ := GJ.open_ h.gj (by omega) h.recs h.age
  obtain ⟨g1, g2, g3⟩ := h.gj
  have hc0 : c0D s q = a.toNat := by rw [c0D, h.age]
  have hs := h.geo.slots
  have hlog := opD_is (s := s) (f := f) (z := z) (by rw [h.len]; omega)
  have hsm := hlog.small
  refine ⟨?_, e3, e4, by rw [endD, h.recs], fun r hr => Nat.le_trans (hsm.1 r hr) h.hz, ?_⟩
  · rw [h.recs, hc0, g1]
    exact oldR_recsW _ _ (by omega)
  · have := hsm.2
    have := h.hz
    rw [hc0]
    omega
/-- It is opened. -/
theorem JOpens.open_ {s : DkS} (h : JOpens N q f z k s L W c a pic) (hk : k + 1 ≤ 1000000) : JS N q f z (k + 1) (opD s f z) L W c a pic := by
  have hck := h.ck
  obtain ⟨e1, e2, e3, e4⟩ := GJ.open_ h.gj (by omega) h.recs h.age
  have hji := JI.open_ (s := s) (q := q) (f := f) (z := z) (by rw [h.len]; exact h.geo)
  rw [e1, e2, e3, h.age] at hji
  have hn : (opD s f z).2.2 = s.2.2 + 1 := opD_n _ _ _
  refine ⟨hji, h.gj, ?_, by rw [opD_len]; exact h.len, ?_, ?_, by omega, hk, h.hz⟩
  · rw [opD_load (by rw [h.len]; exact h.geo)]
    exact h.pic
  · rw [hn]
    have := h.n0
    omega
  · rw [hn]
    have := h.n1
    omega
/-- A new disk. -/
theorem JOpens.new (geo : Geo N q f z) (hz : z ≤ 3900) : JOpens N q f z 1 (List.replicate N 0, [], 0) [] [] 0 (-1) [] := by
  obtain ⟨h1, h2, h3⟩ := new_journal (n := N) (q := q) (f := f) (z := z) rfl geo
  exact ⟨h1.recs.1, h2, h1.age, by rw [h3]; rfl, List.length_replicate, geo, Int.le_refl 0, (by show (0 : Int) ≤ 10 * (1 : Int); decide), by decide, by decide, hz⟩
/-- A journal's disk, as it is, or behind a crash where nothing waits. -/
theorem JS.opens (h : JS N q f z k t L W c a pic) : JOpens N q f z k t L W c a pic :=
  ⟨h.ji.recs.1, h.gj, h.ji.age, h.pic, h.len, h.geo, h.n0, h.n1, h.ck, h.hk, h.hz⟩
theorem JS.opens0 (h : JS N q f z k t L W c a pic) (keep : Int) : JOpens N q f z k (crD t keep) L W c a pic := by
  have he := h.ji.crash0 keep
  have hn : (crD t keep).2.2 = t.2.2 := rfl
  exact ⟨by rw [he.rec]; exact h.ji.recs.1, h.gj, by rw [he.load]; exact h.ji.age, by rw [he.load]; exact h.pic, by rw [crD_len]; exact h.len, h.geo, h.n0, h.n1, h.ck, h.hk, h.hz⟩
/-- Behind a crash at any place of a Start. -/
theorem JS.opens1 (h : JS N q f z k t L W c a pic) (hk : k + 1 ≤ 1000000) (he : jE z (catF L).length c p = 0) (keep : Int) (hkeep : ((frameB (payB c p)).length : Int) ≤ keep) :
    JOpens N q f z (k + 1) (crD (jsD t f (catF L).length c p) keep) (L ++ [payB c p]) (W ++ [p]) (c + 1) a pic := by
  have hc := h.clt
  obtain ⟨r1, r2, r3⟩ := h.ji.crash hc he keep
  have hy := jE_yes hc he
  rw [if_pos hkeep] at r1
  have hn : (crD (jsD t f (catF L).length c p) keep).2.2 = t.2.2 := by show (jsD t f (catF L).length c p).2.2 = _; rw [jsD, ptD_n]
  exact ⟨r1, h.gj.append hy.1.1, by rw [r2]; exact h.ji.age, by rw [r2]; exact h.pic, by rw [r3]; exact h.len, h.geo, by rw [hn]; exact h.n0, by rw [hn]; have := h.n1; omega, by have := h.ck; omega, hk, h.hz⟩
theorem JS.opens2 (h : JS N q f z k t L W c a pic) (he : jE z (catF L).length c p = 0) (keep : Int) (hkeep : ¬ ((frameB (payB c p)).length : Int) ≤ keep) :
    JOpens N q f z k (crD (jsD t f (catF L).length c p) keep) L W c a pic := by
  have hc := h.clt
  obtain ⟨r1, r2, r3⟩ := h.ji.crash hc he keep
  rw [if_neg hkeep] at r1
  have hn : (crD (jsD t f (catF L).length c p) keep).2.2 = t.2.2 := by show (jsD t f (catF L).length c p).2.2 = _; rw [jsD, ptD_n]
  exact ⟨r1, h.gj, by rw [r2]; exact h.ji.age, by rw [r2]; exact h.pic, by rw [r3]; exact h.len, h.geo, by rw [hn]; exact h.n0, by rw [hn]; exact h.n1, h.ck, h.hk, h.hz⟩
/-- How many bytes wait behind a Start. -/
theorem JS.waits (h : JS N q f z k t L W c a pic) (he : jE z (catF L).length c p = 0) : (jsD t f (catF L).length c p).2.1.length = (frameB (payB c p)).length := jsD_waits h.ji h.clt he
end

end Go.Proofs.Ytdcmjmanalijfaa
