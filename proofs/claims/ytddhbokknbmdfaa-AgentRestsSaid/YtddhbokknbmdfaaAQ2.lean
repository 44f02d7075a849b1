/- Texts that the proof of A rests on, one behind the other. -/
import Derived.Test.YtddhbokknbmdfaaAQ1

/- Layer 3, plain mathematics: what was torn, or turned, is no frame; frames one behind the other. -/
namespace Go.Proofs.Ytddhbokknbmdfaa

theorem scanN_cut : ∀ (k m i acc keep r : Nat), 1 ≤ keep → keep < (numB m).length → scanN k ((numB m).take keep ++ List.replicate r 0) i acc = none
  | 0, _, _, _, _, _, _, _ => rfl
  | k + 1, m, i, acc, keep, r, h1, h2 => by
    by_cases hm : m < 128
    · rw [numB_lo hm] at h2
      simp at h2
      omega
    · rw [numB_hi hm, List.length_cons] at h2
      obtain ⟨keep, rfl⟩ : ∃ x, keep = x + 1 := ⟨keep - 1, by omega⟩
      rw [numB_hi hm, List.take_succ_cons, List.cons_append, scanN, u8_toNat, if_pos (by omega)]
      rcases Nat.eq_zero_or_pos keep with h0 | h0
      · subst h0
        rw [List.take_zero, List.nil_append]
        cases k with
        | zero => rfl
        | succ k =>
          cases r with
          | zero => rfl
          | succ r =>
            have e : (0 : UInt8).toNat = 0 := rfl
            rw [List.replicate_succ, scanN, e, if_neg (by omega), if_pos (.inr ⟨rfl, by omega⟩)]
      · exact scanN_cut k (m / 128) (i + 1) _ keep r h0 (by omega)

theorem frameAt_getN {l p : List UInt8} {k : Nat} (h : frameAt l = some (p, k)) : getN l = some (p.length, (numB p.length).length) := by
  obtain ⟨h1, h2, h3, h4⟩ := frameAt_some h
  have e : l = numB p.length ++ ((p ++ (putB ((crcOf p).toNat : Int) ++ [1])) ++ l.drop k) := by
    rw [← List.append_assoc, ← frameB_yes h1, ← h4, List.take_append_drop]
  rw [e]
  exact getN_put (by omega) _

theorem frameB_last {p : List UInt8} (h : 1 ≤ p.length ∧ p.length ≤ 4000) : (frameB p)[(frameB p).length - 1]? = some 1 := by
  rw [← List.getLast?_eq_getElem?, frameB_yes h]
  simp

theorem getF_zero (b : List UInt8) : getF b 0 = if b.head?.getD 0 = 0 then (([] : List UInt8), (0 : Int), (0 : Int)) else match frameAt b with
    | some (p, k) => (p, 0 + (k : Int), 1)
    | none => ([], 0, 2) := by
  rw [getF, if_neg (by omega)]
  first | (simp; done) | (simp; rfl)

theorem getF_torn {p : List UInt8} (h : 1 ≤ p.length ∧ p.length ≤ 4000) (k r : Nat) (hk : k < (frameB p).length) : getF ((frameB p).take k ++ List.replicate r 0) 0 = ([], 0, if k = 0 then 0 else 2) := by
  rw [getF_zero]
  rcases Nat.eq_zero_or_pos k with h0 | h0
  · subst h0
    rw [List.take_zero, List.nil_append, if_pos (by cases r <;> simp [List.replicate_succ]), if_pos rfl]
  · obtain ⟨c, t, hc, hne⟩ := frameB_head h
    have hl := frameB_len h
    rw [if_neg (by obtain ⟨k, rfl⟩ : ∃ x, k = x + 1 := ⟨k - 1, by omega⟩; rw [hc, List.take_succ_cons]; simpa using hne), if_neg (by omega)]
    rcases hf : frameAt ((frameB p).take k ++ List.replicate r 0) with _ | ⟨q, m⟩
    · rfl
    · exfalso
      have hg := frameAt_getN hf
      obtain ⟨q1, q2, q3, q4⟩ := frameAt_some hf
      by_cases hj : k < (numB p.length).length
      · rw [frameB_yes h, List.take_append_of_le_length (by omega), getN, scanN_cut 8 _ 0 0 k r h0 hj] at hg
        cases hg
      · have e : (frameB p).take k ++ List.replicate r 0 = numB p.length ++ ((p ++ (putB ((crcOf p).toNat : Int) ++ [1])).take (k - (numB p.length).length) ++ List.replicate r 0) := by
          rw [← List.append_assoc, frameB_yes h, List.take_append, List.take_of_length_le (l := numB p.length) (by omega)]
        rw [e, getN_put (by omega)] at hg
        simp only [Option.some.injEq, Prod.mk.injEq] at hg
        have hq := frameB_len q1
        rw [← hg.1] at hq
        have hlast := frameB_last q1
        rw [← q2, ← q4, List.getElem?_take, if_pos (by omega), List.getElem?_append_right (by rw [List.length_take]; omega), List.getElem?_replicate] at hlast
        split at hlast
        · simp at hlast
        · cases hlast

theorem getF_turned {p : List UInt8} (h : 1 ≤ p.length ∧ p.length ≤ 4000) (i : Nat) (d : UInt8) (hi : (numB p.length).length ≤ i) (hi2 : i < (frameB p).length) (hd : (frameB p)[i]? ≠ some d) : (getF ((frameB p).set i d) 0).2.2 ≠ 1 := by
  intro he
  rcases getF_cases ((frameB p).set i d) 0 with ⟨_, _, hf, _, _⟩ | ⟨_, _, h2⟩
  · generalize (getF ((frameB p).set i d) 0).1 = q at hf
    simp only [Int.toNat_zero, List.drop_zero] at hf
    have hg := frameAt_getN hf
    obtain ⟨q1, q2, q3, q4⟩ := frameAt_some hf
    have hs : (frameB p).set i d = numB p.length ++ (p ++ (putB ((crcOf p).toNat : Int) ++ [1])).set (i - (numB p.length).length) d := by
      rw [frameB_yes h, List.set_append_right _ _ hi]
    rw [hs, getN_put (by omega)] at hg
    simp only [Option.some.injEq, Prod.mk.injEq] at hg
    have hlq : q.length = p.length := hg.1.symm
    have hq := frameB_len q1
    have hp := frameB_len h
    rw [hlq] at hq
    rw [List.take_of_length_le (by rw [List.length_set]; omega), hs, frameB_yes q1, hlq] at q4
    have q5 := List.append_cancel_left q4
    have hd2 : (p ++ (putB ((crcOf p).toNat : Int) ++ [1]))[i - (numB p.length).length]? ≠ some d := by
      rw [frameB_yes h, List.getElem?_append_right hi] at hd
      exact hd
    have hxb : i - (numB p.length).length < p.length + 5 := by omega
    generalize i - (numB p.length).length = x at *
    by_cases hx : x < p.length
    · rw [List.set_append_left _ _ hx] at q5
      have q6 := List.append_inj q5 (by rw [List.length_set]; omega)
      have q7 := List.append_inj q6.2 (by rw [putB_len, putB_len])
      have q8 := putB_inj (crcOf p).isLt (crcOf q).isLt q7.1
      have q9 : crcOf p = crcOf (p.set x d) := by rw [q6.1]; exact BitVec.eq_of_toNat_eq q8
      rw [List.set_eq_take_append_cons_drop, if_pos hx] at q9
      have e : p = p.take x ++ p[x] :: p.drop (x + 1) := by rw [← List.drop_eq_getElem_cons hx, List.take_append_drop]
      have q10 : crcOf (p.take x ++ p[x] :: p.drop (x + 1)) = crcOf (p.take x ++ d :: p.drop (x + 1)) := by rw [← e]; exact q9
      have q11 := crcOf_turned _ _ q10
      exact hd2 (by rw [List.getElem?_append_left hx, List.getElem?_eq_getElem hx, q11])
    · rw [List.set_append_right _ _ (by omega)] at q5
      have q6 := List.append_inj q5 (by omega)
      have hx2 : x < (p ++ (putB ((crcOf p).toNat : Int) ++ [1])).length := by
        rcases Nat.lt_or_ge x (p ++ (putB ((crcOf p).toNat : Int) ++ [1])).length with h | h
        · exact h
        · have h4 := putB_len ((crcOf p).toNat : Int)
          simp only [List.length_append, h4, List.length_cons, List.length_nil] at h
          omega
      have q7 : (p ++ (putB ((crcOf p).toNat : Int) ++ [1])).set x d = p ++ (putB ((crcOf p).toNat : Int) ++ [1]) := by
        rw [List.set_append_right _ _ (by omega), q6.2, q6.1]
      have q8 := congrArg (fun l => l[x]?) q7
      simp only [List.getElem?_set_self hx2] at q8
      exact hd2 q8.symm
  · omega

/-! ### Frames one behind the other -/
def catF (l : List (List UInt8)) : List UInt8 := l.flatMap frameB
theorem allF_cat : ∀ (l : List (List UInt8)) (k : Nat) (pre rest : List UInt8), (∀ p ∈ l, 1 ≤ p.length ∧ p.length ≤ 4000) →
    allF (k + l.length) (pre ++ (catF l ++ rest)) pre.length = (l ++ (allF k (pre ++ (catF l ++ rest)) ((pre ++ catF l).length : Nat)).1, (allF k (pre ++ (catF l ++ rest)) ((pre ++ catF l).length : Nat)).2)
  | [], k, pre, rest, _ => by simp [catF]
  | p :: l, k, pre, rest, h => by
    have hp := h p (List.mem_cons_self ..)
    have e : pre ++ (catF (p :: l) ++ rest) = pre ++ (frameB p ++ (catF l ++ rest)) := by simp [catF]
    have hg := getF_put hp pre (catF l ++ rest)
    have ih := allF_cat l k (pre ++ frameB p) rest (fun q hq => h q (List.mem_cons_of_mem _ hq))
    rw [List.length_cons, ← Nat.add_assoc, allF, e, hg]
    simp only [if_true]
    have e2 : (pre ++ frameB p) ++ (catF l ++ rest) = pre ++ (frameB p ++ (catF l ++ rest)) := by rw [List.append_assoc]
    have e3 : ((pre.length : Int) + ((frameB p).length : Int)) = (((pre ++ frameB p).length : Nat) : Int) := by rw [List.length_append]; omega
    have e4 : (pre ++ catF (p :: l)) = (pre ++ frameB p) ++ catF l := by simp [catF]
    rw [e3, ← e2, ih, e4]
    rfl

theorem allF_step (k : Nat) (b : List UInt8) (i : Int) : allF (k + 1) b i = if (getF b i).2.2 = 1 then ((getF b i).1 :: (allF k b (getF b i).2.1).1, (allF k b (getF b i).2.1).2) else ([], i) := rfl

theorem getF_on {b : List UInt8} {i : Int} (h : (getF b i).2.2 = 1) : 0 ≤ i ∧ i + 6 < (getF b i).2.1 ∧ (getF b i).2.1 ≤ b.length ∧ 1 ≤ (getF b i).1.length ∧ (getF b i).1.length ≤ 4000 := by
  rcases getF_cases b i with ⟨_, h0, hf, h1, h2⟩ | ⟨_, _, h2⟩
  · obtain ⟨q1, q2, q3, _⟩ := frameAt_some hf
    have e1 := frameB_len q1
    have e2 := numB_pos (getF b i).1.length
    have e3 := q1.1
    exact ⟨h0, by omega, h2, q1.1, q1.2⟩
  · omega

theorem allF_more : ∀ (k : Nat) (b : List UInt8) (i : Int), (b.length : Int) - i < k → allF (k + 1) b i = allF k b i
  | 0, b, i, h => by
    rw [allF_step]
    by_cases hw : (getF b i).2.2 = 1
    · have := getF_on hw
      omega
    · rw [if_neg hw]
      rfl
  | k + 1, b, i, h => by
    rw [allF_step (k + 1) b i, allF_step k b i]
    by_cases hw : (getF b i).2.2 = 1
    · have := getF_on hw
      rw [if_pos hw, if_pos hw, allF_more k b _ (by omega)]
    · rw [if_neg hw, if_neg hw]
theorem allF_enough (b : List UInt8) (i : Int) (k : Nat) (h : (b.length : Int) - i < k) : ∀ d, allF (k + d) b i = allF k b i
  | 0 => rfl
  | d + 1 => by rw [← Nat.add_assoc, allF_more (k + d) b i (by omega), allF_enough b i k h d]

theorem allF_end : ∀ (k : Nat) (b : List UInt8) (i : Int), (b.length : Int) - i < k → (getF b (allF k b i).2).2.2 ≠ 1 ∧ i ≤ (allF k b i).2 ∧ (i ≤ b.length → (allF k b i).2 ≤ b.length)
  | 0, b, i, h => by
    refine ⟨fun hw => ?_, Int.le_refl _, fun h => h⟩
    have := getF_on hw
    simp only [allF] at *
    omega
  | k + 1, b, i, h => by
    rw [allF_step]
    by_cases hw : (getF b i).2.2 = 1
    · have ho := getF_on hw
      rw [if_pos hw]
      have ih := allF_end k b (getF b i).2.1 (by omega)
      exact ⟨ih.1, by simp only; omega, fun _ => ih.2.2 (by omega)⟩
    · rw [if_neg hw]
      exact ⟨hw, Int.le_refl _, fun h => h⟩

/-- All payloads from a place on, and the place behind them. -/
def allB (b : List UInt8) (i : Int) : List (List UInt8) × Int := allF (b.length + 1 + (-i).toNat) b i
theorem allB_eq (b : List UInt8) (i : Int) (k : Nat) (h : (b.length : Int) - i < k) : allF k b i = allB b i := by
  rw [allB, ← allF_enough b i k h (b.length + 1 + (-i).toNat), Nat.add_comm, allF_enough b i _ (by omega)]
theorem allB_step (b : List UInt8) (i : Int) : allB b i = if (getF b i).2.2 = 1 then ((getF b i).1 :: (allB b (getF b i).2.1).1, (allB b (getF b i).2.1).2) else ([], i) := by
  rw [← allB_eq b i (b.length + 1 + (-i).toNat + 1) (by omega), allF_step]
  by_cases hw : (getF b i).2.2 = 1
  · have := getF_on hw
    rw [if_pos hw, if_pos hw, allB_eq b _ _ (by omega)]
  · rw [if_neg hw, if_neg hw]
theorem allB_end (b : List UInt8) (i : Int) : (getF b (allB b i).2).2.2 ≠ 1 ∧ i ≤ (allB b i).2 ∧ (i ≤ b.length → (allB b i).2 ≤ b.length) := allF_end _ b i (by omega)
theorem allB_cat (l : List (List UInt8)) (rest : List UInt8) (h : ∀ p ∈ l, 1 ≤ p.length ∧ p.length ≤ 4000) :
    allB (catF l ++ rest) 0 = (l ++ (allB (catF l ++ rest) ((catF l).length : Nat)).1, (allB (catF l ++ rest) ((catF l).length : Nat)).2) := by
  have := allF_cat l ((catF l ++ rest).length + 1) [] rest h
  simp only [List.nil_append, List.length_nil] at this
  rw [← allB_eq _ 0 ((catF l ++ rest).length + 1 + l.length) (by omega), ← allB_eq _ ((catF l).length : Nat) ((catF l ++ rest).length + 1) (by omega)]
  exact this

end Go.Proofs.Ytddhbokknbmdfaa

/- Layer 1, plain mathematics: what is read is what would be put. No program is named here. -/
namespace Go.Proofs.Ytddhbokknbmdfaa

theorem readK_back : ∀ (k : Nat) (bs : List UInt8) (p : Nat) (l : List Nat) (q : Nat), p ≤ bs.length → readK k bs p = some (l, q) → p ≤ q ∧ q ≤ bs.length ∧ numsB (l.map fun (n : Nat) => (n : Int)) = (bs.drop p).take (q - p)
  | 0, bs, p, l, q, hp, h => by
    rw [readK] at h
    injection h with h
    injection h with h1 h2
    subst h1 h2
    exact ⟨Nat.le_refl _, hp, by simp [numsB]⟩
  | k + 1, bs, p, l, q, hp, h => by
    rw [readK] at h
    rcases hg : getN (bs.drop p) with _ | ⟨n, j⟩
    · rw [hg] at h
      cases h
    · rw [hg] at h
      have hj := getN_le hg
      rw [List.length_drop] at hj
      simp only at h
      rcases hr : readK k bs (p + j) with _ | ⟨l', q'⟩
      · rw [hr] at h
        cases h
      · rw [hr] at h
        simp only [Option.some.injEq, Prod.mk.injEq] at h
        obtain ⟨h1, h2⟩ := h
        subst h1 h2
        obtain ⟨i1, i2, i3⟩ := readK_back k bs (p + j) l' q' (by omega) hr
        refine ⟨by omega, i2, ?_⟩
        have hn := getN_get hg
        have e1 : numsB ((n :: l').map fun (n : Nat) => (n : Int)) = numB n ++ numsB (l'.map fun (n : Nat) => (n : Int)) := by simp [numsB]
        rw [e1, i3, hn, ← List.drop_drop]
        have : q' - p = j + (q' - (p + j)) := by omega
        rw [this, List.take_add]
theorem listAt_back {bs : List UInt8} {most : Int} {l : List Nat} {q : Nat} (h : listAt bs 0 most = some (l, q)) : q ≤ bs.length ∧ listB (l.map fun (n : Nat) => (n : Int)) = bs.take q := by
  unfold listAt at h
  rcases hg : getN (bs.drop 0) with _ | ⟨c, j⟩
  · rw [hg] at h
    cases h
  · rw [hg] at h
    have hj := getN_le hg
    simp only at h
    split at h
    · obtain ⟨i1, i2, i3⟩ := readK_back c bs (0 + j) l q (by simpa using hj.2.1) h
      have hl := (readK_le c bs (0 + j) l q (by simpa using hj.2.1) h).2.2.1
      have hn := getN_get hg
      rw [List.drop_zero] at hn
      rw [Nat.zero_add] at i1 i3
      refine ⟨i2, ?_⟩
      rw [listB, i3, List.length_map, hl, hn]
      have : q = j + (q - j) := by omega
      rw [this, List.take_add]
      congr 2
      omega
    · cases h

end Go.Proofs.Ytddhbokknbmdfaa
