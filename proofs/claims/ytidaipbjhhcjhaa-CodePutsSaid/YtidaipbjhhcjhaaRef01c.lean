/- The reference's layer 1, third part: a list at a place. -/
import Derived.Test.YtidaipbjhhcjhaaRef01b
namespace Go.Proofs.Ytidaipbjhhcjhaa
open Go.RowKit

/-- 'l = append(l, x)', l a row of numbers of the call's own. -/
theorem push_int {w : World} {ops : Array Oper} {rest : List Oper} {o : Oper} {a : Act} {Q : Exit → Act → World → Prop} {gx : Nat} (hgd : o.guard = none) (s x : Operand)
    (ho : o.op = .call { callee := .builtin .append, args := #[s, x], argTypes := #[22, 22] })
    (base : Nat) (v : Value) (xs : List Value) (hs : a.eval s = v) (hown : w.ownsRow base 3 1 v xs.length xs) (u : Value) (h1 : u.oneCell' = true)
    (hx : a.eval x = .slice (some ⟨gx, 0, none⟩) 1 1) (hlen : xs.length < 17592186044416) (hbase : base ≤ w.heap.size)
    (h : ∀ v' w', Grew base 3 v w (xs ++ [u]) v' w' → wpList Try.prog ops Q rest (a.put o.dst v') w') (hgx : gx = w.heap.size := by simp) : wpList Try.prog ops Q (o :: rest) a (w.alloc (.cells #[u] 3)) := by
  subst hgx
  exact wpList_push hgd s x 22 ho base 3 (.int .i64 0) 8 Try.underlying22 Try.infoInt rfl v xs hs hown u h1 hx (by unfold maxLen; omega) (by omega) hbase h

/-- The reference's GetList while it goes: i numbers have been taken, the next one stands at q. -/
def RGL (bs : List UInt8) (p0 c : Nat) (w : World) (v' q' i' : Value) (wr : World) : Prop :=
  ∃ (i q : Nat) (ns : List Nat), i' = .int .i64 i ∧ q' = .int .i64 q ∧ i ≤ c ∧ q ≤ bs.length ∧ i ≤ q ∧ ns.length = i ∧ readK c bs p0 = (readK (c - i) bs q).map (fun r => (ns ++ r.1, r.2)) ∧
    Grew w.heap.size 3 (.slice none 0 0) w (ns.map fun (n : Nat) => Value.int .i64 n) v' wr

set_option maxHeartbeats 2000000 in
theorem RefGetList_at (bs : List UInt8) (v : Value) (p c j : Nat) (most : Int) (w : World) (hr : Rd w v (bs.map B)) (hp63 : p < 9223372036854775808) (h : getN (bs.drop p) = some (c, j)) (hc : (c : Int) ≤ most) (hlen : bs.length ≤ 1099511627776) :
    Calls Try.prog 21 #[v, .int .i64 p, .int .i64 most] w (GLPost (readK c bs (p + j)) w) := by
  have hj := getN_le h
  rw [List.length_drop] at hj
  have H := Lib.hid h
  clear h
  go_enter Try.func21, Try.ntmps21
  go_wp2_with (first | (go_at_call 17; refine (RefGetNum_some bs _ p c j _ hr (by omega) H.out).mono ?_; rintro e w1 ⟨rfl, hx1⟩))
  go_loopw [12, 10, 13] (fun v' q' i' wr => RGL bs (p + j) c w1 v' q' i' wr) (fun _ _ i' _ => c - (intOf i').toNat)
  case atStart => exact ⟨0, p + j, [], rfl, by go_num, by omega, by omega, by omega, rfl, by simp, Grew.nil w1⟩
  case round =>
    obtain ⟨i, q, ns, rfl, rfl, hic, hq, hiq, hns, hrd, hg⟩ := hrel
    have hr1 := hr.ext (hx1.trans hg.ext)
    by_cases hlt : i < c
    · rw [show c - i = (c - (i + 1)) + 1 by omega, readK] at hrd
      rcases hgn : getN (bs.drop q) with _ | ⟨n, j2⟩
      · rw [hgn] at hrd
        have HG := Lib.hid hgn
        have HRD : Hid (readK c bs (p + j) = none) := by unfold Hid; simpa using hrd
        clear hgn hrd hns
        go_wp2_with (first | (go_at_call 17; refine (RefGetNum_none bs _ q _ hr1 (by omega) HG.out).mono ?_; rintro e w2 ⟨rfl, hx2⟩))
        go_ret3
        rw [HRD.out]
        exact ⟨rfl, (hx1.trans hg.ext).trans hx2⟩
      · rw [hgn] at hrd
        have hj2 := getN_le hgn
        rw [List.length_drop] at hj2
        have HG := Lib.hid hgn
        have HRD : Hid (readK c bs (p + j) = Option.map (fun r => ((ns ++ [n]) ++ r.1, r.2)) (readK (c - (i + 1)) bs (q + j2))) := by
          unfold Hid
          rw [hrd]
          rcases h : readK (c - (i + 1)) bs (q + j2) with _ | ⟨a, b⟩ <;> simp [h]
        have hns2 : Hid ((ns ++ [n]).length = i + 1) := by unfold Hid; simp [hns]
        have hll : (ns.map fun (n : Nat) => Value.int .i64 n).length < 17592186044416 := by rw [List.length_map, hns]; omega
        clear hgn hrd hns
        go_wp2_with (first | (go_at_call 17; refine (RefGetNum_some bs _ q n j2 _ hr1 (by omega) HG.out).mono ?_; rintro e w2 ⟨rfl, hx2⟩; have hg2 := hg.step hx2; have hb2 := hg2.size) | (at_builtin; refine push_int rfl _ _ rfl w1.heap.size _ _ rfl hg2.1 _ rfl rfl hll hb2 ?_; intro v' w' hg'))
        go_roundw
        case rel => exact ⟨i + 1, q + j2, ns ++ [n], by go_num, by go_num, by omega, by omega, by omega, hns2.out, HRD.out, by simpa using hg2.trans hg'⟩
        case measure => simp [intOf]; omega
    · obtain rfl : i = c := by omega
      have HRD := Lib.hid hrd
      have HNS := Lib.hid hns
      clear hrd hns
      go_wp2
      go_ret3
      rw [HRD.out, Nat.sub_self, readK]
      refine ⟨_, rfl, ?_, hx1.trans hg.ext⟩
      have := hg.rebase
      simp only [List.append_nil, List.length_map] at this ⊢
      refine ⟨this.1, ?_⟩
      rcases this.2 with h | ⟨g, cap, cur, hv, hgg, r⟩
      · exact .inl h
      · exact .inr ⟨g, cap, cur, hv, Nat.le_trans hx1.size hgg, r⟩

theorem RefGetList_first (bs : List UInt8) (v : Value) (p : Nat) (most : Int) (w : World) (hr : Rd w v (bs.map B)) (hp63 : p < 9223372036854775808) (h : getN (bs.drop p) = none) :
    Calls Try.prog 21 #[v, .int .i64 p, .int .i64 most] w fun e w' => e = .returned (.tuple #[.slice none 0 0, .int .i64 0, .bool false]) ∧ Ext w w' := by
  have H := Lib.hid h
  clear h
  go_enter Try.func21, Try.ntmps21
  go_wp2_with (first | (go_at_call 17; refine (RefGetNum_none bs _ p _ hr (by omega) H.out).mono ?_; rintro e w1 ⟨rfl, hx1⟩))
  go_ret3
  exact ⟨rfl, hx1⟩
theorem RefGetList_many (bs : List UInt8) (v : Value) (p c j : Nat) (most : Int) (w : World) (hr : Rd w v (bs.map B)) (hp63 : p < 9223372036854775808) (h : getN (bs.drop p) = some (c, j)) (hc : ¬ (c : Int) ≤ most) :
    Calls Try.prog 21 #[v, .int .i64 p, .int .i64 most] w fun e w' => e = .returned (.tuple #[.slice none 0 0, .int .i64 0, .bool false]) ∧ Ext w w' := by
  have H := Lib.hid h
  clear h
  go_enter Try.func21, Try.ntmps21
  go_wp2_with (first | (go_at_call 17; refine (RefGetNum_some bs _ p c j _ hr (by omega) H.out).mono ?_; rintro e w1 ⟨rfl, hx1⟩))
  go_ret3
  exact ⟨rfl, hx1⟩
theorem RefGetList_neg (bs : List UInt8) (v : Value) (p : Int) (most : Int) (w : World) (hr : Rd w v (bs.map B)) (hp : p < 0) :
    Calls Try.prog 21 #[v, .int .i64 p, .int .i64 most] w fun e w' => e = .returned (.tuple #[.slice none 0 0, .int .i64 0, .bool false]) ∧ Ext w w' := by
  have hR := Lib.hid hr
  clear hr
  go_enter Try.func21, Try.ntmps21
  go_wp2_with (first | (go_at_call 17; refine (RefGetNum_neg _ _ p _ hR.out hp).mono ?_; rintro e w1 ⟨rfl, rfl⟩))
  go_ret3
  exact ⟨rfl, Ext.refl _⟩

theorem RefGetList_any (bs : List UInt8) (v : Value) (p : Nat) (most : Int) (w : World) (hr : Rd w v (bs.map B)) (hp63 : p < 9223372036854775808) (hlen : bs.length ≤ 1099511627776) :
    Calls Try.prog 21 #[v, .int .i64 p, .int .i64 most] w (GLPost (listAt bs p most) w) := by
  unfold listAt
  rcases h : getN (bs.drop p) with _ | ⟨c, j⟩
  · exact RefGetList_first bs v p most w hr hp63 h
  · by_cases hc : (c : Int) ≤ most
    · simp only [hc, if_true]
      exact RefGetList_at bs v p c j most w hr hp63 h hc hlen
    · simp only [hc, if_false]
      exact RefGetList_many bs v p c j most w hr hp63 h hc

end Go.Proofs.Ytidaipbjhhcjhaa
