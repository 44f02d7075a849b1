/- For every input JournalRooms returns true: an op is appended, if it has room, and not otherwise; behind a picture there is room again, and the count goes on. No condition. -/
import Derived.Test.YtdcmjmanalijfaaJournalRoomsQ10
import Derived.Deep.LoopGhost
import Derived.Deep.RegionHeld3
namespace Go.Proofs.Ytdcmjmanalijfaa
open Go.ChangeShapes Go.WideShapes Go.ChangeAt Go.RowKit

theorem jE_small {z u c : Nat} {p : List UInt8} (hc : c < 9007199254740992) (hp : 1 ≤ p.length ∧ p.length ≤ 3900) : jE z u c p = if z - u < (frameB (payB c p)).length then 3 else 0 := by
  rw [jE, if_neg (fun h => h hp)]
theorem jframe_max {c : Nat} {p : List UInt8} (hc : c < 9007199254740992) (hp : 1 ≤ p.length ∧ p.length ≤ 3900) : (frameB (payB c p)).length ≤ p.length + 21 ∧ 1 ≤ (frameB (payB c p)).length := by
  have h := jframe_len hc hp
  have h1 := numB_len8 hc
  have h2 := numB_len8 (n := (numB c).length + p.length) (by omega)
  omega

/-- What a round comes to: it has room; or there is no room, but a picture can be saved, and then there is. -/
theorem room_step {k c : Nat} {t : DkS} {L W : List (List UInt8)} {a : Int} {pic p : List UInt8} (h : JS 300 75 150 150 k t L W c a pic) (hp : 1 ≤ p.length ∧ p.length ≤ 60) :
    (jE 150 (catF L).length c p = 0) ∨ (jE 150 (catF L).length c p = 3 ∧ cpE t 75 [] c a = 0 ∧ jE 150 (catF []).length c p = 0) := by
  have hc := h.clt
  have hf := jframe_max hc (show 1 ≤ p.length ∧ p.length ≤ 3900 by omega)
  have he := jE_small (z := 150) (u := (catF L).length) hc (show 1 ≤ p.length ∧ p.length ≤ 3900 by omega)
  have he0 : jE 150 (catF []).length c p = 0 := by
    rw [jE_small hc (by omega), if_neg]
    have : (catF ([] : List (List UInt8))).length = 0 := rfl
    omega
  by_cases h0 : 150 - (catF L).length < (frameB (payB c p)).length
  · refine .inr ⟨by rw [he, if_pos h0], ?_, he0⟩
    have h1 := numB_len8 hc
    have h2 := numB_pos c
    have hl : (payB c []).length = (numB c).length := by rw [payB_len]; simp
    have hok : okP (payB c []) := by rw [okP]; omega
    have hfl := frameB_len hok
    have h3 := numB_len8 (n := (payB c []).length) (by omega)
    rw [cpE_of h.ji hc hok (by omega), if_neg]
    intro hac
    obtain ⟨g1, g2, g3⟩ := h.gj
    have hW : W = [] := List.eq_nil_of_length_eq_zero (by omega)
    rw [hW] at g1
    have hL : L = [] := g1
    rw [hL] at h0
    have : (catF ([] : List (List UInt8))).length = 0 := rfl
    omega
  · exact .inl (by rw [he, if_neg h0])

def RoomSt (w1 : World) (j g k : Nat) (w : World) : Prop := ∃ t L W c a pic F, JW w1 w j g 300 75 150 150 (2 + 3 * k) t L W c a pic F

theorem geo300 : Geo 300 75 150 150 := ⟨by decide, by decide, by decide, by decide, by decide⟩

set_option maxRecDepth 100000 in
set_option maxHeartbeats 1000000 in
theorem JournalRooms_main (ls : List (List UInt8)) (v : Value) (w : World) (hr : RdL w v ls) (h : ls.length ≤ 60) :
    Calls Try.prog 5 #[v] w fun e w' => e = .returned (.bool true) ∧ Ext w w' := by
  obtain ⟨A, c, rfl, hlc, hcm⟩ := hr.sliceN rfl
  unfold maxLen at hcm
  have hd : decide (60 < (ls.length : Int)) = false := decide_eq_false (by omega)
  go_enter Try.func5, Try.ntmps5
  go_wp2_with fail
  refine (alive7_any w).mono ?_
  rintro e w1 ⟨rfl, hx1⟩
  have hr1 := hr.ext hx1
  go_wp2_with fail
  refine (DsW.new (Ext.refl w1) 300 (by decide) (by decide)).mono ?_
  rintro e w2 ⟨g, rfl, hd2, -⟩
  go_wp2_with fail
  refine (hd2.jopen (JOpens.new geo300 (by decide)) (Nat.zero_le _) (by decide)).mono ?_
  rintro e w3 ⟨j, pv, ov, rfl, hj3, -, hov, -⟩
  obtain ⟨Ao, co, rfl, _, _⟩ := hov.sliceN rfl
  have HJ3 : RoomSt w1 j g 0 w3 := ⟨_, _, _, _, _, _, _, hj3⟩
  clear hd2 hj3 hov
  go_wp2
  go_loopg [8] ls.length (fun gg i wr => ∃ k : Nat, i = .int .i64 k ∧ k ≤ ls.length ∧ gg = ls.length - k ∧ RoomSt w1 j g k wr)
  case atStart => exact ⟨0, rfl, Nat.zero_le _, rfl, HJ3⟩
  case round =>
    obtain ⟨k, rfl, hk, rfl, t, L, W, cc, a, pic, F, hj⟩ := hrel
    by_cases hlt : k < ls.length
    · obtain ⟨b, o, rfl, hb, hcl⟩ := hr1.at (by omega)
      obtain ⟨q, eq, hq⟩ := hcl k _ (List.getElem?_eq_getElem hlt)
      generalize ls[k] = p at *
      obtain ⟨m, hm⟩ : ∃ m, p.length = m := ⟨_, rfl⟩
      obtain ⟨Au, cu, rfl, hcu, hcmu⟩ := hq.sliceN (n := m) (by rw [List.length_map, hm])
      unfold maxLen at hcmu
      have cells : ∀ w', Ext w1 w' → w'.cell? ⟨b, o + k, none⟩ = some (.slice Au m cu) := fun w' hx => hx.cellOf eq hb
      have d0 := cells wr hj.2.2.2
      have HCE := Lib.hid cells
      have HQ := Lib.hid hq
      have HJ := Lib.hid hj
      have HM := Lib.hid hm
      by_cases hp1 : m < 1
      · have hx := hx1.trans HJ.out.2.2.2
        have hpd : decide ((m : Int) < 1) = true := decide_eq_true (by omega)
        clear hcl eq cells hq hj HJ3 hm hp1
        go_wp2
        go_ret
        exact ⟨rfl, hx⟩
      · have hpd : decide ((m : Int) < 1) = false := decide_eq_false (by omega)
        by_cases hp2 : 60 < m
        · have hx := hx1.trans HJ.out.2.2.2
          have hpe : decide (60 < (m : Int)) = true := decide_eq_true (by omega)
          clear hcl eq cells hq hj HJ3 hm hp1
          go_wp2
          go_ret
          exact ⟨rfl, hx⟩
        · have hpe : decide (60 < (m : Int)) = false := decide_eq_false (by omega)
          have hp : 1 ≤ p.length ∧ p.length ≤ 60 := by omega
          have hst := room_step HJ.out.1 hp
          have hjr := jroom_e (z := 150) (u := (catF L).length) (p := p) HJ.out.1.clt
          have HS := Lib.hid hst
          have KC := fun (w' : World) hx => (HJ.out.ext (w' := w') hx).count
          have KR := fun (w' : World) hx => (HJ.out.ext (w' := w') hx).room p.length (by omega)
          rw [hjr, hm] at KR
          have HKC := Lib.hid KC
          have HKR := Lib.hid KR
          have HP := Lib.hid hp
          have HE := Lib.hid (HJ.out.2.2.2)
          clear hst hjr KC KR hp hcl eq cells hq hj HJ3 hm hp1 hp2
          have hxa : Ext wr wr.drew := Ext.dr (Ext.refl wr)
          have hcc : cc ≤ 1000000 := by have := HJ.out.1.ck; have := HJ.out.1.hk; omega
          have hbc : (((cc + 1 : Nat) : Int) != (cc : Int) + 1) = false := by simp
          have hbd : ((cc : Int) != (cc : Int)) = false := by simp
          rcases HS.out with h0 | ⟨h3, hcp, h0⟩
          · have hdj : decide (jE 150 (catF L).length cc p = 0) = true := decide_eq_true h0
            rw [hdj] at HKR
            have H0 := Lib.hid h0
            clear h0 hdj HS
            go_wp2
            go_region_held3 (fun w' => w'.cell? ⟨b, o + k, none⟩ = some (.slice Au m cu)) (first | go_keep | (exact d4) | (exact d5)) (first | (go_at_call 16; (with_reducible refine (HKC.out _ hxa).mono ?_); rintro e w4 ⟨rfl, -, hx4⟩; have hy4 := hxa.trans hx4; have d4 := HCE.out w4 (HE.out.trans hy4)) | (go_at_call 17; (with_reducible refine (HKR.out w4 hy4).mono ?_); rintro e w5 ⟨rfl, -, hx5⟩; have hy5 := hy4.trans hx5; have d5 := HCE.out w5 (HE.out.trans hy5)))
            all_goals
              have HY5 := Lib.hid hy5
              clear hx4 hx5 hy4 hxa d4
              go_wp2_with fail
              refine ((HJ.out.ext HY5.out).append_yes (HQ.out.ext (HE.out.trans HY5.out)) (by have := HP.out; omega) (by omega) H0.out).mono ?_
              rintro e w6 ⟨rfl, hj6, -⟩
              have HJ6 := Lib.hid hj6
              clear hj6 hy5 d5
              go_wp2_with fail
              refine HJ6.out.count.mono ?_
              rintro e w7 ⟨rfl, hj7, -⟩
              have HJ7 := Lib.hid (hj7.later (k' := 2 + 3 * (k + 1)) (by omega) (by omega))
              clear hj7 HJ6
              go_wp2
              go_roundg (ls.length - (k + 1))
              case measure => omega
              case rel => exact ⟨k + 1, by go_num, by omega, rfl, _, _, _, _, _, _, _, HJ7.out⟩
          · have hdj : decide (jE 150 (catF L).length cc p = 0) = false := decide_eq_false (by omega)
            rw [hdj] at HKR
            have H0 := Lib.hid h0
            have H3 := Lib.hid h3
            have HCP := Lib.hid hcp
            clear h0 h3 hcp hdj HS
            go_wp2
            go_region_held3 (fun w' => w'.cell? ⟨b, o + k, none⟩ = some (.slice Au m cu)) (first | go_keep | (exact d4) | (exact d5)) (first | (go_at_call 16; (with_reducible refine (HKC.out _ hxa).mono ?_); rintro e w4 ⟨rfl, -, hx4⟩; have hy4 := hxa.trans hx4; have d4 := HCE.out w4 (HE.out.trans hy4)) | (go_at_call 17; (with_reducible refine (HKR.out w4 hy4).mono ?_); rintro e w5 ⟨rfl, -, hx5⟩; have hy5 := hy4.trans hx5; have d5 := HCE.out w5 (HE.out.trans hy5)))
            all_goals
              have HY5 := Lib.hid hy5
              clear hx4 hx5 hy4 hxa d4
              have KA := (HJ.out.ext HY5.out).append_no (HQ.out.ext (HE.out.trans HY5.out)) (by have := HP.out; omega) (by rw [H3.out]; decide)
              rw [H3.out] at KA
              have HKA := Lib.hid KA
              clear KA
              go_wp2_with fail
              refine HKA.out.mono ?_
              rintro e w6 ⟨rfl, hj6, -⟩
              have HJ6 := Lib.hid hj6
              clear hj6 hy5 d5 HKA
              go_wp2_with fail
              refine HJ6.out.count.mono ?_
              rintro e w7 ⟨rfl, hj7, -⟩
              have HJ7 := Lib.hid hj7
              clear hj7 HJ6
              go_wp2_with fail
              refine (HJ7.out.compact_yes (H := fun _ => False) (p := []) ⟨none, 0, rfl, Nat.le_refl _, Nat.zero_le _, fun h => absurd h (by simp)⟩ (fun _ hk => hk.elim) (fun _ hk => hk.elim) (by simp) (by omega) HCP.out).mono ?_
              rintro e w8 ⟨rfl, hj8, -⟩
              have HJ8 := Lib.hid hj8
              clear hj8 HJ7
              go_wp2_with fail
              refine HJ8.out.count.mono ?_
              rintro e w9 ⟨rfl, hj9, -⟩
              have d9 := HCE.out w9 hj9.2.2.2
              have HJ9 := Lib.hid hj9
              clear hj9 HJ8
              go_wp2_with fail
              refine (HJ9.out.append_yes (HQ.out.ext HJ9.out.2.2.2) (by have := HP.out; omega) (by omega) H0.out).mono ?_
              rintro e w10 ⟨rfl, hj10, -⟩
              have HJ10 := Lib.hid (hj10.later (k' := 2 + 3 * (k + 1)) (by omega) (by omega))
              clear hj10 d9 HJ9
              go_wp2
              go_roundg (ls.length - (k + 1))
              case measure => omega
              case rel => exact ⟨k + 1, by go_num, by omega, rfl, _, _, _, _, _, _, _, HJ10.out⟩
    · obtain rfl : k = ls.length := by omega
      have hx := hx1.trans hj.2.2.2
      clear hj HJ3
      go_wp2
      go_ret
      exact ⟨rfl, hx⟩

theorem JournalRooms_calls (ls : List (List UInt8)) (v : Value) (w : World) (hr : RdL w v ls) :
    Calls Try.prog 5 #[v] w fun e w' => e = .returned (.bool true) ∧ Ext w w' := by
  by_cases h : ls.length ≤ 60
  · exact JournalRooms_main ls v w hr h
  · obtain ⟨A, c, rfl, hlc, hcm⟩ := hr.sliceN rfl
    unfold maxLen at hcm
    have hd : decide (60 < (ls.length : Int)) = true := decide_eq_true (by omega)
    clear hr
    go_enter Try.func5, Try.ntmps5
    go_wp2_with fail
    refine (alive7_any w).mono ?_
    rintro e w1 ⟨rfl, hx1⟩
    go_wp2
    go_ret
    exact ⟨rfl, hx1⟩

set_option maxRecDepth 100000 in
theorem JournalRooms_lifted (os : Os) (started : os.Started) (H : Type) (enc : TypeId × Value → H) :
    ReturnsInHanded {} Try.checked os 5 .any (Rows.journalRoomsSpec.pre6 enc Try.prog Try.f5 Rows.journalRoomsRow.domain false) (Rows.journalRoomsSpec.post enc Try.prog Try.f5 false true false false) := by
  refine law_lift (C := Try.checked) (tb := 4) Try.ownKnob started (by kernel_rfl) Try.func5 Try.laidOut (by kernel_rfl) rfl Try.underlying4 rfl rfl ?_
    (ChangeSpec.witness6 (enc := enc) (C := Try.checked) false ⟨#[], #[.slice none 0 0], []⟩ 8 (by kernel_rfl) (by kernel_rfl) (by kernel_rfl) (by kernel_rfl)) ?_
  · intro ds hd
    rw [Try.params5] at hd
    match ds, hd with
    | [d0], _ => rfl
  · intro W base args ds p hval hA hsz
    rw [Try.params5] at hA hval hsz
    obtain ⟨v0, vs0, d0, ds0, p0, q0, hargs, rfl, rfl, h0, r0_⟩ := trodAll_cons hA
    obtain ⟨rfl, rfl, rfl⟩ := trodAll_nil r0_
    obtain rfl : args = #[v0] := by cases args; simp_all
    obtain ⟨a0, r0⟩ := dec_rows Try.underlying31 Try.underlying30 Try.underlying5 (by kernel_rfl) (by kernel_rfl) (hval 0 31 v0 rfl rfl) h0
    exact JournalRooms_calls a0 _ W r0

theorem JournalRooms_holds : Rows.JournalRoomsSaid :=
  OpenClaim.holds_of_wide 5 Try.f5 rfl rfl rfl rfl rfl rfl rfl ⟨rfl, rfl, rfl, rfl, rfl⟩ rfl rfl rfl rfl rfl (by kernel_rfl) Try.func5 (by kernel_rfl)
    (of_decide_eq_true (by kernel_rfl)) (by unfold Func.isWrapper; first | (rw [if_pos (by decide +kernel)]; kernel_rfl) | (rw [if_neg (by decide +kernel)]; exact ⟨rfl, rfl⟩))
    (fun os started H enc _ => JournalRooms_lifted os started H enc)


end Go.Proofs.Ytdcmjmanalijfaa
