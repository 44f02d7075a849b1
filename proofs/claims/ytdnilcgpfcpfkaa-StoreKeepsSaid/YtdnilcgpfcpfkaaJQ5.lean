/- Texts that the proof of J rests on, one behind the other. -/
import Derived.Test.YtdnilcgpfcpfkaaJQ4
import Derived.Deep.LoopGhost
import Derived.Laws.OwnMore

/- Layer 11's statement StoreEnds, walked. -/
namespace Go.Proofs.Ytdnilcgpfcpfkaa
open Go.RowKit

theorem SW.le {w W : World} {g n m : Nat} {S : StoP} (h : SW w W g S n) (hm : n ≤ m) : SW w W g S m := ⟨h.so, h.ok, h.ext, h.low, h.wr.1, by have := h.wr.2; omega⟩

theorem made_rep (n : Nat) : (madeCells #[Value.int .u8 0] n).toList = (List.replicate n (0 : UInt8)).map B := by
  apply List.ext_getElem?
  intro i
  by_cases hi : i < n <;> simp [madeCells, List.getElem?_replicate, Nat.mod_one, hi]
theorem make_u8 (w : World) (n : Nat) (hn : n ≤ 100) : ∃ w', (Instr.makeSlice 27 (.int .i64 (n : Int)) (.int .i64 (n : Int))).run Try.prog w = .ok (.slice (some ⟨w.heap.size, 0, none⟩) n n) w' ∧
    Rd w' (.slice (some ⟨w.heap.size, 0, none⟩) n n) ((List.replicate n (0 : UInt8)).map B) ∧ Ext w w' := by
  have hinfo : (Try.prog.info? 5).map (fun i => (i.zero, i.size, i.bytes)) = some (some (.int .u8 0), 1, 1) := by kernel_rfl
  obtain ⟨i0, hi, hz0, hz1, hz2⟩ := info_parts hinfo
  obtain ⟨w', h1, h2, h3⟩ := run_makeSlice_full (P := Try.prog) w w.heap.size 27 5 i0 (.int .u8 0) 1 Try.underlying27 hi hz0 hz1 .i64 .i64 n (by omega) (by rw [hz2]; omega) (by unfold maxLen; omega) (Nat.le_refl _)
  refine ⟨w', h1, ?_, ⟨h3.os, h3.tape, h3.output, h3.size, fun k hk => h3.block k hk (by simp)⟩⟩
  have h4 := Rd.own h2
  rw [Nat.mul_one] at h4
  rw [← made_rep]
  exact h4

set_option maxRecDepth 100000 in
set_option maxHeartbeats 4000000 in
theorem StoreEnds_calls (room : Int) (l : List Act4) (v : Value) (w : World) (hr : RdActs4 w v l) :
    Calls Try.prog 6 #[.int .i64 room, v] w fun x w' => x = .returned (.bool true) ∧ Ext w w' := by
  obtain ⟨A, c, rfl, hlc, hcm⟩ := hr.slice_
  have HR := Lib.hid hr
  clear hr
  go_enter Try.func6, Try.ntmps6
  go_wp2_with fail
  refine (alive11_any w).mono ?_
  rintro e0 w0 ⟨rfl, hx0⟩
  have HX0 := Lib.hid hx0
  clear hx0
  have HFW := Lib.hid (few11_any l (.slice A l.length c) w0 (HR.out.ext HX0.out))
  cases hfew : few11 l with
  | false =>
    rw [hfew] at HFW
    clear hfew
    go_wp2_with fail
    refine HFW.out.mono ?_
    rintro e1 w1 ⟨rfl, rfl⟩
    go_wp2
    go_ret
    exact ⟨rfl, HX0.out⟩
  | true =>
    have HFE := Lib.hid (few11_iff.1 hfew)
    rw [hfew] at HFW
    clear hfew
    go_wp2_with fail
    refine HFW.out.mono ?_
    rintro e1 w1 ⟨rfl, rfl⟩
    clear HFW
    by_cases h1 : room < 0
    · have d1 : decide (room < 0) = true := decide_eq_true h1
      clear h1
      go_wp2
      go_ret
      exact ⟨rfl, HX0.out⟩
    have d1 : decide (room < 0) = false := decide_eq_false h1
    by_cases h2 : 100000 < room
    · have d2 : decide ((100000 : Int) < room) = true := decide_eq_true h2
      clear h1 h2
      go_wp2
      go_ret
      exact ⟨rfl, HX0.out⟩
    have d2 : decide ((100000 : Int) < room) = false := decide_eq_false h2
    have HRM : Hid (0 ≤ room ∧ room ≤ 100000) := Lib.hid ⟨by omega, by omega⟩
    clear h1 h2
    go_wp2_with fail
    refine (SW.new HX0.out room).mono ?_
    rintro e2 w2 ⟨g, rfl, hs⟩
    obtain ⟨S2, hS2⟩ : ∃ S, S = newS room := ⟨_, rfl⟩
    have HR2 : Hid (S2.room = room) := Lib.hid (by rw [hS2]; show max room 0 = room; have := HRM.out.1; omega)
    rw [← hS2] at hs
    have HS2 := Lib.hid hs
    clear hs hS2
    go_wp2_with fail
    go_loopw [6] (fun i wr => ∃ k : Nat, i = .int .i64 k ∧ k ≤ l.length ∧ Hid (∃ S, SW w wr g S k ∧ S.room = room)) (fun i _ => l.length - (intOf i).toNat)
    case atStart => exact ⟨0, rfl, Nat.zero_le _, Lib.hid ⟨S2, HS2.out, HR2.out⟩⟩
    case round =>
      clear HS2 HR2
      obtain ⟨k, rfl, hk, HK⟩ := hrel
      obtain ⟨S, hs, hSR⟩ := HK.out
      have hx := hs.ext
      have HS := Lib.hid hs
      have HSR := Lib.hid hSR
      clear HK
      by_cases hlt : k < l.length
      · have e1 : decide ((k : Int) < (l.length : Int)) = true := decide_eq_true (by omega)
        have e1' : decide (k < l.length) = true := decide_eq_true hlt
        have HCE : Hid (∀ W, Ext w W → ∀ b o, A = some ⟨b, o, none⟩ → ∀ x, l[k]? = some x → Act4.at W b (o + k * 5) x) := Lib.hid fun W hW b o hA x hx => by
          obtain ⟨b', o', hA', -, hc⟩ := (HR.out.ext hW).get (by omega)
          rw [hA] at hA'; cases hA'; exact hc k x hx
        obtain ⟨b, o, hA_, hb1, hcl⟩ := (HR.out.ext hx).get (by omega)
        subst hA_
        obtain ⟨x, hxk⟩ : ∃ x, l[k]? = some x := ⟨_, List.getElem?_eq_getElem hlt⟩
        obtain ⟨a0, a1, a2, a3, u, a4, hu⟩ := hcl k x hxk
        have hx200 := HFE.out.2 x (List.mem_of_getElem? hxk)
        have HXK := Lib.hid hxk
        obtain ⟨kd, t, j, e, d⟩ := x
        simp only at a0 a1 a2 a3 hu hx200
        obtain ⟨Au, cu, hue, -, -⟩ := hu.sliceN (List.length_map _)
        subst hue
        have HU := Lib.hid hu
        have HL200 := Lib.hid hx200
        have HLT := Lib.hid hlt
        clear hcl hu hxk hx200 hlt hb1
        have HK60 : Hid (k + 1 ≤ 60) := Lib.hid (by have := HLT.out; have := HFE.out.1; omega)
        have HXW := Lib.hid hx
        clear hs hSR hx
        have HBL : Hid (b < w.heap.size) := Lib.hid (by obtain ⟨b', o', hA', hlt', -⟩ := HR.out.get (by have := HLT.out; omega); cases hA'; exact hlt')
        have HSC : Hid (∀ W, Chg (G1 g) wr W → (fun (W : World) => W.cell? ⟨b, o + k * 5 + 1, none⟩ = some (.int .i64 t) ∧ W.cell? ⟨b, o + k * 5 + 2, none⟩ = some (.int .i64 j) ∧ W.cell? ⟨b, o + k * 5 + 3, none⟩ = some (.int .i64 e) ∧ W.cell? ⟨b, o + k * 5 + 4, none⟩ = some (.slice Au d.length cu)) W) := Lib.hid fun W hW => by
          have hne : ¬ G1 g b := fun hh => by have hh : b = g := hh; have := HS.out.low; have := HBL.out; omega
          have hbw : b < wr.heap.size := Nat.lt_of_lt_of_le HBL.out HXW.out.size
          have hbk := hW.block b hbw hne
          exact ⟨(World.cell?_of_block (a := ⟨b, o + k * 5 + 1, none⟩) hbk).trans a1, (World.cell?_of_block (a := ⟨b, o + k * 5 + 2, none⟩) hbk).trans a2, (World.cell?_of_block (a := ⟨b, o + k * 5 + 3, none⟩) hbk).trans a3, (World.cell?_of_block (a := ⟨b, o + k * 5 + 4, none⟩) hbk).trans a4⟩
        have hu0 : Chg (G1 g) wr wr.drew := (Chg.refl _ _).drew
        have HU0 := Lib.hid hu0
        clear hu0
        by_cases hkd : kd = 1
        · have g1 : (kd == 1) = true := by rw [hkd]; decide
          clear hkd
          go_upto_region 10 with (fail)
          refine held_begin (by kernel_rfl) ?_
          have hHeld0 : True := True.intro
          refine held_more (S' := fun (W : World) => W.cell? ⟨b, o + k * 5 + 1, none⟩ = some (.int .i64 t) ∧ W.cell? ⟨b, o + k * 5 + 2, none⟩ = some (.int .i64 j) ∧ W.cell? ⟨b, o + k * 5 + 3, none⟩ = some (.int .i64 e) ∧ W.cell? ⟨b, o + k * 5 + 4, none⟩ = some (.slice Au d.length cu)) (fun _ _ => True.intro) ?_
          have hHeld1 : (fun (W : World) => W.cell? ⟨b, o + k * 5 + 1, none⟩ = some (.int .i64 t) ∧ W.cell? ⟨b, o + k * 5 + 2, none⟩ = some (.int .i64 j) ∧ W.cell? ⟨b, o + k * 5 + 3, none⟩ = some (.int .i64 e) ∧ W.cell? ⟨b, o + k * 5 + 4, none⟩ = some (.slice Au d.length cu)) _ := HSC.out _ HU0.out
          clear hHeld0
          refine held_take (i := 0) (v := ?_) rfl (by kernel_rfl) (by kernel_rfl) (by kernel_rfl) (by rfl) (by first | assumption | exact True.intro) ?_ ?_
          rotate_left
          · (intro w hSw; (try dsimp only at hSw); (try obtain ⟨k1, k2, k3, k4⟩ := hSw); go_simp; (try with_reducible rfl))
          try simp only [Act.put, List.setIfInBounds_toArray, List.set_cons_zero, List.set_cons_succ]
          refine held_take (i := 1) (v := ?_) rfl (by kernel_rfl) (by kernel_rfl) (by kernel_rfl) (by rfl) (by first | assumption | exact True.intro) ?_ ?_
          rotate_left
          · (intro w hSw; (try dsimp only at hSw); (try obtain ⟨k1, k2, k3, k4⟩ := hSw); go_simp; (try with_reducible rfl))
          try simp only [Act.put, List.setIfInBounds_toArray, List.set_cons_zero, List.set_cons_succ]
          refine held_take (i := 2) (v := ?_) rfl (by kernel_rfl) (by kernel_rfl) (by kernel_rfl) (by rfl) (by first | assumption | exact True.intro) ?_ ?_
          rotate_left
          · (intro w hSw; (try dsimp only at hSw); (try obtain ⟨k1, k2, k3, k4⟩ := hSw); go_simp; (try with_reducible rfl))
          try simp only [Act.put, List.setIfInBounds_toArray, List.set_cons_zero, List.set_cons_succ]
          refine held_take (i := 3) (v := ?_) rfl (by kernel_rfl) (by kernel_rfl) (by kernel_rfl) (by rfl) (by first | assumption | exact True.intro) ?_ ?_
          rotate_left
          · (intro w hSw; (try dsimp only at hSw); (try obtain ⟨k1, k2, k3, k4⟩ := hSw); go_simp; (try with_reducible rfl))
          try simp only [Act.put, List.setIfInBounds_toArray, List.set_cons_zero, List.set_cons_succ]
          refine held_take (i := 4) (v := ?_) rfl (by kernel_rfl) (by kernel_rfl) (by kernel_rfl) (by rfl) (by first | assumption | exact True.intro) ?_ ?_
          rotate_left
          · (intro w hSw; (try dsimp only at hSw); (try obtain ⟨k1, k2, k3, k4⟩ := hSw); go_simp; (try with_reducible rfl))
          try simp only [Act.put, List.setIfInBounds_toArray, List.set_cons_zero, List.set_cons_succ]
          refine held_take (i := 5) (v := ?_) rfl (by kernel_rfl) (by kernel_rfl) (by kernel_rfl) (by rfl) (by first | assumption | exact True.intro) ?_ ?_
          rotate_left
          · (intro w hSw; (try dsimp only at hSw); (try obtain ⟨k1, k2, k3, k4⟩ := hSw); go_simp; (try with_reducible rfl))
          try simp only [Act.put, List.setIfInBounds_toArray, List.set_cons_zero, List.set_cons_succ]
          refine held_take (i := 6) (v := ?_) rfl (by kernel_rfl) (by kernel_rfl) (by kernel_rfl) (by rfl) (by first | assumption | exact True.intro) ?_ ?_
          rotate_left
          · (intro w hSw; (try dsimp only at hSw); (try obtain ⟨k1, k2, k3, k4⟩ := hSw); go_simp; (try with_reducible rfl))
          try simp only [Act.put, List.setIfInBounds_toArray, List.set_cons_zero, List.set_cons_succ]
          refine held_take (i := 7) (v := ?_) rfl (by kernel_rfl) (by kernel_rfl) (by kernel_rfl) (by rfl) (by first | assumption | exact True.intro) ?_ ?_
          rotate_left
          · (intro w hSw; (try dsimp only at hSw); (try obtain ⟨k1, k2, k3, k4⟩ := hSw); go_simp; (try with_reducible rfl))
          try simp only [Act.put, List.setIfInBounds_toArray, List.set_cons_zero, List.set_cons_succ]
          refine held_take (i := 8) (v := ?_) rfl (by kernel_rfl) (by kernel_rfl) (by kernel_rfl) (by rfl) (by first | assumption | exact True.intro) ?_ ?_
          rotate_left
          · (intro w hSw; (try dsimp only at hSw); (try obtain ⟨k1, k2, k3, k4⟩ := hSw); go_simp; (try with_reducible rfl))
          try simp only [Act.put, List.setIfInBounds_toArray, List.set_cons_zero, List.set_cons_succ]
          refine held_take (i := 9) (v := ?_) rfl (by kernel_rfl) (by kernel_rfl) (by kernel_rfl) (by rfl) (by first | assumption | exact True.intro) ?_ ?_
          rotate_left
          · (intro w hSw; (try dsimp only at hSw); (try obtain ⟨k1, k2, k3, k4⟩ := hSw); go_simp; (try with_reducible rfl))
          try simp only [Act.put, List.setIfInBounds_toArray, List.set_cons_zero, List.set_cons_succ]
          refine held_take (i := 10) (v := ?_) rfl (by kernel_rfl) (by kernel_rfl) (by kernel_rfl) (by rfl) (by first | assumption | exact True.intro) ?_ ?_
          rotate_left
          · (intro w hSw; (try dsimp only at hSw); (try obtain ⟨k1, k2, k3, k4⟩ := hSw); go_simp; (try with_reducible rfl))
          try simp only [Act.put, List.setIfInBounds_toArray, List.set_cons_zero, List.set_cons_succ]
          refine held_op (i := 11) (by kernel_rfl) rfl (fun K hK => ?_)
          go_simp
          go_at_call 20
          (with_reducible refine ((HS.out.more (ext_drew11 (Ext.refl wr))).commit j e).mono ?_)
          rintro ec wc ⟨rfl, hsy, hcy⟩
          refine hK _ _ ?_ (fun hHeld2 => ?_)
          · exact HSC.out _ (HU0.out.trans hcy (fun _ _ h => h))
          clear hK K hHeld1
          try simp only [Act.put, List.setIfInBounds_toArray, List.set_cons_zero, List.set_cons_succ]
          refine wpAnyH_done (by kernel_rfl) ?_ _
          refine NoPanic.normal ?_
          clear hHeld2
          have HSY := Lib.hid (hsy.le (m := k + 1) (by omega))
          have HRY : Hid ((commitS S j e).2.room = room) := Lib.hid (by rw [(commit_room S j e).1]; exact HSR.out)
          clear hsy hcy a0 a1 a2 a3 a4
          go_wp2
          go_roundw
          case rel => exact ⟨k + 1, by go_num, HLT.out, Lib.hid ⟨_, HSY.out, HRY.out⟩⟩
          case measure => simp [intOf]; have := HLT.out; omega
        · have g1 : (kd == 1) = false := by simpa using hkd
          clear hkd
          go_upto_region 11 with (fail)
          refine held_begin (by kernel_rfl) ?_
          have hHeld0 : True := True.intro
          refine held_more (S' := fun (W : World) => W.cell? ⟨b, o + k * 5 + 1, none⟩ = some (.int .i64 t) ∧ W.cell? ⟨b, o + k * 5 + 2, none⟩ = some (.int .i64 j) ∧ W.cell? ⟨b, o + k * 5 + 3, none⟩ = some (.int .i64 e) ∧ W.cell? ⟨b, o + k * 5 + 4, none⟩ = some (.slice Au d.length cu)) (fun _ _ => True.intro) ?_
          have hHeld1 : (fun (W : World) => W.cell? ⟨b, o + k * 5 + 1, none⟩ = some (.int .i64 t) ∧ W.cell? ⟨b, o + k * 5 + 2, none⟩ = some (.int .i64 j) ∧ W.cell? ⟨b, o + k * 5 + 3, none⟩ = some (.int .i64 e) ∧ W.cell? ⟨b, o + k * 5 + 4, none⟩ = some (.slice Au d.length cu)) _ := HSC.out _ HU0.out
          clear hHeld0
          refine held_take (i := 0) (v := ?_) rfl (by kernel_rfl) (by kernel_rfl) (by kernel_rfl) (by rfl) (by first | assumption | exact True.intro) ?_ ?_
          rotate_left
          · (intro w hSw; (try dsimp only at hSw); (try obtain ⟨k1, k2, k3, k4⟩ := hSw); go_simp; (try with_reducible rfl))
          try simp only [Act.put, List.setIfInBounds_toArray, List.set_cons_zero, List.set_cons_succ]
          refine held_take (i := 1) (v := ?_) rfl (by kernel_rfl) (by kernel_rfl) (by kernel_rfl) (by rfl) (by first | assumption | exact True.intro) ?_ ?_
          rotate_left
          · (intro w hSw; (try dsimp only at hSw); (try obtain ⟨k1, k2, k3, k4⟩ := hSw); go_simp; (try with_reducible rfl))
          try simp only [Act.put, List.setIfInBounds_toArray, List.set_cons_zero, List.set_cons_succ]
          refine held_take (i := 2) (v := ?_) rfl (by kernel_rfl) (by kernel_rfl) (by kernel_rfl) (by rfl) (by first | assumption | exact True.intro) ?_ ?_
          rotate_left
          · (intro w hSw; (try dsimp only at hSw); (try obtain ⟨k1, k2, k3, k4⟩ := hSw); go_simp; (try with_reducible rfl))
          try simp only [Act.put, List.setIfInBounds_toArray, List.set_cons_zero, List.set_cons_succ]
          refine held_take (i := 3) (v := ?_) rfl (by kernel_rfl) (by kernel_rfl) (by kernel_rfl) (by rfl) (by first | assumption | exact True.intro) ?_ ?_
          rotate_left
          · (intro w hSw; (try dsimp only at hSw); (try obtain ⟨k1, k2, k3, k4⟩ := hSw); go_simp; (try with_reducible rfl))
          try simp only [Act.put, List.setIfInBounds_toArray, List.set_cons_zero, List.set_cons_succ]
          refine held_take (i := 4) (v := ?_) rfl (by kernel_rfl) (by kernel_rfl) (by kernel_rfl) (by rfl) (by first | assumption | exact True.intro) ?_ ?_
          rotate_left
          · (intro w hSw; (try dsimp only at hSw); (try obtain ⟨k1, k2, k3, k4⟩ := hSw); go_simp; (try with_reducible rfl))
          try simp only [Act.put, List.setIfInBounds_toArray, List.set_cons_zero, List.set_cons_succ]
          refine held_take (i := 5) (v := ?_) rfl (by kernel_rfl) (by kernel_rfl) (by kernel_rfl) (by rfl) (by first | assumption | exact True.intro) ?_ ?_
          rotate_left
          · (intro w hSw; (try dsimp only at hSw); (try obtain ⟨k1, k2, k3, k4⟩ := hSw); go_simp; (try with_reducible rfl))
          try simp only [Act.put, List.setIfInBounds_toArray, List.set_cons_zero, List.set_cons_succ]
          refine held_take (i := 6) (v := ?_) rfl (by kernel_rfl) (by kernel_rfl) (by kernel_rfl) (by rfl) (by first | assumption | exact True.intro) ?_ ?_
          rotate_left
          · (intro w hSw; (try dsimp only at hSw); (try obtain ⟨k1, k2, k3, k4⟩ := hSw); go_simp; (try with_reducible rfl))
          try simp only [Act.put, List.setIfInBounds_toArray, List.set_cons_zero, List.set_cons_succ]
          refine held_take (i := 7) (v := ?_) rfl (by kernel_rfl) (by kernel_rfl) (by kernel_rfl) (by rfl) (by first | assumption | exact True.intro) ?_ ?_
          rotate_left
          · (intro w hSw; (try dsimp only at hSw); (try obtain ⟨k1, k2, k3, k4⟩ := hSw); go_simp; (try with_reducible rfl))
          try simp only [Act.put, List.setIfInBounds_toArray, List.set_cons_zero, List.set_cons_succ]
          refine held_take (i := 8) (v := ?_) rfl (by kernel_rfl) (by kernel_rfl) (by kernel_rfl) (by rfl) (by first | assumption | exact True.intro) ?_ ?_
          rotate_left
          · (intro w hSw; (try dsimp only at hSw); (try obtain ⟨k1, k2, k3, k4⟩ := hSw); go_simp; (try with_reducible rfl))
          try simp only [Act.put, List.setIfInBounds_toArray, List.set_cons_zero, List.set_cons_succ]
          refine held_take (i := 9) (v := ?_) rfl (by kernel_rfl) (by kernel_rfl) (by kernel_rfl) (by rfl) (by first | assumption | exact True.intro) ?_ ?_
          rotate_left
          · (intro w hSw; (try dsimp only at hSw); (try obtain ⟨k1, k2, k3, k4⟩ := hSw); go_simp; (try with_reducible rfl))
          try simp only [Act.put, List.setIfInBounds_toArray, List.set_cons_zero, List.set_cons_succ]
          refine held_take (i := 10) (v := ?_) rfl (by kernel_rfl) (by kernel_rfl) (by kernel_rfl) (by rfl) (by first | assumption | exact True.intro) ?_ ?_
          rotate_left
          · (intro w hSw; (try dsimp only at hSw); (try obtain ⟨k1, k2, k3, k4⟩ := hSw); go_simp; (try with_reducible rfl))
          try simp only [Act.put, List.setIfInBounds_toArray, List.set_cons_zero, List.set_cons_succ]
          refine held_take (i := 11) (v := ?_) rfl (by kernel_rfl) (by kernel_rfl) (by kernel_rfl) (by rfl) (by first | assumption | exact True.intro) ?_ ?_
          rotate_left
          · (intro w hSw; (try dsimp only at hSw); (try obtain ⟨k1, k2, k3, k4⟩ := hSw); go_simp; (try with_reducible rfl))
          try simp only [Act.put, List.setIfInBounds_toArray, List.set_cons_zero, List.set_cons_succ]
          refine held_take (i := 12) (v := ?_) rfl (by kernel_rfl) (by kernel_rfl) (by kernel_rfl) (by rfl) (by first | assumption | exact True.intro) ?_ ?_
          rotate_left
          · (intro w hSw; (try dsimp only at hSw); (try obtain ⟨k1, k2, k3, k4⟩ := hSw); go_simp; (try with_reducible rfl))
          try simp only [Act.put, List.setIfInBounds_toArray, List.set_cons_zero, List.set_cons_succ]
          refine held_take (i := 13) (v := ?_) rfl (by kernel_rfl) (by kernel_rfl) (by kernel_rfl) (by rfl) (by first | assumption | exact True.intro) ?_ ?_
          rotate_left
          · (intro w hSw; (try dsimp only at hSw); (try obtain ⟨k1, k2, k3, k4⟩ := hSw); go_simp; (try with_reducible rfl))
          try simp only [Act.put, List.setIfInBounds_toArray, List.set_cons_zero, List.set_cons_succ]
          refine held_take (i := 14) (v := ?_) rfl (by kernel_rfl) (by kernel_rfl) (by kernel_rfl) (by rfl) (by first | assumption | exact True.intro) ?_ ?_
          rotate_left
          · (intro w hSw; (try dsimp only at hSw); (try obtain ⟨k1, k2, k3, k4⟩ := hSw); go_simp; (try with_reducible rfl))
          try simp only [Act.put, List.setIfInBounds_toArray, List.set_cons_zero, List.set_cons_succ]
          refine held_take (i := 15) (v := ?_) rfl (by kernel_rfl) (by kernel_rfl) (by kernel_rfl) (by rfl) (by first | assumption | exact True.intro) ?_ ?_
          rotate_left
          · (intro w hSw; (try dsimp only at hSw); (try obtain ⟨k1, k2, k3, k4⟩ := hSw); go_simp; (try with_reducible rfl))
          try simp only [Act.put, List.setIfInBounds_toArray, List.set_cons_zero, List.set_cons_succ]
          refine held_take (i := 16) (v := ?_) rfl (by kernel_rfl) (by kernel_rfl) (by kernel_rfl) (by rfl) (by first | assumption | exact True.intro) ?_ ?_
          rotate_left
          · (intro w hSw; (try dsimp only at hSw); (try obtain ⟨k1, k2, k3, k4⟩ := hSw); go_simp; (try with_reducible rfl))
          try simp only [Act.put, List.setIfInBounds_toArray, List.set_cons_zero, List.set_cons_succ]
          refine held_take (i := 17) (v := ?_) rfl (by kernel_rfl) (by kernel_rfl) (by kernel_rfl) (by rfl) (by first | assumption | exact True.intro) ?_ ?_
          rotate_left
          · (intro w hSw; (try dsimp only at hSw); (try obtain ⟨k1, k2, k3, k4⟩ := hSw); go_simp; (try with_reducible rfl))
          try simp only [Act.put, List.setIfInBounds_toArray, List.set_cons_zero, List.set_cons_succ]
          refine held_take (i := 18) (v := ?_) rfl (by kernel_rfl) (by kernel_rfl) (by kernel_rfl) (by rfl) (by first | assumption | exact True.intro) ?_ ?_
          rotate_left
          · (intro w hSw; (try dsimp only at hSw); (try obtain ⟨k1, k2, k3, k4⟩ := hSw); go_simp; (try with_reducible rfl))
          try simp only [Act.put, List.setIfInBounds_toArray, List.set_cons_zero, List.set_cons_succ]
          refine held_take (i := 19) (v := ?_) rfl (by kernel_rfl) (by kernel_rfl) (by kernel_rfl) (by rfl) (by first | assumption | exact True.intro) ?_ ?_
          rotate_left
          · (intro w hSw; (try dsimp only at hSw); (try obtain ⟨k1, k2, k3, k4⟩ := hSw); go_simp; (try with_reducible rfl))
          try simp only [Act.put, List.setIfInBounds_toArray, List.set_cons_zero, List.set_cons_succ]
          refine held_take (i := 20) (v := ?_) rfl (by kernel_rfl) (by kernel_rfl) (by kernel_rfl) (by rfl) (by first | assumption | exact True.intro) ?_ ?_
          rotate_left
          · (intro w hSw; (try dsimp only at hSw); (try obtain ⟨k1, k2, k3, k4⟩ := hSw); go_simp; (try with_reducible rfl))
          try simp only [Act.put, List.setIfInBounds_toArray, List.set_cons_zero, List.set_cons_succ]
          refine held_op (i := 21) (by kernel_rfl) rfl (fun K hK => ?_)
          go_simp
          go_at_call 19
          (with_reducible refine ((HS.out.more (ext_drew11 (Ext.refl wr))).stage (by have := HK60.out; omega) t j e d Au cu (HU.out.ext (ext_drew11 (Ext.refl wr))) (by have := HL200.out; omega)).mono ?_)
          rintro ec wc ⟨rfl, hsy, hcy⟩
          refine hK _ _ ?_ (fun hHeld2 => ?_)
          · exact HSC.out _ (HU0.out.trans hcy (fun _ _ h => h))
          clear hK K hHeld1
          try simp only [Act.put, List.setIfInBounds_toArray, List.set_cons_zero, List.set_cons_succ]
          refine wpAnyH_done (by kernel_rfl) ?_ _
          refine NoPanic.normal ?_
          clear hHeld2
          have HSY := Lib.hid hsy
          have HRY : Hid ((stageS S t j e d).2.room = room) := Lib.hid (by rw [(stage_room S t j e d).1]; exact HSR.out)
          clear hsy hcy a0 a1 a2 a3 a4
          go_wp2
          go_roundw
          case rel => exact ⟨k + 1, by go_num, HLT.out, Lib.hid ⟨_, HSY.out, HRY.out⟩⟩
          case measure => simp [intOf]; have := HLT.out; omega
      · have e1 : decide ((k : Int) < (l.length : Int)) = false := decide_eq_false (by omega)
        have e1' : decide (k < l.length) = false := decide_eq_false hlt
        have HS6 : Hid (SW w wr g S 60) := Lib.hid (hs.le (by have := HFE.out.1; omega))
        clear hs hSR hx hlt hk HS
        go_wp2_with fail
        go_loopw [7] (fun i wr => ∃ k : Nat, i = .int .i64 ((k : Int) + 1) ∧ k ≤ 24 ∧ Hid (∃ S, SW w wr g S 60 ∧ S.room = room ∧ EndedTo S k)) (fun i _ => 25 - (intOf i).toNat)
        case atStart => exact ⟨0, rfl, Nat.zero_le _, Lib.hid ⟨S, HS6.out, HSR.out, fun i hi => absurd hi (by omega)⟩⟩
        case round =>
          clear HS6 HSR
          obtain ⟨n, rfl, hn, HK⟩ := hrel
          obtain ⟨T, hs, hTR, hTE⟩ := HK.out
          have HS := Lib.hid hs
          have HTR := Lib.hid hTR
          have HTE := Lib.hid hTE
          clear HK hs hTR hTE
          by_cases hlt : n < 24
          · have e2 : decide ((n : Int) + 1 ≤ 24) = true := decide_eq_true (by omega)
            have HLT := Lib.hid hlt
            clear hlt hn
            go_wp2_with fail
            refine (HS.out.end_ ((n : Int) + 1)).mono ?_
            rintro e4 w4 ⟨rfl, hs, -⟩
            have HS4 := Lib.hid hs
            have HE4 := Lib.hid (HTE.out.next HS.out.ok HLT.out)
            have HR4 : Hid ((endS T ((n : Int) + 1)).room = room) := Lib.hid (by unfold endS; rw [(setJ_room _ _ _).1]; exact HTR.out)
            clear hs HS
            generalize endS T ((n : Int) + 1) = T2 at HS4 HE4 HR4
            go_wp2_with fail
            refine (HS4.out.counts ((n : Int) + 1)).mono ?_
            rintro e5 w5 ⟨rfl, hs, -⟩
            rw [HE4.out.counts HLT.out]
            have HS5 := Lib.hid hs
            clear hs HS4
            have HWN : Hid (n < 24) := HLT
            have hwn : wrap64 ((n : Int) + 1 + 1) = (n : Int) + 1 + 1 := IntWalk.wrap64_in _ (by have := HLT.out; omega)
            have HWN2 := Lib.hid hwn
            go_wp2
            go_roundw
            case rel => exact ⟨n + 1, by go_num, HLT.out, Lib.hid ⟨T2, HS5.out, HR4.out, HE4.out⟩⟩
            case measure => (try rw [HWN2.out]); clear hwn; simp [intOf]; have := HLT.out; omega
          · obtain rfl : n = 24 := by omega
            have e2 : decide (((24 : Nat) : Int) + 1 ≤ 24) = false := by decide
            have HJ := Lib.hid (HTE.out.all HS.out.ok)
            clear hlt hn HTE
            go_wp2_with fail
            refine HS.out.used.mono ?_
            rintro e4 w4 ⟨rfl, hs, -⟩
            rw [HJ.out, usedJ_zero]
            have HS4 := Lib.hid hs
            clear hs HS
            have HJR := Lib.hid (ended_stage HS4.out.ok HJ.out)
            have h00 : (((0 : Nat) : Int) != 0) = false := by decide
            have HJU : Hid (∀ k : Nat, 1 ≤ k → k ≤ 100 → (k : Int) ≤ T.room → usedJ (stageS T T.term 1 1 (List.replicate k 0)).2.jobs = k) := Lib.hid (fun k a b c => (HJR.out k a b c _ (by simp)).2)
            obtain ⟨m, hm⟩ : ∃ m : Nat, room = (m : Int) := ⟨room.toNat, by have := HRM.out; omega⟩
            subst hm
            by_cases h100 : 100 < m
            · have d9 : decide ((100 : Int) < (m : Int)) = true := decide_eq_true (by omega)
              have d9' : decide (100 < m) = true := decide_eq_true h100
              have HN1 : Hid (1 ≤ 100 ∧ 100 ≤ 100 ∧ ((100 : Nat) : Int) ≤ T.room) := Lib.hid ⟨by omega, by omega, by rw [HTR.out]; omega⟩
              have g3 : ((100 : Int) == 0) = false := by decide
              have x9 : (0 : Int) ≤ 100 := by omega
              go_upto_region 23 with (fail)
              obtain ⟨u0, hu⟩ : ∃ u, u = w4.drew := ⟨_, rfl⟩
              have HU0 : Hid (SW w u0 g T 60) := Lib.hid (by rw [hu]; exact HS4.out.more (ext_drew11 (Ext.refl w4)))
              refine held_begin (by kernel_rfl) ?_
              have hHeld0 : True := True.intro
              rw [← hu]
              clear hu
              obtain ⟨w7, hrun, hown, hgr⟩ := make_u8 u0 100 HN1.out.2.1
              have hmk : (Instr.makeSlice 27 (.int .i64 100) (.int .i64 100)).run Try.prog u0 = .ok (.slice (some ⟨u0.heap.size, 0, none⟩) 100 100) w7 := hrun
              have hx7 : Ext u0 w7 := hgr
              have hr7 : Rd w7 (.slice (some ⟨u0.heap.size, 0, none⟩) 100 100) ((List.replicate 100 (0 : UInt8)).map B) := hown
              have HS7 := Lib.hid (HU0.out.more hx7)
              have HST8 := Lib.hid (HS7.out.stage (by decide) T.term 1 1 (List.replicate 100 0) (some ⟨u0.heap.size, 0, none⟩) 100 (by rw [List.length_replicate]; exact hr7) (by rw [List.length_replicate]; have := HN1.out.2.1; omega))
              rw [List.length_replicate] at HST8
              rw [(HJR.out 100 HN1.out.1 HN1.out.2.1 HN1.out.2.2 (List.replicate 100 0) (by simp)).1] at HST8
              clear hrun hown hgr hx7 hr7
              refine held_take (i := 0) (v := ?_) rfl (by kernel_rfl) (by kernel_rfl) (by kernel_rfl) (by rfl) (by first | assumption | exact True.intro) ?_ ?_
              rotate_left
              · (intro w hSw; (try dsimp only at hSw); go_simp; (try with_reducible rfl))
              try simp only [Act.put, List.setIfInBounds_toArray, List.set_cons_zero, List.set_cons_succ]
              refine held_take (i := 1) (v := ?_) rfl (by kernel_rfl) (by kernel_rfl) (by kernel_rfl) (by rfl) (by first | assumption | exact True.intro) ?_ ?_
              rotate_left
              · (intro w hSw; (try dsimp only at hSw); go_simp; (try with_reducible rfl))
              try simp only [Act.put, List.setIfInBounds_toArray, List.set_cons_zero, List.set_cons_succ]
              refine held_take (i := 2) (v := ?_) rfl (by kernel_rfl) (by kernel_rfl) (by kernel_rfl) (by rfl) (by first | assumption | exact True.intro) ?_ ?_
              rotate_left
              · (intro w hSw; (try dsimp only at hSw); go_simp; (try with_reducible rfl))
              try simp only [Act.put, List.setIfInBounds_toArray, List.set_cons_zero, List.set_cons_succ]
              refine held_take (i := 3) (v := ?_) rfl (by kernel_rfl) (by kernel_rfl) (by kernel_rfl) (by rfl) (by first | assumption | exact True.intro) ?_ ?_
              rotate_left
              · (intro w hSw; (try dsimp only at hSw); go_simp; (try with_reducible rfl))
              try simp only [Act.put, List.setIfInBounds_toArray, List.set_cons_zero, List.set_cons_succ]
              refine held_take (i := 4) (v := ?_) rfl (by kernel_rfl) (by kernel_rfl) (by kernel_rfl) (by rfl) (by first | assumption | exact True.intro) ?_ ?_
              rotate_left
              · (intro w hSw; (try dsimp only at hSw); go_simp; (try with_reducible rfl))
              try simp only [Act.put, List.setIfInBounds_toArray, List.set_cons_zero, List.set_cons_succ]
              refine held_take (i := 6) (v := ?_) rfl (by kernel_rfl) (by kernel_rfl) (by kernel_rfl) (by rfl) (by first | assumption | exact True.intro) ?_ ?_
              rotate_left
              · (intro w hSw; (try dsimp only at hSw); go_simp; (try with_reducible rfl))
              try simp only [Act.put, List.setIfInBounds_toArray, List.set_cons_zero, List.set_cons_succ]
              refine held_two (i := 5) (j := 7) (by kernel_rfl) rfl rfl (fun K hK => ?_) (fun K hK => ?_)
              · go_simp
                go_at_call 23
                (with_reducible refine (HU0.out.term).mono ?_)
                rintro e5 w5 ⟨rfl, hw5⟩
                subst hw5
                refine hK _ _ True.intro (fun hHeld1 => ?_)
                clear hK K hHeld0
                try simp only [Act.put, List.setIfInBounds_toArray, List.set_cons_zero, List.set_cons_succ]
                refine held_op (i := 7) (by kernel_rfl) rfl (fun K hK => ?_)
                go_simp
                refine hK _ _ True.intro (fun hHeld2 => ?_)
                clear hK K hHeld1
                try simp only [Act.put, List.setIfInBounds_toArray, List.set_cons_zero, List.set_cons_succ]
                refine held_op (i := 8) (by kernel_rfl) rfl (fun K hK => ?_)
                go_simp
                go_at_call 19
                (with_reducible refine (HST8.out).mono ?_)
                rintro e8 w8 ⟨rfl, hs8, -⟩
                have HS8 := Lib.hid hs8
                clear hs8
                refine hK _ _ True.intro (fun hHeld3 => ?_)
                clear hK K hHeld2
                try simp only [Act.put, List.setIfInBounds_toArray, List.set_cons_zero, List.set_cons_succ]
                refine held_take (i := 9) (v := ?_) rfl (by kernel_rfl) (by kernel_rfl) (by kernel_rfl) (by rfl) (by first | assumption | exact True.intro) ?_ ?_
                rotate_left
                · (intro w hSw; (try dsimp only at hSw); go_simp; (try with_reducible rfl))
                try simp only [Act.put, List.setIfInBounds_toArray, List.set_cons_zero, List.set_cons_succ]
                refine held_take (i := 10) (v := ?_) rfl (by kernel_rfl) (by kernel_rfl) (by kernel_rfl) (by rfl) (by first | assumption | exact True.intro) ?_ ?_
                rotate_left
                · (intro w hSw; (try dsimp only at hSw); go_simp; (try with_reducible rfl))
                try simp only [Act.put, List.setIfInBounds_toArray, List.set_cons_zero, List.set_cons_succ]
                refine held_take (i := 11) (v := ?_) rfl (by kernel_rfl) (by kernel_rfl) (by kernel_rfl) (by rfl) (by first | assumption | exact True.intro) ?_ ?_
                rotate_left
                · (intro w hSw; (try dsimp only at hSw); go_simp; (try with_reducible rfl))
                try simp only [Act.put, List.setIfInBounds_toArray, List.set_cons_zero, List.set_cons_succ]
                refine held_take (i := 13) (v := ?_) rfl (by kernel_rfl) (by kernel_rfl) (by kernel_rfl) (by rfl) (by first | assumption | exact True.intro) ?_ ?_
                rotate_left
                · (intro w hSw; (try dsimp only at hSw); go_simp; (try with_reducible rfl))
                try simp only [Act.put, List.setIfInBounds_toArray, List.set_cons_zero, List.set_cons_succ]
                refine held_op (i := 12) (by kernel_rfl) rfl (fun K hK => ?_)
                go_simp
                go_at_call 22
                (with_reducible refine (HS8.out.used).mono ?_)
                rintro e9 w9 ⟨rfl, hs9, -⟩
                rw [HJU.out 100 HN1.out.1 HN1.out.2.1 HN1.out.2.2]
                have HX9 := Lib.hid hs9.ext
                clear hs9
                refine hK _ _ True.intro (fun hHeld4 => ?_)
                clear hK K hHeld3
                try simp only [Act.put, List.setIfInBounds_toArray, List.set_cons_zero, List.set_cons_succ]
                refine held_take (i := 14) (v := ?_) rfl (by kernel_rfl) (by kernel_rfl) (by kernel_rfl) (by rfl) (by first | assumption | exact True.intro) ?_ ?_
                rotate_left
                · (intro w hSw; (try dsimp only at hSw); go_simp; (try with_reducible rfl))
                try simp only [Act.put, List.setIfInBounds_toArray, List.set_cons_zero, List.set_cons_succ]
                refine held_take (i := 15) (v := ?_) rfl (by kernel_rfl) (by kernel_rfl) (by kernel_rfl) (by rfl) (by first | assumption | exact True.intro) ?_ ?_
                rotate_left
                · (intro w hSw; (try dsimp only at hSw); go_simp; (try with_reducible rfl))
                try simp only [Act.put, List.setIfInBounds_toArray, List.set_cons_zero, List.set_cons_succ]
                refine held_take (i := 16) (v := ?_) rfl (by kernel_rfl) (by kernel_rfl) (by kernel_rfl) (by rfl) (by first | assumption | exact True.intro) ?_ ?_
                rotate_left
                · (intro w hSw; (try dsimp only at hSw); go_simp; (try with_reducible rfl))
                try simp only [Act.put, List.setIfInBounds_toArray, List.set_cons_zero, List.set_cons_succ]
                refine held_take (i := 17) (v := ?_) rfl (by kernel_rfl) (by kernel_rfl) (by kernel_rfl) (by rfl) (by first | assumption | exact True.intro) ?_ ?_
                rotate_left
                · (intro w hSw; (try dsimp only at hSw); go_simp; (try with_reducible rfl))
                try simp only [Act.put, List.setIfInBounds_toArray, List.set_cons_zero, List.set_cons_succ]
                refine wpAnyH_done (by kernel_rfl) ?_ _
                refine NoPanic.normal ?_
                clear hHeld4
                go_wp2
                go_ret
                exact ⟨rfl, HX9.out⟩
              · go_simp
                refine hK _ _ True.intro (fun hHeld1 => ?_)
                clear hK K hHeld0
                try simp only [Act.put, List.setIfInBounds_toArray, List.set_cons_zero, List.set_cons_succ]
                refine held_op (i := 5) (by kernel_rfl) rfl (fun K hK => ?_)
                go_simp
                go_at_call 23
                (with_reducible refine (HS7.out.term).mono ?_)
                rintro e5 w5 ⟨rfl, hw5⟩
                subst hw5
                refine hK _ _ True.intro (fun hHeld2 => ?_)
                clear hK K hHeld1
                try simp only [Act.put, List.setIfInBounds_toArray, List.set_cons_zero, List.set_cons_succ]
                refine held_op (i := 8) (by kernel_rfl) rfl (fun K hK => ?_)
                go_simp
                go_at_call 19
                (with_reducible refine (HST8.out).mono ?_)
                rintro e8 w8 ⟨rfl, hs8, -⟩
                have HS8 := Lib.hid hs8
                clear hs8
                refine hK _ _ True.intro (fun hHeld3 => ?_)
                clear hK K hHeld2
                try simp only [Act.put, List.setIfInBounds_toArray, List.set_cons_zero, List.set_cons_succ]
                refine held_take (i := 9) (v := ?_) rfl (by kernel_rfl) (by kernel_rfl) (by kernel_rfl) (by rfl) (by first | assumption | exact True.intro) ?_ ?_
                rotate_left
                · (intro w hSw; (try dsimp only at hSw); go_simp; (try with_reducible rfl))
                try simp only [Act.put, List.setIfInBounds_toArray, List.set_cons_zero, List.set_cons_succ]
                refine held_take (i := 10) (v := ?_) rfl (by kernel_rfl) (by kernel_rfl) (by kernel_rfl) (by rfl) (by first | assumption | exact True.intro) ?_ ?_
                rotate_left
                · (intro w hSw; (try dsimp only at hSw); go_simp; (try with_reducible rfl))
                try simp only [Act.put, List.setIfInBounds_toArray, List.set_cons_zero, List.set_cons_succ]
                refine held_take (i := 11) (v := ?_) rfl (by kernel_rfl) (by kernel_rfl) (by kernel_rfl) (by rfl) (by first | assumption | exact True.intro) ?_ ?_
                rotate_left
                · (intro w hSw; (try dsimp only at hSw); go_simp; (try with_reducible rfl))
                try simp only [Act.put, List.setIfInBounds_toArray, List.set_cons_zero, List.set_cons_succ]
                refine held_take (i := 13) (v := ?_) rfl (by kernel_rfl) (by kernel_rfl) (by kernel_rfl) (by rfl) (by first | assumption | exact True.intro) ?_ ?_
                rotate_left
                · (intro w hSw; (try dsimp only at hSw); go_simp; (try with_reducible rfl))
                try simp only [Act.put, List.setIfInBounds_toArray, List.set_cons_zero, List.set_cons_succ]
                refine held_op (i := 12) (by kernel_rfl) rfl (fun K hK => ?_)
                go_simp
                go_at_call 22
                (with_reducible refine (HS8.out.used).mono ?_)
                rintro e9 w9 ⟨rfl, hs9, -⟩
                rw [HJU.out 100 HN1.out.1 HN1.out.2.1 HN1.out.2.2]
                have HX9 := Lib.hid hs9.ext
                clear hs9
                refine hK _ _ True.intro (fun hHeld4 => ?_)
                clear hK K hHeld3
                try simp only [Act.put, List.setIfInBounds_toArray, List.set_cons_zero, List.set_cons_succ]
                refine held_take (i := 14) (v := ?_) rfl (by kernel_rfl) (by kernel_rfl) (by kernel_rfl) (by rfl) (by first | assumption | exact True.intro) ?_ ?_
                rotate_left
                · (intro w hSw; (try dsimp only at hSw); go_simp; (try with_reducible rfl))
                try simp only [Act.put, List.setIfInBounds_toArray, List.set_cons_zero, List.set_cons_succ]
                refine held_take (i := 15) (v := ?_) rfl (by kernel_rfl) (by kernel_rfl) (by kernel_rfl) (by rfl) (by first | assumption | exact True.intro) ?_ ?_
                rotate_left
                · (intro w hSw; (try dsimp only at hSw); go_simp; (try with_reducible rfl))
                try simp only [Act.put, List.setIfInBounds_toArray, List.set_cons_zero, List.set_cons_succ]
                refine held_take (i := 16) (v := ?_) rfl (by kernel_rfl) (by kernel_rfl) (by kernel_rfl) (by rfl) (by first | assumption | exact True.intro) ?_ ?_
                rotate_left
                · (intro w hSw; (try dsimp only at hSw); go_simp; (try with_reducible rfl))
                try simp only [Act.put, List.setIfInBounds_toArray, List.set_cons_zero, List.set_cons_succ]
                refine held_take (i := 17) (v := ?_) rfl (by kernel_rfl) (by kernel_rfl) (by kernel_rfl) (by rfl) (by first | assumption | exact True.intro) ?_ ?_
                rotate_left
                · (intro w hSw; (try dsimp only at hSw); go_simp; (try with_reducible rfl))
                try simp only [Act.put, List.setIfInBounds_toArray, List.set_cons_zero, List.set_cons_succ]
                refine wpAnyH_done (by kernel_rfl) ?_ _
                refine NoPanic.normal ?_
                clear hHeld4
                go_wp2
                go_ret
                exact ⟨rfl, HX9.out⟩
            have d9 : decide ((100 : Int) < (m : Int)) = false := decide_eq_false (by omega)
            have d9' : decide (100 < m) = false := decide_eq_false h100
            by_cases h0 : m = 0
            · have g3 : ((m : Int) == 0) = true := by rw [h0]; rfl
              go_upto_region 23 with (fail)
              refine held_begin (by kernel_rfl) ?_
              have hHeld0 : True := True.intro
              refine held_take (i := 0) (v := ?_) rfl (by kernel_rfl) (by kernel_rfl) (by kernel_rfl) (by rfl) (by first | assumption | exact True.intro) ?_ ?_
              rotate_left
              · (intro w hSw; (try dsimp only at hSw); go_simp; (try with_reducible rfl))
              try simp only [Act.put, List.setIfInBounds_toArray, List.set_cons_zero, List.set_cons_succ]
              refine held_take (i := 1) (v := ?_) rfl (by kernel_rfl) (by kernel_rfl) (by kernel_rfl) (by rfl) (by first | assumption | exact True.intro) ?_ ?_
              rotate_left
              · (intro w hSw; (try dsimp only at hSw); go_simp; (try with_reducible rfl))
              try simp only [Act.put, List.setIfInBounds_toArray, List.set_cons_zero, List.set_cons_succ]
              refine held_take (i := 2) (v := ?_) rfl (by kernel_rfl) (by kernel_rfl) (by kernel_rfl) (by rfl) (by first | assumption | exact True.intro) ?_ ?_
              rotate_left
              · (intro w hSw; (try dsimp only at hSw); go_simp; (try with_reducible rfl))
              try simp only [Act.put, List.setIfInBounds_toArray, List.set_cons_zero, List.set_cons_succ]
              refine held_skip (i := 3) rfl (by kernel_rfl) (by kernel_rfl) (by kernel_rfl) (by rfl) (by first | assumption | exact True.intro) ?_
              try simp only [Act.put, List.setIfInBounds_toArray, List.set_cons_zero, List.set_cons_succ]
              refine held_skip (i := 4) rfl (by kernel_rfl) (by kernel_rfl) (by kernel_rfl) (by rfl) (by first | assumption | exact True.intro) ?_
              try simp only [Act.put, List.setIfInBounds_toArray, List.set_cons_zero, List.set_cons_succ]
              refine held_skip (i := 5) rfl (by kernel_rfl) (by kernel_rfl) (by kernel_rfl) (by rfl) (by first | assumption | exact True.intro) ?_
              try simp only [Act.put, List.setIfInBounds_toArray, List.set_cons_zero, List.set_cons_succ]
              refine held_skip (i := 6) rfl (by kernel_rfl) (by kernel_rfl) (by kernel_rfl) (by rfl) (by first | assumption | exact True.intro) ?_
              try simp only [Act.put, List.setIfInBounds_toArray, List.set_cons_zero, List.set_cons_succ]
              refine held_skip (i := 7) rfl (by kernel_rfl) (by kernel_rfl) (by kernel_rfl) (by rfl) (by first | assumption | exact True.intro) ?_
              try simp only [Act.put, List.setIfInBounds_toArray, List.set_cons_zero, List.set_cons_succ]
              refine held_skip (i := 8) rfl (by kernel_rfl) (by kernel_rfl) (by kernel_rfl) (by rfl) (by first | assumption | exact True.intro) ?_
              try simp only [Act.put, List.setIfInBounds_toArray, List.set_cons_zero, List.set_cons_succ]
              refine held_skip (i := 9) rfl (by kernel_rfl) (by kernel_rfl) (by kernel_rfl) (by rfl) (by first | assumption | exact True.intro) ?_
              try simp only [Act.put, List.setIfInBounds_toArray, List.set_cons_zero, List.set_cons_succ]
              refine held_skip (i := 10) rfl (by kernel_rfl) (by kernel_rfl) (by kernel_rfl) (by rfl) (by first | assumption | exact True.intro) ?_
              try simp only [Act.put, List.setIfInBounds_toArray, List.set_cons_zero, List.set_cons_succ]
              refine held_skip (i := 11) rfl (by kernel_rfl) (by kernel_rfl) (by kernel_rfl) (by rfl) (by first | assumption | exact True.intro) ?_
              try simp only [Act.put, List.setIfInBounds_toArray, List.set_cons_zero, List.set_cons_succ]
              refine held_skip (i := 12) rfl (by kernel_rfl) (by kernel_rfl) (by kernel_rfl) (by rfl) (by first | assumption | exact True.intro) ?_
              try simp only [Act.put, List.setIfInBounds_toArray, List.set_cons_zero, List.set_cons_succ]
              refine held_skip (i := 13) rfl (by kernel_rfl) (by kernel_rfl) (by kernel_rfl) (by rfl) (by first | assumption | exact True.intro) ?_
              try simp only [Act.put, List.setIfInBounds_toArray, List.set_cons_zero, List.set_cons_succ]
              refine held_skip (i := 14) rfl (by kernel_rfl) (by kernel_rfl) (by kernel_rfl) (by rfl) (by first | assumption | exact True.intro) ?_
              try simp only [Act.put, List.setIfInBounds_toArray, List.set_cons_zero, List.set_cons_succ]
              refine held_skip (i := 15) rfl (by kernel_rfl) (by kernel_rfl) (by kernel_rfl) (by rfl) (by first | assumption | exact True.intro) ?_
              try simp only [Act.put, List.setIfInBounds_toArray, List.set_cons_zero, List.set_cons_succ]
              refine held_take (i := 16) (v := ?_) rfl (by kernel_rfl) (by kernel_rfl) (by kernel_rfl) (by rfl) (by first | assumption | exact True.intro) ?_ ?_
              rotate_left
              · (intro w hSw; (try dsimp only at hSw); go_simp; (try with_reducible rfl))
              try simp only [Act.put, List.setIfInBounds_toArray, List.set_cons_zero, List.set_cons_succ]
              refine held_take (i := 17) (v := ?_) rfl (by kernel_rfl) (by kernel_rfl) (by kernel_rfl) (by rfl) (by first | assumption | exact True.intro) ?_ ?_
              rotate_left
              · (intro w hSw; (try dsimp only at hSw); go_simp; (try with_reducible rfl))
              try simp only [Act.put, List.setIfInBounds_toArray, List.set_cons_zero, List.set_cons_succ]
              refine wpAnyH_done (by kernel_rfl) ?_ _
              refine NoPanic.normal ?_
              clear hHeld0
              have HX4 := Lib.hid (HS4.out.more (ext_drew11 (Ext.refl w4))).ext
              go_wp2
              go_ret
              exact ⟨rfl, HX4.out⟩
            have HN1 : Hid (1 ≤ m ∧ m ≤ 100 ∧ ((m : Nat) : Int) ≤ T.room) := Lib.hid ⟨by omega, by omega, by rw [HTR.out]; omega⟩
            have g3 : (((m : Int) : Int) == 0) = false := by simp; omega
            have x9 : (0 : Int) ≤ (m : Int) := by omega
            go_upto_region 23 with (fail)
            obtain ⟨u0, hu⟩ : ∃ u, u = w4.drew := ⟨_, rfl⟩
            have HU0 : Hid (SW w u0 g T 60) := Lib.hid (by rw [hu]; exact HS4.out.more (ext_drew11 (Ext.refl w4)))
            refine held_begin (by kernel_rfl) ?_
            have hHeld0 : True := True.intro
            rw [← hu]
            clear hu
            obtain ⟨w7, hrun, hown, hgr⟩ := make_u8 u0 m HN1.out.2.1
            have hmk : (Instr.makeSlice 27 (.int .i64 (m : Int)) (.int .i64 (m : Int))).run Try.prog u0 = .ok (.slice (some ⟨u0.heap.size, 0, none⟩) m m) w7 := hrun
            have hx7 : Ext u0 w7 := hgr
            have hr7 : Rd w7 (.slice (some ⟨u0.heap.size, 0, none⟩) m m) ((List.replicate m (0 : UInt8)).map B) := hown
            have HS7 := Lib.hid (HU0.out.more hx7)
            have HST8 := Lib.hid (HS7.out.stage (by decide) T.term 1 1 (List.replicate m 0) (some ⟨u0.heap.size, 0, none⟩) m (by rw [List.length_replicate]; exact hr7) (by rw [List.length_replicate]; have := HN1.out.2.1; omega))
            rw [List.length_replicate] at HST8
            rw [(HJR.out m HN1.out.1 HN1.out.2.1 HN1.out.2.2 (List.replicate m 0) (by simp)).1] at HST8
            clear hrun hown hgr hx7 hr7
            refine held_take (i := 0) (v := ?_) rfl (by kernel_rfl) (by kernel_rfl) (by kernel_rfl) (by rfl) (by first | assumption | exact True.intro) ?_ ?_
            rotate_left
            · (intro w hSw; (try dsimp only at hSw); go_simp; (try with_reducible rfl))
            try simp only [Act.put, List.setIfInBounds_toArray, List.set_cons_zero, List.set_cons_succ]
            refine held_take (i := 1) (v := ?_) rfl (by kernel_rfl) (by kernel_rfl) (by kernel_rfl) (by rfl) (by first | assumption | exact True.intro) ?_ ?_
            rotate_left
            · (intro w hSw; (try dsimp only at hSw); go_simp; (try with_reducible rfl))
            try simp only [Act.put, List.setIfInBounds_toArray, List.set_cons_zero, List.set_cons_succ]
            refine held_take (i := 2) (v := ?_) rfl (by kernel_rfl) (by kernel_rfl) (by kernel_rfl) (by rfl) (by first | assumption | exact True.intro) ?_ ?_
            rotate_left
            · (intro w hSw; (try dsimp only at hSw); go_simp; (try with_reducible rfl))
            try simp only [Act.put, List.setIfInBounds_toArray, List.set_cons_zero, List.set_cons_succ]
            refine held_take (i := 3) (v := ?_) rfl (by kernel_rfl) (by kernel_rfl) (by kernel_rfl) (by rfl) (by first | assumption | exact True.intro) ?_ ?_
            rotate_left
            · (intro w hSw; (try dsimp only at hSw); go_simp; (try with_reducible rfl))
            try simp only [Act.put, List.setIfInBounds_toArray, List.set_cons_zero, List.set_cons_succ]
            refine held_take (i := 4) (v := ?_) rfl (by kernel_rfl) (by kernel_rfl) (by kernel_rfl) (by rfl) (by first | assumption | exact True.intro) ?_ ?_
            rotate_left
            · (intro w hSw; (try dsimp only at hSw); go_simp; (try with_reducible rfl))
            try simp only [Act.put, List.setIfInBounds_toArray, List.set_cons_zero, List.set_cons_succ]
            refine held_take (i := 6) (v := ?_) rfl (by kernel_rfl) (by kernel_rfl) (by kernel_rfl) (by rfl) (by first | assumption | exact True.intro) ?_ ?_
            rotate_left
            · (intro w hSw; (try dsimp only at hSw); go_simp; (try with_reducible rfl))
            try simp only [Act.put, List.setIfInBounds_toArray, List.set_cons_zero, List.set_cons_succ]
            refine held_two (i := 5) (j := 7) (by kernel_rfl) rfl rfl (fun K hK => ?_) (fun K hK => ?_)
            · go_simp
              go_at_call 23
              (with_reducible refine (HU0.out.term).mono ?_)
              rintro e5 w5 ⟨rfl, hw5⟩
              subst hw5
              refine hK _ _ True.intro (fun hHeld1 => ?_)
              clear hK K hHeld0
              try simp only [Act.put, List.setIfInBounds_toArray, List.set_cons_zero, List.set_cons_succ]
              refine held_op (i := 7) (by kernel_rfl) rfl (fun K hK => ?_)
              go_simp
              refine hK _ _ True.intro (fun hHeld2 => ?_)
              clear hK K hHeld1
              try simp only [Act.put, List.setIfInBounds_toArray, List.set_cons_zero, List.set_cons_succ]
              refine held_op (i := 8) (by kernel_rfl) rfl (fun K hK => ?_)
              go_simp
              go_at_call 19
              (with_reducible refine (HST8.out).mono ?_)
              rintro e8 w8 ⟨rfl, hs8, -⟩
              have HS8 := Lib.hid hs8
              clear hs8
              refine hK _ _ True.intro (fun hHeld3 => ?_)
              clear hK K hHeld2
              try simp only [Act.put, List.setIfInBounds_toArray, List.set_cons_zero, List.set_cons_succ]
              refine held_take (i := 9) (v := ?_) rfl (by kernel_rfl) (by kernel_rfl) (by kernel_rfl) (by rfl) (by first | assumption | exact True.intro) ?_ ?_
              rotate_left
              · (intro w hSw; (try dsimp only at hSw); go_simp; (try with_reducible rfl))
              try simp only [Act.put, List.setIfInBounds_toArray, List.set_cons_zero, List.set_cons_succ]
              refine held_take (i := 10) (v := ?_) rfl (by kernel_rfl) (by kernel_rfl) (by kernel_rfl) (by rfl) (by first | assumption | exact True.intro) ?_ ?_
              rotate_left
              · (intro w hSw; (try dsimp only at hSw); go_simp; (try with_reducible rfl))
              try simp only [Act.put, List.setIfInBounds_toArray, List.set_cons_zero, List.set_cons_succ]
              refine held_take (i := 11) (v := ?_) rfl (by kernel_rfl) (by kernel_rfl) (by kernel_rfl) (by rfl) (by first | assumption | exact True.intro) ?_ ?_
              rotate_left
              · (intro w hSw; (try dsimp only at hSw); go_simp; (try with_reducible rfl))
              try simp only [Act.put, List.setIfInBounds_toArray, List.set_cons_zero, List.set_cons_succ]
              refine held_take (i := 13) (v := ?_) rfl (by kernel_rfl) (by kernel_rfl) (by kernel_rfl) (by rfl) (by first | assumption | exact True.intro) ?_ ?_
              rotate_left
              · (intro w hSw; (try dsimp only at hSw); go_simp; (try with_reducible rfl))
              try simp only [Act.put, List.setIfInBounds_toArray, List.set_cons_zero, List.set_cons_succ]
              refine held_op (i := 12) (by kernel_rfl) rfl (fun K hK => ?_)
              go_simp
              go_at_call 22
              (with_reducible refine (HS8.out.used).mono ?_)
              rintro e9 w9 ⟨rfl, hs9, -⟩
              rw [HJU.out m HN1.out.1 HN1.out.2.1 HN1.out.2.2]
              have HX9 := Lib.hid hs9.ext
              clear hs9
              refine hK _ _ True.intro (fun hHeld4 => ?_)
              clear hK K hHeld3
              try simp only [Act.put, List.setIfInBounds_toArray, List.set_cons_zero, List.set_cons_succ]
              refine held_take (i := 14) (v := ?_) rfl (by kernel_rfl) (by kernel_rfl) (by kernel_rfl) (by rfl) (by first | assumption | exact True.intro) ?_ ?_
              rotate_left
              · (intro w hSw; (try dsimp only at hSw); go_simp; (try with_reducible rfl))
              try simp only [Act.put, List.setIfInBounds_toArray, List.set_cons_zero, List.set_cons_succ]
              refine held_take (i := 15) (v := ?_) rfl (by kernel_rfl) (by kernel_rfl) (by kernel_rfl) (by rfl) (by first | assumption | exact True.intro) ?_ ?_
              rotate_left
              · (intro w hSw; (try dsimp only at hSw); go_simp; (try with_reducible rfl))
              try simp only [Act.put, List.setIfInBounds_toArray, List.set_cons_zero, List.set_cons_succ]
              refine held_take (i := 16) (v := ?_) rfl (by kernel_rfl) (by kernel_rfl) (by kernel_rfl) (by rfl) (by first | assumption | exact True.intro) ?_ ?_
              rotate_left
              · (intro w hSw; (try dsimp only at hSw); go_simp; (try with_reducible rfl))
              try simp only [Act.put, List.setIfInBounds_toArray, List.set_cons_zero, List.set_cons_succ]
              refine held_take (i := 17) (v := ?_) rfl (by kernel_rfl) (by kernel_rfl) (by kernel_rfl) (by rfl) (by first | assumption | exact True.intro) ?_ ?_
              rotate_left
              · (intro w hSw; (try dsimp only at hSw); go_simp; (try with_reducible rfl))
              try simp only [Act.put, List.setIfInBounds_toArray, List.set_cons_zero, List.set_cons_succ]
              refine wpAnyH_done (by kernel_rfl) ?_ _
              refine NoPanic.normal ?_
              clear hHeld4
              go_wp2
              go_ret
              exact ⟨rfl, HX9.out⟩
            · go_simp
              refine hK _ _ True.intro (fun hHeld1 => ?_)
              clear hK K hHeld0
              try simp only [Act.put, List.setIfInBounds_toArray, List.set_cons_zero, List.set_cons_succ]
              refine held_op (i := 5) (by kernel_rfl) rfl (fun K hK => ?_)
              go_simp
              go_at_call 23
              (with_reducible refine (HS7.out.term).mono ?_)
              rintro e5 w5 ⟨rfl, hw5⟩
              subst hw5
              refine hK _ _ True.intro (fun hHeld2 => ?_)
              clear hK K hHeld1
              try simp only [Act.put, List.setIfInBounds_toArray, List.set_cons_zero, List.set_cons_succ]
              refine held_op (i := 8) (by kernel_rfl) rfl (fun K hK => ?_)
              go_simp
              go_at_call 19
              (with_reducible refine (HST8.out).mono ?_)
              rintro e8 w8 ⟨rfl, hs8, -⟩
              have HS8 := Lib.hid hs8
              clear hs8
              refine hK _ _ True.intro (fun hHeld3 => ?_)
              clear hK K hHeld2
              try simp only [Act.put, List.setIfInBounds_toArray, List.set_cons_zero, List.set_cons_succ]
              refine held_take (i := 9) (v := ?_) rfl (by kernel_rfl) (by kernel_rfl) (by kernel_rfl) (by rfl) (by first | assumption | exact True.intro) ?_ ?_
              rotate_left
              · (intro w hSw; (try dsimp only at hSw); go_simp; (try with_reducible rfl))
              try simp only [Act.put, List.setIfInBounds_toArray, List.set_cons_zero, List.set_cons_succ]
              refine held_take (i := 10) (v := ?_) rfl (by kernel_rfl) (by kernel_rfl) (by kernel_rfl) (by rfl) (by first | assumption | exact True.intro) ?_ ?_
              rotate_left
              · (intro w hSw; (try dsimp only at hSw); go_simp; (try with_reducible rfl))
              try simp only [Act.put, List.setIfInBounds_toArray, List.set_cons_zero, List.set_cons_succ]
              refine held_take (i := 11) (v := ?_) rfl (by kernel_rfl) (by kernel_rfl) (by kernel_rfl) (by rfl) (by first | assumption | exact True.intro) ?_ ?_
              rotate_left
              · (intro w hSw; (try dsimp only at hSw); go_simp; (try with_reducible rfl))
              try simp only [Act.put, List.setIfInBounds_toArray, List.set_cons_zero, List.set_cons_succ]
              refine held_take (i := 13) (v := ?_) rfl (by kernel_rfl) (by kernel_rfl) (by kernel_rfl) (by rfl) (by first | assumption | exact True.intro) ?_ ?_
              rotate_left
              · (intro w hSw; (try dsimp only at hSw); go_simp; (try with_reducible rfl))
              try simp only [Act.put, List.setIfInBounds_toArray, List.set_cons_zero, List.set_cons_succ]
              refine held_op (i := 12) (by kernel_rfl) rfl (fun K hK => ?_)
              go_simp
              go_at_call 22
              (with_reducible refine (HS8.out.used).mono ?_)
              rintro e9 w9 ⟨rfl, hs9, -⟩
              rw [HJU.out m HN1.out.1 HN1.out.2.1 HN1.out.2.2]
              have HX9 := Lib.hid hs9.ext
              clear hs9
              refine hK _ _ True.intro (fun hHeld4 => ?_)
              clear hK K hHeld3
              try simp only [Act.put, List.setIfInBounds_toArray, List.set_cons_zero, List.set_cons_succ]
              refine held_take (i := 14) (v := ?_) rfl (by kernel_rfl) (by kernel_rfl) (by kernel_rfl) (by rfl) (by first | assumption | exact True.intro) ?_ ?_
              rotate_left
              · (intro w hSw; (try dsimp only at hSw); go_simp; (try with_reducible rfl))
              try simp only [Act.put, List.setIfInBounds_toArray, List.set_cons_zero, List.set_cons_succ]
              refine held_take (i := 15) (v := ?_) rfl (by kernel_rfl) (by kernel_rfl) (by kernel_rfl) (by rfl) (by first | assumption | exact True.intro) ?_ ?_
              rotate_left
              · (intro w hSw; (try dsimp only at hSw); go_simp; (try with_reducible rfl))
              try simp only [Act.put, List.setIfInBounds_toArray, List.set_cons_zero, List.set_cons_succ]
              refine held_take (i := 16) (v := ?_) rfl (by kernel_rfl) (by kernel_rfl) (by kernel_rfl) (by rfl) (by first | assumption | exact True.intro) ?_ ?_
              rotate_left
              · (intro w hSw; (try dsimp only at hSw); go_simp; (try with_reducible rfl))
              try simp only [Act.put, List.setIfInBounds_toArray, List.set_cons_zero, List.set_cons_succ]
              refine held_take (i := 17) (v := ?_) rfl (by kernel_rfl) (by kernel_rfl) (by kernel_rfl) (by rfl) (by first | assumption | exact True.intro) ?_ ?_
              rotate_left
              · (intro w hSw; (try dsimp only at hSw); go_simp; (try with_reducible rfl))
              try simp only [Act.put, List.setIfInBounds_toArray, List.set_cons_zero, List.set_cons_succ]
              refine wpAnyH_done (by kernel_rfl) ?_ _
              refine NoPanic.normal ?_
              clear hHeld4
              go_wp2
              go_ret
              exact ⟨rfl, HX9.out⟩

end Go.Proofs.Ytdnilcgpfcpfkaa

/- Layer 11's statement StoreKeeps, walked. -/
namespace Go.Proofs.Ytdnilcgpfcpfkaa
open Go.RowKit

set_option maxRecDepth 100000 in
set_option maxHeartbeats 8000000 in
theorem StoreKeeps_calls (room job : Int) (l : List Act4) (v : Value) (w : World) (hr : RdActs4 w v l) :
    Calls Try.prog 4 #[.int .i64 room, .int .i64 job, v] w fun x w' => x = .returned (.bool true) ∧ Ext w w' := by
  obtain ⟨A, c, rfl, hlc, hcm⟩ := hr.slice_
  have HR := Lib.hid hr
  clear hr
  go_enter Try.func4, Try.ntmps4
  go_wp2_with fail
  refine (alive11_any w).mono ?_
  rintro e0 w0 ⟨rfl, hx0⟩
  have HX0 := Lib.hid hx0
  clear hx0
  have HFW := Lib.hid (few11_any l (.slice A l.length c) w0 (HR.out.ext HX0.out))
  cases hfew : few11 l with
  | false =>
    rw [hfew] at HFW
    clear hfew
    go_wp2_with fail
    refine HFW.out.mono ?_
    rintro e1 w1 ⟨rfl, rfl⟩
    go_wp2
    go_ret
    exact ⟨rfl, HX0.out⟩
  | true =>
    have HFE := Lib.hid (few11_iff.1 hfew)
    rw [hfew] at HFW
    clear hfew
    go_wp2_with fail
    refine HFW.out.mono ?_
    rintro e1 w1 ⟨rfl, rfl⟩
    clear HFW
    by_cases h1 : room < 0
    · have d1 : decide (room < 0) = true := decide_eq_true h1
      clear h1
      go_wp2
      go_ret
      exact ⟨rfl, HX0.out⟩
    have d1 : decide (room < 0) = false := decide_eq_false h1
    have HRM : Hid (0 ≤ room) := Lib.hid (by omega)
    clear h1
    go_wp2_with fail
    refine (SW.new HX0.out room).mono ?_
    rintro e2 w2 ⟨g, rfl, hs⟩
    obtain ⟨S2, hS2⟩ : ∃ S, S = newS room := ⟨_, rfl⟩
    have HR2 : Hid (S2.room = room) := Lib.hid (by rw [hS2]; show max room 0 = room; have := HRM.out; omega)
    rw [← hS2] at hs
    have HS2 := Lib.hid hs
    clear hs hS2
    go_wp2_with fail
    go_loopw [8] (fun i wr => ∃ k : Nat, i = .int .i64 k ∧ k ≤ l.length ∧ Hid (∃ S, SW w wr g S k ∧ S.room = room)) (fun i _ => l.length - (intOf i).toNat)
    case atStart => exact ⟨0, rfl, Nat.zero_le _, Lib.hid ⟨S2, HS2.out, HR2.out⟩⟩
    case round =>
      clear HS2 HR2
      obtain ⟨k, rfl, hk, HK⟩ := hrel
      obtain ⟨S, hs, hSR⟩ := HK.out
      have HS := Lib.hid hs
      have HSR := Lib.hid hSR
      clear HK
      by_cases hlt : k < l.length
      · have e1 : decide ((k : Int) < (l.length : Int)) = true := decide_eq_true (by omega)
        have e1' : decide (k < l.length) = true := decide_eq_true hlt
        have HLT := Lib.hid hlt
        have HK60 : Hid (k + 1 ≤ 60) := Lib.hid (by have := HFE.out.1; omega)
        clear hs hSR
        obtain ⟨E, hE⟩ : ∃ E, E = (ofJ S job).c.ep := ⟨_, rfl⟩
        obtain ⟨D, hD⟩ : ∃ D, D = (getS S job E).1 := ⟨_, rfl⟩
        obtain ⟨okb, hob⟩ : ∃ o, o = (getS S job E).2 := ⟨_, rfl⟩
        have HE := Lib.hid hE
        have HD := Lib.hid hD
        have HOB := Lib.hid hob
        have hEo : decide (0 < E) = okb := by rw [hob, hE, get_counts HS.out.ok]; by_cases h0 : 0 < (ofJ S job).c.ep <;> simp [h0]
        have HEO := Lib.hid hEo
        clear hEo hE hD hob hlt
        go_wp2_with fail
        refine (HS.out.counts job).mono ?_
        rintro e4 w4 ⟨rfl, hs4, -⟩
        rw [← HE.out]
        have HS4 := Lib.hid hs4
        clear hs4
        go_wp2_with fail
        refine (HS4.out.get job E).mono ?_
        rintro e5 w5 ⟨v5, rfl, hv5, hs5, -⟩
        rw [← HD.out] at hv5
        rw [← HOB.out]
        have HS5 := Lib.hid hs5
        have HV5 := Lib.hid hv5
        have hx := hs5.ext
        clear hs5 hv5 HS4
        have hlt := HLT.out
        obtain ⟨b, o, hA_, hb1, hcl⟩ := (HR.out.ext hx).get (by omega)
        subst hA_
        obtain ⟨x, hxk⟩ : ∃ x, l[k]? = some x := ⟨_, List.getElem?_eq_getElem hlt⟩
        obtain ⟨a0, a1, a2, a3, u, a4, hu⟩ := hcl k x hxk
        have hx200 := HFE.out.2 x (List.mem_of_getElem? hxk)
        have HXK := Lib.hid hxk
        obtain ⟨kd, t, j, e, d⟩ := x
        simp only at a0 a1 a2 a3 hu hx200
        obtain ⟨Au, cu, hue, -, -⟩ := hu.sliceN (List.length_map _)
        subst hue
        have HU := Lib.hid hu
        have HL200 := Lib.hid hx200
        clear hcl hu hxk hx200 hlt hb1
        obtain ⟨wa, hwa⟩ : ∃ W, W = w5.alloc (.cells #[.int .i64 kd, .int .i64 t, .int .i64 j, .int .i64 e, .slice Au d.length cu] 39) := ⟨_, rfl⟩
        have hxa : Ext w5 wa := by rw [hwa]; exact (Below.refl _ _).alloc (Nat.le_refl _) _
        have hba : Blk wa w5.heap.size 39 #[.int .i64 kd, .int .i64 t, .int .i64 j, .int .i64 e, .slice Au d.length cu] := by rw [hwa]; exact Blk.new _ _ _
        have HSA := Lib.hid (HS5.out.more hxa)
        have HUA := Lib.hid (HU.out.ext hxa)
        have HBA := Lib.hid hba
        have HGL : Hid (g < w5.heap.size) := Lib.hid HS5.out.so.lt
        have HVA := Lib.hid (HV5.out.chg (G := fun _ => False) (Chg.of_ext hxa) (fun _ _ h => h.elim))
        have c0 : wa.cell? ⟨w5.heap.size, 0, none⟩ = some (.int .i64 kd) := hba.cell 0
        have c1 : wa.cell? ⟨w5.heap.size, 1, none⟩ = some (.int .i64 t) := hba.cell 1
        have c2 : wa.cell? ⟨w5.heap.size, 2, none⟩ = some (.int .i64 j) := hba.cell 2
        have c3 : wa.cell? ⟨w5.heap.size, 3, none⟩ = some (.int .i64 e) := hba.cell 3
        have c4 : wa.cell? ⟨w5.heap.size, 4, none⟩ = some (.slice Au d.length cu) := hba.cell 4
        clear hx hxa hba HS5 HV5
        go_upto_region 12 with (fail)
        rw [← hwa]
        clear hwa a0 a1 a2 a3 a4
        generalize w5.heap.size = ab at *
        obtain ⟨S', hS'⟩ : ∃ S', S' = actS S (kd, t, j, e, d) := ⟨_, rfl⟩
        obtain ⟨E', hE'⟩ : ∃ E', E' = (ofJ S' job).c.ep := ⟨_, rfl⟩
        have HOK' : Hid (OkS S') := Lib.hid (by rw [hS']; exact HS.out.ok.act _)
        have HRM' : Hid (S'.room = room) := Lib.hid (by rw [hS', (act_room S _).1]; exact HSR.out)
        have HEN : Hid (kd = 2 ∧ j = job → E' = 0) := Lib.hid (fun h => by rw [hE', hS']; exact act_ended HS.out.ok _ job h)
        have HKE : Hid (¬ (kd = 2 ∧ j = job) → E ≤ E' ∧ (E' = E → getS S' job E = (D, okb))) := Lib.hid (fun h => by
          have h1 := act_keeps HS.out.ok (kd, t, j, e, d) job h
          rw [← hS', ← hE', ← HE.out] at h1
          refine ⟨h1.1, fun h2 => ?_⟩
          have h3 := get_same HS.out.ok HOK'.out job (h1.2 h2)
          rw [← HE.out] at h3
          rw [h3, HD.out, HOB.out])
        have HS' := Lib.hid hS'
        have HE' := Lib.hid hE'
        clear hS' hE'
        obtain ⟨us, hus⟩ : ∃ n : Int, n = (usedJ S'.jobs : Int) := ⟨_, rfl⟩
        have HUS := Lib.hid hus
        clear hus
        have u1 : decide (room < us) = false := decide_eq_false (by have h1 := HOK'.out.room; rw [HRM'.out] at h1; rw [HUS.out]; omega)
        have u2 : decide (us < 0) = false := decide_eq_false (by rw [HUS.out]; omega)
        have HUU := Lib.hid (And.intro u1 u2)
        clear u1 u2
        by_cases hk0 : kd = 0
        · subst hk0
          have g0 : ((0 : Int) == 0) = true := by decide
          have hse : (stageS S t j e d).2 = S' := by rw [HS'.out]; unfold actS; simp
          go_wp2_with fail
          refine (HSA.out.stage (by have := HK60.out; omega) t j e d Au cu HUA.out (by have := HL200.out; omega)).mono ?_
          rintro e6 w6 ⟨rfl, hs6, hc6⟩
          rw [hse] at hs6
          skip
          clear hse c0 c1 c2 c3 c4
          have hb6 : Blk w6 ab 39 #[.int .i64 0, .int .i64 t, .int .i64 j, .int .i64 e, .slice Au d.length cu] := (hc6.block _ HBA.out.lt (fun hh => by have hh : ab = g := hh; have := HGL.out; omega)).trans HBA.out
          have HB6 := Lib.hid hb6
          have HV6 := Lib.hid (HVA.out.chg hc6 (fun _ h1 h2 => h1 h2))
          have HS6 := Lib.hid hs6
          clear hb6 hc6 hs6 HSA HUA HBA HVA
          go_wp2_with fail
          refine HS6.out.used.mono ?_
          rintro e7 w7 ⟨rfl, hs7, hx7⟩
          rw [← HUS.out]
          have HS7 := Lib.hid hs7
          have HX7 := Lib.hid hx7
          clear hs7 hx7
          obtain ⟨u1, u2⟩ := HUU.out
          go_wp2_with fail
          refine HS7.out.used.mono ?_
          rintro e8 w8 ⟨rfl, hs8, hx8⟩
          rw [← HUS.out]
          have HS8 := Lib.hid hs8
          have HX8 := Lib.hid (HX7.out.trans hx8)
          clear hs8 hx8 HS7 HX7
          have hEo := HEO.out
          have hbb : (okb != okb) = false := by simp
          go_wp2_with fail
          refine (HS8.out.counts job).mono ?_
          rintro e9 w9 ⟨rfl, hs9, hx9⟩
          rw [← HE'.out]
          have HS9 := Lib.hid hs9
          have HX9 := Lib.hid (HX8.out.trans hx9)
          have HV9 := Lib.hid (HV6.out.chg (G := fun _ => False) (Chg.of_ext HX9.out) (fun _ _ h => h.elim))
          have hb9 := HB6.out.ext HX9.out
          have c0 : w9.cell? ⟨ab, 0, none⟩ = some (.int .i64 0) := hb9.cell 0
          have c1 : w9.cell? ⟨ab, 1, none⟩ = some (.int .i64 t) := hb9.cell 1
          have c2 : w9.cell? ⟨ab, 2, none⟩ = some (.int .i64 j) := hb9.cell 2
          have c3 : w9.cell? ⟨ab, 3, none⟩ = some (.int .i64 e) := hb9.cell 3
          have c4 : w9.cell? ⟨ab, 4, none⟩ = some (.slice Au d.length cu) := hb9.cell 4
          clear hs9 hx9 HS8 HX8 HV6 HB6 hb9 u1 u2 hEo hbb
          have g2' : ((0 : Int) == 2) = false := by decide
          have hnk : ¬ ((0 : Int) = 2 ∧ j = job) := by omega
          have hke := HKE.out (by first | exact hnk | exact fun h => hnk ⟨rfl, h.2⟩)
          have HKE2 := Lib.hid hke
          have f1 : decide (E' < E) = false := decide_eq_false (by have := hke.1; omega)
          clear hke
          by_cases hq : E' = E
          · have f2 : (E' == E) = true := by rw [hq]; simp
            have HGS := Lib.hid (HKE2.out.2 hq)
            clear hq hnk
            go_wp2_with fail
            refine (HS9.out.get job E).mono ?_
            rintro e10 w10 ⟨v10, rfl, hv10, hs10, hx10⟩
            rw [HGS.out] at hv10 ⊢
            have HS10 := Lib.hid hs10
            have HBY := Lib.hid (Bytes_same D v5 v10 w10 ((HV9.out.chg (G := fun _ => False) (Chg.of_ext hx10) (fun _ _ h => h.elim)).rd) hv10.rd)
            clear hv10 hs10 hx10
            have hbb : (okb != okb) = false := by simp
            go_wp2_with fail
            refine HBY.out.mono ?_
            rintro e11 w11 ⟨rfl, hx11⟩
            have HSF := Lib.hid (HS10.out.more hx11)
            clear hx11 hbb
            go_wp2
            go_roundw
            case rel => exact ⟨k + 1, by go_num, HLT.out, Lib.hid ⟨S', HSF.out, HRM'.out⟩⟩
            case measure => simp [intOf]; have := HLT.out; omega
          · have f2 : (E' == E) = false := by simpa using hq
            clear hq hnk
            go_wp2_with fail
            refine (HS9.out.get job E).mono ?_
            rintro e10 w10 ⟨v10, rfl, -, hs10, -⟩
            have HSF := Lib.hid hs10
            clear hs10
            go_wp2
            go_roundw
            case rel => exact ⟨k + 1, by go_num, HLT.out, Lib.hid ⟨S', HSF.out, HRM'.out⟩⟩
            case measure => simp [intOf]; have := HLT.out; omega
        by_cases hk1 : kd = 1
        · subst hk1
          have g0 : ((1 : Int) == 0) = false := by decide
          have g1 : ((1 : Int) == 1) = true := by decide
          have hse : (commitS S j e).2 = S' := by rw [HS'.out]; unfold actS; simp
          go_wp2_with fail
          refine (HSA.out.commit j e).mono ?_
          rintro e6 w6 ⟨rfl, hs6, hc6⟩
          rw [hse] at hs6
          replace hs6 := hs6.le (m := k + 1) (by omega)
          clear hse c0 c1 c2 c3 c4
          have hb6 : Blk w6 ab 39 #[.int .i64 1, .int .i64 t, .int .i64 j, .int .i64 e, .slice Au d.length cu] := (hc6.block _ HBA.out.lt (fun hh => by have hh : ab = g := hh; have := HGL.out; omega)).trans HBA.out
          have HB6 := Lib.hid hb6
          have HV6 := Lib.hid (HVA.out.chg hc6 (fun _ h1 h2 => h1 h2))
          have HS6 := Lib.hid hs6
          clear hb6 hc6 hs6 HSA HUA HBA HVA
          go_wp2_with fail
          refine HS6.out.used.mono ?_
          rintro e7 w7 ⟨rfl, hs7, hx7⟩
          rw [← HUS.out]
          have HS7 := Lib.hid hs7
          have HX7 := Lib.hid hx7
          clear hs7 hx7
          obtain ⟨u1, u2⟩ := HUU.out
          go_wp2_with fail
          refine HS7.out.used.mono ?_
          rintro e8 w8 ⟨rfl, hs8, hx8⟩
          rw [← HUS.out]
          have HS8 := Lib.hid hs8
          have HX8 := Lib.hid (HX7.out.trans hx8)
          clear hs8 hx8 HS7 HX7
          have hEo := HEO.out
          have hbb : (okb != okb) = false := by simp
          go_wp2_with fail
          refine (HS8.out.counts job).mono ?_
          rintro e9 w9 ⟨rfl, hs9, hx9⟩
          rw [← HE'.out]
          have HS9 := Lib.hid hs9
          have HX9 := Lib.hid (HX8.out.trans hx9)
          have HV9 := Lib.hid (HV6.out.chg (G := fun _ => False) (Chg.of_ext HX9.out) (fun _ _ h => h.elim))
          have hb9 := HB6.out.ext HX9.out
          have c0 : w9.cell? ⟨ab, 0, none⟩ = some (.int .i64 1) := hb9.cell 0
          have c1 : w9.cell? ⟨ab, 1, none⟩ = some (.int .i64 t) := hb9.cell 1
          have c2 : w9.cell? ⟨ab, 2, none⟩ = some (.int .i64 j) := hb9.cell 2
          have c3 : w9.cell? ⟨ab, 3, none⟩ = some (.int .i64 e) := hb9.cell 3
          have c4 : w9.cell? ⟨ab, 4, none⟩ = some (.slice Au d.length cu) := hb9.cell 4
          clear hs9 hx9 HS8 HX8 HV6 HB6 hb9 u1 u2 hEo hbb
          have g2' : ((1 : Int) == 2) = false := by decide
          have hnk : ¬ ((1 : Int) = 2 ∧ j = job) := by omega
          have hke := HKE.out (by first | exact hnk | exact fun h => hnk ⟨rfl, h.2⟩)
          have HKE2 := Lib.hid hke
          have f1 : decide (E' < E) = false := decide_eq_false (by have := hke.1; omega)
          clear hke
          by_cases hq : E' = E
          · have f2 : (E' == E) = true := by rw [hq]; simp
            have HGS := Lib.hid (HKE2.out.2 hq)
            clear hq hnk
            go_wp2_with fail
            refine (HS9.out.get job E).mono ?_
            rintro e10 w10 ⟨v10, rfl, hv10, hs10, hx10⟩
            rw [HGS.out] at hv10 ⊢
            have HS10 := Lib.hid hs10
            have HBY := Lib.hid (Bytes_same D v5 v10 w10 ((HV9.out.chg (G := fun _ => False) (Chg.of_ext hx10) (fun _ _ h => h.elim)).rd) hv10.rd)
            clear hv10 hs10 hx10
            have hbb : (okb != okb) = false := by simp
            go_wp2_with fail
            refine HBY.out.mono ?_
            rintro e11 w11 ⟨rfl, hx11⟩
            have HSF := Lib.hid (HS10.out.more hx11)
            clear hx11 hbb
            go_wp2
            go_roundw
            case rel => exact ⟨k + 1, by go_num, HLT.out, Lib.hid ⟨S', HSF.out, HRM'.out⟩⟩
            case measure => simp [intOf]; have := HLT.out; omega
          · have f2 : (E' == E) = false := by simpa using hq
            clear hq hnk
            go_wp2_with fail
            refine (HS9.out.get job E).mono ?_
            rintro e10 w10 ⟨v10, rfl, -, hs10, -⟩
            have HSF := Lib.hid hs10
            clear hs10
            go_wp2
            go_roundw
            case rel => exact ⟨k + 1, by go_num, HLT.out, Lib.hid ⟨S', HSF.out, HRM'.out⟩⟩
            case measure => simp [intOf]; have := HLT.out; omega
        by_cases hk2 : kd = 2
        · subst hk2
          have g0 : ((2 : Int) == 0) = false := by decide
          have g1 : ((2 : Int) == 1) = false := by decide
          have g2 : ((2 : Int) == 2) = true := by decide
          have hse : endS S j = S' := by rw [HS'.out]; unfold actS; simp
          go_wp2_with fail
          refine (HSA.out.end_ j).mono ?_
          rintro e6 w6 ⟨rfl, hs6, hc6⟩
          rw [hse] at hs6
          replace hs6 := hs6.le (m := k + 1) (by omega)
          clear hse c0 c1 c2 c3 c4
          have hb6 : Blk w6 ab 39 #[.int .i64 2, .int .i64 t, .int .i64 j, .int .i64 e, .slice Au d.length cu] := (hc6.block _ HBA.out.lt (fun hh => by have hh : ab = g := hh; have := HGL.out; omega)).trans HBA.out
          have HB6 := Lib.hid hb6
          have HV6 := Lib.hid (HVA.out.chg hc6 (fun _ h1 h2 => h1 h2))
          have HS6 := Lib.hid hs6
          clear hb6 hc6 hs6 HSA HUA HBA HVA
          go_wp2_with fail
          refine HS6.out.used.mono ?_
          rintro e7 w7 ⟨rfl, hs7, hx7⟩
          rw [← HUS.out]
          have HS7 := Lib.hid hs7
          have HX7 := Lib.hid hx7
          clear hs7 hx7
          obtain ⟨u1, u2⟩ := HUU.out
          go_wp2_with fail
          refine HS7.out.used.mono ?_
          rintro e8 w8 ⟨rfl, hs8, hx8⟩
          rw [← HUS.out]
          have HS8 := Lib.hid hs8
          have HX8 := Lib.hid (HX7.out.trans hx8)
          clear hs8 hx8 HS7 HX7
          have hEo := HEO.out
          have hbb : (okb != okb) = false := by simp
          go_wp2_with fail
          refine (HS8.out.counts job).mono ?_
          rintro e9 w9 ⟨rfl, hs9, hx9⟩
          rw [← HE'.out]
          have HS9 := Lib.hid hs9
          have HX9 := Lib.hid (HX8.out.trans hx9)
          have HV9 := Lib.hid (HV6.out.chg (G := fun _ => False) (Chg.of_ext HX9.out) (fun _ _ h => h.elim))
          have hb9 := HB6.out.ext HX9.out
          have c0 : w9.cell? ⟨ab, 0, none⟩ = some (.int .i64 2) := hb9.cell 0
          have c1 : w9.cell? ⟨ab, 1, none⟩ = some (.int .i64 t) := hb9.cell 1
          have c2 : w9.cell? ⟨ab, 2, none⟩ = some (.int .i64 j) := hb9.cell 2
          have c3 : w9.cell? ⟨ab, 3, none⟩ = some (.int .i64 e) := hb9.cell 3
          have c4 : w9.cell? ⟨ab, 4, none⟩ = some (.slice Au d.length cu) := hb9.cell 4
          clear hs9 hx9 HS8 HX8 HV6 HB6 hb9 u1 u2 hEo hbb
          have g2' : ((2 : Int) == 2) = true := by decide
          by_cases hj : j = job
          · have j1 : (j == job) = true := by rw [hj]; simp
            have he0 : E' = 0 := HEN.out ⟨by simp, hj⟩
            have j2 : (E' != 0) = false := by rw [he0]; decide
            clear he0 hj
            have HSF := HS9
            go_wp2
            go_roundw
            case rel => exact ⟨k + 1, by go_num, HLT.out, Lib.hid ⟨S', HSF.out, HRM'.out⟩⟩
            case measure => simp [intOf]; have := HLT.out; omega
          · have j1 : (j == job) = false := by simpa using hj
            have hnk : ¬ ((2 : Int) = 2 ∧ j = job) := fun h => hj h.2
            clear hj
            have hke := HKE.out (by first | exact hnk | exact fun h => hnk ⟨rfl, h.2⟩)
            have HKE2 := Lib.hid hke
            have f1 : decide (E' < E) = false := decide_eq_false (by have := hke.1; omega)
            clear hke
            by_cases hq : E' = E
            · have f2 : (E' == E) = true := by rw [hq]; simp
              have HGS := Lib.hid (HKE2.out.2 hq)
              clear hq hnk
              go_wp2_with fail
              refine (HS9.out.get job E).mono ?_
              rintro e10 w10 ⟨v10, rfl, hv10, hs10, hx10⟩
              rw [HGS.out] at hv10 ⊢
              have HS10 := Lib.hid hs10
              have HBY := Lib.hid (Bytes_same D v5 v10 w10 ((HV9.out.chg (G := fun _ => False) (Chg.of_ext hx10) (fun _ _ h => h.elim)).rd) hv10.rd)
              clear hv10 hs10 hx10
              have hbb : (okb != okb) = false := by simp
              go_wp2_with fail
              refine HBY.out.mono ?_
              rintro e11 w11 ⟨rfl, hx11⟩
              have HSF := Lib.hid (HS10.out.more hx11)
              clear hx11 hbb
              go_wp2
              go_roundw
              case rel => exact ⟨k + 1, by go_num, HLT.out, Lib.hid ⟨S', HSF.out, HRM'.out⟩⟩
              case measure => simp [intOf]; have := HLT.out; omega
            · have f2 : (E' == E) = false := by simpa using hq
              clear hq hnk
              go_wp2_with fail
              refine (HS9.out.get job E).mono ?_
              rintro e10 w10 ⟨v10, rfl, -, hs10, -⟩
              have HSF := Lib.hid hs10
              clear hs10
              go_wp2
              go_roundw
              case rel => exact ⟨k + 1, by go_num, HLT.out, Lib.hid ⟨S', HSF.out, HRM'.out⟩⟩
              case measure => simp [intOf]; have := HLT.out; omega
        by_cases hk3 : kd = 3
        · subst hk3
          have g0 : ((3 : Int) == 0) = false := by decide
          have g1 : ((3 : Int) == 1) = false := by decide
          have g2 : ((3 : Int) == 2) = false := by decide
          have g3 : ((3 : Int) == 3) = true := by decide
          have hse : fenceS S t = S' := by rw [HS'.out]; unfold actS; simp
          go_wp2_with fail
          refine (HSA.out.fence t).mono ?_
          rintro e6 w6 ⟨rfl, hs6, hc6⟩
          rw [hse] at hs6
          replace hs6 := hs6.le (m := k + 1) (by omega)
          clear hse c0 c1 c2 c3 c4
          have hb6 : Blk w6 ab 39 #[.int .i64 3, .int .i64 t, .int .i64 j, .int .i64 e, .slice Au d.length cu] := (hc6.block _ HBA.out.lt (fun hh => by have hh : ab = g := hh; have := HGL.out; omega)).trans HBA.out
          have HB6 := Lib.hid hb6
          have HV6 := Lib.hid (HVA.out.chg hc6 (fun _ h1 h2 => h1 h2))
          have HS6 := Lib.hid hs6
          clear hb6 hc6 hs6 HSA HUA HBA HVA
          go_wp2_with fail
          refine HS6.out.used.mono ?_
          rintro e7 w7 ⟨rfl, hs7, hx7⟩
          rw [← HUS.out]
          have HS7 := Lib.hid hs7
          have HX7 := Lib.hid hx7
          clear hs7 hx7
          obtain ⟨u1, u2⟩ := HUU.out
          go_wp2_with fail
          refine HS7.out.used.mono ?_
          rintro e8 w8 ⟨rfl, hs8, hx8⟩
          rw [← HUS.out]
          have HS8 := Lib.hid hs8
          have HX8 := Lib.hid (HX7.out.trans hx8)
          clear hs8 hx8 HS7 HX7
          have hEo := HEO.out
          have hbb : (okb != okb) = false := by simp
          go_wp2_with fail
          refine (HS8.out.counts job).mono ?_
          rintro e9 w9 ⟨rfl, hs9, hx9⟩
          rw [← HE'.out]
          have HS9 := Lib.hid hs9
          have HX9 := Lib.hid (HX8.out.trans hx9)
          have HV9 := Lib.hid (HV6.out.chg (G := fun _ => False) (Chg.of_ext HX9.out) (fun _ _ h => h.elim))
          have hb9 := HB6.out.ext HX9.out
          have c0 : w9.cell? ⟨ab, 0, none⟩ = some (.int .i64 3) := hb9.cell 0
          have c1 : w9.cell? ⟨ab, 1, none⟩ = some (.int .i64 t) := hb9.cell 1
          have c2 : w9.cell? ⟨ab, 2, none⟩ = some (.int .i64 j) := hb9.cell 2
          have c3 : w9.cell? ⟨ab, 3, none⟩ = some (.int .i64 e) := hb9.cell 3
          have c4 : w9.cell? ⟨ab, 4, none⟩ = some (.slice Au d.length cu) := hb9.cell 4
          clear hs9 hx9 HS8 HX8 HV6 HB6 hb9 u1 u2 hEo hbb
          have g2' : ((3 : Int) == 2) = false := by decide
          have hnk : ¬ ((3 : Int) = 2 ∧ j = job) := by omega
          have hke := HKE.out (by first | exact hnk | exact fun h => hnk ⟨rfl, h.2⟩)
          have HKE2 := Lib.hid hke
          have f1 : decide (E' < E) = false := decide_eq_false (by have := hke.1; omega)
          clear hke
          by_cases hq : E' = E
          · have f2 : (E' == E) = true := by rw [hq]; simp
            have HGS := Lib.hid (HKE2.out.2 hq)
            clear hq hnk
            go_wp2_with fail
            refine (HS9.out.get job E).mono ?_
            rintro e10 w10 ⟨v10, rfl, hv10, hs10, hx10⟩
            rw [HGS.out] at hv10 ⊢
            have HS10 := Lib.hid hs10
            have HBY := Lib.hid (Bytes_same D v5 v10 w10 ((HV9.out.chg (G := fun _ => False) (Chg.of_ext hx10) (fun _ _ h => h.elim)).rd) hv10.rd)
            clear hv10 hs10 hx10
            have hbb : (okb != okb) = false := by simp
            go_wp2_with fail
            refine HBY.out.mono ?_
            rintro e11 w11 ⟨rfl, hx11⟩
            have HSF := Lib.hid (HS10.out.more hx11)
            clear hx11 hbb
            go_wp2
            go_roundw
            case rel => exact ⟨k + 1, by go_num, HLT.out, Lib.hid ⟨S', HSF.out, HRM'.out⟩⟩
            case measure => simp [intOf]; have := HLT.out; omega
          · have f2 : (E' == E) = false := by simpa using hq
            clear hq hnk
            go_wp2_with fail
            refine (HS9.out.get job E).mono ?_
            rintro e10 w10 ⟨v10, rfl, -, hs10, -⟩
            have HSF := Lib.hid hs10
            clear hs10
            go_wp2
            go_roundw
            case rel => exact ⟨k + 1, by go_num, HLT.out, Lib.hid ⟨S', HSF.out, HRM'.out⟩⟩
            case measure => simp [intOf]; have := HLT.out; omega
        have g0 : (kd == 0) = false := by simpa using hk0
        have g1 : (kd == 1) = false := by simpa using hk1
        have g2 : (kd == 2) = false := by simpa using hk2
        have g3 : (kd == 3) = false := by simpa using hk3
        have hse : S = S' := by rw [HS'.out]; unfold actS; simp [hk0, hk1, hk2, hk3]
        have hnk : ¬ (kd = 2 ∧ j = job) := fun h => hk2 h.1
        have hs6 : SW w wa g S' (k + 1) := by rw [← hse]; exact HSA.out.le (by omega)
        obtain ⟨w6, hw6⟩ : ∃ W, W = wa := ⟨_, rfl⟩
        have hc6 : Chg (G1 g) wa w6 := by rw [hw6]; exact Chg.refl _ _
        rw [← hw6] at hs6 c0 c1 c2 c3 c4 ⊢
        clear hse hw6 hk0 hk1 hk2 hk3
        have hb6 : Blk w6 ab 39 #[.int .i64 kd, .int .i64 t, .int .i64 j, .int .i64 e, .slice Au d.length cu] := (hc6.block _ HBA.out.lt (fun hh => by have hh : ab = g := hh; have := HGL.out; omega)).trans HBA.out
        have HB6 := Lib.hid hb6
        have HV6 := Lib.hid (HVA.out.chg hc6 (fun _ h1 h2 => h1 h2))
        have HS6 := Lib.hid hs6
        clear hb6 hc6 hs6 HSA HUA HBA HVA
        go_wp2_with fail
        refine HS6.out.used.mono ?_
        rintro e7 w7 ⟨rfl, hs7, hx7⟩
        rw [← HUS.out]
        have HS7 := Lib.hid hs7
        have HX7 := Lib.hid hx7
        clear hs7 hx7
        obtain ⟨u1, u2⟩ := HUU.out
        go_wp2_with fail
        refine HS7.out.used.mono ?_
        rintro e8 w8 ⟨rfl, hs8, hx8⟩
        rw [← HUS.out]
        have HS8 := Lib.hid hs8
        have HX8 := Lib.hid (HX7.out.trans hx8)
        clear hs8 hx8 HS7 HX7
        have hEo := HEO.out
        have hbb : (okb != okb) = false := by simp
        go_wp2_with fail
        refine (HS8.out.counts job).mono ?_
        rintro e9 w9 ⟨rfl, hs9, hx9⟩
        rw [← HE'.out]
        have HS9 := Lib.hid hs9
        have HX9 := Lib.hid (HX8.out.trans hx9)
        have HV9 := Lib.hid (HV6.out.chg (G := fun _ => False) (Chg.of_ext HX9.out) (fun _ _ h => h.elim))
        have hb9 := HB6.out.ext HX9.out
        have c0 : w9.cell? ⟨ab, 0, none⟩ = some (.int .i64 kd) := hb9.cell 0
        have c1 : w9.cell? ⟨ab, 1, none⟩ = some (.int .i64 t) := hb9.cell 1
        have c2 : w9.cell? ⟨ab, 2, none⟩ = some (.int .i64 j) := hb9.cell 2
        have c3 : w9.cell? ⟨ab, 3, none⟩ = some (.int .i64 e) := hb9.cell 3
        have c4 : w9.cell? ⟨ab, 4, none⟩ = some (.slice Au d.length cu) := hb9.cell 4
        clear hs9 hx9 HS8 HX8 HV6 HB6 hb9 u1 u2 hEo hbb
        have hke := HKE.out (by first | exact hnk | exact fun h => hnk ⟨rfl, h.2⟩)
        have HKE2 := Lib.hid hke
        have f1 : decide (E' < E) = false := decide_eq_false (by have := hke.1; omega)
        clear hke
        by_cases hq : E' = E
        · have f2 : (E' == E) = true := by rw [hq]; simp
          have HGS := Lib.hid (HKE2.out.2 hq)
          clear hq hnk
          go_wp2_with fail
          refine (HS9.out.get job E).mono ?_
          rintro e10 w10 ⟨v10, rfl, hv10, hs10, hx10⟩
          rw [HGS.out] at hv10 ⊢
          have HS10 := Lib.hid hs10
          have HBY := Lib.hid (Bytes_same D v5 v10 w10 ((HV9.out.chg (G := fun _ => False) (Chg.of_ext hx10) (fun _ _ h => h.elim)).rd) hv10.rd)
          clear hv10 hs10 hx10
          have hbb : (okb != okb) = false := by simp
          go_wp2_with fail
          refine HBY.out.mono ?_
          rintro e11 w11 ⟨rfl, hx11⟩
          have HSF := Lib.hid (HS10.out.more hx11)
          clear hx11 hbb
          go_wp2
          go_roundw
          case rel => exact ⟨k + 1, by go_num, HLT.out, Lib.hid ⟨S', HSF.out, HRM'.out⟩⟩
          case measure => simp [intOf]; have := HLT.out; omega
        · have f2 : (E' == E) = false := by simpa using hq
          clear hq hnk
          go_wp2_with fail
          refine (HS9.out.get job E).mono ?_
          rintro e10 w10 ⟨v10, rfl, -, hs10, -⟩
          have HSF := Lib.hid hs10
          clear hs10
          go_wp2
          go_roundw
          case rel => exact ⟨k + 1, by go_num, HLT.out, Lib.hid ⟨S', HSF.out, HRM'.out⟩⟩
          case measure => simp [intOf]; have := HLT.out; omega
      · have e1 : decide ((k : Int) < (l.length : Int)) = false := decide_eq_false (by omega)
        have e1' : decide (k < l.length) = false := decide_eq_false hlt
        have HXE := Lib.hid hs.ext
        clear hs hSR hlt hk
        go_wp2
        go_ret
        exact ⟨rfl, HXE.out⟩

end Go.Proofs.Ytdnilcgpfcpfkaa
