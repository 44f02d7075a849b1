/- Texts that the proof of K rests on, one behind the other. -/
import Derived.Test.YtkkmldoohokdfaaKQ5
import Derived.Lib.AppendZeros
import Derived.Deep.QuietTactic
import Derived.BigQuiet
import Derived.Deep.LoopGhost
import Derived.Outline
import Derived.Deep.RegionWith
import Derived.StillTailTactics
import Derived.Test.YtkkmldoohokdfaaRows
import Derived.WalkSpells
import Derived.Lib.SliceRun
import Derived.Handy

/- Go's slices.Grow of nil, and slices.Concat, at bytes: all of the slices, one behind the other, in a row of its own. -/
namespace Go.Proofs.Ytkkmldoohokdfaa
open Go.RowKit

theorem Grew.short {w w' : World} {e : TypeId} {n cap : Nat} {xs : List Value} {g : Nat} (h : Grew w.heap.size e (.slice none 0 0) w xs (.slice (some ⟨g, 0, none⟩) n cap) w') : Grew w.heap.size e (.slice none 0 0) w [] (.slice (some ⟨g, 0, none⟩) 0 cap) w' := by
  obtain ⟨h1, h2, h3⟩ := h
  refine ⟨⟨rfl, ?_⟩, h2, ?_⟩
  · rcases h1.2 with ⟨h, _⟩ | ⟨g', cap', cur, h, hg, hh, hn, hcap, hs, ht⟩
    · cases h
    · cases h
      exact .inr ⟨g, cap, cur, rfl, hg, hh, Nat.zero_le _, hcap, hs, by simp⟩
  · rcases h3 with h3 | h3
    · cases h3
    · exact .inr h3

/-- 'append(b, make([]byte, n)...)', b nil: n noughts, and what room there is. -/
theorem zeros_u8 {w : World} {ops : Array Oper} {rest : List Oper} {o : Oper} {a : Act} {Q : Exit → Act → World → Prop} (hgd : o.guard = none) (s x : Operand)
    (ho : o.op = .call { callee := .builtin .append, args := #[s, x], argTypes := #[27, 3] }) (hs : a.eval s = .slice none 0 0) (n : Nat) (hx : a.eval x = .int .i64 (n : Int)) (h0 : 0 < n) (hn : n ≤ 140737488355328)
    (h : ∀ G w', n ≤ G → G ≤ 9223372036854775807 → Grew w.heap.size 5 (.slice none 0 0) w ((List.replicate n (0 : UInt8)).map B) (.slice (some ⟨w.heap.size, 0, none⟩) n G) w' → wpList Try.prog ops Q rest (a.put o.dst (.slice (some ⟨w.heap.size, 0, none⟩) n G)) w') :
    wpList Try.prog ops Q (o :: rest) a w := by
  refine wpList_plain hgd fun K hK => ?_
  obtain ⟨i0, hi, hz0, hz1, hz2⟩ := info_parts Try.infoU8
  have hrz := Lib.run_append_nil_zeros (P := Try.prog) w 27 3 o.type 5 i0 (.int .u8 0) .i64 .i64 Try.underlying27 Try.underlying3 hi hz0 n h0 (by omega) (by omega) (by rw [hz2]; omega)
  have hge := grownCap_ge w n 0 5
  have hle := grownCap_le_maxLen w n 0 5 (by unfold maxLen; omega)
  generalize grownCap w n 0 5 = G at *
  have hg : Grew w.heap.size 5 (.slice none 0 0) w ((List.replicate n (0 : UInt8)).map B) (.slice (some ⟨w.heap.size, 0, none⟩) n G) (w.drew.alloc (.cells (Builtin.zeroCells (Value.int .u8 0).cells n ++ Builtin.zeroCells (Value.int .u8 0).cells (G - n)) 5)) := by
    refine ⟨⟨by simp, .inr ⟨w.heap.size, G, _, by simp, Nat.le_refl _, heap_alloc_new w.drew _, by simpa using hge, hle, ?_, ?_⟩⟩, ⟨rfl, rfl, rfl, by simp, fun k hk _ => heap_alloc_old w.drew _ hk⟩, .inr fun k hk => ?_⟩
    · rw [Array.size_append, size_zeroCells, size_zeroCells]
      show n * 1 + (G - n) * 1 = G * 1
      omega
    · have e : (Builtin.zeroCells (Value.int .u8 0).cells n).toList = (List.replicate n (0 : UInt8)).map B := by
        rw [List.map_replicate]
        apply List.ext_getElem (by simp [Builtin.zeroCells, Value.cells])
        intro i h1 h2
        simp [Builtin.zeroCells, Value.cells, B, Nat.mod_one]
      rw [Array.toList_append, e, List.length_map, List.length_replicate, Nat.mul_one]
      exact List.take_left' (by simp)
    · simp only [Value.ownBlock] at hk
      cases hk
      exact Nat.le_refl _
  unfold Oper.wp execOp
  simp only [ho, resolve, invoke, builtin, Sem.run_bind, Sem.run_pure, Result.andThen_ok, List.map_toArray, List.map_cons, List.map_nil, hs, hx, hrz]
  exact hK _ _ (h G _ hge (by unfold maxLen at hle; omega) hg)

theorem Grow_none (n : Nat) (w : World) (hn : n ≤ 140737488355328) :
    Calls Try.prog 110 #[.slice none 0 0, .int .i64 (n : Int)] w fun e w' => ∃ v', e = .returned v' ∧ Grew w.heap.size 5 (.slice none 0 0) w [] v' w' := by
  rcases Nat.eq_zero_or_pos n with h0 | h0
  · subst h0
    have hg := Grew.nil (base := w.heap.size) (e := 5) w
    have HG := Lib.hid hg
    clear hg
    go_enter Try.func110, Try.ntmps110
    go_wp2
    go_ret
    exact ⟨_, rfl, HG.out⟩
  · go_enter Try.func110, Try.ntmps110
    go_wp2_with (at_builtin; refine zeros_u8 rfl _ _ rfl rfl n rfl h0 hn ?_; intro G w2 hge hle hg2; have HG := Lib.hid hg2; clear hg2)
    go_ret
    exact ⟨_, rfl, HG.out.short⟩

/-- '[][]byte{a, b, ..}': a row of slices. -/
theorem RdL.lit {w : World} (e : TypeId) (vs : List Value) (ls : List (List UInt8)) (cs : Array Value) (n g : Nat) (hl : vs.length = ls.length) (h4 : vs.length ≤ 4096) (hc : cs = vs.toArray) (hn : n = vs.length) (hg : g = w.heap.size)
    (h : ∀ (i : Nat) u l, vs[i]? = some u → ls[i]? = some l → Rd w u (l.map B)) : RdL (w.alloc (.cells cs e)) (.slice (some ⟨g, 0, none⟩) n n) ls := by
  subst hc hn hg
  have h0 := Rd.lit w vs.toArray e (by unfold maxLen; simp; omega)
  refine ⟨vs, by simpa using h0, hl, fun i u l hu hl => (h i u l hu hl).ext ((Below.refl _ _).alloc (Nat.le_refl _) _)⟩

/-- How many bytes the first k of them have. -/
def lenTo (ls : List (List UInt8)) (k : Nat) : Nat := ((ls.take k).flatten).length
theorem lenTo_succ {ls : List (List UInt8)} {k : Nat} (h : k < ls.length) : lenTo ls (k + 1) = lenTo ls k + ls[k].length := by
  rw [lenTo, List.take_succ_eq_append_getElem h, List.flatten_append, List.length_append, List.flatten_singleton, lenTo]
theorem lenTo_all (ls : List (List UInt8)) : lenTo ls ls.length = ls.flatten.length := by rw [lenTo, List.take_length]
theorem lenTo_le (ls : List (List UInt8)) (k : Nat) : lenTo ls k ≤ ls.flatten.length := by
  have h := congrArg (fun l : List (List UInt8) => l.flatten.length) (List.take_append_drop k ls)
  simp only [List.flatten_append, List.length_append] at h
  rw [lenTo]
  omega

set_option maxHeartbeats 1000000 in
theorem Concat_any (ls : List (List UInt8)) (v : Value) (w : World) (hr : RdL w v ls) (hlen : ls.flatten.length ≤ 140737488355328) :
    Calls Try.prog 91 #[v] w fun e w' => ∃ v', e = .returned v' ∧ Grew w.heap.size 5 (.slice none 0 0) w (ls.flatten.map B) v' w' := by
  obtain ⟨A, c, rfl, hlc, hcm⟩ := hr.sliceN rfl
  unfold maxLen at hcm
  go_enter Try.func91, Try.ntmps91
  go_wp2
  go_loop [3, 5, 11] (fun n x i => ∃ k : Nat, k ≤ ls.length ∧ i = .int .i64 k ∧ n = .int .i64 (lenTo ls k)) (fun _ _ i => ls.length - (intOf i).toNat)
  case atStart => exact ⟨0, Nat.zero_le _, rfl, rfl⟩
  case round =>
    obtain ⟨k, hk, rfl, rfl⟩ := hrel
    by_cases hlt : k < ls.length
    · obtain ⟨b, o, rfl, hb, hc⟩ := hr.at (by omega)
      obtain ⟨u, hu, hru⟩ := hc k ls[k] (List.getElem?_eq_getElem hlt)
      obtain ⟨A1, c1, rfl, _, _⟩ := hru.sliceN (List.length_map _)
      have hs := lenTo_succ hlt
      have hle := lenTo_le ls (k + 1)
      have HS := Lib.hid hs
      have h1 : lenTo ls k + ls[k].length ≤ 140737488355328 := by omega
      generalize ls[k].length = m at *
      generalize hm0 : lenTo ls k = s at *
      clear hm0 hs hc
      go_wp2
      go_round
      case rel => exact ⟨k + 1, by omega, by go_num, by rw [HS.out]; go_num⟩
      case measure => simp [intOf]; omega
    · obtain rfl : k = ls.length := by omega
      have hs : lenTo ls ls.length = ls.flatten.length := lenTo_all ls
      have HL := Lib.hid hlen
      rw [← hs] at hlen
      generalize lenTo ls ls.length = N at *
      have HR := Lib.hid hr
      clear hr hs
      go_wp2_with fail
      refine (Grow_none N _ hlen).mono ?_
      rintro e w1 ⟨v1, rfl, hg1⟩
      go_wp2
      go_loopw [6, 8, 27] (fun v' x i wr => ∃ k : Nat, k ≤ ls.length ∧ i = .int .i64 k ∧ Grew w.heap.size 5 (.slice none 0 0) w (((ls.take k).flatten).map B) v' wr) (fun _ _ i _ => ls.length - (intOf i).toNat)
      case atStart => exact ⟨0, Nat.zero_le _, rfl, hg1⟩
      case round =>
        obtain ⟨k, hk, rfl, hg⟩ := hrel
        by_cases hlt : k < ls.length
        · have hr1 := HR.out.ext hg.ext
          obtain ⟨b, o, rfl, hb, hc⟩ := hr1.at (by omega)
          obtain ⟨u, hu, hru⟩ := hc k ls[k] (List.getElem?_eq_getElem hlt)
          have hs := lenTo_succ hlt
          have hle := lenTo_le ls (k + 1)
          have h2 : (((ls.take k).flatten).map B).length + ls[k].length ≤ 140737488355328 := by have := HL.out; rw [List.length_map]; unfold lenTo at *; omega
          have he : ((ls.take k).flatten).map B ++ ls[k].map B = ((ls.take (k + 1)).flatten).map B := by rw [List.take_succ_eq_append_getElem hlt, List.flatten_append, List.flatten_singleton, List.map_append]
          have HE := Lib.hid he
          have HU := Lib.hid hru
          have HG := Lib.hid hg
          obtain ⟨A1, c1, rfl, _, _⟩ := hru.sliceN (List.length_map _)
          clear he hru hs hle hc hr1 hg hg1
          go_wp2_with (at_builtin; refine app_u8 rfl _ _ rfl w.heap.size _ _ rfl HG.out.own _ _ rfl HU.out h2 HG.out.size ?_; intro v2 w2 hg2)
          have hg3 := HG.out.trans hg2
          rw [HE.out] at hg3
          have HG3 := Lib.hid hg3
          clear hg2 hg3
          go_roundw
          case rel => exact ⟨k + 1, by omega, by go_num, HG3.out⟩
          case measure => simp [intOf]; omega
        · obtain rfl : k = ls.length := by omega
          rw [List.take_length] at hg
          have HG := Lib.hid hg
          clear hg hg1
          go_wp2
          go_ret
          exact ⟨_, rfl, HG.out⟩

end Go.Proofs.Ytkkmldoohokdfaa

/- Layer 2, package sum: the register behind some bytes. -/
namespace Go.Proofs.Ytkkmldoohokdfaa
open Go.RowKit

set_option maxHeartbeats 1000000 in
theorem goOn_any (l : List UInt8) (v : Value) (r : BitVec 32) (w : World) (hr : Rd w v (l.map B)) :
    Calls Try.prog 115 #[.int .u32 (r.toNat : Int), v] w fun e w' => e = .returned (.int .u32 ((crcAll r l).toNat : Int)) ∧ w = w' := by
  obtain ⟨A, c, rfl, hlc, hcm, hca⟩ := hr
  simp only [List.length_map] at *
  unfold maxLen at hcm
  go_enter Try.func115, Try.ntmps115
  go_wp2
  go_loop [0, 10] (fun s i => ∃ k : Nat, k ≤ l.length ∧ i = .int .i64 k ∧ s = .int .u32 ((crcAll r (l.take k)).toNat : Int)) (fun _ i => l.length - (intOf i).toNat)
  case atStart => exact ⟨0, Nat.zero_le _, rfl, rfl⟩
  case round =>
    obtain ⟨k, hk, rfl, rfl⟩ := hrel
    by_cases hlt : k < l.length
    · obtain ⟨b, o, rfl, hb, hc1⟩ := hca (by omega)
      have e1 : w.cell? ⟨b, o + k, none⟩ = some (B l[k]) := hc1 k _ (by simp [hlt])
      clear hc1 hca
      have hs := crcAll_snoc hlt r
      have HS := Lib.hid hs
      clear hs
      generalize hx : l[k] = x at e1
      have HX := Lib.hid hx
      clear hx
      simp only [B] at e1
      generalize hq : crcAll r (List.take k l) = q at *
      have HQ := Lib.hid hq
      clear hq
      have hxo := xorU32m q x
      generalize hy : q ^^^ BitVec.ofNat 32 x.toNat = y at hxo
      have HY := Lib.hid hy
      clear hy
      go_wp2
      go_step3
      go_wp2
      go_step3
      go_wp2
      clear hxo
      go_loop [0, 18] (fun s i => ∃ j : Nat, j ≤ 8 ∧ i = .int .i64 j ∧ s = .int .u32 ((crcBits j y).toNat : Int)) (fun _ i => 8 - (intOf i).toNat)
      case atStart => exact ⟨0, Nat.zero_le _, rfl, rfl⟩
      case round =>
        obtain ⟨j, hj, rfl, rfl⟩ := hrel
        by_cases hlj : j < 8
        · have hbs := crcBits_succ j y
          have HB := Lib.hid hbs
          clear hbs
          generalize crcBits j y = z at *
          have hz := z.isLt
          have hlow := lowU32 z
          rcases Nat.mod_two_eq_zero_or_one z.toNat with h0 | h1
          · have hev := crcBit_even h0
            have HE := Lib.hid hev
            rw [h0] at hlow
            clear hev h0
            go_wp2
            go_round
            case rel => exact ⟨j + 1, by omega, by go_num, by rw [HB.out, ← HE.out]; go_num⟩
            case measure => simp [intOf]; omega
          · have hod := polyU32 h1
            rw [h1] at hlow
            clear h1
            go_wp2
            go_round
            case rel => exact ⟨j + 1, by omega, by go_num, by rw [HB.out]⟩
            case measure => simp [intOf]; omega
        · obtain rfl : j = 8 := by omega
          go_wp2
          go_round
          case rel => exact ⟨k + 1, by omega, by go_num, by rw [HS.out, HX.out]; rw [crcByte, HY.out]⟩
          case measure => simp [intOf]; omega
    · obtain rfl : k = l.length := by omega
      rw [List.take_length]
      go_wp2
      go_ret
      exact ⟨rfl, rfl⟩

end Go.Proofs.Ytkkmldoohokdfaa

/- Layer 2, package sum: sums, and a number's four bytes. -/
namespace Go.Proofs.Ytkkmldoohokdfaa
open Go.RowKit

set_option maxHeartbeats 400000 in
theorem More_yes (l : List UInt8) (v : Value) (s : BitVec 32) (w : World) (hr : Rd w v (l.map B)) :
    Calls Try.prog 111 #[.int .i64 (s.toNat : Int), v] w fun e w' => e = .returned (.int .i64 ((crcMore s l).toNat : Int)) ∧ w = w' := by
  have hs : decide (4294967295 < (s.toNat : Int)) = false := by simp; have := s.isLt; omega
  have hs0 : s.toNat % 4294967296 = s.toNat := by have := s.isLt; omega
  have hn1 := notMax s
  have hn2 : bits .xor .u32 IntKind.u32.max ((crcAll (~~~ s) l).toNat : Int) = ((crcMore s l).toNat : Int) := notMax _
  generalize ~~~ s = t at *
  have hle : ((crcMore s l).toNat : Int) ≤ 4294967295 := by have := (crcMore s l).isLt; omega
  go_enter Try.func111, Try.ntmps111
  go_wp2_with fail
  refine (goOn_any l v t _ hr).mono ?_
  rintro e w' ⟨rfl, rfl⟩
  go_wp2
  go_ret
  exact ⟨rfl, rfl⟩

theorem More_no (n : Int) (v : Value) (w : World) (h : ¬ (0 ≤ n ∧ n ≤ 4294967295)) :
    Calls Try.prog 111 #[.int .i64 n, v] w fun e w' => e = .returned (.int .i64 0) ∧ w = w' := by
  by_cases h0 : n < 0
  · clear h
    go_enter Try.func111, Try.ntmps111
    go_wp2
    go_ret
    exact ⟨rfl, rfl⟩
  · have hs : decide (4294967295 < n) = true := by simp; omega
    clear h
    go_enter Try.func111, Try.ntmps111
    go_wp2
    go_ret
    exact ⟨rfl, rfl⟩

theorem Of_any (l : List UInt8) (v : Value) (w : World) (hr : Rd w v (l.map B)) :
    Calls Try.prog 94 #[v] w fun e w' => e = .returned (.int .i64 ((crcOf l).toNat : Int)) ∧ w = w' := by
  go_enter Try.func94, Try.ntmps94
  go_wp2_with fail
  refine (More_yes l v 0#32 _ hr).mono ?_
  rintro e w' ⟨rfl, rfl⟩
  go_wp2
  go_ret
  exact ⟨rfl, rfl⟩

theorem Put_any (n : Int) (w : World) (_h0 : -9223372036854775808 ≤ n) (_h1 : n ≤ 9223372036854775807) :
    Calls Try.prog 93 #[.int .i64 n] w fun e w' => ∃ v', e = .returned v' ∧ Rd w' v' ((putB n).map B) ∧ Ext w w' := by
  go_enter Try.func93, Try.ntmps93
  go_wp2
  go_ret
  have h := Rd.litB w (putB n) #[Value.int .u8 (n / 16777216 % 256), Value.int .u8 (n / 65536 % 256), Value.int .u8 (n / 256 % 256), Value.int .u8 (n % 256)] 5 4 w.heap.size (by simp [putB]) (by simp only [putB, B, u8_mod, List.map_cons, List.map_nil]) rfl rfl
  exact ⟨_, rfl, h, (Below.refl _ _).alloc (Nat.le_refl _) _⟩

end Go.Proofs.Ytkkmldoohokdfaa

/- Layer 3, package frame: Put. -/
namespace Go.Proofs.Ytkkmldoohokdfaa
open Go.RowKit

theorem FramePut_no (p : List UInt8) (v : Value) (w : World) (hr : Rd w v (p.map B)) (h : ¬ (1 ≤ p.length ∧ p.length ≤ 4000)) :
    Calls Try.prog 69 #[v] w fun e w' => ∃ v', e = .returned v' ∧ Grew w.heap.size 5 (.slice none 0 0) w ((frameB p).map B) v' w' := by
  obtain ⟨A, c, rfl, hlc, hcm⟩ := hr.sliceN (List.length_map _)
  unfold maxLen at hcm
  have hg := Grew.nil (base := w.heap.size) (e := 5) w
  have hf := frameB_no h
  have HG := Lib.hid hg
  have HF := Lib.hid hf
  clear hg hf hr
  by_cases h0 : p.length < 1
  · clear h
    go_enter Try.func69, Try.ntmps69
    go_wp2
    go_ret
    exact ⟨_, rfl, by rw [HF.out]; exact HG.out⟩
  · have h1 : decide ((p.length : Int) > 4000) = true := by simp; omega
    clear h
    go_enter Try.func69, Try.ntmps69
    go_wp2
    go_ret
    exact ⟨_, rfl, by rw [HF.out]; exact HG.out⟩

set_option maxHeartbeats 1000000 in
theorem FramePut_yes (p : List UInt8) (v : Value) (w : World) (hr : Rd w v (p.map B)) (h : 1 ≤ p.length ∧ p.length ≤ 4000) :
    Calls Try.prog 69 #[v] w fun e w' => ∃ v', e = .returned v' ∧ Grew w.heap.size 5 (.slice none 0 0) w ((frameB p).map B) v' w' := by
  obtain ⟨A, c, rfl, hlc, hcm⟩ := hr.sliceN (List.length_map _)
  unfold maxLen at hcm
  have hf := frameB_yes h
  have HF := Lib.hid hf
  obtain ⟨h1, h2⟩ := h
  clear hf
  go_enter Try.func69, Try.ntmps69
  go_wp2_with fail
  refine (Num_yes _ _ (by omega)).mono ?_
  rintro e w1 ⟨v1, rfl, hg1⟩
  have hr1 := Rd.own hg1.own
  have hx1 := hg1.ext
  clear hg1
  obtain ⟨A1, c1, rfl, _, _⟩ := hr1.sliceN (List.length_map _)
  go_wp2_with fail
  refine (Of_any p _ _ (hr.ext hx1)).mono ?_
  rintro e w2 ⟨rfl, rfl⟩
  have hs1 : ((crcOf p).toNat : Int) ≤ 9223372036854775807 := by have := (crcOf p).isLt; omega
  have hs0 : -9223372036854775808 ≤ ((crcOf p).toNat : Int) := by omega
  go_wp2_with fail
  refine (Put_any _ _ hs0 hs1).mono ?_
  rintro e w2 ⟨v2, rfl, hr2, hx2⟩
  obtain ⟨A2, c2, rfl, _, _⟩ := hr2.sliceN (n := 4) rfl
  have hE : Ext w2 (w2.alloc (.cells #[.int .u8 1] 5)) := (Below.refl _ _).alloc (Nat.le_refl _) _
  have h1b := hr1.ext (Ext.trans hx2 hE)
  have h2b := hr2.ext hE
  have hpb := hr.ext (Ext.trans hx1 (Ext.trans hx2 hE))
  have h3b := Rd.litB w2 [1] #[.int .u8 1] 5 1 w2.heap.size (by simp) (by simp [B]) rfl rfl
  have hx3 := Ext.trans hx1 (Ext.trans hx2 hE)
  have hl := RdL.lit (w := w2.alloc (.cells #[.int .u8 1] 5)) 27 [.slice A1 (numB p.length).length c1, .slice A p.length c, .slice A2 4 c2, .slice (some ⟨w2.heap.size, 0, none⟩) 1 1] [numB p.length, p, putB ((crcOf p).toNat : Int), [1]] #[.slice A1 (numB p.length).length c1, .slice A p.length c, .slice A2 4 c2, .slice (some ⟨w2.heap.size, 0, none⟩) 1 1] 4 (w2.heap.size + 1) rfl (by simp) rfl rfl (by simp) (by
    intro i u l hu hl
    match i, hu, hl with
    | 0, hu, hl => cases hu; cases hl; exact h1b
    | 1, hu, hl => cases hu; cases hl; exact hpb
    | 2, hu, hl => cases hu; cases hl; exact h2b
    | 3, hu, hl => cases hu; cases hl; exact h3b
    | (k + 4), hu, hl => simp at hu)
  have hcat : [numB p.length, p, putB ((crcOf p).toNat : Int), [1]].flatten = frameB p := by rw [HF.out]; simp
  have hlen : ([numB p.length, p, putB ((crcOf p).toNat : Int), [1]].flatten).length ≤ 140737488355328 := by
    have := numB_len8 (show p.length < 9007199254740992 by omega)
    rw [hcat, HF.out, List.length_append, List.length_append, List.length_append, putB_len]
    simp
    omega
  have hx4 : Ext w ((w2.alloc (.cells #[.int .u8 1] 5)).alloc (.cells #[.slice A1 (numB p.length).length c1, .slice A p.length c, .slice A2 4 c2, .slice (some ⟨w2.heap.size, 0, none⟩) 1 1] 27)) := Ext.trans hx3 ((Below.refl _ _).alloc (Nat.le_refl _) _)
  have HL := Lib.hid hl
  have HC := Lib.hid hcat
  have HN := Lib.hid hlen
  clear hr hl hcat hlen h1b h2b hpb h3b hr1 hr2 hs1 hs0 hE hx1 hx2 hx3 HF
  go_wp2_with fail
  refine (Concat_any _ _ _ HL.out HN.out).mono ?_
  rintro e w4 ⟨v4, rfl, hg4⟩
  go_wp2
  go_ret
  rw [HC.out] at hg4
  exact ⟨_, rfl, Grew.from_ext hx4 hg4⟩

theorem FramePut_any (p : List UInt8) (v : Value) (w : World) (hr : Rd w v (p.map B)) :
    Calls Try.prog 69 #[v] w fun e w' => ∃ v', e = .returned v' ∧ Grew w.heap.size 5 (.slice none 0 0) w ((frameB p).map B) v' w' := by
  by_cases h : 1 ≤ p.length ∧ p.length ≤ 4000
  · exact FramePut_yes p v w hr h
  · exact FramePut_no p v w hr h

theorem FramePut_rd (p : List UInt8) (v : Value) (w : World) (hr : Rd w v (p.map B)) : Calls Try.prog 69 #[v] w (BytesRd w (frameB p)) :=
  (FramePut_any p v w hr).mono fun _ _ h => BytesRd.of_grew h

end Go.Proofs.Ytkkmldoohokdfaa

/- Package net: numbers, Right, Put. -/
namespace Go.Proofs.Ytkkmldoohokdfaa
open Go.RowKit

def ptrA (g : Nat) : Array Value := #[.pointer (some ⟨g, 0, none⟩), .pointer (some ⟨g, 1, none⟩), .pointer (some ⟨g, 2, none⟩), .pointer (some ⟨g, 3, none⟩), .pointer (some ⟨g, 4, none⟩), .pointer (some ⟨g, 5, none⟩), .pointer (some ⟨g, 6, none⟩), .pointer (some ⟨g, 7, none⟩), .pointer (some ⟨g, 8, none⟩), .pointer (some ⟨g, 9, none⟩), .pointer (some ⟨g, 10, none⟩)]
theorem ptrA_get (g : Nat) {k : Nat} (h : k < 11) : (ptrA g)[k]? = some (.pointer (some ⟨g, k, none⟩)) := by
  match k, h with
  | 0, _ | 1, _ | 2, _ | 3, _ | 4, _ | 5, _ | 6, _ | 7, _ | 8, _ | 9, _ | 10, _ => rfl
theorem ptrA_index (g : Nat) {k : Nat} (h : k < 11) (w : World) : (Instr.index 107 (.agg (ptrA g)) (.int .i64 (k : Int))).run Try.prog w = .ok (.pointer (some ⟨g, k, none⟩)) w :=
  run_index_arr 107 106 11 (ptrA g) .i64 k _ Try.underlying107 (by kernel_rfl) (by kernel_rfl) h (ptrA_get g h)
theorem MsAt.at {w : World} {g : Nat} {m : Ms} (h : MsAt w g m) {k : Nat} {n : Int} (hn : (msL m)[k]? = some n) : w.cell? ⟨g, k, none⟩ = some (.int .i64 n) := by
  rw [h.blk.cell k]
  show ((msL m).map I).toArray[k]? = _
  rw [List.getElem?_toArray, List.getElem?_map, hn]
  rfl
theorem ptrA_one (g : Nat) : (ptrA g).all (·.oneCell') = true := by simp [ptrA, Value.oneCell']
theorem infoP (g : Nat) : (Try.prog.info? 107).map (·.size) = some (ptrA g).size := by kernel_rfl

theorem ext_drewN (w : World) : Ext w w.drew := Below.drewN' (Ext.refl w) 1
set_option maxRecDepth 100000 in
set_option maxHeartbeats 1000000 in
theorem numbers_any (g : Nat) (w : World) : Calls Try.prog 65 #[.pointer (some ⟨g, 0, none⟩)] w fun e w' => e = .returned (.agg (ptrA g)) ∧ Ext w w' := by
  have HB := Lib.hid (Blk.new w 107 #[.pointer none, .pointer none, .pointer none, .pointer none, .pointer none, .pointer none, .pointer none, .pointer none, .pointer none, .pointer none, .pointer none])
  have HX := Lib.hid (Ext.alloc_ w (.cells #[.pointer none, .pointer none, .pointer none, .pointer none, .pointer none, .pointer none, .pointer none, .pointer none, .pointer none, .pointer none, .pointer none] 107))
  have HI := Lib.hid (infoP g)
  have HO := Lib.hid (ptrA_one g)
  have HB2 : Hid (Blk (w.alloc (.cells #[.pointer none, .pointer none, .pointer none, .pointer none, .pointer none, .pointer none, .pointer none, .pointer none, .pointer none, .pointer none, .pointer none] 107)).drew w.heap.size 107 #[.pointer none, .pointer none, .pointer none, .pointer none, .pointer none, .pointer none, .pointer none, .pointer none, .pointer none, .pointer none, .pointer none]) := Lib.hid HB.out
  have HX2 := Lib.hid (HX.out.trans (ext_drewN _))
  go_enter Try.func65, Try.ntmps65
  go_wp2_with fail
  go_still_tail 34, (by kernel_rfl)
  change wpList _ _ _ _ _ _
  go_wp2_with (refine wpList_storeB rfl 107 _ _ rfl w.heap.size (ptrA g) rfl rfl 107 _ HB2.out HI.out rfl HO.out w.heap.size w HX2.out (Nat.le_refl _) ?_; intro w2 hb2 hx2)
  exact bodyPost_ret (results_cell_row rfl _ _ w.heap.size 107 _ (0, 0) _ rfl hb2 rfl rfl (by kernel_rfl)) rfl ⟨rfl, hx2⟩

set_option maxRecDepth 100000 in
set_option maxHeartbeats 4000000 in
theorem Right12_any (m : Ms) (w : World) : Calls Try.prog 29 #[msV m] w fun e w' => e = .returned (.bool (rightM m)) ∧ Ext w w' := by
  obtain ⟨W, hW⟩ : ∃ W, W = w.alloc (.cells #[.int .i64 m.node, .int .i64 m.kind, .int .i64 m.term, .int .i64 m.gen, .int .i64 m.job, .int .i64 m.inc, .int .i64 m.ver, .int .i64 m.epoch, .int .i64 m.til, .int .i64 m.mode, .int .i64 m.work] 49) := ⟨_, rfl⟩
  have hb : MsAt W w.heap.size m := by rw [hW]; exact ⟨Blk.new _ _ _⟩
  have hx : Ext w W := by rw [hW]; exact Ext.alloc_ _ _
  have HB := Lib.hid hb
  have HX := Lib.hid hx
  have HN := Lib.hid (numbers_any w.heap.size W)
  obtain ⟨z, hz⟩ : ∃ z, z = rightM m := ⟨_, rfl⟩
  rw [← hz]
  have HZ := Lib.hid (hz.trans (rightM_eq m))
  obtain ⟨L, hL⟩ : ∃ L, L = msL m := ⟨_, rfl⟩
  have HL := Lib.hid hL
  have HLN : Hid (L.length = 11) := Lib.hid (by rw [hL]; rfl)
  clear hx hz hL
  unfold msV
  go_enter Try.func29, Try.ntmps29
  go_upto_region 1 with (fail)
  rw [← hW]
  clear hW
  have m0 := HB.out.cells.1
  have m1 := HB.out.cells.2.1
  clear hb
  by_cases q0 : 6 ≤ m.node
  · have d0 : decide ((6 : Int) ≤ m.node) = true := decide_eq_true q0
    have HF : Hid (z = false) := Lib.hid (by rw [HZ.out, decide_eq_false (show ¬ m.node < 6 by omega)]; rfl)
    clear q0
    go_wp2
    go_ret
    exact ⟨by rw [HF.out]; rfl, HX.out⟩
  have d0 : decide ((6 : Int) ≤ m.node) = false := decide_eq_false q0
  by_cases q1 : m.kind < 1
  · have d1 : decide (m.kind < 1) = true := decide_eq_true q1
    have HF : Hid (z = false) := Lib.hid (by rw [HZ.out, decide_eq_false (show ¬ 1 ≤ m.kind by omega)]; simp)
    clear q0 q1
    go_wp2
    go_ret
    exact ⟨by rw [HF.out]; rfl, HX.out⟩
  have d1 : decide (m.kind < 1) = false := decide_eq_false q1
  by_cases q6 : 6 < m.kind
  · have d6 : decide ((6 : Int) < m.kind) = true := decide_eq_true q6
    have HF : Hid (z = false) := Lib.hid (by rw [HZ.out, decide_eq_false (show ¬ m.kind ≤ 6 by omega)]; simp)
    clear q0 q1 q6
    go_wp2
    go_ret
    exact ⟨by rw [HF.out]; rfl, HX.out⟩
  have d6 : decide ((6 : Int) < m.kind) = false := decide_eq_false q6
  have HZ2 : Hid (z = L.all okN) := Lib.hid (by rw [HZ.out, decide_eq_true (show m.node < 6 by omega), decide_eq_true (show 1 ≤ m.kind by omega), decide_eq_true (show m.kind ≤ 6 by omega), ← HL.out]; rfl)
  clear q0 q1 q6
  go_wp2_with fail
  refine HN.out.mono ?_
  rintro e1 w1 ⟨rfl, hx1⟩
  have HX1 := Lib.hid (HX.out.trans hx1)
  have HB1 := Lib.hid (HB.out.ext hx1)
  clear hx1 m0 m1 HN
  go_wp2_with fail
  go_loopw [19] (fun i wr => wr = w1 ∧ ∃ k : Nat, i = .int .i64 k ∧ k ≤ 11 ∧ Hid ((L.take k).all okN = true)) (fun i _ => 11 - (intOf i).toNat)
  case atStart => exact ⟨rfl, 0, rfl, Nat.zero_le _, Lib.hid rfl⟩
  case round =>
    obtain ⟨rfl, k, rfl, hk, HK⟩ := hrel
    by_cases hlt : k < 11
    · have e1 : decide ((k : Int) < 11) = true := decide_eq_true (by omega)
      have e1' : decide (k < 11) = true := decide_eq_true hlt
      obtain ⟨n, hn⟩ : ∃ n, L[k]? = some n := ⟨_, List.getElem?_eq_getElem (by rw [HLN.out]; exact hlt)⟩
      have cn := HB1.out.at (k := k) (n := n) (by rw [← HL.out]; exact hn)
      have hix := ptrA_index w.heap.size hlt wr
      have HTK : Hid ((L.take (k + 1)).all okN = okN n) := Lib.hid (by rw [List.take_add_one, hn, List.all_append, HK.out]; simp)
      have HNM := Lib.hid (List.mem_of_getElem? hn)
      have HLT := Lib.hid hlt
      clear hn hlt
      by_cases h0 : n < 0
      · have d0 : decide (n < 0) = true := decide_eq_true h0
        have HF : Hid (z = false) := Lib.hid (by
          rw [HZ2.out]
          cases ha : L.all okN with
          | false => rfl
          | true => have h8 := List.all_eq_true.1 ha n HNM.out; rw [okN_false (by omega)] at h8; cases h8)
        clear h0
        go_wp2
        go_ret
        exact ⟨by rw [HF.out]; rfl, HX1.out⟩
      have d0 : decide (n < 0) = false := decide_eq_false h0
      by_cases h9 : 1000000 < n
      · have d9 : decide ((1000000 : Int) < n) = true := decide_eq_true h9
        have HF : Hid (z = false) := Lib.hid (by
          rw [HZ2.out]
          cases ha : L.all okN with
          | false => rfl
          | true => have h8 := List.all_eq_true.1 ha n HNM.out; rw [okN_false (by omega)] at h8; cases h8)
        clear h0 h9
        go_wp2
        go_ret
        exact ⟨by rw [HF.out]; rfl, HX1.out⟩
      have d9 : decide ((1000000 : Int) < n) = false := decide_eq_false h9
      have HK2 : Hid ((L.take (k + 1)).all okN = true) := Lib.hid (by rw [HTK.out]; exact okN_true (by omega))
      have hwq : wrap64 ((k : Int) + 1) = (k : Int) + 1 := IntWalk.wrap64_in _ (by omega)
      clear h0 h9
      go_wp2
      go_roundw
      case rel => first | exact ⟨rfl, k + 1, by go_num, HLT.out, HK2⟩ | exact ⟨trivial, k + 1, by go_num, HLT.out, HK2⟩
      case measure => simp [intOf]; have := HLT.out; omega
    · obtain rfl : k = 11 := by omega
      have e1 : decide ((11 : Int) < 11) = false := by decide
      have HF : Hid (z = true) := Lib.hid (by rw [HZ2.out]; have h := HK.out; rw [List.take_of_length_le (by rw [HLN.out]; exact Nat.le_refl _)] at h; exact h)
      clear hk hlt HK
      go_wp2
      go_ret
      exact ⟨by rw [HF.out]; rfl, HX1.out⟩

theorem ListPost.yes {l : List Int} {w w' : World} {e : Ending} (h : l.all isNumB = true) (hp : ListPost l w e w') : ∃ v, e = .returned v ∧ Grew w.heap.size 5 (.slice none 0 0) w ((listB l).map B) v w' := by
  rcases hp with ⟨v, e1, -, hg⟩ | ⟨-, h2, -⟩
  · exact ⟨v, e1, hg⟩
  · rw [h] at h2; cases h2

set_option maxRecDepth 100000 in
set_option maxHeartbeats 4000000 in
theorem Put12_any (m : Ms) (w : World) : Calls Try.prog 31 #[msV m] w fun e w' => ∃ v, e = .returned v ∧ RowF (fun k => w.heap.size ≤ k ∧ k < w'.heap.size) w' 5 v ((putM m).map B) ∧ Ext w w' := by
  obtain ⟨W, hW⟩ : ∃ W, W = w.alloc (.cells #[.int .i64 m.node, .int .i64 m.kind, .int .i64 m.term, .int .i64 m.gen, .int .i64 m.job, .int .i64 m.inc, .int .i64 m.ver, .int .i64 m.epoch, .int .i64 m.til, .int .i64 m.mode, .int .i64 m.work] 49) := ⟨_, rfl⟩
  have hb : MsAt W w.heap.size m := by rw [hW]; exact ⟨Blk.new _ _ _⟩
  have hx : Ext w W := by rw [hW]; exact Ext.alloc_ _ _
  have HB := Lib.hid hb
  have HX := Lib.hid hx
  have HRT := Lib.hid (Right12_any m W)
  unfold msV at HRT
  obtain ⟨L, hL⟩ : ∃ L, L = msL m := ⟨_, rfl⟩
  have HL := Lib.hid hL
  have HLN : Hid (L.length = 11) := Lib.hid (by rw [hL]; rfl)
  clear hx hL hb
  unfold msV
  go_enter Try.func31, Try.ntmps31
  go_upto_region 1 with (fail)
  rw [← hW]
  clear hW
  obtain ⟨m0, m1, m2, m3, m4, m5, m6, m7, m8, m9, m10⟩ := HB.out.cells
  cases hr : rightM m with
  | false =>
    rw [hr] at HRT
    have HF : Hid (putM m = []) := Lib.hid (by unfold putM; rw [hr]; rfl)
    clear hr
    go_wp2_with fail
    refine HRT.out.mono ?_
    rintro e1 w1 ⟨rfl, hx1⟩
    have HX1 := Lib.hid (HX.out.trans hx1)
    clear hx1
    go_wp2
    go_ret
    exact ⟨_, rfl, by rw [HF.out]; exact RowF.nil _ _ _, HX1.out⟩
  | true =>
    rw [hr] at HRT
    have HF : Hid (putM m = frameB (listB L)) := Lib.hid (by unfold putM; rw [hr, HL.out]; rfl)
    have HRM := Lib.hid hr
    clear hr
    go_wp2_with fail
    refine HRT.out.mono ?_
    rintro e1 w1 ⟨rfl, hx1⟩
    have HX1 := Lib.hid (HX.out.trans hx1)
    have HB1 := Lib.hid (HB.out.ext hx1)
    clear hx1 HRT m0 m1 m2 m3 m4 m5 m6 m7 m8 m9 m10
    go_wp2_with fail
    refine (numbers_any w.heap.size w1).mono ?_
    rintro e2 w2 ⟨rfl, hx2⟩
    have HX2 := Lib.hid (HX1.out.trans hx2)
    have HB2 := Lib.hid (HB1.out.ext hx2)
    have HG0 := Lib.hid (Grew.nil (base := w2.heap.size) (e := 3) w2)
    clear hx2
    go_wp2_with fail
    go_loopw [3, 10] (fun v i wr => ∃ k : Nat, i = .int .i64 k ∧ k ≤ 11 ∧ Hid (Grew w2.heap.size 3 (.slice none 0 0) w2 ((L.take k).map I) v wr)) (fun _ i _ => 11 - (intOf i).toNat)
    case atStart => exact ⟨0, rfl, Nat.zero_le _, HG0⟩
    case round =>
      obtain ⟨k, rfl, hk, HK⟩ := hrel
      by_cases hlt : k < 11
      · have e1 : decide ((k : Int) < 11) = true := decide_eq_true (by omega)
        have e1' : decide (k < 11) = true := decide_eq_true hlt
        obtain ⟨n, hn⟩ : ∃ n, L[k]? = some n := ⟨_, List.getElem?_eq_getElem (by rw [HLN.out]; exact hlt)⟩
        have cn := (HB2.out.ext HK.out.ext).at (k := k) (n := n) (by rw [← HL.out]; exact hn)
        have hix := ptrA_index w.heap.size hlt wr
        have HTK : Hid ((L.take (k + 1)).map I = (L.take k).map I ++ [I n]) := Lib.hid (by rw [List.take_add_one, hn, List.map_append]; rfl)
        have HLT := Lib.hid hlt
        have hown := HK.out.own
        obtain ⟨Av, cv, rfl⟩ := HK.out.slice_ (n := k) (by rw [List.length_map, List.length_take, HLN.out]; omega)
        have hl2 : ((L.take k).map I).length < 17592186044416 := by rw [List.length_map, List.length_take, HLN.out]; omega
        have hbr := HK.out.size
        have hwq : wrap64 ((k : Int) + 1) = (k : Int) + 1 := IntWalk.wrap64_in _ (by omega)
        clear hn hlt
        go_wp2_with (at_builtin; refine push_int rfl _ _ rfl w2.heap.size _ _ rfl hown _ rfl rfl hl2 hbr ?_; intro v2 w3 hg2)
        have hk2 : Grew w2.heap.size 3 (.slice none 0 0) w2 ((L.take (k + 1)).map I) v2 w3 := by rw [HTK.out]; exact HK.out.trans hg2
        go_roundw
        case rel => exact ⟨k + 1, by go_num, HLT.out, Lib.hid hk2⟩
        case measure => simp [intOf]; have := HLT.out; omega
      · obtain rfl : k = 11 := by omega
        have e1 : decide ((11 : Int) < 11) = false := by decide
        have hgf := HK.out
        rw [List.take_of_length_le (by rw [HLN.out]; exact Nat.le_refl _)] at hgf
        have hrL := Rd.own hgf.own
        have HXR := Lib.hid (HX2.out.trans hgf.ext)
        clear hk hlt HK hgf
        have HLI := Lib.hid (List_any L _ wr hrL (by rw [HLN.out]; decide))
        go_wp2_with fail
        refine HLI.out.mono ?_
        intro e3 w3 hp
        obtain ⟨v3, rfl, hg3⟩ := hp.yes (by rw [HL.out]; exact okN_num (rightM_all HRM.out))
        have hr3 := Rd.own hg3.own
        have HX3 := Lib.hid (HXR.out.trans hg3.ext)
        obtain ⟨A3, c3, rfl, -, -⟩ := hr3.sliceN (List.length_map _)
        have HFP := Lib.hid (FramePut_any (listB L) _ w3 hr3)
        clear hg3 hr3 HLI
        go_wp2_with fail
        refine HFP.out.mono ?_
        rintro e4 w4 ⟨v4, rfl, hg4⟩
        have H4 := Lib.hid (And.intro ((RowF.made hg4).mono (G := fun k => w.heap.size ≤ k ∧ k < w4.heap.size) (fun k hk => ⟨Nat.le_trans HX3.out.size hk.1, hk.2⟩)) (HX3.out.trans hg4.ext))
        clear hg4
        go_wp2
        go_ret
        exact ⟨_, rfl, by rw [HF.out]; exact H4.out.1, H4.out.2⟩

end Go.Proofs.Ytkkmldoohokdfaa

/- Layer 1, package code: the number at a place. -/
namespace Go.Proofs.Ytkkmldoohokdfaa
open Go.RowKit

set_option maxRecDepth 100000 in
set_option maxHeartbeats 2000000 in
theorem GetNum_at (bs : List UInt8) (v : Value) (p : Nat) (w : World) (hr : Rd w v (bs.map B)) (hp63 : p < 9223372036854775808) :
    Calls Try.prog 88 #[v, .int .i64 p] w fun e w' => e = .returned (numAt bs p) ∧ w = w' := by
  obtain ⟨A, c, rfl, hlc, hcm, hcell⟩ := hr
  simp only [List.length_map] at *
  unfold maxLen at hcm
  go_enter Try.func88, Try.ntmps88
  go_wp2
  go_loop [7, 8] (fun n' i' => ∃ (i acc : Nat), i' = .int .i64 i ∧ n' = .int .i64 acc ∧ i ≤ 8 ∧ acc < 128 ^ i ∧ (p + i < 9223372036854775808) ∧ scanN (8 - i) (bs.drop (p + i)) i acc = getN (bs.drop p)) (fun _ i' => 8 - (intOf i').toNat)
  case atStart => exact ⟨0, 0, rfl, rfl, by omega, by omega, by omega, rfl⟩
  case round =>
    obtain ⟨i, acc, rfl, rfl, hi, hacc, hp6, hsc⟩ := hrel
    by_cases h8 : i < 8
    · by_cases hp : p + i < bs.length
      · obtain ⟨b, o, rfl, hbl, hce⟩ := hcell (by omega)
        have hc1 : w.cell? ⟨b, o + (p + i), none⟩ = some (B bs[p + i]) := hce (p + i) _ (by simp [hp])
        clear hce hcell
        rw [show 8 - i = (7 - i) + 1 by omega, scanN_step i acc (drop_cons hp)] at hsc
        have hcl := bs[p + i].toNat_lt
        unfold B at hc1
        generalize bs[p + i].toNat = c at hc1 hsc hcl
        have hor := or_group i acc c h8 hacc
        have hlt := group_lt i acc c h8 hacc
        have hl8 := pow128_le (show i + 1 ≤ 8 by omega)
        generalize hN : acc + 128 ^ i * (c % 128) = N at hor hsc hlt
        have HN := Lib.hid hN
        clear hN
        by_cases hc : 128 ≤ c
        · rw [if_pos hc] at hsc
          have hSC := Lib.hid hsc
          clear hsc
          go_wp2
          go_roundw
          case rel => exact ⟨i + 1, N, by go_num, rfl, by omega, hlt, by omega, by rw [← hSC.out, show 8 - (i + 1) = 7 - i by omega]; rfl⟩
          case measure => simp [intOf]; omega
        · rw [if_neg hc] at hsc
          by_cases hn : 9007199254740992 ≤ N
          · rw [if_pos (.inl hn)] at hsc
            have hF : Hid (numAt bs p = .tuple #[.int .i64 0, .int .i64 0, .bool false]) := by unfold Hid; rw [numAt, ← hsc]
            have hni : (9007199254740992 : Int) ≤ (N : Int) := by omega
            clear hsc hn
            go_wp2
            go_ret3
            exact ⟨by rw [hF.out]; rfl, rfl⟩
          · have hni : decide ((9007199254740992 : Int) ≤ (N : Int)) = false := by simp; omega
            by_cases hc0 : c = 0
            · subst hc0
              have hor0 : bits .or .i64 (acc : Int) (wrap64 0) = (N : Int) := by simpa using hor
              have hor1 : bits .or .i64 (acc : Int) 0 = (N : Int) := by simpa [wrap64] using hor
              by_cases hi0 : 0 < i
              · rw [if_pos (.inr ⟨rfl, hi0⟩)] at hsc
                have hF : Hid (numAt bs p = .tuple #[.int .i64 0, .int .i64 0, .bool false]) := by unfold Hid; rw [numAt, ← hsc]
                clear hsc hn
                go_wp2
                go_ret3
                exact ⟨by rw [hF.out]; rfl, rfl⟩
              · rw [if_neg (by omega)] at hsc
                have hF : Hid (numAt bs p = .tuple #[.int .i64 (N : Int), .int .i64 ((p + (i + 1) : Nat) : Int), .bool true]) := by unfold Hid; rw [numAt, ← hsc]
                clear hsc hn
                go_wp2
                go_ret3
                exact ⟨by rw [hF.out]; simp; omega, rfl⟩
            · rw [if_neg (by omega)] at hsc
              have hF : Hid (numAt bs p = .tuple #[.int .i64 (N : Int), .int .i64 ((p + (i + 1) : Nat) : Int), .bool true]) := by unfold Hid; rw [numAt, ← hsc]
              have hcb : ((c : Int) == 0) = false := by simpa using hc0
              clear hsc hn
              go_wp2
              go_ret3
              exact ⟨by rw [hF.out]; simp; omega, rfl⟩
      · rw [List.drop_eq_nil_of_le (by omega), show 8 - i = (7 - i) + 1 by omega, scanN] at hsc
        have hF : Hid (numAt bs p = .tuple #[.int .i64 0, .int .i64 0, .bool false]) := by unfold Hid; rw [numAt, ← hsc]
        clear hsc
        go_wp2
        go_ret3
        exact ⟨by rw [hF.out]; rfl, rfl⟩
    · rw [show 8 - i = 0 by omega, scanN] at hsc
      have hF : Hid (numAt bs p = .tuple #[.int .i64 0, .int .i64 0, .bool false]) := by unfold Hid; rw [numAt, ← hsc]
      clear hsc
      go_wp2
      go_ret3
      exact ⟨by rw [hF.out]; rfl, rfl⟩

theorem GetNum_neg (v : Value) (p : Int) (w : World) (hp : p < 0) :
    Calls Try.prog 88 #[v, .int .i64 p] w fun e w' => e = .returned (.tuple #[.int .i64 0, .int .i64 0, .bool false]) ∧ w = w' := by
  go_enter Try.func88, Try.ntmps88
  go_wp2
  go_ret3
  exact ⟨rfl, rfl⟩

theorem GetNum_some (bs : List UInt8) (v : Value) (p n j : Nat) (w : World) (hr : Rd w v (bs.map B)) (hp63 : p < 9223372036854775808) (h : getN (bs.drop p) = some (n, j)) :
    Calls Try.prog 88 #[v, .int .i64 p] w fun e w' => e = .returned (.tuple #[.int .i64 n, .int .i64 ((p + j : Nat) : Int), .bool true]) ∧ w = w' := by
  have e : numAt bs p = .tuple #[.int .i64 n, .int .i64 ((p + j : Nat) : Int), .bool true] := by rw [numAt, h]
  rw [← e]
  exact GetNum_at bs v p w hr hp63

theorem GetNum_none (bs : List UInt8) (v : Value) (p : Nat) (w : World) (hr : Rd w v (bs.map B)) (hp63 : p < 9223372036854775808) (h : getN (bs.drop p) = none) :
    Calls Try.prog 88 #[v, .int .i64 p] w fun e w' => e = .returned (.tuple #[.int .i64 0, .int .i64 0, .bool false]) ∧ w = w' := by
  have e : numAt bs p = .tuple #[.int .i64 0, .int .i64 0, .bool false] := by rw [numAt, h]
  rw [← e]
  exact GetNum_at bs v p w hr hp63

end Go.Proofs.Ytkkmldoohokdfaa

/- Strings in this translation's numbers: a string appended to bytes; bytes made into a string. -/
namespace Go.Proofs.Ytkkmldoohokdfaa
open Go.RowKit

/-- 'b = append(b, s...)', s a string. -/
theorem app_str {w : World} {ops : Array Oper} {rest : List Oper} {o : Oper} {a : Act} {Q : Exit → Act → World → Prop} (hgd : o.guard = none) (s x : Operand)
    (ho : o.op = .call { callee := .builtin .append, args := #[s, x], argTypes := #[27, 9] })
    (base : Nat) (v : Value) (xs : List Value) (hs : a.eval s = v) (hown : w.ownsRow base 5 1 v xs.length xs) (str : ByteArray) (hx : a.eval x = .string str)
    (hbytes : xs.length + str.size ≤ 140737488355328) (hbase : base ≤ w.heap.size)
    (h : ∀ v' w', Grew base 5 v w (xs ++ str.data.toList.map B) v' w' → wpList Try.prog ops Q rest (a.put o.dst v') w') : wpList Try.prog ops Q (o :: rest) a w :=
  wpList_appendStr hgd s x 27 9 ho base 5 Try.underlying27 Try.underlying9 Try.infoU8 v xs hs hown str hx hbytes hbase h

theorem conv_u8 {w : World} {ops : Array Oper} {rest : List Oper} {o : Oper} {a : Act} {Q : Exit → Act → World → Prop} (hgd : o.guard = none) (x : Operand)
    (ho : o.op = .convert 27 9 x) (u : Value) (ys : List UInt8) (hx : a.eval x = u) (hr : Rd w u (ys.map B))
    (h : wpList Try.prog ops Q rest (a.put o.dst (.string ⟨ys.toArray⟩)) w) : wpList Try.prog ops Q (o :: rest) a w :=
  wpList_conv hgd x 27 9 5 ho Try.underlying27 Try.underlying5 Try.underlying9 u ys hx hr h

end Go.Proofs.Ytkkmldoohokdfaa

/- Go's bytes.Equal: the same bytes? -/
namespace Go.Proofs.Ytkkmldoohokdfaa
open Go.RowKit

theorem Equal_any (xs ys : List UInt8) (u v : Value) (w : World) (hu : Rd w u (xs.map B)) (hv : Rd w v (ys.map B)) :
    Calls Try.prog 114 #[u, v] w fun e w' => e = .returned (.bool (decide (xs = ys))) ∧ w = w' := by
  go_enter Try.func114, Try.ntmps114
  go_wp2_with (first | (refine conv_u8 rfl _ rfl _ xs rfl hu ?_) | (refine conv_u8 rfl _ rfl _ ys rfl hv ?_))
  go_ret
  exact ⟨by rw [show (xs == ys) = decide (xs = ys) by rw [Bool.eq_iff_iff]; simp]; rfl, rfl⟩

end Go.Proofs.Ytkkmldoohokdfaa

/- Layer 2, package sum: whether bytes end with their sum. -/
namespace Go.Proofs.Ytkkmldoohokdfaa
open Go.RowKit

set_option maxHeartbeats 400000 in
theorem Is_any (l : List UInt8) (v : Value) (w : World) (hr : Rd w v (l.map B)) :
    Calls Try.prog 109 #[v] w fun e w' => e = .returned (.bool (isB l)) ∧ Ext w w' := by
  have hr0 := hr
  obtain ⟨A, c, rfl, hlc, hcm, _⟩ := hr0
  simp only [List.length_map] at *
  unfold maxLen at hcm
  by_cases h4 : l.length < 4
  · go_enter Try.func109, Try.ntmps109
    go_wp2
    go_ret
    exact ⟨by rw [show isB l = false by rw [isB, decide_eq_false (by omega)]; rfl]; rfl, Ext.refl _⟩
  · obtain ⟨n, hn⟩ : ∃ n, l.length = n + 4 := ⟨l.length - 4, by omega⟩
    have hp := hr.prefix_ n (by simp; omega)
    have hq := hr.cut n 4 (by simp; omega)
    rw [← List.map_take] at hp
    rw [← List.map_drop, ← List.map_take, List.take_of_length_le (by simp; omega)] at hq
    have he : isB l = decide (l.drop n = putB ((crcOf (l.take n)).toNat : Int)) := by
      rw [isB, decide_eq_true (show 4 ≤ l.length by omega), Bool.true_and, show l.length - 4 = n by omega]
    have HE := Lib.hid he
    clear he
    have hs1 : ((crcOf (l.take n)).toNat : Int) ≤ 9223372036854775807 := by have := (crcOf (l.take n)).isLt; omega
    have hs0 : -9223372036854775808 ≤ ((crcOf (l.take n)).toNat : Int) := by omega
    rw [hn] at hlc ⊢
    rw [if_neg (by omega)] at hq
    clear hr hn h4
    go_enter Try.func109, Try.ntmps109
    go_wp2_with fail
    go_region_with (first | (go_at_call 94; refine (Of_any (l.take n) _ _ (hp.ext (Below.drewN' (Ext.refl _) _))).mono ?_; rintro e w1 ⟨rfl, rfl⟩) | (go_at_call 93; refine (Put_any _ _ hs0 hs1).mono ?_; rintro e w2 ⟨v2, rfl, hr2, hx2⟩; have hx3 := (Below.drewN' (Ext.refl w) 1).trans hx2; have hq3 := hq.ext hx3) | (go_at_call 114; refine (Equal_any _ _ _ _ _ hq3 hr2).mono ?_; rintro e w3 ⟨rfl, rfl⟩))
    all_goals go_wp2
    all_goals go_ret
    all_goals exact ⟨by rw [HE.out]; rfl, hx3⟩

end Go.Proofs.Ytkkmldoohokdfaa

/- Layer 3, package frame: what stands at a place, the payload a piece of the bytes. -/
namespace Go.Proofs.Ytkkmldoohokdfaa
open Go.RowKit

theorem RdN.cut {w : World} {row : Nat → Prop} {b o N c : Nat} {xs : List Value} (h : RdN w row (.slice (some ⟨b, o, none⟩) N c) xs) (lo n m : Nat) (hn : 0 < n) (hnm : n ≤ m) (hle : lo + n ≤ xs.length) (hm : m ≤ c) :
    RdN w row (.slice (some ⟨b, o + lo, none⟩) n m) ((xs.drop lo).take n) := by
  obtain ⟨A', c', e, h1, h2, h3⟩ := h
  cases e
  have hl : ((xs.drop lo).take n).length = n := by rw [List.length_take, List.length_drop]; omega
  refine ⟨_, _, by rw [hl], by omega, by omega, fun _ => ?_⟩
  obtain ⟨b', o', h, hb, hr, hc⟩ := h3 (by omega)
  cases h
  refine ⟨b, o + lo, rfl, hb, hr, fun j u hu => ?_⟩
  rw [List.getElem?_take] at hu
  split at hu
  · rw [List.getElem?_drop] at hu
    rw [Nat.add_assoc]
    exact hc _ u hu
  · cases hu
theorem RdN.nil (w : World) (row : Nat → Prop) : RdN w row (.slice none 0 0) [] := ⟨none, 0, rfl, Nat.le_refl _, Nat.zero_le _, fun h => absurd h (by simp)⟩
theorem RdN.of_rd {w : World} {v : Value} {xs : List Value} (h : Rd w v xs) : RdN w (fun _ => True) v xs := by
  obtain ⟨A, c, e, h1, h2, h3⟩ := h
  refine ⟨A, c, e, h1, h2, fun hn => ?_⟩
  obtain ⟨b, o, a, hb, hc⟩ := h3 hn
  exact ⟨b, o, a, hb, by simp, hc⟩

/-- What cut answers: the payload is a piece of the bytes. -/
def CutPost (row : Nat → Prop) (bs : List UInt8) (i : Int) (w : World) (e : Ending) (w' : World) : Prop :=
  ∃ v', e = .returned (.tuple #[v', .int .i64 (getF bs i).2.1, .int .i64 (getF bs i).2.2]) ∧ RdN w' row v' ((getF bs i).1.map B) ∧ Ext w w'

theorem CutPost.none_ {row : Nat → Prop} {bs : List UInt8} {i : Int} {w w' : World} {t : Int} (h : getF bs i = ([], i, t)) (hx : Ext w w') : CutPost row bs i w (.returned (.tuple #[.slice none 0 0, .int .i64 i, .int .i64 t])) w' := by
  rw [CutPost, h]
  exact ⟨_, rfl, RdN.nil _ _, hx⟩

section
variable {row : Nat → Prop}
theorem cut_low (bs : List UInt8) (v : Value) (i : Int) (w : World) (hr : RdN w row v (bs.map B)) (h : i < 0 ∨ (bs.length : Int) < i) : Calls Try.prog 87 #[v, .int .i64 i] w (CutPost row bs i w) := by
  obtain ⟨A, c, rfl, hlc, hcm⟩ := hr.rd.sliceN (List.length_map _)
  unfold maxLen at hcm
  have hp := CutPost.none_ (row := row) (w := w) (getF_low h) (Ext.refl w)
  have HP := Lib.hid hp
  clear hp
  by_cases h0 : i < 0
  · clear h
    go_enter Try.func87, Try.ntmps87
    go_wp2
    go_ret3
    exact HP.out
  · have h1 : decide ((bs.length : Int) < i) = true := by simp; omega
    clear h
    go_enter Try.func87, Try.ntmps87
    go_wp2
    go_ret3
    exact HP.out

theorem cut_done (bs : List UInt8) (v : Value) (w : World) (hr : RdN w row v (bs.map B)) : Calls Try.prog 87 #[v, .int .i64 (bs.length : Int)] w (CutPost row bs (bs.length : Int) w) := by
  obtain ⟨A, c, rfl, hlc, hcm⟩ := hr.rd.sliceN (List.length_map _)
  unfold maxLen at hcm
  have hp := CutPost.none_ (row := row) (w := w) (getF_done bs) (Ext.refl w)
  have HP := Lib.hid hp
  clear hp
  go_enter Try.func87, Try.ntmps87
  go_wp2
  go_ret3
  exact HP.out

theorem cut_nought (bs : List UInt8) (v : Value) (k : Nat) (w : World) (hr : RdN w row v (bs.map B)) (h : k < bs.length) (h0 : bs[k] = 0) : Calls Try.prog 87 #[v, .int .i64 (k : Int)] w (CutPost row bs (k : Int) w) := by
  obtain ⟨A, c, rfl, hlc, hcm⟩ := hr.rd.sliceN (List.length_map _)
  unfold maxLen at hcm
  have hp := CutPost.none_ (row := row) (w := w) (getF_nought h h0) (Ext.refl w)
  have HP := Lib.hid hp
  clear hp
  obtain ⟨b, o, rfl, hb, hc⟩ := hr.rd.get (by rw [List.length_map]; omega)
  have e1 : w.cell? ⟨b, o + k, none⟩ = some (.int .u8 0) := hc k _ (by rw [List.getElem?_map, List.getElem?_eq_getElem h, h0]; rfl)
  clear hc h0
  go_enter Try.func87, Try.ntmps87
  go_wp2
  go_ret3
  exact HP.out

theorem cut_num (bs : List UInt8) (v : Value) (k : Nat) (w : World) (hr : RdN w row v (bs.map B)) (h : k < bs.length) (h0 : bs[k] ≠ 0) (hg : getN (bs.drop k) = none) : Calls Try.prog 87 #[v, .int .i64 (k : Int)] w (CutPost row bs (k : Int) w) := by
  obtain ⟨A, c, rfl, hlc, hcm⟩ := hr.rd.sliceN (List.length_map _)
  unfold maxLen at hcm
  have hf : getF bs (k : Int) = ([], (k : Int), 2) := by rw [getF_there h h0, frameAt_none hg]
  have hp := CutPost.none_ (row := row) (w := w) hf (Ext.refl w)
  have HP := Lib.hid hp
  have HG := Lib.hid hg
  clear hf hp hg
  have hr0 := hr.rd
  obtain ⟨b, o, rfl, hb, hc⟩ := hr0.get (by rw [List.length_map]; omega)
  have e1 : w.cell? ⟨b, o + k, none⟩ = some (B bs[k]) := hc k _ (by rw [List.getElem?_map, List.getElem?_eq_getElem h]; rfl)
  have hne : ((bs[k].toNat : Int) == 0) = false := by rw [beq_eq_false_iff_ne]; intro e; exact h0 (UInt8.toNat_inj.1 (by show bs[k].toNat = 0; omega))
  have hrr := hr.rd
  generalize bs[k] = x at *
  simp only [B] at e1
  clear hc h0
  go_enter Try.func87, Try.ntmps87
  go_wp2_with fail
  refine (GetNum_none bs _ k _ hrr (by omega) HG.out).mono ?_
  rintro e w1 ⟨rfl, rfl⟩
  go_wp2
  go_ret3
  exact HP.out

/-- The number of a frame's bytes isn't 0 where the first byte isn't. -/
theorem getN_pos {bs : List UInt8} {k n j : Nat} (h : k < bs.length) (h0 : bs[k] ≠ 0) (hg : getN (bs.drop k) = some (n, j)) : 1 ≤ n := by
  rcases Nat.eq_zero_or_pos n with h1 | h1
  · exfalso
    subst h1
    have hle := getN_le hg
    have h2 := getN_get hg
    rw [List.drop_eq_getElem_cons h, numB_lo (by omega)] at h2
    obtain ⟨j', rfl⟩ : ∃ j', j = j' + 1 := ⟨j - 1, by omega⟩
    rw [List.take_succ_cons] at h2
    injection h2 with h3 _
    exact h0 h3.symm
  · exact h1

set_option maxHeartbeats 400000 in
theorem cut_size (bs : List UInt8) (v : Value) (k n j : Nat) (w : World) (hr : RdN w row v (bs.map B)) (h : k < bs.length) (h0 : bs[k] ≠ 0) (hg : getN (bs.drop k) = some (n, j)) (hn : 4000 < n ∨ (n ≤ 4000 ∧ bs.length < k + j + n + 5)) : Calls Try.prog 87 #[v, .int .i64 (k : Int)] w (CutPost row bs (k : Int) w) := by
  obtain ⟨A, c, rfl, hlc, hcm⟩ := hr.rd.sliceN (List.length_map _)
  unfold maxLen at hcm
  have hle := getN_le hg
  rw [List.length_drop] at hle
  have hf : getF bs (k : Int) = ([], (k : Int), 2) := by rw [getF_there h h0, frameAt_no hg (by rw [List.length_drop]; omega)]
  have hp := CutPost.none_ (row := row) (w := w) hf (Ext.refl w)
  have HP := Lib.hid hp
  have HG := Lib.hid hg
  clear hf hp hg
  have hr0 := hr.rd
  obtain ⟨b, o, rfl, hb, hc⟩ := hr0.get (by rw [List.length_map]; omega)
  have e1 : w.cell? ⟨b, o + k, none⟩ = some (B bs[k]) := hc k _ (by rw [List.getElem?_map, List.getElem?_eq_getElem h]; rfl)
  have hne : ((bs[k].toNat : Int) == 0) = false := by rw [beq_eq_false_iff_ne]; intro e; exact h0 (UInt8.toNat_inj.1 (by show bs[k].toNat = 0; omega))
  have hrr := hr.rd
  generalize bs[k] = x at *
  simp only [B] at e1
  clear hc h0
  rcases hn with hn | ⟨hn1, hn2⟩
  all_goals
    go_enter Try.func87, Try.ntmps87
    go_wp2_with fail
    refine (GetNum_some bs _ k n j _ hrr (by omega) HG.out).mono ?_
    rintro e w1 ⟨rfl, rfl⟩
    go_wp2
    go_ret3
    exact HP.out

set_option maxHeartbeats 2000000 in
theorem cut_frame (bs : List UInt8) (v : Value) (k n j : Nat) (w : World) (hr : RdN w row v (bs.map B)) (h : k < bs.length) (h0 : bs[k] ≠ 0) (hg : getN (bs.drop k) = some (n, j)) (hn : n ≤ 4000 ∧ k + j + n + 5 ≤ bs.length) : Calls Try.prog 87 #[v, .int .i64 (k : Int)] w (CutPost row bs (k : Int) w) := by
  obtain ⟨A, c, rfl, hlc, hcm⟩ := hr.rd.sliceN (List.length_map _)
  unfold maxLen at hcm
  have hle := getN_le hg
  have hn0 := getN_pos h h0 hg
  rw [List.length_drop] at hle
  obtain ⟨hn1, hn2⟩ := hn
  have hparts := frame_parts hg ⟨hn0, hn1⟩ (by rw [List.length_drop]; omega)
  have hpay : ((bs.drop k).drop j).take n = (bs.drop (k + j)).take n := by rw [List.drop_drop]
  have hsum : ((bs.drop k).drop (j + n)).take 4 = (bs.drop (k + j + n)).take 4 := by rw [List.drop_drop, Nat.add_assoc]
  have hlast : (bs.drop k)[j + n + 4]? = some bs[k + j + n + 4] := by rw [List.getElem?_drop, List.getElem?_eq_getElem (by omega)]; congr 2; omega
  have his : isB ((bs.drop (k + j)).take (n + 4)) = decide ((bs.drop (k + j + n)).take 4 = putB ((crcOf ((bs.drop (k + j)).take n)).toNat : Int)) := by
    rw [isB]
    have hl : ((bs.drop (k + j)).take (n + 4)).length = n + 4 := by rw [List.length_take, List.length_drop]; omega
    rw [hl, decide_eq_true (by omega), Bool.true_and, Nat.add_sub_cancel, List.drop_take, List.drop_drop, List.take_take, Nat.min_eq_left (by omega), Nat.add_sub_cancel_left]
  rw [hpay, hsum, hlast] at hparts
  have hyes : bs[k + j + n + 4] = 1 → isB ((bs.drop (k + j)).take (n + 4)) = true → getF bs (k : Int) = ((bs.drop (k + j)).take n, (k : Int) + ((j + n + 5 : Nat) : Int), 1) := fun h1 h2 => by
    rw [his, decide_eq_true_iff] at h2
    rw [getF_there h h0, frameAt_yes hg (by rw [List.length_drop, hpay]; exact ⟨⟨hn0, hn1⟩, by omega, hparts.2 ⟨h2, by rw [h1]⟩⟩), hpay]
  have hno : (bs[k + j + n + 4] ≠ 1 ∨ isB ((bs.drop (k + j)).take (n + 4)) = false) → getF bs (k : Int) = ([], (k : Int), 2) := fun h1 => by
    rw [getF_there h h0, frameAt_no hg]
    rw [hpay]
    rintro ⟨_, _, h2⟩
    have h3 := hparts.1 h2
    rcases h1 with h1 | h1
    · exact h1 (by simpa using h3.2)
    · rw [his, decide_eq_false_iff_not] at h1
      exact h1 h3.1
  have HYES := Lib.hid hyes
  have HNO := Lib.hid hno
  have HG := Lib.hid hg
  clear hyes hno hg hparts hpay hsum hlast his
  have hr0 := hr.rd
  obtain ⟨b, o, rfl, hb, hc⟩ := hr0.get (by rw [List.length_map]; omega)
  have e1 : w.cell? ⟨b, o + k, none⟩ = some (B bs[k]) := hc k _ (by rw [List.getElem?_map, List.getElem?_eq_getElem h]; rfl)
  have e2 : w.cell? ⟨b, o + (k + j + n + 4), none⟩ = some (B bs[k + j + n + 4]) := hc _ _ (by rw [List.getElem?_map, List.getElem?_eq_getElem (by omega)]; rfl)
  have hne : ((bs[k].toNat : Int) == 0) = false := by rw [beq_eq_false_iff_ne]; intro e; exact h0 (UInt8.toNat_inj.1 (by show bs[k].toNat = 0; omega))
  have hcut := hr.cut (k + j) (n + 4) (c - (k + j)) (by omega) (by omega) (by rw [List.length_map]; omega) (by omega)
  have hpay := hr.cut (k + j) n n (by omega) (by omega) (by rw [List.length_map]; omega) (by omega)
  rw [← List.map_drop, ← List.map_take] at hcut hpay
  have hrr := hr.rd
  have hcr := hcut.rd
  rw [show (Value.slice (some ⟨b, o + (k + j), none⟩) (n + 4) (c - (k + j))) = .slice (some ⟨b, o + (k + j), none⟩) (k + j + n + 4 - (k + j)) (c - (k + j)) by rw [show k + j + n + 4 - (k + j) = n + 4 by omega]] at hcr
  rw [show (Value.slice (some ⟨b, o + (k + j), none⟩) n n) = .slice (some ⟨b, o + (k + j), none⟩) (k + j + n - (k + j)) (k + j + n - (k + j)) by rw [show k + j + n - (k + j) = n by omega]] at hpay
  generalize bs[k] = x at *
  simp only [B] at e1 e2
  clear hc h0 hcut
  by_cases hl : bs[k + j + n + 4] = 1
  · have hl1 : (((1 : UInt8).toNat : Int) == 1) = true := rfl
    rw [hl] at e2
    have hyes := HYES.out hl
    have HYES := Lib.hid hyes
    clear hyes
    go_enter Try.func87, Try.ntmps87
    go_wp2_with fail
    refine (GetNum_some bs _ k n j _ hrr (by omega) HG.out).mono ?_
    rintro e w1 ⟨rfl, rfl⟩
    go_wp2_with fail
    ((with_reducible refine (Is_any _ _ _ hcr).mono ?_))
    rintro e w2 ⟨rfl, hx2⟩
    by_cases his : isB ((bs.drop (k + j)).take (n + 4)) = true
    · have hf := HYES.out his
      have HF := Lib.hid hf
      have HPAY := Lib.hid hpay
      rw [his]
      clear hf HNO HYES his hpay hcr
      go_wp2
      go_ret3
      rw [CutPost, HF.out]
      exact ⟨_, by go_num, HPAY.out.ext hx2, hx2⟩
    · have hb : isB ((bs.drop (k + j)).take (n + 4)) = false := by simpa using his
      have hf := HNO.out (.inr hb)
      have hp := CutPost.none_ (row := row) (w := w) hf hx2
      have HP := Lib.hid hp
      rw [hb]
      clear hf HNO HYES his hb hp hpay hcr
      go_wp2
      go_ret3
      exact HP.out
  · have hl1 : ((bs[k + j + n + 4].toNat : Int) == 1) = false := by rw [beq_eq_false_iff_ne]; intro e; exact hl (UInt8.toNat_inj.1 (by show bs[k + j + n + 4].toNat = 1; omega))
    have hl2 : ((bs[k + j + n + 4].toNat : Int) != 1) = true := by rw [bne, hl1]; rfl
    have hno := HNO.out (.inl hl)
    have hp := CutPost.none_ (row := row) (w := w) hno (Ext.refl w)
    have HP := Lib.hid hp
    clear hno HNO HYES hp hl
    generalize bs[k + j + n + 4] = y at *
    go_enter Try.func87, Try.ntmps87
    go_wp2_with fail
    refine (GetNum_some bs _ k n j _ hrr (by omega) HG.out).mono ?_
    rintro e w1 ⟨rfl, rfl⟩
    go_wp2
    go_ret3
    exact HP.out

theorem cut_any (bs : List UInt8) (v : Value) (i : Int) (w : World) (hr : RdN w row v (bs.map B)) : Calls Try.prog 87 #[v, .int .i64 i] w (CutPost row bs i w) := by
  by_cases hi : i < 0 ∨ (bs.length : Int) < i
  · exact cut_low bs v i w hr hi
  · obtain ⟨k, rfl⟩ : ∃ k : Nat, i = k := ⟨i.toNat, by omega⟩
    by_cases he : k = bs.length
    · rw [he]
      exact cut_done bs v w hr
    · have hk : k < bs.length := by omega
      by_cases h0 : bs[k] = 0
      · exact cut_nought bs v k w hr hk h0
      · rcases hg : getN (bs.drop k) with _ | ⟨n, j⟩
        · exact cut_num bs v k w hr hk h0 hg
        · by_cases hn : n ≤ 4000 ∧ k + j + n + 5 ≤ bs.length
          · exact cut_frame bs v k n j w hr hk h0 hg hn
          · exact cut_size bs v k n j w hr hk h0 hg (by omega)

end
end Go.Proofs.Ytkkmldoohokdfaa

/- Go's bytes.Clone: a copy of its own. -/
namespace Go.Proofs.Ytkkmldoohokdfaa
open Go.RowKit

theorem Clone_any (l : List UInt8) (v : Value) (w : World) (hr : Rd w v (l.map B)) (hlen : l.length ≤ 140737488355328) :
    Calls Try.prog 46 #[v] w fun e w' => ∃ v', e = .returned v' ∧ Grew w.heap.size 5 (.slice none 0 0) w (l.map B) v' w' := by
  have kn := fun (w : World) (a : Option Addr) (n c n' c' : Nat) => Lib.run_eql_slice_nil (P := Try.prog) w 27 5 a n c n' c' Try.underlying27
  obtain ⟨A, c, rfl, hlc, hcm⟩ := hr.sliceN (List.length_map _)
  unfold maxLen at hcm
  rcases A with _ | a
  · have h0 : l = [] := by
      rcases Nat.eq_zero_or_pos l.length with h | h
      · exact List.eq_nil_of_length_eq_zero h
      · obtain ⟨b, o, h, _⟩ := hr.get (by simpa using h)
        cases h
    subst h0
    have hg := Grew.nil (base := w.heap.size) (e := 5) w
    have HG := Lib.hid hg
    clear hg
    go_enter Try.func46, Try.ntmps46
    go_wp2
    go_ret
    exact ⟨_, rfl, HG.out⟩
  · have HR := Lib.hid hr
    clear hr
    go_enter Try.func46, Try.ntmps46
    go_wp2_with (at_builtin; refine app_u8 rfl _ _ rfl w.heap.size _ [] rfl (own_none _ _ _ rfl) _ l rfl (HR.out.ext ((Below.refl _ _).alloc (Nat.le_refl _) _)) (by simp; omega) (by simp) ?_; intro v2 w2 hg2; rw [List.nil_append] at hg2)
    go_ret
    exact ⟨_, rfl, Grew.from_empty rfl hg2⟩

end Go.Proofs.Ytkkmldoohokdfaa

/- Layer 3, package frame: Get. -/
namespace Go.Proofs.Ytkkmldoohokdfaa
open Go.RowKit

set_option maxHeartbeats 400000 in
theorem FrameGet_rd (bs : List UInt8) (v : Value) (i : Int) (w : World) (hr : Rd w v (bs.map B)) : Calls Try.prog 63 #[v, .int .i64 i] w (GetRd bs i w) := by
  have hn := RdN.of_rd hr
  have hp : (getF bs i).1.length ≤ 4000 := by
    rcases getF_cases bs i with ⟨h1, h2, h3, _⟩ | ⟨h1, _⟩
    · exact (frameAt_some h3).1.2
    · rw [h1]
      exact Nat.zero_le _
  have HP := Lib.hid hp
  clear hp hr
  go_enter Try.func63, Try.ntmps63
  go_wp2_with fail
  refine (cut_any bs _ i _ hn).mono ?_
  rintro e w1 ⟨v1, rfl, hr1, hx1⟩
  have hr1 := hr1.rd
  go_wp2_with fail
  refine (Clone_any _ _ _ hr1 (by have := HP.out; omega)).mono ?_
  rintro e w2 ⟨v2, rfl, hg2⟩
  go_wp2
  go_ret3
  exact ⟨_, rfl, Rd.own hg2.own, hx1.trans hg2.ext⟩

theorem RdF.ext0 {F : Fp} {w w' : World} {v : Value} {xs : List Value} (h : RdF F w v xs) (hx : Ext w w') : RdF F w' v xs := h.chg (G := fun _ => False) (Chg.of_ext hx) (fun _ _ h => h)
theorem RdF.nil0 (F : Fp) (w : World) : RdF F w (.slice none 0 0) [] := ⟨none, 0, rfl, Nat.le_refl _, Nat.zero_le _, fun h => absurd h (by simp)⟩
theorem RdF.cut {F : Fp} {w : World} {A : Option Addr} {N c : Nat} {xs : List Value} (h : RdF F w (.slice A N c) xs) (lo n : Nat) (hle : lo + n ≤ xs.length) :
    RdF F w (.slice (if c = lo then A else A.map (fun x => x.add lo)) n (c - lo)) ((xs.drop lo).take n) := by
  obtain ⟨A', c', e, h1, h2, h3⟩ := h
  cases e
  have hl : ((xs.drop lo).take n).length = n := by rw [List.length_take, List.length_drop]; omega
  refine ⟨_, _, by rw [hl], by omega, by omega, fun hn => ?_⟩
  obtain ⟨b, o, rfl, hb, hF, hc⟩ := h3 (by omega)
  rw [if_neg (by omega)]
  refine ⟨b, o + lo, by simp [Addr.add_lit], hb, hF, fun j u hu => ?_⟩
  rw [List.getElem?_take] at hu
  split at hu
  · rw [List.getElem?_drop] at hu
    rw [Nat.add_assoc]
    exact hc _ u hu
  · cases hu
def GetRdF (bs : List UInt8) (i : Int) (w : World) (e : Ending) (w' : World) : Prop :=
  ∃ v', e = .returned (.tuple #[v', .int .i64 (getF bs i).2.1, .int .i64 (getF bs i).2.2]) ∧ RdF (fun b => w.heap.size ≤ b) w' v' ((getF bs i).1.map B) ∧ Ext w w'
set_option maxHeartbeats 400000 in
theorem FrameGet_rdF (bs : List UInt8) (v : Value) (i : Int) (w : World) (hr : Rd w v (bs.map B)) : Calls Try.prog 63 #[v, .int .i64 i] w (GetRdF bs i w) := by
  have hn := RdN.of_rd hr
  have hp : (getF bs i).1.length ≤ 4000 := by
    rcases getF_cases bs i with ⟨h1, h2, h3, _⟩ | ⟨h1, _⟩
    · exact (frameAt_some h3).1.2
    · rw [h1]
      exact Nat.zero_le _
  have HP := Lib.hid hp
  clear hp hr
  go_enter Try.func63, Try.ntmps63
  go_wp2_with fail
  refine (cut_any bs _ i _ hn).mono ?_
  rintro e w1 ⟨v1, rfl, hr1, hx1⟩
  have hr1 := hr1.rd
  go_wp2_with fail
  refine (Clone_any _ _ _ hr1 (by have := HP.out; omega)).mono ?_
  rintro e w2 ⟨v2, rfl, hg2⟩
  go_wp2
  go_ret3
  exact ⟨_, rfl, (RowF.made hg2).rdF.mono (fun b hb => Nat.le_trans hx1.size hb.1), hx1.trans hg2.ext⟩

end Go.Proofs.Ytkkmldoohokdfaa

/- Layer 1, package code: the list at a place. -/
namespace Go.Proofs.Ytkkmldoohokdfaa
open Go.RowKit

set_option maxRecDepth 100000 in
theorem take_some (bs : List UInt8) (v : Value) (b1 b2 b3 p n j : Nat) (ok : Bool) (w : World) (h1 : Blk w b1 27 #[v]) (h2 : Blk w b2 3 #[.int .i64 p]) (h3 : Blk w b3 4 #[.bool ok]) (h23 : b2 ≠ b3)
    (hr : Rd w v (bs.map B)) (hp63 : p < 9223372036854775808) (h : getN (bs.drop p) = some (n, j)) :
    Calls Try.prog 89 #[.pointer (some ⟨b1, 0, none⟩), .pointer (some ⟨b2, 0, none⟩), .pointer (some ⟨b3, 0, none⟩)] w fun e w' => e = .returned (.int .i64 n) ∧
      w' = (w.setCell ⟨b2, 0, none⟩ (.int .i64 ((p + j : Nat) : Int))).setCell ⟨b3, 0, none⟩ (.bool true) := by
  have H := Lib.hid h
  clear h
  have c1 := h1.cell1
  have c2 := h2.cell1
  have c3 := h3.cell1
  have f2 := h2.frozen 0
  have f3 := h3.frozen 0
  have c3' : (w.setCell ⟨b2, 0, none⟩ (.int .i64 ((p : Int) + (j : Int)))).cell? ⟨b3, 0, none⟩ = some (.bool ok) := (h3.far (p := ⟨b2, 0, none⟩) (fun e => h23 e.symm) _).cell1
  go_enter Try.func89, Try.ntmps89
  go_wp2_with (first | (go_at_call 88; refine (GetNum_some bs _ p n j _ hr (by omega) H.out).mono ?_; rintro e w' ⟨rfl, rfl⟩))
  go_ret
  exact ⟨rfl, rfl⟩

set_option maxRecDepth 100000 in
theorem take_none (bs : List UInt8) (v : Value) (b1 b2 b3 p : Nat) (ok : Bool) (w : World) (h1 : Blk w b1 27 #[v]) (h2 : Blk w b2 3 #[.int .i64 p]) (h3 : Blk w b3 4 #[.bool ok]) (h23 : b2 ≠ b3)
    (hr : Rd w v (bs.map B)) (hp63 : p < 9223372036854775808) (h : getN (bs.drop p) = none) :
    Calls Try.prog 89 #[.pointer (some ⟨b1, 0, none⟩), .pointer (some ⟨b2, 0, none⟩), .pointer (some ⟨b3, 0, none⟩)] w fun e w' => e = .returned (.int .i64 0) ∧
      w' = (w.setCell ⟨b2, 0, none⟩ (.int .i64 0)).setCell ⟨b3, 0, none⟩ (.bool false) := by
  have H := Lib.hid h
  clear h
  have c1 := h1.cell1
  have c2 := h2.cell1
  have c3 := h3.cell1
  have f2 := h2.frozen 0
  have f3 := h3.frozen 0
  have c3' : (w.setCell ⟨b2, 0, none⟩ (.int .i64 0)).cell? ⟨b3, 0, none⟩ = some (.bool ok) := (h3.far (p := ⟨b2, 0, none⟩) (fun e => h23 e.symm) _).cell1
  go_enter Try.func89, Try.ntmps89
  go_wp2_with (first | (go_at_call 88; refine (GetNum_none bs _ p _ hr (by omega) H.out).mono ?_; rintro e w' ⟨rfl, rfl⟩))
  go_ret
  exact ⟨rfl, rfl⟩

set_option maxRecDepth 100000 in
set_option maxHeartbeats 2000000 in
theorem GetList_first (bs : List UInt8) (v : Value) (p : Nat) (most : Int) (w : World) (hr : Rd w v (bs.map B)) (hp63 : p < 9223372036854775808) (h : getN (bs.drop p) = none) :
    Calls Try.prog 64 #[v, .int .i64 p, .int .i64 most] w fun e w' => e = .returned (.tuple #[.slice none 0 0, .int .i64 0, .bool false]) ∧ Ext w w' := by
  have H := Lib.hid h
  clear h
  have hlv : ∃ A cp, v = .slice A bs.length cp := by
    obtain ⟨A, cp, h, _⟩ := hr
    exact ⟨A, cp, by simpa using h⟩
  have hR := Lib.hid hr
  clear hr
  obtain ⟨A, cp, rfl⟩ := hlv
  go_enter Try.func64, Try.ntmps64
  go_wp2_with (first | (go_at_call 88; refine (GetNum_none bs _ p _ (hR.out.ext ((Below.refl _ _).alloc (Nat.le_refl _) _)) (by omega) H.out).mono ?_; rintro e w' ⟨rfl, rfl⟩))
  exact bodyPost_ret (v := .tuple #[.slice none 0 0, .int .i64 0, .bool false]) (by simp [results, Try.results64, go_sem]) rfl ⟨rfl, ((((Below.refl _ _).alloc (Nat.le_refl _) _).alloc (by simp) _).alloc (by simp; omega) _)⟩

/-- GetList's loop: the numbers taken so far lie in the list; the place, whether all went well, and the bytes, lie in blocks of their own. -/
structure LR (w wr : World) (V : Value) (c i q : Nat) (ns : List Nat) : Prop where
  own : wr.ownsRow w.heap.size 3 1 (.slice (some ⟨w.heap.size + 1 + 1 + 1, 0, none⟩) c c) c ((ns.map fun (n : Nat) => Value.int .i64 n) ++ List.replicate (c - i) (.int .i64 0))
  len : ns.length = i
  b1 : Blk wr w.heap.size 27 #[V]
  b2 : Blk wr (w.heap.size + 1) 3 #[.int .i64 q]
  b3 : Blk wr (w.heap.size + 1 + 1) 4 #[.bool true]
  ext : Ext w wr

theorem LR.start {w w1 : World} {V : Value} {c q : Nat} (hg : (((w.alloc (Obj.cells #[V] 27)).alloc (Obj.cells #[Value.int IntKind.i64 q] 3)).alloc (Obj.cells #[Value.bool true] 4)).grownBy w1 none)
    (hown : w1.ownsRow w.heap.size 3 1 (.slice (some ⟨w.heap.size + 1 + 1 + 1, 0, none⟩) c c) c (madeCells (Value.int IntKind.i64 0).cells (c * 1)).toList) : LR w w1 V c 0 q [] := by
  refine ⟨?_, rfl, ?_, ?_, ?_, ?_⟩
  · have e : (madeCells (Value.int IntKind.i64 0).cells (c * 1)).toList = List.replicate c (.int .i64 0) := by
      rw [show (Value.int IntKind.i64 0).cells = #[Value.int IntKind.i64 0] from rfl, toList_madeCells_one]
      simp
    rw [e] at hown
    simpa using hown
  · exact (((Blk.new w _ _).alloc _).alloc _).grown hg (by simp)
  · have := (((Blk.new (w.alloc (Obj.cells #[V] 27)) 3 #[.int .i64 q]).alloc (Obj.cells #[Value.bool true] 4))).grown hg (by simp)
    simpa using this
  · have := (Blk.new ((w.alloc (Obj.cells #[V] 27)).alloc (Obj.cells #[Value.int IntKind.i64 q] 3)) 4 #[.bool true]).grown hg (by simp)
    simpa using this
  · exact ((((Below.refl _ _).alloc (Nat.le_refl _) _).alloc (by simp) _).alloc (by simp; omega) _).grown hg (by simp; omega) (by simp)

theorem LR.take {w wr w2 : World} {V : Value} {c i q q' : Nat} {ns : List Nat} {b : Bool} (h : LR w wr V c i q ns) (hi : i < c)
    (h2 : w2 = (wr.setCell ⟨w.heap.size + 1, 0, none⟩ (.int .i64 q')).setCell ⟨w.heap.size + 1 + 1, 0, none⟩ (.bool b)) (n : Nat) :
    w2.cell? ⟨w.heap.size + 1 + 1 + 1, i, none⟩ = some (.int .i64 0) ∧ w2.frozen? ⟨w.heap.size + 1 + 1 + 1, i, none⟩ = false ∧
      (w2.setCell ⟨w.heap.size + 1 + 1 + 1, i, none⟩ (.int .i64 n)).cell? ⟨w.heap.size + 1 + 1, 0, none⟩ = some (.bool b) ∧ Ext w (w2.setCell ⟨w.heap.size + 1 + 1 + 1, i, none⟩ (.int .i64 n)) ∧
      (b = true → LR w (w2.setCell ⟨w.heap.size + 1 + 1 + 1, i, none⟩ (.int .i64 n)) V c (i + 1) q' (ns ++ [n])) := by
  obtain ⟨own, len, b1, b2, b3, ext⟩ := h
  have o2 : w2.ownsRow w.heap.size 3 1 (.slice (some ⟨w.heap.size + 1 + 1 + 1, 0, none⟩) c c) c ((ns.map fun (n : Nat) => Value.int .i64 n) ++ List.replicate (c - i) (.int .i64 0)) := by
    subst h2
    exact ownsRow_setCell_other (ownsRow_setCell_other own (by intro e; simp only [Value.ownBlock, Option.some.injEq] at e; omega) _) (by intro e; simp only [Value.ownBlock, Option.some.injEq] at e; omega) _
  have k2 : Blk w2 (w.heap.size + 1) 3 #[.int .i64 q'] := by
    subst h2
    exact (b2.set_ 0 _).far (by simp) _
  have k3 : Blk w2 (w.heap.size + 1 + 1) 4 #[.bool b] := by
    subst h2
    exact (b3.far (by simp) _).set_ 0 _
  have k1 : Blk w2 w.heap.size 27 #[V] := by
    subst h2
    exact (b1.far (by show w.heap.size ≠ w.heap.size + 1; omega) _).far (by show w.heap.size ≠ w.heap.size + 1 + 1; omega) _
  have e2 : Ext w w2 := by
    subst h2
    exact (ext.setCell (by simp) _).setCell (by simp; omega) _
  have hx : ((ns.map fun (n : Nat) => Value.int .i64 n) ++ List.replicate (c - i) (.int .i64 0))[i]? = some (.int .i64 0) := by
    rw [List.getElem?_append_right (by simp [len]), List.length_map, len, Nat.sub_self, List.getElem?_replicate, if_pos (by omega)]
  refine ⟨(o2.cellAt i (by omega)).trans hx, o2.frozenAt i, (k3.far (by show w.heap.size + 1 + 1 ≠ w.heap.size + 1 + 1 + 1; omega) _).cell1, e2.setCell (by show w.heap.size ≤ w.heap.size + 1 + 1 + 1; omega) _, fun hb => ?_⟩
  subst hb
  refine ⟨?_, by simp [len], k1.far (by show w.heap.size ≠ w.heap.size + 1 + 1 + 1; omega) _, k2.far (by show w.heap.size + 1 ≠ w.heap.size + 1 + 1 + 1; omega) _, k3.far (by show w.heap.size + 1 + 1 ≠ w.heap.size + 1 + 1 + 1; omega) _, e2.setCell (by show w.heap.size ≤ w.heap.size + 1 + 1 + 1; omega) _⟩
  have := (o2.stored i (.int .i64 n)).1
  have e : (((ns.map fun (n : Nat) => Value.int .i64 n) ++ List.replicate (c - i) (Value.int .i64 0)).set i (Value.int .i64 n)) = ((ns ++ [n]).map fun (n : Nat) => Value.int .i64 n) ++ List.replicate (c - (i + 1)) (Value.int .i64 0) := by
    rw [List.set_append_right _ _ (by simp [len])]
    simp only [List.length_map, len, Nat.sub_self, List.map_append, List.map_cons, List.map_nil, List.append_assoc]
    rw [show c - i = (c - (i + 1)) + 1 by omega, List.replicate_succ]
    rfl
  rw [e] at this
  exact this

set_option maxRecDepth 100000 in
set_option maxHeartbeats 4000000 in
theorem GetList_at (bs : List UInt8) (v : Value) (p c j : Nat) (most : Int) (w : World) (hr : Rd w v (bs.map B)) (hp63 : p < 9223372036854775808) (h : getN (bs.drop p) = some (c, j)) (hc : (c : Int) ≤ most) (hcl : c ≤ bs.length - (p + j)) (hlen : bs.length ≤ 1099511627776) :
    Calls Try.prog 64 #[v, .int .i64 p, .int .i64 most] w (GLPost (readK c bs (p + j)) w) := by
  have hj := getN_le h
  rw [List.length_drop] at hj
  have H := Lib.hid h
  clear h
  have hmf : ∀ (fn : Fn) (first cap : Array Value) (w : World), (Instr.makeFunc fn first cap).run Try.prog w = .ok (.func fn first cap) w := fun _ _ _ _ => rfl
  have hlv : ∃ A cp, v = .slice A bs.length cp := by
    obtain ⟨A, cp, h, _⟩ := hr
    exact ⟨A, cp, by simpa using h⟩
  have hR := Lib.hid hr
  clear hr
  obtain ⟨A, cp, rfl⟩ := hlv
  obtain ⟨i0, hi, hz0, hz1, hz2⟩ := info_parts Try.infoInt
  go_enter Try.func64, Try.ntmps64
  go_wp2_with (first | (go_at_call 88; refine (GetNum_some bs _ p c j _ (hR.out.ext ((Below.refl _ _).alloc (Nat.le_refl _) _)) (by omega) H.out).mono ?_; rintro e w' ⟨rfl, rfl⟩) | (at_make; refine wpList_make_full _ rfl _ _ 103 rfl w.heap.size 3 i0 (.int .i64 0) 1 Try.underlying103 hi hz0 hz1 _ _ _ _ c rfl rfl rfl rfl (by rw [hz2]; omega) (by unfold maxLen; omega) (by simp; omega) ?_; intro w1 hown hgrow))
  have hL : LR w w1 (.slice A bs.length cp) c 0 (p + j) [] := LR.start (by simpa using hgrow) (by simpa using hown)
  clear hown hgrow hi hz0 hz1 hz2
  go_loopw [42] (fun i' wr => ∃ (i q : Nat) (ns : List Nat), i' = .int .i64 i ∧ i ≤ c ∧ q ≤ bs.length ∧ readK c bs (p + j) = (readK (c - i) bs q).map (fun r => (ns ++ r.1, r.2)) ∧ LR w wr (.slice A bs.length cp) c i q ns) (fun i' _ => c - (intOf i').toNat)
  case atStart => exact ⟨0, p + j, [], rfl, by omega, by omega, by simp, hL⟩
  case round =>
    obtain ⟨i, q, ns, rfl, hic, hq, hrd, hL⟩ := hrel
    have hR2 := hR.out.ext hL.ext
    by_cases hlt : i < c
    · rw [show c - i = (c - (i + 1)) + 1 by omega, readK] at hrd
      rcases hg : getN (bs.drop q) with _ | ⟨n, j2⟩
      · rw [hg] at hrd
        have HG := Lib.hid hg
        have HRD : Hid (readK c bs (p + j) = none) := by unfold Hid; simpa using hrd
        clear hg hrd
        go_wp2_with (first | (go_at_call 89; refine (take_none bs _ _ _ _ q true _ hL.b1 hL.b2 hL.b3 (by omega) hR2 (by omega) HG.out).mono ?_; rintro e w2 ⟨rfl, hw2⟩; obtain ⟨f1, f2, f3, f4, _⟩ := hL.take (q' := 0) hlt hw2 0; rw [show ((0 : Nat) : Int) = 0 from rfl] at f3 f4; clear hw2))
        refine bodyPost_ret (v := .tuple #[.slice none 0 0, .int .i64 0, .bool false]) (by simp [results, Try.results64, go_sem]) rfl ?_
        rw [HRD.out]
        exact ⟨rfl, f4⟩
      · rw [hg] at hrd
        have hj2 := getN_le hg
        rw [List.length_drop] at hj2
        have HG := Lib.hid hg
        have HRD : Hid (readK c bs (p + j) = Option.map (fun r => ((ns ++ [n]) ++ r.1, r.2)) (readK (c - (i + 1)) bs (q + j2))) := by
          unfold Hid
          rw [hrd]
          rcases h : readK (c - (i + 1)) bs (q + j2) with _ | ⟨a, b⟩ <;> simp [h]
        clear hg hrd
        go_wp2_with (first | (go_at_call 89; refine (take_some bs _ _ _ _ q n j2 true _ hL.b1 hL.b2 hL.b3 (by omega) hR2 (by omega) HG.out).mono ?_; rintro e w2 ⟨rfl, hw2⟩; obtain ⟨f1, f2, f3, f4, f5⟩ := hL.take (q' := q + j2) hlt hw2 n; have F5 := Lib.hid (f5 rfl); clear hw2 f5))
        go_roundw
        case rel => exact ⟨i + 1, q + j2, ns ++ [n], by go_num, by omega, by omega, HRD.out, F5.out⟩
        case measure => simp [intOf]; omega
    · obtain rfl : i = c := by omega
      have HRD := Lib.hid hrd
      have c2 := hL.b2.cell1
      clear hrd
      go_wp2
      go_quiet (fail)
      go_wp2
      refine bodyPost_ret (v := .tuple #[.slice (some ⟨w.heap.size + 1 + 1 + 1, 0, none⟩) i i, .int .i64 q, .bool true]) (by simp [results, Try.results64, go_sem]) rfl ?_
      rw [HRD.out, Nat.sub_self, readK]
      have hown := hL.own
      rw [Nat.sub_self, List.replicate_zero, List.append_nil] at hown
      refine ⟨_, rfl, ?_, Below.drewN' hL.ext _⟩
      simp only [List.append_nil, hL.len]
      exact hown

set_option maxRecDepth 100000 in
set_option maxHeartbeats 2000000 in
theorem GetList_long (bs : List UInt8) (v : Value) (p c j : Nat) (most : Int) (w : World) (hr : Rd w v (bs.map B)) (hp63 : p < 9223372036854775808) (h : getN (bs.drop p) = some (c, j)) (hc : (c : Int) ≤ most) (hcl : ¬ c ≤ bs.length - (p + j)) :
    Calls Try.prog 64 #[v, .int .i64 p, .int .i64 most] w fun e w' => e = .returned (.tuple #[.slice none 0 0, .int .i64 0, .bool false]) ∧ Ext w w' := by
  have hj := getN_le h
  rw [List.length_drop] at hj
  have H := Lib.hid h
  clear h
  have hlv : ∃ A cp, v = .slice A bs.length cp ∧ bs.length ≤ cp ∧ cp ≤ maxLen := by
    obtain ⟨A, cp, h, h2, h3, _⟩ := hr
    exact ⟨A, cp, by simpa using h, by simpa using h2, h3⟩
  have hR := Lib.hid hr
  clear hr
  obtain ⟨A, cp, rfl, h1, h2⟩ := hlv
  unfold maxLen at h2
  go_enter Try.func64, Try.ntmps64
  go_wp2_with (first | (go_at_call 88; refine (GetNum_some bs _ p c j _ (hR.out.ext ((Below.refl _ _).alloc (Nat.le_refl _) _)) (by omega) H.out).mono ?_; rintro e w' ⟨rfl, rfl⟩))
  exact bodyPost_ret (v := .tuple #[.slice none 0 0, .int .i64 0, .bool false]) (by simp [results, Try.results64, go_sem]) rfl ⟨rfl, ((((Below.refl _ _).alloc (Nat.le_refl _) _).alloc (by simp) _).alloc (by simp; omega) _)⟩

set_option maxRecDepth 100000 in
set_option maxHeartbeats 2000000 in
theorem GetList_many (bs : List UInt8) (v : Value) (p c j : Nat) (most : Int) (w : World) (hr : Rd w v (bs.map B)) (hp63 : p < 9223372036854775808) (h : getN (bs.drop p) = some (c, j)) (hc : ¬ (c : Int) ≤ most) :
    Calls Try.prog 64 #[v, .int .i64 p, .int .i64 most] w fun e w' => e = .returned (.tuple #[.slice none 0 0, .int .i64 0, .bool false]) ∧ Ext w w' := by
  have hj := getN_le h
  rw [List.length_drop] at hj
  have H := Lib.hid h
  clear h
  have hlv : ∃ A cp, v = .slice A bs.length cp ∧ bs.length ≤ cp ∧ cp ≤ maxLen := by
    obtain ⟨A, cp, h, h2, h3, _⟩ := hr
    exact ⟨A, cp, by simpa using h, by simpa using h2, h3⟩
  have hR := Lib.hid hr
  clear hr
  obtain ⟨A, cp, rfl, h1, h2⟩ := hlv
  unfold maxLen at h2
  go_enter Try.func64, Try.ntmps64
  go_wp2_with (first | (go_at_call 88; refine (GetNum_some bs _ p c j _ (hR.out.ext ((Below.refl _ _).alloc (Nat.le_refl _) _)) (by omega) H.out).mono ?_; rintro e w' ⟨rfl, rfl⟩))
  exact bodyPost_ret (v := .tuple #[.slice none 0 0, .int .i64 0, .bool false]) (by simp [results, Try.results64, go_sem]) rfl ⟨rfl, ((((Below.refl _ _).alloc (Nat.le_refl _) _).alloc (by simp) _).alloc (by simp; omega) _)⟩

set_option maxRecDepth 100000 in
set_option maxHeartbeats 2000000 in
theorem GetList_neg (bs : List UInt8) (v : Value) (p : Int) (most : Int) (w : World) (hr : Rd w v (bs.map B)) (hp : p < 0) :
    Calls Try.prog 64 #[v, .int .i64 p, .int .i64 most] w fun e w' => e = .returned (.tuple #[.slice none 0 0, .int .i64 0, .bool false]) ∧ Ext w w' := by
  have hlv : ∃ A cp, v = .slice A bs.length cp ∧ bs.length ≤ cp ∧ cp ≤ maxLen := by
    obtain ⟨A, cp, h, h2, h3, _⟩ := hr
    exact ⟨A, cp, by simpa using h, by simpa using h2, h3⟩
  clear hr
  obtain ⟨A, cp, rfl, h1, h2⟩ := hlv
  unfold maxLen at h2
  go_enter Try.func64, Try.ntmps64
  go_wp2_with (first | (go_at_call 88; refine (GetNum_neg _ p _ hp).mono ?_; rintro e w' ⟨rfl, rfl⟩))
  exact bodyPost_ret (v := .tuple #[.slice none 0 0, .int .i64 0, .bool false]) (by simp [results, Try.results64, go_sem]) rfl ⟨rfl, ((((Below.refl _ _).alloc (Nat.le_refl _) _).alloc (by simp) _).alloc (by simp; omega) _)⟩

theorem GetList_any (bs : List UInt8) (v : Value) (p : Nat) (most : Int) (w : World) (hr : Rd w v (bs.map B)) (hp63 : p < 9223372036854775808) (hlen : bs.length ≤ 1099511627776) :
    Calls Try.prog 64 #[v, .int .i64 p, .int .i64 most] w (GLPost (listAt bs p most) w) := by
  unfold listAt
  rcases h : getN (bs.drop p) with _ | ⟨c, j⟩
  · exact GetList_first bs v p most w hr hp63 h
  · by_cases hc : (c : Int) ≤ most
    · simp only [hc, if_true]
      by_cases hcl : c ≤ bs.length - (p + j)
      · exact GetList_at bs v p c j most w hr hp63 h hc hcl hlen
      · have hj := getN_le h
        rw [List.length_drop] at hj
        rcases hk : readK c bs (p + j) with _ | ⟨l, q⟩
        · exact GetList_long bs v p c j most w hr hp63 h hc hcl
        · have := readK_le c bs (p + j) l q (by omega) hk
          omega
    · simp only [hc, if_false]
      exact GetList_many bs v p c j most w hr hp63 h hc

end Go.Proofs.Ytkkmldoohokdfaa
