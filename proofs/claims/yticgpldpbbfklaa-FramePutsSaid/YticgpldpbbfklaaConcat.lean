/- Go's slices.Grow of nil, and slices.Concat, at bytes: all of the slices, one behind the other, in a row of its own. -/
import Derived.Test.YticgpldpbbfklaaTu8
import Derived.Test.YticgpldpbbfklaaMem3
import Derived.Lib.AppendZeros
namespace Go.Proofs.Yticgpldpbbfklaa
open Go.RowKit

theorem Grew.short {w w' : World} {e : TypeId} {n cap : Nat} {xs : List Value} {g : Nat} (h : Grew w.heap.size e (.slice none 0 0) w xs (.slice (some ⟨g, 0, none⟩) n cap) w') : Grew w.heap.size e (.slice none 0 0) w [] (.slice (some ⟨g, 0, none⟩) 0 cap) w' := by
  obtain ⟨h1, h2, h3⟩ := h
  refine ⟨⟨rfl, ?_⟩, h2, ?_⟩
  · rcases h1.2 with ⟨h, _⟩ | ⟨g', cap', cur, h, hg, hh, hn, hcap, hs, ht⟩
    · cases h
    · cases h
      exact .inr ⟨g, cap, cur, rfl, hg, hh, Nat.zero_le _, hcap, hs, by simp⟩
  · rcases h3 with h3 | h3
    · cases h3
    · exact .inr h3

/-- 'append(b, make([]byte, n)...)', b nil: n noughts, and what room there is. -/
theorem zeros_u8 {w : World} {ops : Array Oper} {rest : List Oper} {o : Oper} {a : Act} {Q : Exit → Act → World → Prop} (hgd : o.guard = none) (s x : Operand)
    (ho : o.op = .call { callee := .builtin .append, args := #[s, x], argTypes := #[22, 3] }) (hs : a.eval s = .slice none 0 0) (n : Nat) (hx : a.eval x = .int .i64 (n : Int)) (h0 : 0 < n) (hn : n ≤ 140737488355328)
    (h : ∀ G w', n ≤ G → G ≤ 9223372036854775807 → Grew w.heap.size 5 (.slice none 0 0) w ((List.replicate n (0 : UInt8)).map B) (.slice (some ⟨w.heap.size, 0, none⟩) n G) w' → wpList Try.prog ops Q rest (a.put o.dst (.slice (some ⟨w.heap.size, 0, none⟩) n G)) w') :
    wpList Try.prog ops Q (o :: rest) a w := by
  refine wpList_plain hgd fun K hK => ?_
  obtain ⟨i0, hi, hz0, hz1, hz2⟩ := info_parts Try.infoU8
  have hrz := Lib.run_append_nil_zeros (P := Try.prog) w 22 3 o.type 5 i0 (.int .u8 0) .i64 .i64 Try.underlying22 Try.underlying3 hi hz0 n h0 (by omega) (by omega) (by rw [hz2]; omega)
  have hge := grownCap_ge w n 0 5
  have hle := grownCap_le_maxLen w n 0 5 (by unfold maxLen; omega)
  generalize grownCap w n 0 5 = G at *
  have hg : Grew w.heap.size 5 (.slice none 0 0) w ((List.replicate n (0 : UInt8)).map B) (.slice (some ⟨w.heap.size, 0, none⟩) n G) (w.drew.alloc (.cells (Builtin.zeroCells (Value.int .u8 0).cells n ++ Builtin.zeroCells (Value.int .u8 0).cells (G - n)) 5)) := by
    refine ⟨⟨by simp, .inr ⟨w.heap.size, G, _, by simp, Nat.le_refl _, heap_alloc_new w.drew _, by simpa using hge, hle, ?_, ?_⟩⟩, ⟨rfl, rfl, rfl, by simp, fun k hk _ => heap_alloc_old w.drew _ hk⟩, .inr fun k hk => ?_⟩
    · rw [Array.size_append, size_zeroCells, size_zeroCells]
      show n * 1 + (G - n) * 1 = G * 1
      omega
    · have e : (Builtin.zeroCells (Value.int .u8 0).cells n).toList = (List.replicate n (0 : UInt8)).map B := by
        rw [List.map_replicate]
        apply List.ext_getElem (by simp [Builtin.zeroCells, Value.cells])
        intro i h1 h2
        simp [Builtin.zeroCells, Value.cells, B, Nat.mod_one]
      rw [Array.toList_append, e, List.length_map, List.length_replicate, Nat.mul_one]
      exact List.take_left' (by simp)
    · simp only [Value.ownBlock] at hk
      cases hk
      exact Nat.le_refl _
  unfold Oper.wp execOp
  simp only [ho, resolve, invoke, builtin, Sem.run_bind, Sem.run_pure, Result.andThen_ok, List.map_toArray, List.map_cons, List.map_nil, hs, hx, hrz]
  exact hK _ _ (h G _ hge (by unfold maxLen at hle; omega) hg)

theorem Grow_none (n : Nat) (w : World) (hn : n ≤ 140737488355328) :
    Calls Try.prog 28 #[.slice none 0 0, .int .i64 (n : Int)] w fun e w' => ∃ v', e = .returned v' ∧ Grew w.heap.size 5 (.slice none 0 0) w [] v' w' := by
  rcases Nat.eq_zero_or_pos n with h0 | h0
  · subst h0
    have hg := Grew.nil (base := w.heap.size) (e := 5) w
    have HG := Lib.hid hg
    clear hg
    go_enter Try.func28, Try.ntmps28
    go_wp2
    go_ret
    exact ⟨_, rfl, HG.out⟩
  · go_enter Try.func28, Try.ntmps28
    go_wp2_with (at_builtin; refine zeros_u8 rfl _ _ rfl rfl n rfl h0 hn ?_; intro G w2 hge hle hg2; have HG := Lib.hid hg2; clear hg2)
    go_ret
    exact ⟨_, rfl, HG.out.short⟩

/-- '[][]byte{a, b, ..}': a row of slices. -/
theorem RdL.lit {w : World} (e : TypeId) (vs : List Value) (ls : List (List UInt8)) (cs : Array Value) (n g : Nat) (hl : vs.length = ls.length) (h4 : vs.length ≤ 4096) (hc : cs = vs.toArray) (hn : n = vs.length) (hg : g = w.heap.size)
    (h : ∀ (i : Nat) u l, vs[i]? = some u → ls[i]? = some l → Rd w u (l.map B)) : RdL (w.alloc (.cells cs e)) (.slice (some ⟨g, 0, none⟩) n n) ls := by
  subst hc hn hg
  have h0 := Rd.lit w vs.toArray e (by unfold maxLen; simp; omega)
  refine ⟨vs, by simpa using h0, hl, fun i u l hu hl => (h i u l hu hl).ext ((Below.refl _ _).alloc (Nat.le_refl _) _)⟩

/-- How many bytes the first k of them have. -/
def lenTo (ls : List (List UInt8)) (k : Nat) : Nat := ((ls.take k).flatten).length
theorem lenTo_succ {ls : List (List UInt8)} {k : Nat} (h : k < ls.length) : lenTo ls (k + 1) = lenTo ls k + ls[k].length := by
  rw [lenTo, List.take_succ_eq_append_getElem h, List.flatten_append, List.length_append, List.flatten_singleton, lenTo]
theorem lenTo_all (ls : List (List UInt8)) : lenTo ls ls.length = ls.flatten.length := by rw [lenTo, List.take_length]
theorem lenTo_le (ls : List (List UInt8)) (k : Nat) : lenTo ls k ≤ ls.flatten.length := by
  have h := congrArg (fun l : List (List UInt8) => l.flatten.length) (List.take_append_drop k ls)
  simp only [List.flatten_append, List.length_append] at h
  rw [lenTo]
  omega

set_option maxHeartbeats 1000000 in
theorem Concat_any (ls : List (List UInt8)) (v : Value) (w : World) (hr : RdL w v ls) (hlen : ls.flatten.length ≤ 140737488355328) :
    Calls Try.prog 18 #[v] w fun e w' => ∃ v', e = .returned v' ∧ Grew w.heap.size 5 (.slice none 0 0) w (ls.flatten.map B) v' w' := by
  obtain ⟨A, c, rfl, hlc, hcm⟩ := hr.sliceN rfl
  unfold maxLen at hcm
  go_enter Try.func18, Try.ntmps18
  go_wp2
  go_loop [3, 5, 11] (fun n x i => ∃ k : Nat, k ≤ ls.length ∧ i = .int .i64 k ∧ n = .int .i64 (lenTo ls k)) (fun _ _ i => ls.length - (intOf i).toNat)
  case atStart => exact ⟨0, Nat.zero_le _, rfl, rfl⟩
  case round =>
    obtain ⟨k, hk, rfl, rfl⟩ := hrel
    by_cases hlt : k < ls.length
    · obtain ⟨b, o, rfl, hb, hc⟩ := hr.at (by omega)
      obtain ⟨u, hu, hru⟩ := hc k ls[k] (List.getElem?_eq_getElem hlt)
      obtain ⟨A1, c1, rfl, _, _⟩ := hru.sliceN (List.length_map _)
      have hs := lenTo_succ hlt
      have hle := lenTo_le ls (k + 1)
      have HS := Lib.hid hs
      have h1 : lenTo ls k + ls[k].length ≤ 140737488355328 := by omega
      generalize ls[k].length = m at *
      generalize hm0 : lenTo ls k = s at *
      clear hm0 hs hc
      go_wp2
      go_round
      case rel => exact ⟨k + 1, by omega, by go_num, by rw [HS.out]; go_num⟩
      case measure => simp [intOf]; omega
    · obtain rfl : k = ls.length := by omega
      have hs : lenTo ls ls.length = ls.flatten.length := lenTo_all ls
      have HL := Lib.hid hlen
      rw [← hs] at hlen
      generalize lenTo ls ls.length = N at *
      have HR := Lib.hid hr
      clear hr hs
      go_wp2_with fail
      refine (Grow_none N _ hlen).mono ?_
      rintro e w1 ⟨v1, rfl, hg1⟩
      go_wp2
      go_loopw [6, 8, 27] (fun v' x i wr => ∃ k : Nat, k ≤ ls.length ∧ i = .int .i64 k ∧ Grew w.heap.size 5 (.slice none 0 0) w (((ls.take k).flatten).map B) v' wr) (fun _ _ i _ => ls.length - (intOf i).toNat)
      case atStart => exact ⟨0, Nat.zero_le _, rfl, hg1⟩
      case round =>
        obtain ⟨k, hk, rfl, hg⟩ := hrel
        by_cases hlt : k < ls.length
        · have hr1 := HR.out.ext hg.ext
          obtain ⟨b, o, rfl, hb, hc⟩ := hr1.at (by omega)
          obtain ⟨u, hu, hru⟩ := hc k ls[k] (List.getElem?_eq_getElem hlt)
          have hs := lenTo_succ hlt
          have hle := lenTo_le ls (k + 1)
          have h2 : (((ls.take k).flatten).map B).length + ls[k].length ≤ 140737488355328 := by have := HL.out; rw [List.length_map]; unfold lenTo at *; omega
          have he : ((ls.take k).flatten).map B ++ ls[k].map B = ((ls.take (k + 1)).flatten).map B := by rw [List.take_succ_eq_append_getElem hlt, List.flatten_append, List.flatten_singleton, List.map_append]
          have HE := Lib.hid he
          have HU := Lib.hid hru
          have HG := Lib.hid hg
          obtain ⟨A1, c1, rfl, _, _⟩ := hru.sliceN (List.length_map _)
          clear he hru hs hle hc hr1 hg hg1
          go_wp2_with (at_builtin; refine app_u8 rfl _ _ rfl w.heap.size _ _ rfl HG.out.own _ _ rfl HU.out h2 HG.out.size ?_; intro v2 w2 hg2)
          have hg3 := HG.out.trans hg2
          rw [HE.out] at hg3
          have HG3 := Lib.hid hg3
          clear hg2 hg3
          go_roundw
          case rel => exact ⟨k + 1, by omega, by go_num, HG3.out⟩
          case measure => simp [intOf]; omega
        · obtain rfl : k = ls.length := by omega
          rw [List.take_length] at hg
          have HG := Lib.hid hg
          clear hg hg1
          go_wp2
          go_ret
          exact ⟨_, rfl, HG.out⟩

end Go.Proofs.Yticgpldpbbfklaa
