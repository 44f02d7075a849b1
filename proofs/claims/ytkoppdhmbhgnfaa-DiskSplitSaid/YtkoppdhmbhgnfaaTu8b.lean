/- Slices of bytes in this translation's numbers: the law at an append that makes a new row. -/
import Derived.Test.YtkoppdhmbhgnfaaTu8
import Derived.Test.YtkoppdhmbhgnfaaMem2
import Derived.OwnWalk
import Derived.Laws.OwnMore
namespace Go.Proofs.Ytkoppdhmbhgnfaa
open Go.RowKit

theorem appG_u8 {w : World} {ops : Array Oper} {rest : List Oper} {op : Oper} {a : Act} {Q : Exit → Act → World → Prop} (hgd : op.guard = none) (s x : Operand)
    (ho : op.op = .call { callee := .builtin .append, args := #[s, x], argTypes := #[30, 30] })
    (b o n c : Nat) (xs : List UInt8) (hs : a.eval s = .slice (some ⟨b, o, none⟩) n c) (hv : Rd w (.slice (some ⟨b, o, none⟩) n c) (xs.map B)) (u : Value) (ys : List UInt8) (hx : a.eval x = u) (hr : Rd w u (ys.map B))
    (hroom : c < n + ys.length) (hbytes : xs.length + ys.length ≤ 140737488355328)
    (h : ∀ v' w', Grew w.heap.size 5 (.slice none 0 0) w ((xs ++ ys).map B) v' w' → wpList Try.prog ops Q rest (a.put op.dst v') w') : wpList Try.prog ops Q (op :: rest) a w :=
  wpList_appendGrows hgd s x 30 ho 5 (.int .u8 0) Try.underlying30 Try.infoU8 rfl b o n c _ hs hv u _ hx hr (by rw [List.length_map]; exact hroom) (by simp; omega)
    (fun v' w' hg => h v' w' (by rw [List.map_append]; exact hg))

/-- 'make([]byte, n)': a row of noughts. -/
theorem make_u8 {w : World} {ops : Array Oper} {rest : List Oper} {op : Oper} {a : Act} {Q : Exit → Act → World → Prop} (hgd : op.guard = none) (l c : Operand)
    (ho : op.op = .makeSlice 30 l c) (n : Nat) (hl : a.eval l = .int .i64 (n : Int)) (hc : a.eval c = .int .i64 (n : Int)) (hn : n ≤ 140737488355328)
    (h : ∀ g w', w.heap.size ≤ g → Grew w.heap.size 5 (.slice none 0 0) w ((List.replicate n (0 : UInt8)).map B) (.slice (some ⟨g, 0, none⟩) n n) w' → wpList Try.prog ops Q rest (a.put op.dst (.slice (some ⟨g, 0, none⟩) n n)) w') :
    wpList Try.prog ops Q (op :: rest) a w := by
  obtain ⟨i0, hi, hz0, hz1, hz2⟩ := info_parts Try.infoU8
  refine wpList_make_full w hgd l c 30 ho w.heap.size 5 i0 (.int .u8 0) 1 Try.underlying30 hi hz0 hz1 .i64 .i64 _ _ n hl hc rfl rfl (by rw [hz2]; omega) (by unfold maxLen; omega) (Nat.le_refl _) ?_
  intro w' hown hg
  refine h _ w' (Nat.le_refl _) ⟨?_, hg, .inr fun k hk => ?_⟩
  · have e : (madeCells (Value.int IntKind.u8 0).cells (n * 1)).toList = (List.replicate n (0 : UInt8)).map B := by
      rw [Nat.mul_one, List.map_replicate]
      exact toList_madeCells_one _ _
    rw [e] at hown
    rw [List.length_map, List.length_replicate]
    exact hown
  · simp only [Value.ownBlock] at hk
    cases hk
    exact Nat.le_refl _

end Go.Proofs.Ytkoppdhmbhgnfaa
