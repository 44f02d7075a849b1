/- Slices of bytes in this translation's numbers: what one element takes; the laws at an append. -/
import Derived.Test.YtkoppdhmbhgnfaaRows
import Derived.Test.YtkoppdhmbhgnfaaMem
namespace Go.Proofs.Ytkoppdhmbhgnfaa
open Go.RowKit

theorem Try.infoU8 : (Try.prog.info? 5).map (fun i => (i.zero, i.size, i.bytes)) = some (some (.int .u8 0), 1, 1) := by kernel_rfl

/-- 'b = append(b, x)', b a row of bytes of the call's own. -/
theorem push_u8 {w : World} {ops : Array Oper} {rest : List Oper} {o : Oper} {a : Act} {Q : Exit → Act → World → Prop} {gx : Nat} (hgd : o.guard = none) (s x : Operand)
    (ho : o.op = .call { callee := .builtin .append, args := #[s, x], argTypes := #[30, 30] })
    (base : Nat) (v : Value) (xs : List Value) (hs : a.eval s = v) (hown : w.ownsRow base 5 1 v xs.length xs) (u : Value) (h1 : u.oneCell' = true)
    (hx : a.eval x = .slice (some ⟨gx, 0, none⟩) 1 1) (hlen : xs.length < 140737488355328) (hbase : base ≤ w.heap.size)
    (h : ∀ v' w', Grew base 5 v w (xs ++ [u]) v' w' → wpList Try.prog ops Q rest (a.put o.dst v') w') (hgx : gx = w.heap.size := by simp) : wpList Try.prog ops Q (o :: rest) a (w.alloc (.cells #[u] 5)) := by
  subst hgx
  exact wpList_push hgd s x 30 ho base 5 (.int .u8 0) 1 Try.underlying30 Try.infoU8 rfl v xs hs hown u h1 hx (by unfold maxLen; omega) (by omega) hbase h

/-- 'b = append(b, c...)', c what reads as a list of bytes. -/
theorem app_u8 {w : World} {ops : Array Oper} {rest : List Oper} {o : Oper} {a : Act} {Q : Exit → Act → World → Prop} (hgd : o.guard = none) (s x : Operand)
    (ho : o.op = .call { callee := .builtin .append, args := #[s, x], argTypes := #[30, 30] })
    (base : Nat) (v : Value) (xs : List Value) (hs : a.eval s = v) (hown : w.ownsRow base 5 1 v xs.length xs) (u : Value) (ys : List UInt8) (hx : a.eval x = u) (hr : Rd w u (ys.map B))
    (hbytes : xs.length + ys.length ≤ 140737488355328) (hbase : base ≤ w.heap.size)
    (h : ∀ v' w', Grew base 5 v w (xs ++ ys.map B) v' w' → wpList Try.prog ops Q rest (a.put o.dst v') w') : wpList Try.prog ops Q (o :: rest) a w :=
  wpList_appendRd hgd s x 30 ho base 5 (.int .u8 0) 1 Try.underlying30 Try.infoU8 rfl v xs hs hown u _ hx hr (bytes_oneCell ys) (by unfold maxLen; simp; omega) (by simp; omega) hbase h

end Go.Proofs.Ytkoppdhmbhgnfaa
