/- Strings in this translation's numbers: a string appended to bytes; bytes made into a string. -/
import Derived.Test.YticgpldpbbfklaaTu8
namespace Go.Proofs.Yticgpldpbbfklaa
open Go.RowKit

/-- 'b = append(b, s...)', s a string. -/
theorem app_str {w : World} {ops : Array Oper} {rest : List Oper} {o : Oper} {a : Act} {Q : Exit → Act → World → Prop} (hgd : o.guard = none) (s x : Operand)
    (ho : o.op = .call { callee := .builtin .append, args := #[s, x], argTypes := #[22, 9] })
    (base : Nat) (v : Value) (xs : List Value) (hs : a.eval s = v) (hown : w.ownsRow base 5 1 v xs.length xs) (str : ByteArray) (hx : a.eval x = .string str)
    (hbytes : xs.length + str.size ≤ 140737488355328) (hbase : base ≤ w.heap.size)
    (h : ∀ v' w', Grew base 5 v w (xs ++ str.data.toList.map B) v' w' → wpList Try.prog ops Q rest (a.put o.dst v') w') : wpList Try.prog ops Q (o :: rest) a w :=
  wpList_appendStr hgd s x 22 9 ho base 5 Try.underlying22 Try.underlying9 Try.infoU8 v xs hs hown str hx hbytes hbase h

theorem conv_u8 {w : World} {ops : Array Oper} {rest : List Oper} {o : Oper} {a : Act} {Q : Exit → Act → World → Prop} (hgd : o.guard = none) (x : Operand)
    (ho : o.op = .convert 22 9 x) (u : Value) (ys : List UInt8) (hx : a.eval x = u) (hr : Rd w u (ys.map B))
    (h : wpList Try.prog ops Q rest (a.put o.dst (.string ⟨ys.toArray⟩)) w) : wpList Try.prog ops Q (o :: rest) a w :=
  wpList_conv hgd x 22 9 5 ho Try.underlying22 Try.underlying5 Try.underlying9 u ys hx hr h

end Go.Proofs.Yticgpldpbbfklaa
