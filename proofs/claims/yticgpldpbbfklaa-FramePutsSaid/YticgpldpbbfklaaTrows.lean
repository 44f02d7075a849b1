/- Slices of slices of bytes in this translation's numbers: what one element takes; the law at an append. -/
import Derived.Test.YticgpldpbbfklaaRows
import Derived.Test.YticgpldpbbfklaaMem4
namespace Go.Proofs.Yticgpldpbbfklaa
open Go.RowKit

theorem Try.infoRow : (Try.prog.info? 22).map (fun i => (i.zero, i.size, i.bytes)) = some (some (.slice none 0 0), 1, 24) := by kernel_rfl

/-- 'l = append(l, p)', l a row of slices of the call's own, p what lies elsewhere. -/
theorem push_row {w0 w : World} {ops : Array Oper} {rest : List Oper} {o : Oper} {a : Act} {Q : Exit → Act → World → Prop} {gx : Nat} (hgd : o.guard = none) (s x : Operand)
    (ho : o.op = .call { callee := .builtin .append, args := #[s, x], argTypes := #[29, 29] })
    (v : Value) (ls : List (List UInt8)) (hown : OwnL w0 22 v w ls) (A : Option Addr) (n c : Nat) (l : List UInt8) (hu : RdN w v.ownBlock (.slice A n c) (l.map B)) (hs : a.eval s = v)
    (hx : a.eval x = .slice (some ⟨gx, 0, none⟩) 1 1) (hlen : ls.length < 1000000000000)
    (h : ∀ v' w', OwnL w0 22 v' w' (ls ++ [l]) → wpList Try.prog ops Q rest (a.put o.dst v') w') (hgx : gx = w.heap.size := by simp) : wpList Try.prog ops Q (o :: rest) a (w.alloc (.cells #[.slice A n c] 22)) := by
  subst hgx
  obtain ⟨vs, hg, hl⟩ := hown.vs
  exact wpList_push hgd s x 29 ho w0.heap.size 22 (.slice none 0 0) 24 Try.underlying29 Try.infoRow rfl v vs hs hg.own _ rfl hx (by unfold maxLen; omega) (by omega) (hg.size)
    (fun v' w' hg' => h v' w' (hown.snoc hu hg hg'))

end Go.Proofs.Yticgpldpbbfklaa
