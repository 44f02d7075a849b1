/- Laws at an append inside a statement whose order is open. -/
import Derived.Test.YtkoppdhmbhgnfaaTu8b
import Derived.Deep.RegionLaw
namespace Go.Proofs.Ytkoppdhmbhgnfaa
open Go.RowKit

theorem stepG_u8 {w : World} {ops : Array Oper} {o : Oper} {a : Act} {K : Act → World → Prop} {Q : Exit → Act → World → Prop} {E : Prop} (s x : Operand)
    (hop : o.op = .call { callee := .builtin .append, args := #[s, x], argTypes := #[30, 30] }) (hw : Region.wanted o (yielded ops a.tmps) = true)
    (b off n c : Nat) (xs : List UInt8) (hs : a.eval s = .slice (some ⟨b, off, none⟩) n c) (hv : Rd w (.slice (some ⟨b, off, none⟩) n c) (xs.map B)) (u : Value) (ys : List UInt8) (hx : a.eval x = u) (hr : Rd w u (ys.map B))
    (hroom : c < n + ys.length) (hbytes : xs.length + ys.length ≤ 140737488355328)
    (h : ∀ v' w', Grew w.heap.size 5 (.slice none 0 0) w ((xs ++ ys).map B) v' w' → K (a.put o.dst v') w') :
    if Region.wanted o (yielded ops a.tmps) = true then Oper.wp Try.prog o a w K Q else E := by
  rw [if_pos hw]
  obtain ⟨i0, hi, hz0, hz1, hz2⟩ := info_parts Try.infoU8
  obtain ⟨v', w', hrun, h2⟩ := run_append_rd_grows (P := Try.prog) w 30 o.type 5 i0 (.int .u8 0) Try.underlying30 hi hz0 hz1 hz2 rfl b off n c _ hv u _ hr (by rw [List.length_map]; exact hroom) (by simp; omega)
  unfold Oper.wp execOp
  simp only [hop, resolve, invoke, builtin, Sem.run_bind, Sem.run_pure, Result.andThen_ok, List.map_toArray, List.map_cons, List.map_nil, hs, hx, hrun]
  exact h v' w' (by rw [List.map_append]; exact h2)

end Go.Proofs.Ytkoppdhmbhgnfaa
