/- Layer 1: what its lists and what is read at a place come to, as values. -/
import Derived.Test.YticgpldpbbfklaaRows
import Derived.Test.YticgpldpbbfklaaMem
import Derived.Test.YticgpldpbbfklaaP01
namespace Go.Proofs.Yticgpldpbbfklaa
open Go.RowKit

/-- What GetNum answers at a place from 0 on. -/
def numAt (bs : List UInt8) (p : Nat) : Value := match getN (bs.drop p) with
  | some (n, j) => .tuple #[.int .i64 (n : Int), .int .i64 ((p + j : Nat) : Int), .bool true]
  | none => .tuple #[.int .i64 0, .int .i64 0, .bool false]

def ListPost (l : List Int) (w : World) (e : Ending) (w' : World) : Prop :=
  (∃ v, e = .returned v ∧ l.all isNumB = true ∧ Grew w.heap.size 5 (.slice none 0 0) w ((listB l).map B) v w') ∨ (e = .returned (.slice none 0 0) ∧ l.all isNumB = false ∧ Ext w w')

/-- What GetList answers. -/
def GLPost (r : Option (List Nat × Nat)) (w : World) (e : Ending) (w' : World) : Prop := match r with
  | some (l, q) => ∃ v', e = .returned (.tuple #[v', .int .i64 (q : Int), .bool true]) ∧ w'.ownsRow w.heap.size 3 1 v' l.length (l.map fun (n : Nat) => Value.int .i64 n) ∧ Ext w w'
  | none => e = .returned (.tuple #[.slice none 0 0, .int .i64 0, .bool false]) ∧ Ext w w'

end Go.Proofs.Yticgpldpbbfklaa
