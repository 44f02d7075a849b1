/-
  No cell of these rows narrows 'for every input' (looked for: loops, veiled, ifaces, maps, wideKeys, modest, calm, conditions, laid).
  DERIVED. THE GIVEN ROWS OF THIS SEAT. 5 by the template 'for every input the law returns true; each argument reads behind the call as it read before'; 0 by the template 'total and deterministic' (their statements: YtkkmldoohokdfaaTotals.lean).
  GIVEN WITH THE SEED: the statements are not yours to turn. If you find one false, say at which input.
  Laid BY PROGRAM, IN A SANDBOX (cutbox-rows.mjs): the forced cells as the released guide's own fill.sh prints them over the translation ff8609ea8c32b618… (all of the seat's roots in one cut). By AI agents, Wed Nov 11 2026. No macro, syntax, notation, axiom, sorry.
-/
import Derived.Test.YtkkmldoohokdfaaChecked
import GoSem.Claim
import GoSem.ClaimJoined
import GoSem.ClaimMapViews
import Derived.JoinedTies
import Derived.KernelRfl
namespace Go.Proofs.Ytkkmldoohokdfaa
/- THE CELL 'sum', in the pinned program and in every row, IS THE sha256 OF THE DUMP (.gsa) THAT YtkkmldoohokdfaaProg.lean LOADS. Nothing in Lean hashes anything: it is a label: what it is worth is what the hold of that sum in a sandbox is worth. -/
noncomputable def Try.pinned : Pinned := { name := "ytkkmldoohokdfaa", sum := "ff8609ea8c32b618c9db29876f4e0a6e93353f875f2022dd5a3fc44be26634c8", checked := Try.checked }
namespace Rows
def none {H : Type} : Left H := { results := [], args := [] }

/-- 'dunnagelaw11.StoreActs': WHATEVER THE INPUT: true; the input reads as it did. -/
def storeActsSpec : ChangeSpec := { name := "storeActs", fn := fun _ => fun
  | [d1, d2] => { results := [.lit (.bool true)], args := [d1, d2] }
  | _ => none }
def storeActsRow : OpenClaim := { program := "ytkkmldoohokdfaa", sum := "ff8609ea8c32b618c9db29876f4e0a6e93353f875f2022dd5a3fc44be26634c8", func := "dunnage/dunnagelaw11.StoreActs", spec := "storeActs", inPlace := ["sync/atomic.AddInt64", "sync/atomic.LoadInt64"], apart := false }
def StoreActsSaid : Prop := storeActsRow.holds Try.pinned (OpenSpec.ofChange storeActsSpec)

/-- ITS FALSE NEIGHBOUR: 'it returns false'. Refute it at one input. -/
def storeActsWrong : ChangeSpec := { name := "storeActs", fn := fun _ => fun
  | [d1, d2] => { results := [.lit (.bool false)], args := [d1, d2] }
  | _ => none }
def StoreActsWrongFalsely : Prop := storeActsRow.holds Try.pinned (OpenSpec.ofChange storeActsWrong)

/-- 'dunnagelaw12.NetBytes': WHATEVER THE INPUT: true; the input reads as it did. -/
def netBytesSpec : ChangeSpec := { name := "netBytes", fn := fun _ => fun
  | [d1, d2] => { results := [.lit (.bool true)], args := [d1, d2] }
  | _ => none }
def netBytesRow : OpenClaim := { program := "ytkkmldoohokdfaa", sum := "ff8609ea8c32b618c9db29876f4e0a6e93353f875f2022dd5a3fc44be26634c8", func := "dunnage/dunnagelaw12.NetBytes", spec := "netBytes", inPlace := ["sync/atomic.AddInt64", "sync/atomic.LoadInt64"], unfollowed := true, recurses := true, apart := false }
def NetBytesSaid : Prop := netBytesRow.holds Try.pinned (OpenSpec.ofChange netBytesSpec)

/-- ITS FALSE NEIGHBOUR: 'it returns false'. Refute it at one input. -/
def netBytesWrong : ChangeSpec := { name := "netBytes", fn := fun _ => fun
  | [d1, d2] => { results := [.lit (.bool false)], args := [d1, d2] }
  | _ => none }
def NetBytesWrongFalsely : Prop := netBytesRow.holds Try.pinned (OpenSpec.ofChange netBytesWrong)

/-- 'dunnagelaw13.AgentTakes': WHATEVER THE INPUT: true; the input reads as it did. -/
def agentTakesSpec : ChangeSpec := { name := "agentTakes", fn := fun _ => fun
  | [d1, d2, d3, d4] => { results := [.lit (.bool true)], args := [d1, d2, d3, d4] }
  | _ => none }
def agentTakesRow : OpenClaim := { program := "ytkkmldoohokdfaa", sum := "ff8609ea8c32b618c9db29876f4e0a6e93353f875f2022dd5a3fc44be26634c8", func := "dunnage/dunnagelaw13.AgentTakes", spec := "agentTakes", inPlace := ["sync/atomic.AddInt64"], unfollowed := true, recurses := true, apart := false }
def AgentTakesSaid : Prop := agentTakesRow.holds Try.pinned (OpenSpec.ofChange agentTakesSpec)

/-- ITS FALSE NEIGHBOUR: 'it returns false'. Refute it at one input. -/
def agentTakesWrong : ChangeSpec := { name := "agentTakes", fn := fun _ => fun
  | [d1, d2, d3, d4] => { results := [.lit (.bool false)], args := [d1, d2, d3, d4] }
  | _ => none }
def AgentTakesWrongFalsely : Prop := agentTakesRow.holds Try.pinned (OpenSpec.ofChange agentTakesWrong)

/-- 'dunnagelaw13.AgentMay': WHATEVER THE INPUT: true; the input reads as it did. -/
def agentMaySpec : ChangeSpec := { name := "agentMay", fn := fun _ => fun
  | [d] => { results := [.lit (.bool true)], args := [d] }
  | _ => none }
def agentMayRow : OpenClaim := { program := "ytkkmldoohokdfaa", sum := "ff8609ea8c32b618c9db29876f4e0a6e93353f875f2022dd5a3fc44be26634c8", func := "dunnage/dunnagelaw13.AgentMay", spec := "agentMay", inPlace := ["sync/atomic.AddInt64"], unfollowed := true, recurses := true, apart := false }
def AgentMaySaid : Prop := agentMayRow.holds Try.pinned (OpenSpec.ofChange agentMaySpec)

/-- ITS FALSE NEIGHBOUR: 'it returns false'. Refute it at one input. -/
def agentMayWrong : ChangeSpec := { name := "agentMay", fn := fun _ => fun
  | [d] => { results := [.lit (.bool false)], args := [d] }
  | _ => none }
def AgentMayWrongFalsely : Prop := agentMayRow.holds Try.pinned (OpenSpec.ofChange agentMayWrong)

/-- 'dunnagelaw13.AgentRests': WHATEVER THE INPUT: true; the input reads as it did. -/
def agentRestsSpec : ChangeSpec := { name := "agentRests", fn := fun _ => fun
  | [d1, d2, d3] => { results := [.lit (.bool true)], args := [d1, d2, d3] }
  | _ => none }
def agentRestsRow : OpenClaim := { program := "ytkkmldoohokdfaa", sum := "ff8609ea8c32b618c9db29876f4e0a6e93353f875f2022dd5a3fc44be26634c8", func := "dunnage/dunnagelaw13.AgentRests", spec := "agentRests", inPlace := ["sync/atomic.AddInt64"], unfollowed := true, recurses := true, apart := false }
def AgentRestsSaid : Prop := agentRestsRow.holds Try.pinned (OpenSpec.ofChange agentRestsSpec)

/-- ITS FALSE NEIGHBOUR: 'it returns false'. Refute it at one input. -/
def agentRestsWrong : ChangeSpec := { name := "agentRests", fn := fun _ => fun
  | [d1, d2, d3] => { results := [.lit (.bool false)], args := [d1, d2, d3] }
  | _ => none }
def AgentRestsWrongFalsely : Prop := agentRestsRow.holds Try.pinned (OpenSpec.ofChange agentRestsWrong)

/- THE SECOND FORM. 'bulk': how many values and letters a reading holds, each counted each time it is reached (what is shared counts as often as it is met; a slice's spare places count too). A statement '..UptoSaid' is the law's where the arguments, and the package variables that the reading takes, are together of bulk at most 1048576: NARROWER than '..Said'. Prove '..Said' where nothing that the law and all that it calls make is longer than what came in: it says more and counts as full. Else prove '..UptoSaid'. A law counts once. -/
mutual
def uptoBulk {H : Type} : DataW H → Nat
  | .lit (.string bytes) => bytes.length + 1
  | .lit _ => 1
  | .nil => 1
  | .ptr d => uptoBulk d + 1
  | .slice elems spare => uptoBulkAll elems + uptoBulkAll spare + 1
  | .agg parts => uptoBulkAll parts + 1
  | .iface _ d => uptoBulk d + 1
  | .map entries => uptoBulkEntries entries + 1
  | .held _ => 1
def uptoBulkAll {H : Type} : List (DataW H) → Nat
  | [] => 0
  | d :: r => uptoBulk d + uptoBulkAll r
def uptoBulkEntries {H : Type} : List (Lit × DataW H) → Nat
  | [] => 0
  | x :: r => uptoBulkEntry x + uptoBulkEntries r
def uptoBulkEntry {H : Type} : Lit × DataW H → Nat
  | (.string bytes, d) => bytes.length + uptoBulk d + 1
  | (_, d) => uptoBulk d + 1
 end
def uptoSmall : (H : Type) → List (DataW H) → Bool := fun _ ds => decide (uptoBulkAll ds ≤ 1048576)
def OpenSpec.upto (s : _root_.Go.ChangeSpec) : _root_.Go.OpenSpec := { _root_.Go.OpenSpec.ofChange s with cond := some uptoSmall }

/-- 'dunnagelaw11.StoreActs', WHERE WHAT IT READS IS OF BULK AT MOST 1048576: true; the input reads as it did. -/
def storeActsUptoRow : OpenClaim := { program := "ytkkmldoohokdfaa", sum := "ff8609ea8c32b618c9db29876f4e0a6e93353f875f2022dd5a3fc44be26634c8", func := "dunnage/dunnagelaw11.StoreActs", spec := "storeActs", inPlace := ["sync/atomic.AddInt64", "sync/atomic.LoadInt64"], apart := false, narrowed := true }
def StoreActsUptoSaid : Prop := storeActsUptoRow.holds Try.pinned (OpenSpec.upto storeActsSpec)

/-- 'dunnagelaw12.NetBytes', WHERE WHAT IT READS IS OF BULK AT MOST 1048576: true; the input reads as it did. -/
def netBytesUptoRow : OpenClaim := { program := "ytkkmldoohokdfaa", sum := "ff8609ea8c32b618c9db29876f4e0a6e93353f875f2022dd5a3fc44be26634c8", func := "dunnage/dunnagelaw12.NetBytes", spec := "netBytes", inPlace := ["sync/atomic.AddInt64", "sync/atomic.LoadInt64"], unfollowed := true, recurses := true, apart := false, narrowed := true }
def NetBytesUptoSaid : Prop := netBytesUptoRow.holds Try.pinned (OpenSpec.upto netBytesSpec)

/-- 'dunnagelaw13.AgentTakes', WHERE WHAT IT READS IS OF BULK AT MOST 1048576: true; the input reads as it did. -/
def agentTakesUptoRow : OpenClaim := { program := "ytkkmldoohokdfaa", sum := "ff8609ea8c32b618c9db29876f4e0a6e93353f875f2022dd5a3fc44be26634c8", func := "dunnage/dunnagelaw13.AgentTakes", spec := "agentTakes", inPlace := ["sync/atomic.AddInt64"], unfollowed := true, recurses := true, apart := false, narrowed := true }
def AgentTakesUptoSaid : Prop := agentTakesUptoRow.holds Try.pinned (OpenSpec.upto agentTakesSpec)

/-- 'dunnagelaw13.AgentMay', WHERE WHAT IT READS IS OF BULK AT MOST 1048576: true; the input reads as it did. -/
def agentMayUptoRow : OpenClaim := { program := "ytkkmldoohokdfaa", sum := "ff8609ea8c32b618c9db29876f4e0a6e93353f875f2022dd5a3fc44be26634c8", func := "dunnage/dunnagelaw13.AgentMay", spec := "agentMay", inPlace := ["sync/atomic.AddInt64"], unfollowed := true, recurses := true, apart := false, narrowed := true }
def AgentMayUptoSaid : Prop := agentMayUptoRow.holds Try.pinned (OpenSpec.upto agentMaySpec)

/-- 'dunnagelaw13.AgentRests', WHERE WHAT IT READS IS OF BULK AT MOST 1048576: true; the input reads as it did. -/
def agentRestsUptoRow : OpenClaim := { program := "ytkkmldoohokdfaa", sum := "ff8609ea8c32b618c9db29876f4e0a6e93353f875f2022dd5a3fc44be26634c8", func := "dunnage/dunnagelaw13.AgentRests", spec := "agentRests", inPlace := ["sync/atomic.AddInt64"], unfollowed := true, recurses := true, apart := false, narrowed := true }
def AgentRestsUptoSaid : Prop := agentRestsUptoRow.holds Try.pinned (OpenSpec.upto agentRestsSpec)

end Rows
end Go.Proofs.Ytkkmldoohokdfaa
