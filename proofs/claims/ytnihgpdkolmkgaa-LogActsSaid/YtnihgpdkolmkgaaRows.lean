/-
  No cell of these rows narrows 'for every input' (looked for: loops, veiled, ifaces, maps, wideKeys, modest, calm, conditions, laid).
  DERIVED. THE GIVEN ROWS OF THIS SEAT. 5 by the template 'for every input the law returns true; each argument reads behind the call as it read before'; 0 by the template 'total and deterministic' (their statements: YtnihgpdkolmkgaaTotals.lean).
  GIVEN WITH THE SEED: the statements are not yours to turn. If you find one false, say at which input.
  Laid BY PROGRAM, IN A SANDBOX (cutbox-rows.mjs): the forced cells as the released guide's own fill.sh prints them over the translation 7ff6f4124dd28193… (all of the seat's roots in one cut). By AI agents, Wed Nov 11 2026. No macro, syntax, notation, axiom, sorry.
-/
import Derived.Test.YtnihgpdkolmkgaaChecked
import GoSem.Claim
import GoSem.ClaimJoined
import GoSem.ClaimMapViews
import Derived.JoinedTies
import Derived.KernelRfl
namespace Go.Proofs.Ytnihgpdkolmkgaa
/- THE CELL 'sum', in the pinned program and in every row, IS THE sha256 OF THE DUMP (.gsa) THAT YtnihgpdkolmkgaaProg.lean LOADS. Nothing in Lean hashes anything: it is a label: what it is worth is what the hold of that sum in a sandbox is worth. -/
noncomputable def Try.pinned : Pinned := { name := "ytnihgpdkolmkgaa", sum := "7ff6f4124dd28193ecb9a8d3c48f74ae559eabb408a94c7057fbc6769a2837dc", checked := Try.checked }
namespace Rows
def none {H : Type} : Left H := { results := [], args := [] }

/-- 'dunnagelaw05.LogActs': WHATEVER THE INPUT: true; the input reads as it did. -/
def logActsSpec : ChangeSpec := { name := "logActs", fn := fun _ => fun
  | [d1, d2, d3, d4] => { results := [.lit (.bool true)], args := [d1, d2, d3, d4] }
  | _ => none }
def logActsRow : OpenClaim := { program := "ytnihgpdkolmkgaa", sum := "7ff6f4124dd28193ecb9a8d3c48f74ae559eabb408a94c7057fbc6769a2837dc", func := "dunnage/dunnagelaw05.LogActs", spec := "logActs", inPlace := ["sync/atomic.AddInt64"], apart := false }
def LogActsSaid : Prop := logActsRow.holds Try.pinned (OpenSpec.ofChange logActsSpec)

/-- ITS FALSE NEIGHBOUR: 'it returns false'. Refute it at one input. -/
def logActsWrong : ChangeSpec := { name := "logActs", fn := fun _ => fun
  | [d1, d2, d3, d4] => { results := [.lit (.bool false)], args := [d1, d2, d3, d4] }
  | _ => none }
def LogActsWrongFalsely : Prop := logActsRow.holds Try.pinned (OpenSpec.ofChange logActsWrong)

/-- 'dunnagelaw05.LogTorn': WHATEVER THE INPUT: true; the input reads as it did. -/
def logTornSpec : ChangeSpec := { name := "logTorn", fn := fun _ => fun
  | [d] => { results := [.lit (.bool true)], args := [d] }
  | _ => none }
def logTornRow : OpenClaim := { program := "ytnihgpdkolmkgaa", sum := "7ff6f4124dd28193ecb9a8d3c48f74ae559eabb408a94c7057fbc6769a2837dc", func := "dunnage/dunnagelaw05.LogTorn", spec := "logTorn", inPlace := ["sync/atomic.AddInt64"], apart := false }
def LogTornSaid : Prop := logTornRow.holds Try.pinned (OpenSpec.ofChange logTornSpec)

/-- ITS FALSE NEIGHBOUR: 'it returns false'. Refute it at one input. -/
def logTornWrong : ChangeSpec := { name := "logTorn", fn := fun _ => fun
  | [d] => { results := [.lit (.bool false)], args := [d] }
  | _ => none }
def LogTornWrongFalsely : Prop := logTornRow.holds Try.pinned (OpenSpec.ofChange logTornWrong)

/-- 'dunnagelaw05.LogRooms': WHATEVER THE INPUT: true; the input reads as it did. -/
def logRoomsSpec : ChangeSpec := { name := "logRooms", fn := fun _ => fun
  | [d1, d2] => { results := [.lit (.bool true)], args := [d1, d2] }
  | _ => none }
def logRoomsRow : OpenClaim := { program := "ytnihgpdkolmkgaa", sum := "7ff6f4124dd28193ecb9a8d3c48f74ae559eabb408a94c7057fbc6769a2837dc", func := "dunnage/dunnagelaw05.LogRooms", spec := "logRooms", inPlace := ["sync/atomic.AddInt64"], apart := false }
def LogRoomsSaid : Prop := logRoomsRow.holds Try.pinned (OpenSpec.ofChange logRoomsSpec)

/-- ITS FALSE NEIGHBOUR: 'it returns false'. Refute it at one input. -/
def logRoomsWrong : ChangeSpec := { name := "logRooms", fn := fun _ => fun
  | [d1, d2] => { results := [.lit (.bool false)], args := [d1, d2] }
  | _ => none }
def LogRoomsWrongFalsely : Prop := logRoomsRow.holds Try.pinned (OpenSpec.ofChange logRoomsWrong)

/-- 'dunnagelaw05.LogClean': WHATEVER THE INPUT: true; the input reads as it did. -/
def logCleanSpec : ChangeSpec := { name := "logClean", fn := fun _ => fun
  | [d] => { results := [.lit (.bool true)], args := [d] }
  | _ => none }
def logCleanRow : OpenClaim := { program := "ytnihgpdkolmkgaa", sum := "7ff6f4124dd28193ecb9a8d3c48f74ae559eabb408a94c7057fbc6769a2837dc", func := "dunnage/dunnagelaw05.LogClean", spec := "logClean", inPlace := ["sync/atomic.AddInt64"], apart := false }
def LogCleanSaid : Prop := logCleanRow.holds Try.pinned (OpenSpec.ofChange logCleanSpec)

/-- ITS FALSE NEIGHBOUR: 'it returns false'. Refute it at one input. -/
def logCleanWrong : ChangeSpec := { name := "logClean", fn := fun _ => fun
  | [d] => { results := [.lit (.bool false)], args := [d] }
  | _ => none }
def LogCleanWrongFalsely : Prop := logCleanRow.holds Try.pinned (OpenSpec.ofChange logCleanWrong)

/-- 'dunnagelaw05.LogSame': WHATEVER THE INPUT: true; the input reads as it did. -/
def logSameSpec : ChangeSpec := { name := "logSame", fn := fun _ => fun
  | [d1, d2] => { results := [.lit (.bool true)], args := [d1, d2] }
  | _ => none }
def logSameRow : OpenClaim := { program := "ytnihgpdkolmkgaa", sum := "7ff6f4124dd28193ecb9a8d3c48f74ae559eabb408a94c7057fbc6769a2837dc", func := "dunnage/dunnagelaw05.LogSame", spec := "logSame", inPlace := ["sync/atomic.AddInt64"], apart := false }
def LogSameSaid : Prop := logSameRow.holds Try.pinned (OpenSpec.ofChange logSameSpec)

/-- ITS FALSE NEIGHBOUR: 'it returns false'. Refute it at one input. -/
def logSameWrong : ChangeSpec := { name := "logSame", fn := fun _ => fun
  | [d1, d2] => { results := [.lit (.bool false)], args := [d1, d2] }
  | _ => none }
def LogSameWrongFalsely : Prop := logSameRow.holds Try.pinned (OpenSpec.ofChange logSameWrong)

/- THE SECOND FORM. 'bulk': how many values and letters a reading holds, each counted each time it is reached (what is shared counts as often as it is met; a slice's spare places count too). A statement '..UptoSaid' is the law's where the arguments, and the package variables that the reading takes, are together of bulk at most 1048576: NARROWER than '..Said'. Prove '..Said' where nothing that the law and all that it calls make is longer than what came in: it says more and counts as full. Else prove '..UptoSaid'. A law counts once. -/
mutual
def uptoBulk {H : Type} : DataW H → Nat
  | .lit (.string bytes) => bytes.length + 1
  | .lit _ => 1
  | .nil => 1
  | .ptr d => uptoBulk d + 1
  | .slice elems spare => uptoBulkAll elems + uptoBulkAll spare + 1
  | .agg parts => uptoBulkAll parts + 1
  | .iface _ d => uptoBulk d + 1
  | .map entries => uptoBulkEntries entries + 1
  | .held _ => 1
def uptoBulkAll {H : Type} : List (DataW H) → Nat
  | [] => 0
  | d :: r => uptoBulk d + uptoBulkAll r
def uptoBulkEntries {H : Type} : List (Lit × DataW H) → Nat
  | [] => 0
  | x :: r => uptoBulkEntry x + uptoBulkEntries r
def uptoBulkEntry {H : Type} : Lit × DataW H → Nat
  | (.string bytes, d) => bytes.length + uptoBulk d + 1
  | (_, d) => uptoBulk d + 1
 end
def uptoSmall : (H : Type) → List (DataW H) → Bool := fun _ ds => decide (uptoBulkAll ds ≤ 1048576)
def OpenSpec.upto (s : _root_.Go.ChangeSpec) : _root_.Go.OpenSpec := { _root_.Go.OpenSpec.ofChange s with cond := some uptoSmall }

/-- 'dunnagelaw05.LogActs', WHERE WHAT IT READS IS OF BULK AT MOST 1048576: true; the input reads as it did. -/
def logActsUptoRow : OpenClaim := { program := "ytnihgpdkolmkgaa", sum := "7ff6f4124dd28193ecb9a8d3c48f74ae559eabb408a94c7057fbc6769a2837dc", func := "dunnage/dunnagelaw05.LogActs", spec := "logActs", inPlace := ["sync/atomic.AddInt64"], apart := false, narrowed := true }
def LogActsUptoSaid : Prop := logActsUptoRow.holds Try.pinned (OpenSpec.upto logActsSpec)

/-- 'dunnagelaw05.LogTorn', WHERE WHAT IT READS IS OF BULK AT MOST 1048576: true; the input reads as it did. -/
def logTornUptoRow : OpenClaim := { program := "ytnihgpdkolmkgaa", sum := "7ff6f4124dd28193ecb9a8d3c48f74ae559eabb408a94c7057fbc6769a2837dc", func := "dunnage/dunnagelaw05.LogTorn", spec := "logTorn", inPlace := ["sync/atomic.AddInt64"], apart := false, narrowed := true }
def LogTornUptoSaid : Prop := logTornUptoRow.holds Try.pinned (OpenSpec.upto logTornSpec)

/-- 'dunnagelaw05.LogRooms', WHERE WHAT IT READS IS OF BULK AT MOST 1048576: true; the input reads as it did. -/
def logRoomsUptoRow : OpenClaim := { program := "ytnihgpdkolmkgaa", sum := "7ff6f4124dd28193ecb9a8d3c48f74ae559eabb408a94c7057fbc6769a2837dc", func := "dunnage/dunnagelaw05.LogRooms", spec := "logRooms", inPlace := ["sync/atomic.AddInt64"], apart := false, narrowed := true }
def LogRoomsUptoSaid : Prop := logRoomsUptoRow.holds Try.pinned (OpenSpec.upto logRoomsSpec)

/-- 'dunnagelaw05.LogClean', WHERE WHAT IT READS IS OF BULK AT MOST 1048576: true; the input reads as it did. -/
def logCleanUptoRow : OpenClaim := { program := "ytnihgpdkolmkgaa", sum := "7ff6f4124dd28193ecb9a8d3c48f74ae559eabb408a94c7057fbc6769a2837dc", func := "dunnage/dunnagelaw05.LogClean", spec := "logClean", inPlace := ["sync/atomic.AddInt64"], apart := false, narrowed := true }
def LogCleanUptoSaid : Prop := logCleanUptoRow.holds Try.pinned (OpenSpec.upto logCleanSpec)

/-- 'dunnagelaw05.LogSame', WHERE WHAT IT READS IS OF BULK AT MOST 1048576: true; the input reads as it did. -/
def logSameUptoRow : OpenClaim := { program := "ytnihgpdkolmkgaa", sum := "7ff6f4124dd28193ecb9a8d3c48f74ae559eabb408a94c7057fbc6769a2837dc", func := "dunnage/dunnagelaw05.LogSame", spec := "logSame", inPlace := ["sync/atomic.AddInt64"], apart := false, narrowed := true }
def LogSameUptoSaid : Prop := logSameUptoRow.holds Try.pinned (OpenSpec.upto logSameSpec)

end Rows
end Go.Proofs.Ytnihgpdkolmkgaa
