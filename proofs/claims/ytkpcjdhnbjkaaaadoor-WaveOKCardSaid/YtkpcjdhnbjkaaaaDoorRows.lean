/-
  NARROWER THAN 'FOR EVERY INPUT', by the rows' own cells (each row's printed sentence says how): WaveOK: laid · WaveWidth: laid.
  DERIVED. THE GIVEN ROWS OF THIS SEAT. 2 by the template 'for every input the law returns true; each argument reads behind the call as it read before'; 0 by the template 'total and deterministic' (their statements: YtkpcjdhnbjkaaaaDoorTotals.lean).
  GIVEN WITH THE SEED: the statements are not yours to turn. If you find one false, say at which input.
  Laid BY PROGRAM, IN A SANDBOX (cutbox-rows.mjs): the forced cells as the released guide's own fill.sh prints them over the translation ddfd8b1b22895ce1… (all of the seat's roots in one cut). By AI agents, Wed Nov 11 2026. No macro, syntax, notation, axiom, sorry.
-/
import Derived.Test.YtkpcjdhnbjkaaaaDoorChecked
import GoSem.Claim
import GoSem.ClaimJoined
import GoSem.ClaimMapViews
import Derived.JoinedTies
import Derived.KernelRfl
namespace Go.Proofs.YtkpcjdhnbjkaaaaDoor
/- THE CELL 'sum', in the pinned program and in every row, IS THE sha256 OF THE DUMP (.gsa) THAT YtkpcjdhnbjkaaaaDoorProg.lean LOADS. Nothing in Lean hashes anything: it is a label: what it is worth is what the hold of that sum in a sandbox is worth. -/
noncomputable def Tryd.pinned : Pinned := { name := "ytkpcjdhnbjkaaaadoor", sum := "ddfd8b1b22895ce13fec32e9dc91a9cf48cc651523a955e1829c8183465e3b31", checked := Tryd.checked }
namespace Rows
def none {H : Type} : Left H := { results := [], args := [] }

/- WHAT THE LISTED PACKAGE-LEVEL VARIABLES READ AS WHEN THE CALL BEGINS. Each datum BY PROGRAM (the guide's laid-datum.mjs) off the statement by which the dump's own 'gosem.cut.vars' lays the variable. In a bare row this is a premise. The card (YtkpcjdhnbjkaaaaDoorCards.lean) ties it to the program's text. -/
def laid_dunnage_ops_counts {H : Type} : DataW H := .agg [.lit (.int .i64 0), .lit (.int .i64 6), .lit (.int .i64 1), .lit (.int .i64 1), .lit (.int .i64 0), .lit (.int .i64 0), .lit (.int .i64 0), .lit (.int .i64 1), .lit (.int .i64 2), .lit (.int .i64 2), .lit (.int .i64 2), .lit (.int .i64 1), .lit (.int .i64 2), .lit (.int .i64 2), .lit (.int .i64 1), .lit (.int .i64 1), .lit (.int .i64 1), .lit (.int .i64 1), .lit (.int .i64 1), .lit (.int .i64 2), .lit (.int .i64 2), .lit (.int .i64 0)]

/-- 'dunnagelaw17.WaveOK': WHATEVER THE INPUT: true; the input reads as it did. -/
def waveOKSpec : ChangeSpec := { name := "waveOK", fn := fun _ => fun
  | [d1, d2, d3] => { results := [.lit (.bool true)], args := [d1, d2, d3] }
  | _ => none }
def waveOKRow : OpenClaim := { program := "ytkpcjdhnbjkaaaadoor", sum := "ddfd8b1b22895ce13fec32e9dc91a9cf48cc651523a955e1829c8183465e3b31", func := "dunnage/dunnagelaw17.WaveOK", spec := "waveOK", unfollowed := true, recurses := true, named := ["dunnage/ops.counts"], apart := false, laid := [("dunnage/ops.counts", laid_dunnage_ops_counts)] }
def WaveOKSaid : Prop := waveOKRow.holds Tryd.pinned (OpenSpec.ofChange waveOKSpec)

/-- ITS FALSE NEIGHBOUR: 'it returns false'. Refute it at one input. -/
def waveOKWrong : ChangeSpec := { name := "waveOK", fn := fun _ => fun
  | [d1, d2, d3] => { results := [.lit (.bool false)], args := [d1, d2, d3] }
  | _ => none }
def WaveOKWrongFalsely : Prop := waveOKRow.holds Tryd.pinned (OpenSpec.ofChange waveOKWrong)

/-- 'dunnagelaw17.WaveWidth': WHATEVER THE INPUT: true; the input reads as it did. -/
def waveWidthSpec : ChangeSpec := { name := "waveWidth", fn := fun _ => fun
  | [d1, d2, d3] => { results := [.lit (.bool true)], args := [d1, d2, d3] }
  | _ => none }
def waveWidthRow : OpenClaim := { program := "ytkpcjdhnbjkaaaadoor", sum := "ddfd8b1b22895ce13fec32e9dc91a9cf48cc651523a955e1829c8183465e3b31", func := "dunnage/dunnagelaw17.WaveWidth", spec := "waveWidth", unfollowed := true, recurses := true, named := ["dunnage/ops.counts"], apart := false, laid := [("dunnage/ops.counts", laid_dunnage_ops_counts)] }
def WaveWidthSaid : Prop := waveWidthRow.holds Tryd.pinned (OpenSpec.ofChange waveWidthSpec)

/-- ITS FALSE NEIGHBOUR: 'it returns false'. Refute it at one input. -/
def waveWidthWrong : ChangeSpec := { name := "waveWidth", fn := fun _ => fun
  | [d1, d2, d3] => { results := [.lit (.bool false)], args := [d1, d2, d3] }
  | _ => none }
def WaveWidthWrongFalsely : Prop := waveWidthRow.holds Tryd.pinned (OpenSpec.ofChange waveWidthWrong)

/- THE SECOND FORM. 'bulk': how many values and letters a reading holds, each counted each time it is reached (what is shared counts as often as it is met; a slice's spare places count too). A statement '..UptoSaid' is the law's where the arguments, and the package variables that the reading takes, are together of bulk at most 1048576: NARROWER than '..Said'. Prove '..Said' where nothing that the law and all that it calls make is longer than what came in: it says more and counts as full. Else prove '..UptoSaid'. A law counts once. -/
mutual
def uptoBulk {H : Type} : DataW H → Nat
  | .lit (.string bytes) => bytes.length + 1
  | .lit _ => 1
  | .nil => 1
  | .ptr d => uptoBulk d + 1
  | .slice elems spare => uptoBulkAll elems + uptoBulkAll spare + 1
  | .agg parts => uptoBulkAll parts + 1
  | .iface _ d => uptoBulk d + 1
  | .map entries => uptoBulkEntries entries + 1
  | .held _ => 1
def uptoBulkAll {H : Type} : List (DataW H) → Nat
  | [] => 0
  | d :: r => uptoBulk d + uptoBulkAll r
def uptoBulkEntries {H : Type} : List (Lit × DataW H) → Nat
  | [] => 0
  | x :: r => uptoBulkEntry x + uptoBulkEntries r
def uptoBulkEntry {H : Type} : Lit × DataW H → Nat
  | (.string bytes, d) => bytes.length + uptoBulk d + 1
  | (_, d) => uptoBulk d + 1
 end
def uptoSmall : (H : Type) → List (DataW H) → Bool := fun _ ds => decide (uptoBulkAll ds ≤ 1048576)
def OpenSpec.upto (s : _root_.Go.ChangeSpec) : _root_.Go.OpenSpec := { _root_.Go.OpenSpec.ofChange s with cond := some uptoSmall }

/-- 'dunnagelaw17.WaveOK', WHERE WHAT IT READS IS OF BULK AT MOST 1048576: true; the input reads as it did. -/
def waveOKUptoRow : OpenClaim := { program := "ytkpcjdhnbjkaaaadoor", sum := "ddfd8b1b22895ce13fec32e9dc91a9cf48cc651523a955e1829c8183465e3b31", func := "dunnage/dunnagelaw17.WaveOK", spec := "waveOK", unfollowed := true, recurses := true, named := ["dunnage/ops.counts"], apart := false, laid := [("dunnage/ops.counts", laid_dunnage_ops_counts)], narrowed := true }
def WaveOKUptoSaid : Prop := waveOKUptoRow.holds Tryd.pinned (OpenSpec.upto waveOKSpec)

/-- 'dunnagelaw17.WaveWidth', WHERE WHAT IT READS IS OF BULK AT MOST 1048576: true; the input reads as it did. -/
def waveWidthUptoRow : OpenClaim := { program := "ytkpcjdhnbjkaaaadoor", sum := "ddfd8b1b22895ce13fec32e9dc91a9cf48cc651523a955e1829c8183465e3b31", func := "dunnage/dunnagelaw17.WaveWidth", spec := "waveWidth", unfollowed := true, recurses := true, named := ["dunnage/ops.counts"], apart := false, laid := [("dunnage/ops.counts", laid_dunnage_ops_counts)], narrowed := true }
def WaveWidthUptoSaid : Prop := waveWidthUptoRow.holds Tryd.pinned (OpenSpec.upto waveWidthSpec)

end Rows
end Go.Proofs.YtkpcjdhnbjkaaaaDoor
