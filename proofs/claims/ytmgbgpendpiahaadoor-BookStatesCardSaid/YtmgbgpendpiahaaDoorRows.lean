/-
  NARROWER THAN 'FOR EVERY INPUT', by the rows' own cells (each row's printed sentence says how): BookStates: laid · BookApplies: laid · BookRuns: laid · BookStays: laid · BookKeeps: laid · BookFrees: laid · BookBack: laid · BookAlone: laid.
  DERIVED. THE GIVEN ROWS OF THIS SEAT. 8 by the template 'for every input the law returns true; each argument reads behind the call as it read before'; 0 by the template 'total and deterministic' (their statements: YtmgbgpendpiahaaDoorTotals.lean).
  GIVEN WITH THE SEED: the statements are not yours to turn. If you find one false, say at which input.
  Laid BY PROGRAM, IN A SANDBOX (cutbox-rows.mjs): the forced cells as the released guide's own fill.sh prints them over the translation 21fec5737b84f150… (all of the seat's roots in one cut). By AI agents, Wed Nov 11 2026. No macro, syntax, notation, axiom, sorry.
-/
import Derived.Test.YtmgbgpendpiahaaDoorChecked
import GoSem.Claim
import GoSem.ClaimJoined
import GoSem.ClaimMapViews
import Derived.JoinedTies
import Derived.KernelRfl
namespace Go.Proofs.YtmgbgpendpiahaaDoor
/- THE CELL 'sum', in the pinned program and in every row, IS THE sha256 OF THE DUMP (.gsa) THAT YtmgbgpendpiahaaDoorProg.lean LOADS. Nothing in Lean hashes anything: it is a label: what it is worth is what the hold of that sum in a sandbox is worth. -/
noncomputable def Tryd.pinned : Pinned := { name := "ytmgbgpendpiahaadoor", sum := "21fec5737b84f15082214d49f620cb7580e768105797f70ace8e52313b6938a8", checked := Tryd.checked }
namespace Rows
def none {H : Type} : Left H := { results := [], args := [] }

/- WHAT THE LISTED PACKAGE-LEVEL VARIABLES READ AS WHEN THE CALL BEGINS. Each datum BY PROGRAM (the guide's laid-datum.mjs) off the statement by which the dump's own 'gosem.cut.vars' lays the variable. In a bare row this is a premise. The card (YtmgbgpendpiahaaDoorCards.lean) ties it to the program's text. -/
def laid_dunnage_ops_counts {H : Type} : DataW H := .agg [.lit (.int .i64 0), .lit (.int .i64 6), .lit (.int .i64 1), .lit (.int .i64 1), .lit (.int .i64 0), .lit (.int .i64 0), .lit (.int .i64 0), .lit (.int .i64 1), .lit (.int .i64 2), .lit (.int .i64 2), .lit (.int .i64 2), .lit (.int .i64 1), .lit (.int .i64 2), .lit (.int .i64 2), .lit (.int .i64 1), .lit (.int .i64 1), .lit (.int .i64 1), .lit (.int .i64 1), .lit (.int .i64 1), .lit (.int .i64 2), .lit (.int .i64 2), .lit (.int .i64 0)]

/-- 'dunnagelaw09.BookStates': WHATEVER THE INPUT: true; the input reads as it did. -/
def bookStatesSpec : ChangeSpec := { name := "bookStates", fn := fun _ => fun
  | [d1, d2] => { results := [.lit (.bool true)], args := [d1, d2] }
  | _ => none }
def bookStatesRow : OpenClaim := { program := "ytmgbgpendpiahaadoor", sum := "21fec5737b84f15082214d49f620cb7580e768105797f70ace8e52313b6938a8", func := "dunnage/dunnagelaw09.BookStates", spec := "bookStates", unfollowed := true, recurses := true, named := ["dunnage/ops.counts"], apart := false, laid := [("dunnage/ops.counts", laid_dunnage_ops_counts)] }
def BookStatesSaid : Prop := bookStatesRow.holds Tryd.pinned (OpenSpec.ofChange bookStatesSpec)

/-- ITS FALSE NEIGHBOUR: 'it returns false'. Refute it at one input. -/
def bookStatesWrong : ChangeSpec := { name := "bookStates", fn := fun _ => fun
  | [d1, d2] => { results := [.lit (.bool false)], args := [d1, d2] }
  | _ => none }
def BookStatesWrongFalsely : Prop := bookStatesRow.holds Tryd.pinned (OpenSpec.ofChange bookStatesWrong)

/-- 'dunnagelaw09.BookApplies': WHATEVER THE INPUT: true; the input reads as it did. -/
def bookAppliesSpec : ChangeSpec := { name := "bookApplies", fn := fun _ => fun
  | [d1, d2, d3] => { results := [.lit (.bool true)], args := [d1, d2, d3] }
  | _ => none }
def bookAppliesRow : OpenClaim := { program := "ytmgbgpendpiahaadoor", sum := "21fec5737b84f15082214d49f620cb7580e768105797f70ace8e52313b6938a8", func := "dunnage/dunnagelaw09.BookApplies", spec := "bookApplies", unfollowed := true, recurses := true, named := ["dunnage/ops.counts"], apart := false, laid := [("dunnage/ops.counts", laid_dunnage_ops_counts)] }
def BookAppliesSaid : Prop := bookAppliesRow.holds Tryd.pinned (OpenSpec.ofChange bookAppliesSpec)

/-- ITS FALSE NEIGHBOUR: 'it returns false'. Refute it at one input. -/
def bookAppliesWrong : ChangeSpec := { name := "bookApplies", fn := fun _ => fun
  | [d1, d2, d3] => { results := [.lit (.bool false)], args := [d1, d2, d3] }
  | _ => none }
def BookAppliesWrongFalsely : Prop := bookAppliesRow.holds Tryd.pinned (OpenSpec.ofChange bookAppliesWrong)

/-- 'dunnagelaw09.BookRuns': WHATEVER THE INPUT: true; the input reads as it did. -/
def bookRunsSpec : ChangeSpec := { name := "bookRuns", fn := fun _ => fun
  | [d1, d2, d3] => { results := [.lit (.bool true)], args := [d1, d2, d3] }
  | _ => none }
def bookRunsRow : OpenClaim := { program := "ytmgbgpendpiahaadoor", sum := "21fec5737b84f15082214d49f620cb7580e768105797f70ace8e52313b6938a8", func := "dunnage/dunnagelaw09.BookRuns", spec := "bookRuns", unfollowed := true, recurses := true, named := ["dunnage/ops.counts"], apart := false, laid := [("dunnage/ops.counts", laid_dunnage_ops_counts)] }
def BookRunsSaid : Prop := bookRunsRow.holds Tryd.pinned (OpenSpec.ofChange bookRunsSpec)

/-- ITS FALSE NEIGHBOUR: 'it returns false'. Refute it at one input. -/
def bookRunsWrong : ChangeSpec := { name := "bookRuns", fn := fun _ => fun
  | [d1, d2, d3] => { results := [.lit (.bool false)], args := [d1, d2, d3] }
  | _ => none }
def BookRunsWrongFalsely : Prop := bookRunsRow.holds Tryd.pinned (OpenSpec.ofChange bookRunsWrong)

/-- 'dunnagelaw09.BookStays': WHATEVER THE INPUT: true; the input reads as it did. -/
def bookStaysSpec : ChangeSpec := { name := "bookStays", fn := fun _ => fun
  | [d1, d2, d3] => { results := [.lit (.bool true)], args := [d1, d2, d3] }
  | _ => none }
def bookStaysRow : OpenClaim := { program := "ytmgbgpendpiahaadoor", sum := "21fec5737b84f15082214d49f620cb7580e768105797f70ace8e52313b6938a8", func := "dunnage/dunnagelaw09.BookStays", spec := "bookStays", unfollowed := true, recurses := true, named := ["dunnage/ops.counts"], apart := false, laid := [("dunnage/ops.counts", laid_dunnage_ops_counts)] }
def BookStaysSaid : Prop := bookStaysRow.holds Tryd.pinned (OpenSpec.ofChange bookStaysSpec)

/-- ITS FALSE NEIGHBOUR: 'it returns false'. Refute it at one input. -/
def bookStaysWrong : ChangeSpec := { name := "bookStays", fn := fun _ => fun
  | [d1, d2, d3] => { results := [.lit (.bool false)], args := [d1, d2, d3] }
  | _ => none }
def BookStaysWrongFalsely : Prop := bookStaysRow.holds Tryd.pinned (OpenSpec.ofChange bookStaysWrong)

/-- 'dunnagelaw09.BookKeeps': WHATEVER THE INPUT: true; the input reads as it did. -/
def bookKeepsSpec : ChangeSpec := { name := "bookKeeps", fn := fun _ => fun
  | [d1, d2, d3] => { results := [.lit (.bool true)], args := [d1, d2, d3] }
  | _ => none }
def bookKeepsRow : OpenClaim := { program := "ytmgbgpendpiahaadoor", sum := "21fec5737b84f15082214d49f620cb7580e768105797f70ace8e52313b6938a8", func := "dunnage/dunnagelaw09.BookKeeps", spec := "bookKeeps", unfollowed := true, recurses := true, named := ["dunnage/ops.counts"], apart := false, laid := [("dunnage/ops.counts", laid_dunnage_ops_counts)] }
def BookKeepsSaid : Prop := bookKeepsRow.holds Tryd.pinned (OpenSpec.ofChange bookKeepsSpec)

/-- ITS FALSE NEIGHBOUR: 'it returns false'. Refute it at one input. -/
def bookKeepsWrong : ChangeSpec := { name := "bookKeeps", fn := fun _ => fun
  | [d1, d2, d3] => { results := [.lit (.bool false)], args := [d1, d2, d3] }
  | _ => none }
def BookKeepsWrongFalsely : Prop := bookKeepsRow.holds Tryd.pinned (OpenSpec.ofChange bookKeepsWrong)

/-- 'dunnagelaw09.BookFrees': WHATEVER THE INPUT: true; the input reads as it did. -/
def bookFreesSpec : ChangeSpec := { name := "bookFrees", fn := fun _ => fun
  | [d1, d2, d3] => { results := [.lit (.bool true)], args := [d1, d2, d3] }
  | _ => none }
def bookFreesRow : OpenClaim := { program := "ytmgbgpendpiahaadoor", sum := "21fec5737b84f15082214d49f620cb7580e768105797f70ace8e52313b6938a8", func := "dunnage/dunnagelaw09.BookFrees", spec := "bookFrees", unfollowed := true, recurses := true, named := ["dunnage/ops.counts"], apart := false, laid := [("dunnage/ops.counts", laid_dunnage_ops_counts)] }
def BookFreesSaid : Prop := bookFreesRow.holds Tryd.pinned (OpenSpec.ofChange bookFreesSpec)

/-- ITS FALSE NEIGHBOUR: 'it returns false'. Refute it at one input. -/
def bookFreesWrong : ChangeSpec := { name := "bookFrees", fn := fun _ => fun
  | [d1, d2, d3] => { results := [.lit (.bool false)], args := [d1, d2, d3] }
  | _ => none }
def BookFreesWrongFalsely : Prop := bookFreesRow.holds Tryd.pinned (OpenSpec.ofChange bookFreesWrong)

/-- 'dunnagelaw09.BookBack': WHATEVER THE INPUT: true; the input reads as it did. -/
def bookBackSpec : ChangeSpec := { name := "bookBack", fn := fun _ => fun
  | [d1, d2, d3, d4, d5] => { results := [.lit (.bool true)], args := [d1, d2, d3, d4, d5] }
  | _ => none }
def bookBackRow : OpenClaim := { program := "ytmgbgpendpiahaadoor", sum := "21fec5737b84f15082214d49f620cb7580e768105797f70ace8e52313b6938a8", func := "dunnage/dunnagelaw09.BookBack", spec := "bookBack", unfollowed := true, recurses := true, named := ["dunnage/ops.counts"], apart := false, laid := [("dunnage/ops.counts", laid_dunnage_ops_counts)] }
def BookBackSaid : Prop := bookBackRow.holds Tryd.pinned (OpenSpec.ofChange bookBackSpec)

/-- ITS FALSE NEIGHBOUR: 'it returns false'. Refute it at one input. -/
def bookBackWrong : ChangeSpec := { name := "bookBack", fn := fun _ => fun
  | [d1, d2, d3, d4, d5] => { results := [.lit (.bool false)], args := [d1, d2, d3, d4, d5] }
  | _ => none }
def BookBackWrongFalsely : Prop := bookBackRow.holds Tryd.pinned (OpenSpec.ofChange bookBackWrong)

/-- 'dunnagelaw09.BookAlone': WHATEVER THE INPUT: true; the input reads as it did. -/
def bookAloneSpec : ChangeSpec := { name := "bookAlone", fn := fun _ => fun
  | [d1, d2, d3] => { results := [.lit (.bool true)], args := [d1, d2, d3] }
  | _ => none }
def bookAloneRow : OpenClaim := { program := "ytmgbgpendpiahaadoor", sum := "21fec5737b84f15082214d49f620cb7580e768105797f70ace8e52313b6938a8", func := "dunnage/dunnagelaw09.BookAlone", spec := "bookAlone", unfollowed := true, recurses := true, named := ["dunnage/ops.counts"], apart := false, laid := [("dunnage/ops.counts", laid_dunnage_ops_counts)] }
def BookAloneSaid : Prop := bookAloneRow.holds Tryd.pinned (OpenSpec.ofChange bookAloneSpec)

/-- ITS FALSE NEIGHBOUR: 'it returns false'. Refute it at one input. -/
def bookAloneWrong : ChangeSpec := { name := "bookAlone", fn := fun _ => fun
  | [d1, d2, d3] => { results := [.lit (.bool false)], args := [d1, d2, d3] }
  | _ => none }
def BookAloneWrongFalsely : Prop := bookAloneRow.holds Tryd.pinned (OpenSpec.ofChange bookAloneWrong)

/- THE SECOND FORM. 'bulk': how many values and letters a reading holds, each counted each time it is reached (what is shared counts as often as it is met; a slice's spare places count too). A statement '..UptoSaid' is the law's where the arguments, and the package variables that the reading takes, are together of bulk at most 1048576: NARROWER than '..Said'. Prove '..Said' where nothing that the law and all that it calls make is longer than what came in: it says more and counts as full. Else prove '..UptoSaid'. A law counts once. -/
mutual
def uptoBulk {H : Type} : DataW H → Nat
  | .lit (.string bytes) => bytes.length + 1
  | .lit _ => 1
  | .nil => 1
  | .ptr d => uptoBulk d + 1
  | .slice elems spare => uptoBulkAll elems + uptoBulkAll spare + 1
  | .agg parts => uptoBulkAll parts + 1
  | .iface _ d => uptoBulk d + 1
  | .map entries => uptoBulkEntries entries + 1
  | .held _ => 1
def uptoBulkAll {H : Type} : List (DataW H) → Nat
  | [] => 0
  | d :: r => uptoBulk d + uptoBulkAll r
def uptoBulkEntries {H : Type} : List (Lit × DataW H) → Nat
  | [] => 0
  | x :: r => uptoBulkEntry x + uptoBulkEntries r
def uptoBulkEntry {H : Type} : Lit × DataW H → Nat
  | (.string bytes, d) => bytes.length + uptoBulk d + 1
  | (_, d) => uptoBulk d + 1
 end
def uptoSmall : (H : Type) → List (DataW H) → Bool := fun _ ds => decide (uptoBulkAll ds ≤ 1048576)
def OpenSpec.upto (s : _root_.Go.ChangeSpec) : _root_.Go.OpenSpec := { _root_.Go.OpenSpec.ofChange s with cond := some uptoSmall }

/-- 'dunnagelaw09.BookStates', WHERE WHAT IT READS IS OF BULK AT MOST 1048576: true; the input reads as it did. -/
def bookStatesUptoRow : OpenClaim := { program := "ytmgbgpendpiahaadoor", sum := "21fec5737b84f15082214d49f620cb7580e768105797f70ace8e52313b6938a8", func := "dunnage/dunnagelaw09.BookStates", spec := "bookStates", unfollowed := true, recurses := true, named := ["dunnage/ops.counts"], apart := false, laid := [("dunnage/ops.counts", laid_dunnage_ops_counts)], narrowed := true }
def BookStatesUptoSaid : Prop := bookStatesUptoRow.holds Tryd.pinned (OpenSpec.upto bookStatesSpec)

/-- 'dunnagelaw09.BookApplies', WHERE WHAT IT READS IS OF BULK AT MOST 1048576: true; the input reads as it did. -/
def bookAppliesUptoRow : OpenClaim := { program := "ytmgbgpendpiahaadoor", sum := "21fec5737b84f15082214d49f620cb7580e768105797f70ace8e52313b6938a8", func := "dunnage/dunnagelaw09.BookApplies", spec := "bookApplies", unfollowed := true, recurses := true, named := ["dunnage/ops.counts"], apart := false, laid := [("dunnage/ops.counts", laid_dunnage_ops_counts)], narrowed := true }
def BookAppliesUptoSaid : Prop := bookAppliesUptoRow.holds Tryd.pinned (OpenSpec.upto bookAppliesSpec)

/-- 'dunnagelaw09.BookRuns', WHERE WHAT IT READS IS OF BULK AT MOST 1048576: true; the input reads as it did. -/
def bookRunsUptoRow : OpenClaim := { program := "ytmgbgpendpiahaadoor", sum := "21fec5737b84f15082214d49f620cb7580e768105797f70ace8e52313b6938a8", func := "dunnage/dunnagelaw09.BookRuns", spec := "bookRuns", unfollowed := true, recurses := true, named := ["dunnage/ops.counts"], apart := false, laid := [("dunnage/ops.counts", laid_dunnage_ops_counts)], narrowed := true }
def BookRunsUptoSaid : Prop := bookRunsUptoRow.holds Tryd.pinned (OpenSpec.upto bookRunsSpec)

/-- 'dunnagelaw09.BookStays', WHERE WHAT IT READS IS OF BULK AT MOST 1048576: true; the input reads as it did. -/
def bookStaysUptoRow : OpenClaim := { program := "ytmgbgpendpiahaadoor", sum := "21fec5737b84f15082214d49f620cb7580e768105797f70ace8e52313b6938a8", func := "dunnage/dunnagelaw09.BookStays", spec := "bookStays", unfollowed := true, recurses := true, named := ["dunnage/ops.counts"], apart := false, laid := [("dunnage/ops.counts", laid_dunnage_ops_counts)], narrowed := true }
def BookStaysUptoSaid : Prop := bookStaysUptoRow.holds Tryd.pinned (OpenSpec.upto bookStaysSpec)

/-- 'dunnagelaw09.BookKeeps', WHERE WHAT IT READS IS OF BULK AT MOST 1048576: true; the input reads as it did. -/
def bookKeepsUptoRow : OpenClaim := { program := "ytmgbgpendpiahaadoor", sum := "21fec5737b84f15082214d49f620cb7580e768105797f70ace8e52313b6938a8", func := "dunnage/dunnagelaw09.BookKeeps", spec := "bookKeeps", unfollowed := true, recurses := true, named := ["dunnage/ops.counts"], apart := false, laid := [("dunnage/ops.counts", laid_dunnage_ops_counts)], narrowed := true }
def BookKeepsUptoSaid : Prop := bookKeepsUptoRow.holds Tryd.pinned (OpenSpec.upto bookKeepsSpec)

/-- 'dunnagelaw09.BookFrees', WHERE WHAT IT READS IS OF BULK AT MOST 1048576: true; the input reads as it did. -/
def bookFreesUptoRow : OpenClaim := { program := "ytmgbgpendpiahaadoor", sum := "21fec5737b84f15082214d49f620cb7580e768105797f70ace8e52313b6938a8", func := "dunnage/dunnagelaw09.BookFrees", spec := "bookFrees", unfollowed := true, recurses := true, named := ["dunnage/ops.counts"], apart := false, laid := [("dunnage/ops.counts", laid_dunnage_ops_counts)], narrowed := true }
def BookFreesUptoSaid : Prop := bookFreesUptoRow.holds Tryd.pinned (OpenSpec.upto bookFreesSpec)

/-- 'dunnagelaw09.BookBack', WHERE WHAT IT READS IS OF BULK AT MOST 1048576: true; the input reads as it did. -/
def bookBackUptoRow : OpenClaim := { program := "ytmgbgpendpiahaadoor", sum := "21fec5737b84f15082214d49f620cb7580e768105797f70ace8e52313b6938a8", func := "dunnage/dunnagelaw09.BookBack", spec := "bookBack", unfollowed := true, recurses := true, named := ["dunnage/ops.counts"], apart := false, laid := [("dunnage/ops.counts", laid_dunnage_ops_counts)], narrowed := true }
def BookBackUptoSaid : Prop := bookBackUptoRow.holds Tryd.pinned (OpenSpec.upto bookBackSpec)

/-- 'dunnagelaw09.BookAlone', WHERE WHAT IT READS IS OF BULK AT MOST 1048576: true; the input reads as it did. -/
def bookAloneUptoRow : OpenClaim := { program := "ytmgbgpendpiahaadoor", sum := "21fec5737b84f15082214d49f620cb7580e768105797f70ace8e52313b6938a8", func := "dunnage/dunnagelaw09.BookAlone", spec := "bookAlone", unfollowed := true, recurses := true, named := ["dunnage/ops.counts"], apart := false, laid := [("dunnage/ops.counts", laid_dunnage_ops_counts)], narrowed := true }
def BookAloneUptoSaid : Prop := bookAloneUptoRow.holds Tryd.pinned (OpenSpec.upto bookAloneSpec)

end Rows
end Go.Proofs.YtmgbgpendpiahaaDoor
