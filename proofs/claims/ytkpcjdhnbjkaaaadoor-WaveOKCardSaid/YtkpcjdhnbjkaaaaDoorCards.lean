/-
  DERIVED. GIVEN WITH THE SEED: THE CARDS: each row of YtkpcjdhnbjkaaaaDoorRows.lean that lists a variable, with what it lists TIED to the program's text (the seventh form; the later family's looks); each row that meets fmt, with fmt's text TOLD by the authors' own Lean function (tested against real Go, not proved from fmt's source: count such statements apart). THE CARD IS WHAT COUNTS. Prove the row's statement (the work); the ties are given (YtkpcjdhnbjkaaaaDoorTie.lean); close each card by the builder's one call (the guide's Derived/Test/ToyasCard.lean, 'card_holds'). Laid BY PROGRAM, IN A SANDBOX (cutbox-door.mjs). By AI agents, Wed Nov 11 2026. No macro, syntax, notation, axiom, sorry.
-/
import Derived.Test.YtkpcjdhnbjkaaaaDoorRows
import GoSem.ClaimSeven
namespace Go.Proofs.YtkpcjdhnbjkaaaaDoor
namespace Rows

/-- THE TIED CARD OF 'dunnagelaw17.WaveOK'. -/
def waveOKCard : Claim7 := { stood := { row := waveOKRow, standIns := [], harness := (true, "1d7a27142813e24ef5e00862af292e78799776f06ca0918f13b15efb190312cd"), looks := false }, kinds := [], alts := [], laidByText := true, laidKinds := [.data], laidTests := true, laidLooks := .later }
def WaveOKCardSaid : Prop := Claim7.holds Tryd.pinned (.plain (OpenSpec.ofChange waveOKSpec)) waveOKCard

/-- THE TIED CARD OF 'dunnagelaw17.WaveWidth'. -/
def waveWidthCard : Claim7 := { stood := { row := waveWidthRow, standIns := [], harness := (true, "1d7a27142813e24ef5e00862af292e78799776f06ca0918f13b15efb190312cd"), looks := false }, kinds := [], alts := [], laidByText := true, laidKinds := [.data], laidTests := true, laidLooks := .later }
def WaveWidthCardSaid : Prop := Claim7.holds Tryd.pinned (.plain (OpenSpec.ofChange waveWidthSpec)) waveWidthCard

/-- THE SECOND FORM's CARD OF 'dunnagelaw17.WaveOK'. -/
def waveOKUptoCard : Claim7 := { stood := { row := waveOKUptoRow, standIns := [], harness := (true, "1d7a27142813e24ef5e00862af292e78799776f06ca0918f13b15efb190312cd"), looks := false }, kinds := [], alts := [], laidByText := true, laidKinds := [.data], laidTests := true, laidLooks := .later }
def WaveOKUptoCardSaid : Prop := Claim7.holds Tryd.pinned (.plain (OpenSpec.upto waveOKSpec)) waveOKUptoCard

/-- THE SECOND FORM's CARD OF 'dunnagelaw17.WaveWidth'. -/
def waveWidthUptoCard : Claim7 := { stood := { row := waveWidthUptoRow, standIns := [], harness := (true, "1d7a27142813e24ef5e00862af292e78799776f06ca0918f13b15efb190312cd"), looks := false }, kinds := [], alts := [], laidByText := true, laidKinds := [.data], laidTests := true, laidLooks := .later }
def WaveWidthUptoCardSaid : Prop := Claim7.holds Tryd.pinned (.plain (OpenSpec.upto waveWidthSpec)) waveWidthUptoCard
end Rows
end Go.Proofs.YtkpcjdhnbjkaaaaDoor
