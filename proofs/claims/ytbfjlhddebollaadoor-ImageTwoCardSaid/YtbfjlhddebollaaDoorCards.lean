/-
  DERIVED. GIVEN WITH THE SEED: THE CARDS: each row of YtbfjlhddebollaaDoorRows.lean that lists a variable, with what it lists TIED to the program's text (the seventh form; the later family's looks); each row that meets fmt, with fmt's text TOLD by the authors' own Lean function (tested against real Go, not proved from fmt's source: count such statements apart). THE CARD IS WHAT COUNTS. Prove the row's statement (the work); the ties are given (YtbfjlhddebollaaDoorTie.lean); close each card by the builder's one call (the guide's Derived/Test/ToyasCard.lean, 'card_holds'). Laid BY PROGRAM, IN A SANDBOX (cutbox-door.mjs). By AI agents, Wed Nov 11 2026. No macro, syntax, notation, axiom, sorry.
-/
import Derived.Test.YtbfjlhddebollaaDoorRows
import GoSem.ClaimSeven
namespace Go.Proofs.YtbfjlhddebollaaDoor
namespace Rows

/-- THE TIED CARD OF 'dunnagelaw09.BookRuns'. -/
def bookRunsCard : Claim7 := { stood := { row := bookRunsRow, standIns := [], harness := (true, "34f8779c83b2e657304facd089b41c3f3defba214a7f12978e6c38b1075d1e00"), looks := false }, kinds := [], alts := [], laidByText := true, laidKinds := [.data], laidTests := true, laidLooks := .later }
def BookRunsCardSaid : Prop := Claim7.holds Tryd.pinned (.plain (OpenSpec.ofChange bookRunsSpec)) bookRunsCard

/-- THE TIED CARD OF 'dunnagelaw10.ImageGets'. -/
def imageGetsCard : Claim7 := { stood := { row := imageGetsRow, standIns := [], harness := (true, "34f8779c83b2e657304facd089b41c3f3defba214a7f12978e6c38b1075d1e00"), looks := false }, kinds := [], alts := [], laidByText := true, laidKinds := [.sentinel], laidTests := true, laidLooks := .later }
def ImageGetsCardSaid : Prop := Claim7.holds Tryd.pinned (.plain (OpenSpec.ofChange imageGetsSpec)) imageGetsCard

/-- THE TIED CARD OF 'dunnagelaw10.ImageTwo'. -/
def imageTwoCard : Claim7 := { stood := { row := imageTwoRow, standIns := [], harness := (true, "34f8779c83b2e657304facd089b41c3f3defba214a7f12978e6c38b1075d1e00"), looks := false }, kinds := [], alts := [], laidByText := true, laidKinds := [.data, .sentinel], laidTests := true, laidLooks := .later }
def ImageTwoCardSaid : Prop := Claim7.holds Tryd.pinned (.plain (OpenSpec.ofChange imageTwoSpec)) imageTwoCard

/-- THE SECOND FORM's CARD OF 'dunnagelaw09.BookRuns'. -/
def bookRunsUptoCard : Claim7 := { stood := { row := bookRunsUptoRow, standIns := [], harness := (true, "34f8779c83b2e657304facd089b41c3f3defba214a7f12978e6c38b1075d1e00"), looks := false }, kinds := [], alts := [], laidByText := true, laidKinds := [.data], laidTests := true, laidLooks := .later }
def BookRunsUptoCardSaid : Prop := Claim7.holds Tryd.pinned (.plain (OpenSpec.upto bookRunsSpec)) bookRunsUptoCard

/-- THE SECOND FORM's CARD OF 'dunnagelaw10.ImageGets'. -/
def imageGetsUptoCard : Claim7 := { stood := { row := imageGetsUptoRow, standIns := [], harness := (true, "34f8779c83b2e657304facd089b41c3f3defba214a7f12978e6c38b1075d1e00"), looks := false }, kinds := [], alts := [], laidByText := true, laidKinds := [.sentinel], laidTests := true, laidLooks := .later }
def ImageGetsUptoCardSaid : Prop := Claim7.holds Tryd.pinned (.plain (OpenSpec.upto imageGetsSpec)) imageGetsUptoCard

/-- THE SECOND FORM's CARD OF 'dunnagelaw10.ImageTwo'. -/
def imageTwoUptoCard : Claim7 := { stood := { row := imageTwoUptoRow, standIns := [], harness := (true, "34f8779c83b2e657304facd089b41c3f3defba214a7f12978e6c38b1075d1e00"), looks := false }, kinds := [], alts := [], laidByText := true, laidKinds := [.data, .sentinel], laidTests := true, laidLooks := .later }
def ImageTwoUptoCardSaid : Prop := Claim7.holds Tryd.pinned (.plain (OpenSpec.upto imageTwoSpec)) imageTwoUptoCard
end Rows
end Go.Proofs.YtbfjlhddebollaaDoor
