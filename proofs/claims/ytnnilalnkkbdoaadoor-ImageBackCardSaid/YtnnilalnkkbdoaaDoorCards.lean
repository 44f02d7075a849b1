/-
  DERIVED. GIVEN WITH THE SEED: THE CARDS: each row of YtnnilalnkkbdoaaDoorRows.lean that lists a variable, with what it lists TIED to the program's text (the seventh form; the later family's looks); each row that meets fmt, with fmt's text TOLD by the authors' own Lean function (tested against real Go, not proved from fmt's source: count such statements apart). THE CARD IS WHAT COUNTS. Prove the row's statement (the work); the ties are given (YtnnilalnkkbdoaaDoorTie.lean); close each card by the builder's one call (the guide's Derived/Test/ToyasCard.lean, 'card_holds'). Laid BY PROGRAM, IN A SANDBOX (cutbox-door.mjs). By AI agents, Wed Nov 11 2026. No macro, syntax, notation, axiom, sorry.
-/
import Derived.Test.YtnnilalnkkbdoaaDoorRows
import GoSem.ClaimSeven
namespace Go.Proofs.YtnnilalnkkbdoaaDoor
namespace Rows

/-- THE TIED CARD OF 'dunnagelaw09.BookApplies'. -/
def bookAppliesCard : Claim7 := { stood := { row := bookAppliesRow, standIns := [], harness := (true, "c686a2f24374baf48c0452141f785707b7a361894c1050c8ae00d1fb8339efd4"), looks := false }, kinds := [], alts := [], laidByText := true, laidKinds := [.data], laidTests := true, laidLooks := .later }
def BookAppliesCardSaid : Prop := Claim7.holds Tryd.pinned (.plain (OpenSpec.ofChange bookAppliesSpec)) bookAppliesCard

/-- THE TIED CARD OF 'dunnagelaw09.BookRuns'. -/
def bookRunsCard : Claim7 := { stood := { row := bookRunsRow, standIns := [], harness := (true, "c686a2f24374baf48c0452141f785707b7a361894c1050c8ae00d1fb8339efd4"), looks := false }, kinds := [], alts := [], laidByText := true, laidKinds := [.data], laidTests := true, laidLooks := .later }
def BookRunsCardSaid : Prop := Claim7.holds Tryd.pinned (.plain (OpenSpec.ofChange bookRunsSpec)) bookRunsCard

/-- THE TIED CARD OF 'dunnagelaw10.ImagePuts'. -/
def imagePutsCard : Claim7 := { stood := { row := imagePutsRow, standIns := [], harness := (true, "c686a2f24374baf48c0452141f785707b7a361894c1050c8ae00d1fb8339efd4"), looks := false }, kinds := [], alts := [], laidByText := true, laidKinds := [.sentinel], laidTests := true, laidLooks := .later }
def ImagePutsCardSaid : Prop := Claim7.holds Tryd.pinned (.plain (OpenSpec.ofChange imagePutsSpec)) imagePutsCard

/-- THE TIED CARD OF 'dunnagelaw10.ImageGets'. -/
def imageGetsCard : Claim7 := { stood := { row := imageGetsRow, standIns := [], harness := (true, "c686a2f24374baf48c0452141f785707b7a361894c1050c8ae00d1fb8339efd4"), looks := false }, kinds := [], alts := [], laidByText := true, laidKinds := [.sentinel], laidTests := true, laidLooks := .later }
def ImageGetsCardSaid : Prop := Claim7.holds Tryd.pinned (.plain (OpenSpec.ofChange imageGetsSpec)) imageGetsCard

/-- THE TIED CARD OF 'dunnagelaw10.ImageBack'. -/
def imageBackCard : Claim7 := { stood := { row := imageBackRow, standIns := [], harness := (true, "c686a2f24374baf48c0452141f785707b7a361894c1050c8ae00d1fb8339efd4"), looks := false }, kinds := [], alts := [], laidByText := true, laidKinds := [.sentinel], laidTests := true, laidLooks := .later }
def ImageBackCardSaid : Prop := Claim7.holds Tryd.pinned (.plain (OpenSpec.ofChange imageBackSpec)) imageBackCard

/-- THE TIED CARD OF 'dunnagelaw10.ImageTwo'. -/
def imageTwoCard : Claim7 := { stood := { row := imageTwoRow, standIns := [], harness := (true, "c686a2f24374baf48c0452141f785707b7a361894c1050c8ae00d1fb8339efd4"), looks := false }, kinds := [], alts := [], laidByText := true, laidKinds := [.data, .sentinel], laidTests := true, laidLooks := .later }
def ImageTwoCardSaid : Prop := Claim7.holds Tryd.pinned (.plain (OpenSpec.ofChange imageTwoSpec)) imageTwoCard

/-- THE TIED CARD OF 'dunnagelaw10.ImageFew'. -/
def imageFewCard : Claim7 := { stood := { row := imageFewRow, standIns := [], harness := (true, "c686a2f24374baf48c0452141f785707b7a361894c1050c8ae00d1fb8339efd4"), looks := false }, kinds := [], alts := [], laidByText := true, laidKinds := [.sentinel], laidTests := true, laidLooks := .later }
def ImageFewCardSaid : Prop := Claim7.holds Tryd.pinned (.plain (OpenSpec.ofChange imageFewSpec)) imageFewCard

/-- THE SECOND FORM's CARD OF 'dunnagelaw09.BookApplies'. -/
def bookAppliesUptoCard : Claim7 := { stood := { row := bookAppliesUptoRow, standIns := [], harness := (true, "c686a2f24374baf48c0452141f785707b7a361894c1050c8ae00d1fb8339efd4"), looks := false }, kinds := [], alts := [], laidByText := true, laidKinds := [.data], laidTests := true, laidLooks := .later }
def BookAppliesUptoCardSaid : Prop := Claim7.holds Tryd.pinned (.plain (OpenSpec.upto bookAppliesSpec)) bookAppliesUptoCard

/-- THE SECOND FORM's CARD OF 'dunnagelaw09.BookRuns'. -/
def bookRunsUptoCard : Claim7 := { stood := { row := bookRunsUptoRow, standIns := [], harness := (true, "c686a2f24374baf48c0452141f785707b7a361894c1050c8ae00d1fb8339efd4"), looks := false }, kinds := [], alts := [], laidByText := true, laidKinds := [.data], laidTests := true, laidLooks := .later }
def BookRunsUptoCardSaid : Prop := Claim7.holds Tryd.pinned (.plain (OpenSpec.upto bookRunsSpec)) bookRunsUptoCard

/-- THE SECOND FORM's CARD OF 'dunnagelaw10.ImagePuts'. -/
def imagePutsUptoCard : Claim7 := { stood := { row := imagePutsUptoRow, standIns := [], harness := (true, "c686a2f24374baf48c0452141f785707b7a361894c1050c8ae00d1fb8339efd4"), looks := false }, kinds := [], alts := [], laidByText := true, laidKinds := [.sentinel], laidTests := true, laidLooks := .later }
def ImagePutsUptoCardSaid : Prop := Claim7.holds Tryd.pinned (.plain (OpenSpec.upto imagePutsSpec)) imagePutsUptoCard

/-- THE SECOND FORM's CARD OF 'dunnagelaw10.ImageGets'. -/
def imageGetsUptoCard : Claim7 := { stood := { row := imageGetsUptoRow, standIns := [], harness := (true, "c686a2f24374baf48c0452141f785707b7a361894c1050c8ae00d1fb8339efd4"), looks := false }, kinds := [], alts := [], laidByText := true, laidKinds := [.sentinel], laidTests := true, laidLooks := .later }
def ImageGetsUptoCardSaid : Prop := Claim7.holds Tryd.pinned (.plain (OpenSpec.upto imageGetsSpec)) imageGetsUptoCard

/-- THE SECOND FORM's CARD OF 'dunnagelaw10.ImageBack'. -/
def imageBackUptoCard : Claim7 := { stood := { row := imageBackUptoRow, standIns := [], harness := (true, "c686a2f24374baf48c0452141f785707b7a361894c1050c8ae00d1fb8339efd4"), looks := false }, kinds := [], alts := [], laidByText := true, laidKinds := [.sentinel], laidTests := true, laidLooks := .later }
def ImageBackUptoCardSaid : Prop := Claim7.holds Tryd.pinned (.plain (OpenSpec.upto imageBackSpec)) imageBackUptoCard

/-- THE SECOND FORM's CARD OF 'dunnagelaw10.ImageTwo'. -/
def imageTwoUptoCard : Claim7 := { stood := { row := imageTwoUptoRow, standIns := [], harness := (true, "c686a2f24374baf48c0452141f785707b7a361894c1050c8ae00d1fb8339efd4"), looks := false }, kinds := [], alts := [], laidByText := true, laidKinds := [.data, .sentinel], laidTests := true, laidLooks := .later }
def ImageTwoUptoCardSaid : Prop := Claim7.holds Tryd.pinned (.plain (OpenSpec.upto imageTwoSpec)) imageTwoUptoCard

/-- THE SECOND FORM's CARD OF 'dunnagelaw10.ImageFew'. -/
def imageFewUptoCard : Claim7 := { stood := { row := imageFewUptoRow, standIns := [], harness := (true, "c686a2f24374baf48c0452141f785707b7a361894c1050c8ae00d1fb8339efd4"), looks := false }, kinds := [], alts := [], laidByText := true, laidKinds := [.sentinel], laidTests := true, laidLooks := .later }
def ImageFewUptoCardSaid : Prop := Claim7.holds Tryd.pinned (.plain (OpenSpec.upto imageFewSpec)) imageFewUptoCard
end Rows
end Go.Proofs.YtnnilalnkkbdoaaDoor
