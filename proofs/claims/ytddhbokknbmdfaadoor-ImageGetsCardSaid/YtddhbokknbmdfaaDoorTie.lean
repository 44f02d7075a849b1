/-
  DERIVED. GIVEN WITH THE SEED: THE PROGRAM's TIES (one call each: nine closed facts by the kernel) AND EACH ROW's TIE, after the 31st guide's Derived/Test/Toyas{Tie, Card}.lean. No idea stands in it: it is a product of the set-up. Laid BY PROGRAM, IN A SANDBOX (cutbox-door.mjs). By AI agents, Wed Nov 11 2026. No macro, syntax, notation, axiom, sorry.
-/
import Derived.Test.YtddhbokknbmdfaaDoorRows
import Derived.LaidByTextLater
import Derived.SevenTiedAt
import Derived.LaidSub
import Derived.LaidOnce
namespace Go.Proofs.YtddhbokknbmdfaaDoor
open Go
set_option maxRecDepth 100000
theorem seatTie1 : Tryd.prog.laidByTextLater [("dunnage/ops.counts", Rows.laid_dunnage_ops_counts), ("dunnage/image.errGivenUp", Rows.laid_dunnage_image_errGivenUp)] [.data, .sentinel] true :=
  Program.laidByTextLater_by_one 33 8 23 (by kernel_rfl) (by kernel_rfl) (by kernel_rfl) (by kernel_rfl) (by kernel_rfl) (by kernel_rfl) (fun _ _ => by kernel_rfl)
theorem noOwnUnsafe : Tryd.pinned.checked.prog.headLifts.contains "ownunsafe" = false := by kernel_rfl
theorem tie : Tryd.prog.laidByTextLater [("dunnage/ops.counts", Rows.laid_dunnage_ops_counts)] [.data] true :=
  Program.laidByTextLater.sub seatTie1 ["dunnage/ops.counts"] (by kernel_rfl) (by kernel_rfl)
theorem bookRuns_row_tie : Rows.bookRunsRow.laidByTextAt .later Tryd.pinned [.data] true :=
  OpenClaim.laidByTextAt_later rfl rfl tie noOwnUnsafe
theorem tie2 : Tryd.prog.laidByTextLater [("dunnage/image.errGivenUp", Rows.laid_dunnage_image_errGivenUp)] [.sentinel] true :=
  Program.laidByTextLater.sub seatTie1 ["dunnage/image.errGivenUp"] (by kernel_rfl) (by kernel_rfl)
theorem imageGets_row_tie : Rows.imageGetsRow.laidByTextAt .later Tryd.pinned [.sentinel] true :=
  OpenClaim.laidByTextAt_later rfl rfl tie2 noOwnUnsafe
theorem bookRunsUpto_row_tie : Rows.bookRunsUptoRow.laidByTextAt .later Tryd.pinned [.data] true :=
  OpenClaim.laidByTextAt_later rfl rfl tie noOwnUnsafe
theorem imageGetsUpto_row_tie : Rows.imageGetsUptoRow.laidByTextAt .later Tryd.pinned [.sentinel] true :=
  OpenClaim.laidByTextAt_later rfl rfl tie2 noOwnUnsafe
end Go.Proofs.YtddhbokknbmdfaaDoor
