/- Two closed facts on the program that every row asks. -/
import Derived.Test.YtkoppdhmbhgnfaaRows
import Derived.Test.YtkoppdhmbhgnfaaLift
namespace Go.Proofs.Ytkoppdhmbhgnfaa
open Go.RowKit

theorem Try.ownKnob : ownKnob Try.prog.godebug = none := by kernel_rfl

theorem Try.laidOut : laidOutB Try.prog = true := by kernel_rfl

end Go.Proofs.Ytkoppdhmbhgnfaa
