import Derived.Test.YtkejfdgmdjfdoaaGreatDoorM2
import Derived.Lib.AppendZeros
namespace Go.Proofs.YtkejfdgmdjfdoaaGreatDoor
set_option linter.unusedSimpArgs false
set_option linter.unusedVariables false
open Go.RowKit
end Go.Proofs.YtkejfdgmdjfdoaaGreatDoor
