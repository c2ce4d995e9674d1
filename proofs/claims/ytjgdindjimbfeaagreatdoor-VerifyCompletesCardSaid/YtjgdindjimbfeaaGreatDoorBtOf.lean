import Derived.Test.YtjgdindjimbfeaaGreatDoorM3
import Derived.Test.YtjgdindjimbfeaaGreatDoorTG
import Derived.Deep.MidRow
set_option linter.unusedSimpArgs false
set_option linter.unusedVariables false
namespace Go.Proofs.YtjgdindjimbfeaaGreatDoor.Bt
open Go.RowKit
end Go.Proofs.YtjgdindjimbfeaaGreatDoor.Bt
