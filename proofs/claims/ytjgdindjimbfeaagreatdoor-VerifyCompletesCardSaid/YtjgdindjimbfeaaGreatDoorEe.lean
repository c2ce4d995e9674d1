import Derived.Test.YtjgdindjimbfeaaGreatDoorME
namespace Go.Proofs.YtjgdindjimbfeaaGreatDoor
set_option linter.unusedSimpArgs false
set_option linter.unusedVariables false
open Go.RowKit
end Go.Proofs.YtjgdindjimbfeaaGreatDoor
