import Derived.BigQuiet
import Derived.Test.YtjgdindjimbfeaaGreatDoorCA
import Derived.Test.YtjgdindjimbfeaaGreatDoorMR
namespace Go.Proofs.YtjgdindjimbfeaaGreatDoor
set_option linter.unusedSimpArgs false
set_option linter.unusedVariables false
section
open Go.RowKit
end
section
open Go.RowKit
end
end Go.Proofs.YtjgdindjimbfeaaGreatDoor
