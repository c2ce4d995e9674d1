/- The reference.s Same. -/
import Derived.Test.YtfeabjcnfgcmkaaGreatDoorGn
import Derived.Lib.AppendZeros
namespace Go.Proofs.YtfeabjcnfgcmkaaGreatDoor
open Go.RowKit
end Go.Proofs.YtfeabjcnfgcmkaaGreatDoor
