/- The reference.s Same. -/
import Derived.Test.YtfeabjcnfgcmkaaDoorGn
import Derived.Lib.AppendZeros
namespace Go.Proofs.YtfeabjcnfgcmkaaDoor
open Go.RowKit
end Go.Proofs.YtfeabjcnfgcmkaaDoor
