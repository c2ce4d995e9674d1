/- The program's Bits, Calls, Fork. -/
import Derived.Test.YtaajnjddfcdeaaaDoorDn
namespace Go.Proofs.YtaajnjddfcdeaaaDoor
open Go.RowKit
end Go.Proofs.YtaajnjddfcdeaaaDoor
