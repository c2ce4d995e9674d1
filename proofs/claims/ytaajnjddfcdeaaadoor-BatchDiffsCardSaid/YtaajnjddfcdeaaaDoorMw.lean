/- The reference of layer 7: Root. -/
import Derived.Test.YtaajnjddfcdeaaaDoorMv
namespace Go.Proofs.YtaajnjddfcdeaaaDoor
open Go.RowKit
end Go.Proofs.YtaajnjddfcdeaaaDoor
