/- The reference's two, Leaf and Node. -/
import Derived.Test.YtaajnjddfcdeaaaDoorEp
namespace Go.Proofs.YtaajnjddfcdeaaaDoor
open Go.RowKit
end Go.Proofs.YtaajnjddfcdeaaaDoor
