/- The reference's Leaf and Node. -/
import Derived.Test.YtaajnjddfcdeaaaDoorEa
namespace Go.Proofs.YtaajnjddfcdeaaaDoor
open Go.RowKit

end Go.Proofs.YtaajnjddfcdeaaaDoor
