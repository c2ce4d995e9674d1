/- The reference's Value. -/
import Derived.Test.YtaajnjddfcdeaaaDoorEp
namespace Go.Proofs.YtaajnjddfcdeaaaDoor
open Go.RowKit
end Go.Proofs.YtaajnjddfcdeaaaDoor
