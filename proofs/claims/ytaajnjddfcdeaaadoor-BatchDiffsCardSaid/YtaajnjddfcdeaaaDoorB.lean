/- The reference's padding. -/
import Derived.Test.YtaajnjddfcdeaaaDoorA
import Derived.Deep.AppendSrc
namespace Go.Proofs.YtaajnjddfcdeaaaDoor
open Go.RowKit

end Go.Proofs.YtaajnjddfcdeaaaDoor
