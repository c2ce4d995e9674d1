/- The reference of layer 7: Root. -/
import Derived.Test.YtjnhhcbplhmemaaDoorMv
namespace Go.Proofs.YtjnhhcbplhmemaaDoor
open Go.RowKit
end Go.Proofs.YtjnhhcbplhmemaaDoor
