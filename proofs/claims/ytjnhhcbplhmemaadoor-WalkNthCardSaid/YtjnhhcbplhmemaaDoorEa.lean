/- The reference's two, Leaf and Node. -/
import Derived.Test.YtjnhhcbplhmemaaDoorEp
namespace Go.Proofs.YtjnhhcbplhmemaaDoor
open Go.RowKit
end Go.Proofs.YtjnhhcbplhmemaaDoor
