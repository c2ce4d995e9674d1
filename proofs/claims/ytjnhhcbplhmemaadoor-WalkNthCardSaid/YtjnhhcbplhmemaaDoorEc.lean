/- The reference's Value. -/
import Derived.Test.YtjnhhcbplhmemaaDoorEp
namespace Go.Proofs.YtjnhhcbplhmemaaDoor
open Go.RowKit
end Go.Proofs.YtjnhhcbplhmemaaDoor
