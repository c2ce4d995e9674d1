/- The program's Bits, Calls, Fork. -/
import Derived.Test.YtjnhhcbplhmemaaDoorDn
namespace Go.Proofs.YtjnhhcbplhmemaaDoor
open Go.RowKit
end Go.Proofs.YtjnhhcbplhmemaaDoor
