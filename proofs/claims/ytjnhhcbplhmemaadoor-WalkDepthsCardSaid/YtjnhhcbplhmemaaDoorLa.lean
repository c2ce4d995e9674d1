/- The library's Grow, Concat and Clone at bytes, the program's Pad, the reference's Same. -/
import Derived.Test.YtjnhhcbplhmemaaDoorM2
import Derived.Lib.AppendZeros
namespace Go.Proofs.YtjnhhcbplhmemaaDoor
open Go.RowKit


end Go.Proofs.YtjnhhcbplhmemaaDoor
