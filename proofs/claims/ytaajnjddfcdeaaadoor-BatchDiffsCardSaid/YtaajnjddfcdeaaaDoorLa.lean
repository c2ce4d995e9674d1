/- The library's Grow, Concat and Clone at bytes, the program's Pad, the reference's Same. -/
import Derived.Test.YtaajnjddfcdeaaaDoorM2
import Derived.Lib.AppendZeros
namespace Go.Proofs.YtaajnjddfcdeaaaDoor
open Go.RowKit


end Go.Proofs.YtaajnjddfcdeaaaDoor
