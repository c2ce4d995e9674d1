/- The library's Grow, Concat and Clone at bytes, the program's Pad, the reference's Same. -/
import Derived.Test.YtdoanibgcogejaaDoorM2
import Derived.Lib.AppendZeros
namespace Go.Proofs.YtdoanibgcogejaaDoor
open Go.RowKit


end Go.Proofs.YtdoanibgcogejaaDoor
