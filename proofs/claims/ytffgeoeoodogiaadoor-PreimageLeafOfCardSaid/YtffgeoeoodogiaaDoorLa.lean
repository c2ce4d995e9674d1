/- The library's Grow, Concat and Clone at bytes, the program's Pad, the reference's Same. -/
import Derived.Test.YtffgeoeoodogiaaDoorK
import Derived.Lib.AppendZeros
namespace Go.Proofs.YtffgeoeoodogiaaDoor
open Go.RowKit


end Go.Proofs.YtffgeoeoodogiaaDoor
