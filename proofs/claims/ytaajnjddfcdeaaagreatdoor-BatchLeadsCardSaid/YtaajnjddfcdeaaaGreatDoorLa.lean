/- The library's Grow, Concat and Clone at bytes, the program's Pad, the reference's Same. -/
import Derived.Test.YtaajnjddfcdeaaaGreatDoorM2
import Derived.Lib.AppendZeros
namespace Go.Proofs.YtaajnjddfcdeaaaGreatDoor
open Go.RowKit


end Go.Proofs.YtaajnjddfcdeaaaGreatDoor
