/- The library's Grow, Concat and Clone at bytes, the program's Pad, the reference's Same. -/
import Derived.Test.YtjhpnlnghaljaaaGreatDoorM2
import Derived.Lib.AppendZeros
namespace Go.Proofs.YtjhpnlnghaljaaaGreatDoor
open Go.RowKit


end Go.Proofs.YtjhpnlnghaljaaaGreatDoor
