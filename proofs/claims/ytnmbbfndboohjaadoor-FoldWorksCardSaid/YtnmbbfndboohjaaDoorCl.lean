/- The library's Clone at bytes: new memory. -/
import Derived.Test.YtnmbbfndboohjaaDoorM2
import Derived.Test.YtnmbbfndboohjaaDoorM6
import Derived.Lib.AppendZeros
namespace Go.Proofs.YtnmbbfndboohjaaDoor
open Go.RowKit

end Go.Proofs.YtnmbbfndboohjaaDoor
