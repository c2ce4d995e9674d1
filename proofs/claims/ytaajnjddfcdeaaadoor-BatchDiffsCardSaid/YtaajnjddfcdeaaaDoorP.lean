/- The reference's Sum. -/
import Derived.Test.YtaajnjddfcdeaaaDoorLa
import Derived.Test.YtaajnjddfcdeaaaDoorM1
namespace Go.Proofs.YtaajnjddfcdeaaaDoor
open Go.RowKit

/-- The world behind the first three lines. -/
def w3 (w : World) : World := ((w.alloc (.cells (bA z26) 89)).alloc (.cells (uA init8.list) 138)).alloc (.cells (uA kTab) 137)
end Go.Proofs.YtaajnjddfcdeaaaDoor
