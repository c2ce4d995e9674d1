/- Worlds behind one another, for drawn regions. -/
import Derived.Test.YtpdmkojclgkcnaaHi
namespace Go.Proofs.Ytpdmkojclgkcnaa.Bt
open Go.RowKit
theorem keeps {W w w' : World} (h : Below W.heap.size W w) (hb : Below w.heap.size w w') : Below W.heap.size W w' := h.trans (hb.mono h.size)
theorem made_bel {W w : World} (h : Below W.heap.size W w) (o : Obj) : Below W.heap.size W (w.alloc o) := h.alloc h.size o
end Go.Proofs.Ytpdmkojclgkcnaa.Bt
