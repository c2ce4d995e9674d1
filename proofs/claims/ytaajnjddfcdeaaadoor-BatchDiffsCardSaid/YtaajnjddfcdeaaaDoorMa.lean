/- The listed variables; laws for laws' walks. -/
import Derived.Test.YtaajnjddfcdeaaaDoorLa
import Derived.Deep.RegionHeld3
import Derived.Lib.SlBytesConst
namespace Go.Proofs.YtaajnjddfcdeaaaDoor
open Go.RowKit

/-- The listed variables hold what the program's text lays. -/
structure Vars (w : World) : Prop where
  kt : KT w
  it : IT w
theorem Vars.keep {L : Nat → Prop} {a b : World} (h : Vars a) (k : Keep L a b) (h1 : ¬ L 1) (h0 : ¬ L 0) : Vars b := ⟨h.kt.keep k h1, h.it.keep k h0⟩
theorem Vars.below {a b : World} (h : Vars a) (k : Below a.heap.size a b) : Vars b := h.keep (Keep.of_below (L := fun _ => False) k) (fun h => h) (fun h => h)
end Go.Proofs.YtaajnjddfcdeaaaDoor
