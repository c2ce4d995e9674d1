/- Numbers within the range of bits. -/
import Derived.Test.YtpdmkojclgkcnaaBtKit
namespace Go.Proofs.Ytpdmkojclgkcnaa.Bt
open Go.RowKit

theorem ret_int {k : IntKind} {a b : Int} (h : a = b) : Ending.returned (.int k a) = .returned (.int k b) := by rw [h]
/-- A number within the range from 0 to 256. -/
def lim (i : Int) : Nat := (max 0 (min i 256)).toNat
theorem lim_le (i : Int) : lim i ≤ 256 := by unfold lim; omega
end Go.Proofs.Ytpdmkojclgkcnaa.Bt
