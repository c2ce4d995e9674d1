/- The walks of layer 5, joined. -/
import Derived.Test.YtaggbmlkfdfjpaaDoorDi
import Derived.Test.YtaggbmlkfdfjpaaDoorDj
import Derived.Test.YtaggbmlkfdfjpaaDoorUd
namespace Go.Proofs.YtaggbmlkfdfjpaaDoor
open Go.RowKit

theorem starts_w (n : Int) (W : World) (hv : Vars W) : Calls Tryd.prog 3 #[.int .i64 n] W (Yes W) := by
  rcases Classical.em (n < 0 ∨ 256 < n) with h | h
  · exact starts_out hs_c alive_c n W hv h
  · exact starts_in hs_c alive_c n W hv (by omega) (by omega)
theorem full_w (A : Option Addr) (c : Nat) (l : List UInt8) (W : World) (hA : BA W A l) (hc : l.length ≤ c) (hv : Vars W) : Calls Tryd.prog 6 #[.slice A l.length c] W (Yes W) := by
  rcases Nat.lt_or_ge 1000 l.length with h | h
  · exact full_long alive_c A c l W hv h
  · exact full_short hs_c alive_c A c l W hA hc hv h
end Go.Proofs.YtaggbmlkfdfjpaaDoor
