/- The program meets what the law of layer 17 asks. -/
import Derived.Test.YtbkokcfmndiedaaGreatDoorVl
import Derived.Test.YtbkokcfmndiedaaGreatDoorVC
namespace Go.Proofs.YtbkokcfmndiedaaGreatDoor
open Go.RowKit

theorem co_c : CoV where
  size := fun w p A c hp hA hc hl => psize17_c w p A c hp hA hc hl
  encode := fun w p A c hp hA hc hl hz => pencode17_c w p A c hp hA hc hl hz
  encodeBad := fun w p A c hp hA hc hl hz => pencodeBad17_c w p A c hp hA hc hl hz
  decode := fun w b A c hA hc hl => pdecode17_c w b A c hA hc hl
  kind := fun w b A c hA _ => pkind17_c w b A c hA
end Go.Proofs.YtbkokcfmndiedaaGreatDoor
