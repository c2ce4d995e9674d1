/- The program keeps the contract of layer 15. -/
import Derived.Test.YtfeabjcnfgcmkaaGreatDoorAW
import Derived.Test.YtfeabjcnfgcmkaaGreatDoorAs
import Derived.Test.YtfeabjcnfgcmkaaGreatDoorBe
import Derived.Test.YtfeabjcnfgcmkaaGreatDoorBh
import Derived.Test.YtfeabjcnfgcmkaaGreatDoorMQ
import Derived.Test.YtfeabjcnfgcmkaaGreatDoorMF
import Derived.Test.YtfeabjcnfgcmkaaGreatDoorMX
namespace Go.Proofs.YtfeabjcnfgcmkaaGreatDoor
open Go.RowKit

theorem pf_c : PfV Mn where
  prove := pprove_c nd_c fn_c
  check := pcheck_c
  supports := psup_c
  clone := pclone_c
  equal := fun w p q A B c d hp hq hA hB _ _ hl _ => pequal_c w p q A B c d hp hq hA hB hl
  expand := pexp_ok nd_c
  expandBad := fun w b n m p A c hH _ _ hp hA hc hl h0 => pexp_bad w b n m p A c hH hp hA hc hl h0
end Go.Proofs.YtfeabjcnfgcmkaaGreatDoor
