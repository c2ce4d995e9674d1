/- The program keeps the contract of layer 15. -/
import Derived.Test.YtbkokcfmndiedaaGreatDoorBd
import Derived.Test.YtbkokcfmndiedaaGreatDoorBh
import Derived.Test.YtbkokcfmndiedaaGreatDoorMQ
import Derived.Test.YtbkokcfmndiedaaGreatDoorMF
namespace Go.Proofs.YtbkokcfmndiedaaGreatDoor
open Go.RowKit

theorem pf_c : PfV Mn where
  prove := pprove_c nd_c fn_c
  check := pcheck_c
end Go.Proofs.YtbkokcfmndiedaaGreatDoor
