/- The program keeps the contract of layer 15. -/
import Derived.Test.YtnmbbfndboohjaaGreatDoorBe
import Derived.Test.YtnmbbfndboohjaaGreatDoorBh
import Derived.Test.YtnmbbfndboohjaaGreatDoorMQ
import Derived.Test.YtnmbbfndboohjaaGreatDoorMF
namespace Go.Proofs.YtnmbbfndboohjaaGreatDoor
open Go.RowKit

theorem pf_c : PfV Mn where
  prove := pprove_c nd_c fn_c
  check := pcheck_c
  expand := pexp_ok
  expandBad := fun w b n m p A c hH _ _ hp hA hc hl h0 => pexp_bad w b n m p A c hH hp hA hc hl h0
end Go.Proofs.YtnmbbfndboohjaaGreatDoor
