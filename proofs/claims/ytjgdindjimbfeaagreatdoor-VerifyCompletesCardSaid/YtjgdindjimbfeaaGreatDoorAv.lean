import Derived.Test.YtjgdindjimbfeaaGreatDoorAs
import Derived.Test.YtjgdindjimbfeaaGreatDoorBD
import Derived.Test.YtjgdindjimbfeaaGreatDoorMQ
import Derived.Test.YtjgdindjimbfeaaGreatDoorMF
namespace Go.Proofs.YtjgdindjimbfeaaGreatDoor
set_option linter.unusedSimpArgs false
set_option linter.unusedVariables false
open Go.RowKit
theorem pf_c : PfV Mn where
 prove := pprove_c nd_c fn_c
 check := pcheck_c
 supports := psup_c
 expand := pexp_ok
 expandBad := fun w b n m p A c hH _ _ hp hA hc hl h0 => pexp_bad w b n m p A c hH hp hA hc hl h0
end Go.Proofs.YtjgdindjimbfeaaGreatDoor
