/- The reference's schedule. -/
import Derived.Test.YtaajnjddfcdeaaaDoorM1
import Derived.Deep.AppendLies
import Derived.Deep.RegionHeld3
import Derived.IntWalk
namespace Go.Proofs.YtaajnjddfcdeaaaDoor
open Go.RowKit

@[go_sem] theorem shl8 (x : UInt32) (w : World) : (binOp .shl 137 (u x) (.int .u64 8)).run Tryd.prog w = .ok (u (x <<< 8)) w := shl_u x 8 (by decide) w
@[go_sem] theorem shl16 (x : UInt32) (w : World) : (binOp .shl 137 (u x) (.int .u64 16)).run Tryd.prog w = .ok (u (x <<< 16)) w := shl_u x 16 (by decide) w
@[go_sem] theorem shl24 (x : UInt32) (w : World) : (binOp .shl 137 (u x) (.int .u64 24)).run Tryd.prog w = .ok (u (x <<< 24)) w := shl_u x 24 (by decide) w
@[go_sem] theorem shr3 (x : UInt32) (w : World) : (binOp .shr 137 (u x) (.int .u64 3)).run Tryd.prog w = .ok (u (x >>> 3)) w := shr_u x 3 (by decide) w
@[go_sem] theorem shr10 (x : UInt32) (w : World) : (binOp .shr 137 (u x) (.int .u64 10)).run Tryd.prog w = .ok (u (x >>> 10)) w := shr_u x 10 (by decide) w
end Go.Proofs.YtaajnjddfcdeaaaDoor
