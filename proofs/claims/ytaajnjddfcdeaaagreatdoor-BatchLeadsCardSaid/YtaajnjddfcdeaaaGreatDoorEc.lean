/- The reference's Value. -/
import Derived.Test.YtaajnjddfcdeaaaGreatDoorEp
namespace Go.Proofs.YtaajnjddfcdeaaaGreatDoor
open Go.RowKit

set_option maxHeartbeats 1000000 in
set_option maxRecDepth 100000 in
theorem rval_c (A : Option Addr) (c : Nat) (l : List UInt8) (w : World) (hA : BA w A l) (hl : l.length ≤ 1000000) :
    Calls Tryz.prog 93 #[.slice A l.length c] w fun e w' => ∃ v, e = .returned v ∧ OwnB w' w.heap.size v (valL l) ∧ Below w.heap.size w w' := by
  have HO0 := Lib.hid (own_made w 2)
  have HB0 : Hid (Below w.heap.size w (w.alloc (.cells #[bv 2] 5))) := (Below.refl _ _).alloc (Nat.le_refl _) _
  have HA := Lib.hid (hA.below HB0.out)
  clear hA
  go_enter Tryz.func93, Tryz.ntmps93
  go_wp2_with (at_builtin; refine wpList_catB1 rfl _ _ rfl w.heap.size _ [2] rfl HO0.out A c l rfl HA.out (by simp; omega) (by simp) ?_; intro v1 w1 hO1 hB1; have HO1 := Lib.hid hO1; have HB1 := Lib.hid (HB0.out.trans hB1); clear hO1 hB1)
  go_ret
  exact ⟨_, rfl, HO1.out, HB1.out⟩
end Go.Proofs.YtaajnjddfcdeaaaGreatDoor
