/- The walk of ShaMatchesReference. -/
import Derived.Test.YtkbipmhhiahkpaaDoorN
import Derived.Test.YtkbipmhhiahkpaaDoorP
namespace Go.Proofs.YtkbipmhhiahkpaaDoor
open Go.RowKit

set_option maxHeartbeats 2000000 in
set_option maxRecDepth 100000 in
theorem matches_long (A : Option Addr) (c : Nat) (l : List UInt8) (W : World) (hv : Vars W) (h : 2000 < l.length) : Calls Tryd.prog 3 #[.slice A l.length c] W (Yes W) := by
  have d1 : decide (2000 < l.length) = true := decide_eq_true h
  have d2 : decide (2000 < (l.length : Int)) = true := decide_eq_true (by omega)
  have HV := Lib.hid hv
  clear hv
  go_enter Tryd.func3, Tryd.ntmps3
  go_wp2_with fail
  refine (alive_c W HV.out).mono ?_
  rintro e w2 ⟨rfl, hb2⟩
  go_wp2_with fail
  go_ret
  exact ⟨rfl, hb2⟩
set_option maxHeartbeats 4000000 in
set_option maxRecDepth 100000 in
theorem matches_short (A : Option Addr) (c : Nat) (l : List UInt8) (W : World) (hA : BA W A l) (hv : Vars W) (h : l.length ≤ 2000) : Calls Tryd.prog 3 #[.slice A l.length c] W (Yes W) := by
  have d1 : decide (2000 < l.length) = false := decide_eq_false (by omega)
  have d2 : decide (2000 < (l.length : Int)) = false := decide_eq_false (by omega)
  have HV := Lib.hid hv
  have HA := Lib.hid hA
  have hq := eq26 (sumL l) (sumL_len _)
  clear hv hA
  go_enter Tryd.func3, Tryd.ntmps3
  go_wp2_with fail
  refine (clone_c A l c W HA.out (by omega)).mono ?_
  rintro e w1 ⟨v, rfl, ⟨A1, c1, rfl, hc1, hba1⟩, hb1⟩
  have HB1 := Lib.hid hb1
  have HBA1 := Lib.hid hba1
  clear hb1 hba1
  go_wp2_with fail
  refine (alive_c w1 (HV.out.below HB1.out)).mono ?_
  rintro e w2 ⟨rfl, hb2⟩
  have HB2 : Hid (Below W.heap.size W w2) := HB1.out.trans (hb2.mono HB1.out.size)
  have HBA2 := Lib.hid (HBA1.out.below hb2)
  clear hb2
  go_wp2_with fail
  have hv2 := HV.out.below HB2.out
  refine (sum_c A1 c1 l w2 HBA2.out hc1 hv2.kt hv2.it (by omega)).mono ?_
  rintro e w3' ⟨rfl, hb3⟩
  have HB3 : Hid (Below W.heap.size W w3') := HB2.out.trans (hb3.mono HB2.out.size)
  have HBA3 := Lib.hid (HBA2.out.below hb3)
  clear hb3 hv2
  go_wp2_with fail
  refine (rsum_c A c l w3' (HA.out.below HB3.out) (by omega)).mono ?_
  rintro e w4 ⟨rfl, hb4⟩
  have HB4 : Hid (Below W.heap.size W w4) := HB3.out.trans (hb4.mono HB3.out.size)
  have HBA4 := Lib.hid (HBA3.out.below hb4)
  clear hb4
  go_wp2_with fail
  refine (same_yes A A1 c c1 l.length l w4 rfl (HA.out.below HB4.out) HBA4.out (by omega)).mono ?_
  rintro e w5 ⟨rfl, hb5⟩
  have HB5 : Hid (Below W.heap.size W w5) := HB4.out.trans (hb5.mono HB4.out.size)
  clear hb5
  go_wp2_with fail
  go_ret
  exact ⟨rfl, HB5.out⟩
theorem matches_w (A : Option Addr) (c : Nat) (l : List UInt8) (W : World) (hA : BA W A l) (_hc : l.length ≤ c) (hv : Vars W) : Calls Tryd.prog 3 #[.slice A l.length c] W (Yes W) := by
  rcases Nat.lt_or_ge 2000 l.length with h | h
  · exact matches_long A c l W hv h
  · exact matches_short A c l W hA hv h
end Go.Proofs.YtkbipmhhiahkpaaDoor
