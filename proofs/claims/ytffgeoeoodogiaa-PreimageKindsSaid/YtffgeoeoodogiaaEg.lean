/- The walk of PreimageKinds. -/
import Derived.Test.YtffgeoeoodogiaaEf
import Derived.Test.YtffgeoeoodogiaaEd
namespace Go.Proofs.Ytffgeoeoodogiaa
open Go.RowKit

set_option maxHeartbeats 4000000 in
set_option maxRecDepth 100000 in
theorem kinds_w (hp : Pre) (ha : AliveC) (A : Option Addr) (c : Nat) (l : List UInt8) (W : World) (hA : BA W A l) (hc : l.length ≤ c) (hl : l.length ≤ maxLen) :
    Calls Try.prog 4 #[.slice A l.length c] W (Yes W) := by
  obtain ⟨K, hK⟩ : ∃ K, K = kindL l := ⟨_, rfl⟩
  have HK := Lib.hid (fun w h => hp.kind A c l w h hc hl)
  have HR := Lib.hid (fun w h => rkind_c A c l w h)
  rw [← hK] at HK HR
  have HA := Lib.hid (ha W)
  have HB := Lib.hid hA
  clear hK hp ha hA
  go_enter Try.func4, Try.ntmps4
  go_wp2_with fail
  refine HA.out.mono ?_
  rintro e w1 ⟨rfl, hb⟩
  have HB1 := Lib.hid hb
  clear hb
  go_wp2_with fail
  refine (HK.out w1 (HB.out.below HB1.out)).mono ?_
  rintro e w2 ⟨rfl, hb⟩
  have HB2 := Lib.hid (keeps HB1.out hb)
  clear hb HB1
  go_wp2_with fail
  refine (HR.out w2 (HB.out.below HB2.out)).mono ?_
  rintro e w3 ⟨rfl, rfl⟩
  go_wp2_with fail
  go_ret
  exact ⟨rfl, HB2.out⟩
end Go.Proofs.Ytffgeoeoodogiaa
