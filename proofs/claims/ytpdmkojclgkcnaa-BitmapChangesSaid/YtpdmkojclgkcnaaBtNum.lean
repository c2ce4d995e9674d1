/- Numbers of bits, masks. -/
import Derived.Test.YtpdmkojclgkcnaaBtN0
namespace Go.Proofs.Ytpdmkojclgkcnaa.Bt
open Go.RowKit

set_option maxHeartbeats 400000 in
theorem isNumber_yes (i : Int) (w : World) (h : 0 ≤ i) (h2 : i < 256) :
    Calls Try.prog 24 #[.int .i64 i] w fun e w' => e = .returned (.bool true) ∧ w = w' := by
  go_enter Try.func24, Try.ntmps24
  go_wp2
  go_ret
  exact ⟨rfl, rfl⟩
set_option maxHeartbeats 400000 in
theorem isNumber_no (i : Int) (w : World) (h : i < 0 ∨ 256 ≤ i) :
    Calls Try.prog 24 #[.int .i64 i] w fun e w' => e = .returned (.bool false) ∧ w = w' := by
  by_cases h1 : i < 0
  · go_enter Try.func24, Try.ntmps24
    go_wp2
    go_ret
    exact ⟨rfl, rfl⟩
  · have h2 : ¬ i < 256 := by omega
    clear h
    go_enter Try.func24, Try.ntmps24
    go_wp2
    go_ret
    exact ⟨rfl, rfl⟩
set_option maxHeartbeats 400000 in
theorem mask_c (i : Nat) (w : World) :
    Calls Try.prog 25 #[.int .i64 i] w fun e w' => e = .returned (.int .u8 (msk i)) ∧ w = w' := by
  go_enter Try.func25, Try.ntmps25
  go_wp2
  go_ret
  refine ⟨?_, rfl⟩
  have := pow_mask (i % 8) (by omega)
  simp [msk, ← this]
end Go.Proofs.Ytpdmkojclgkcnaa.Bt
