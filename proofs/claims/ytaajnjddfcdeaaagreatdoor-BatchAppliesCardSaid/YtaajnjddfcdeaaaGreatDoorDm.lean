/- The program's Bits, Calls, Fork. -/
import Derived.Test.YtaajnjddfcdeaaaGreatDoorDn
namespace Go.Proofs.YtaajnjddfcdeaaaGreatDoor
open Go.RowKit

theorem bits_c (b : Nat) (n : Int) (c : Nat) (w : World) (h : Hs w b n c) : Calls Tryz.prog 36 #[ptr b] w fun e w' => e = .returned (.int .i64 n) ∧ w = w' := by
  have h0 := h.cell1
  clear h
  unfold ptr
  go_enter Tryz.func36, Tryz.ntmps36
  go_wp2
  go_ret
  exact ⟨rfl, rfl⟩
end Go.Proofs.YtaajnjddfcdeaaaGreatDoor
