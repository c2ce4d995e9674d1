/- The program's Bits, Calls, Fork. -/
import Derived.Test.YtmgablpnggoabaaDoorDn
namespace Go.Proofs.YtmgablpnggoabaaDoor
open Go.RowKit

theorem bits_c (b : Nat) (n : Int) (c : Nat) (w : World) (h : Hs w b n c) : Calls Tryd.prog 36 #[ptr b] w fun e w' => e = .returned (.int .i64 n) ∧ w = w' := by
  have h0 := h.cell1
  clear h
  unfold ptr
  go_enter Tryd.func36, Tryd.ntmps36
  go_wp2
  go_ret
  exact ⟨rfl, rfl⟩
end Go.Proofs.YtmgablpnggoabaaDoor
