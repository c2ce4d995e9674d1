/- The program's Calls and Fork, as layer 7 asks them. -/
import Derived.Test.YtdoanibgcogejaaDoorM6
namespace Go.Proofs.YtdoanibgcogejaaDoor
open Go.RowKit

theorem calls_c (b : Nat) (n : Int) (c : Nat) (w : World) (h : Hs w b n c) : Calls Tryd.prog 26 #[ptr b] w fun e w' => e = .returned (.int .i64 (c : Int)) ∧ w = w' := by
  have h0 := h.cell0
  clear h
  unfold ptr
  go_enter Tryd.func26, Tryd.ntmps26
  go_wp2
  go_ret
  exact ⟨rfl, rfl⟩
theorem fork_c (b : Nat) (n : Int) (c : Nat) (w : World) (h : Hs w b n c) : Calls Tryd.prog 25 #[ptr b] w fun e w' => ∃ b2, e = .returned (ptr b2) ∧ w.heap.size ≤ b2 ∧ Hs w' b2 n 0 ∧ Below w.heap.size w w' := by
  have h0 := h.cell1
  clear h
  unfold ptr
  go_enter Tryd.func25, Tryd.ntmps25
  go_wp2
  go_ret
  exact ⟨w.heap.size, rfl, Nat.le_refl _, hs_new w n, (Below.refl _ _).alloc (Nat.le_refl _) _⟩
theorem calls7 : CallsC := fun b n c w h => calls_c b n c w h
theorem fork7 : ForkC := fun b n c w h => fork_c b n c w h
end Go.Proofs.YtdoanibgcogejaaDoor
