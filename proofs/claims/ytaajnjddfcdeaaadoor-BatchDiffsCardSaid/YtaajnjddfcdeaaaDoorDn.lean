/- The program's New. -/
import Derived.Test.YtaajnjddfcdeaaaDoorDh
namespace Go.Proofs.YtaajnjddfcdeaaaDoor
open Go.RowKit

theorem hs_new (w : World) (n : Int) : Hs (w.alloc (.cells #[.int .i64 0, .int .i64 n] 87)) w.heap.size n 0 := heap_alloc_last w _
theorem new_c (n : Int) (w : World) (h0 : 0 ≤ n) (h1 : n ≤ 256) : Calls Tryd.prog 23 #[.int .i64 n] w fun e w' => ∃ b, e = .returned (.tuple #[ptr b, .int .i64 0]) ∧ w.heap.size ≤ b ∧ Hs w' b n 0 ∧ Below w.heap.size w w' := by
  have d0 : decide (n < 0) = false := decide_eq_false (by omega)
  have d1 : decide (256 < n) = false := decide_eq_false (by omega)
  go_enter Tryd.func23, Tryd.ntmps23
  go_wp2
  go_ret2
  exact ⟨w.heap.size, rfl, Nat.le_refl _, hs_new w n, (Below.refl _ _).alloc (Nat.le_refl _) _⟩
end Go.Proofs.YtaajnjddfcdeaaaDoor
