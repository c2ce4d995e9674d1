/- The program's New. -/
import Derived.Test.YtaajnjddfcdeaaaGreatDoorDh
namespace Go.Proofs.YtaajnjddfcdeaaaGreatDoor
open Go.RowKit

theorem hs_new (w : World) (n : Int) : Hs (w.alloc (.cells #[.int .i64 0, .int .i64 n] 110)) w.heap.size n 0 := heap_alloc_last w _
theorem new_c (n : Int) (w : World) (h0 : 0 ≤ n) (h1 : n ≤ 256) : Calls Tryz.prog 32 #[.int .i64 n] w fun e w' => ∃ b, e = .returned (.tuple #[ptr b, .int .i64 0]) ∧ w.heap.size ≤ b ∧ Hs w' b n 0 ∧ Below w.heap.size w w' := by
  have d0 : decide (n < 0) = false := decide_eq_false (by omega)
  have d1 : decide (256 < n) = false := decide_eq_false (by omega)
  go_enter Tryz.func32, Tryz.ntmps32
  go_wp2
  go_ret2
  exact ⟨w.heap.size, rfl, Nat.le_refl _, hs_new w n, (Below.refl _ _).alloc (Nat.le_refl _) _⟩
theorem out_c (n : Int) (w : World) (h : n < 0 ∨ 256 < n) : Calls Tryz.prog 32 #[.int .i64 n] w fun e w' => e = .returned (.tuple #[.pointer none, .int .i64 4]) ∧ Below w.heap.size w w' := by
  by_cases h0 : n < 0
  · have d0 : decide (n < 0) = true := decide_eq_true h0
    go_enter Tryz.func32, Tryz.ntmps32
    go_wp2
    go_ret2
    exact ⟨rfl, Below.refl _ _⟩
  · have d0 : decide (n < 0) = false := decide_eq_false h0
    have h1 : 256 < n := by omega
    have d1 : decide (256 < n) = true := decide_eq_true h1
    clear h
    go_enter Tryz.func32, Tryz.ntmps32
    go_wp2
    go_ret2
    exact ⟨rfl, Below.refl _ _⟩
end Go.Proofs.YtaajnjddfcdeaaaGreatDoor
