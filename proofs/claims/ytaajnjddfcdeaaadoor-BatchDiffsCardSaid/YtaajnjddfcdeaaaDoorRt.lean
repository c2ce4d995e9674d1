/- The reference's Right of layer 5. -/
import Derived.Test.YtaajnjddfcdeaaaDoorM5
namespace Go.Proofs.YtaajnjddfcdeaaaDoor
open Go.RowKit

theorem right5_c (n : Int) (w : World) : Calls Tryd.prog 10 #[.int .i64 n] w fun e w' => e = .returned (.bool (decide (0 ≤ n ∧ n ≤ 256))) ∧ w = w' := by
  rcases Classical.em (0 ≤ n) with a | a
  · have d1 : decide (0 ≤ n) = true := decide_eq_true a
    rcases Classical.em (n ≤ 256) with b | b
    · have d2 : decide (n ≤ 256) = true := decide_eq_true b
      have d3 : decide (0 ≤ n ∧ n ≤ 256) = true := decide_eq_true ⟨a, b⟩
      rw [d3]
      clear d3
      go_enter Tryd.func10, Tryd.ntmps10
      go_wp2_with fail
      go_ret
      exact ⟨rfl, rfl⟩
    · have d2 : decide (n ≤ 256) = false := decide_eq_false b
      have d3 : decide (0 ≤ n ∧ n ≤ 256) = false := decide_eq_false fun h => b h.2
      rw [d3]
      clear d3
      go_enter Tryd.func10, Tryd.ntmps10
      go_wp2_with fail
      go_ret
      exact ⟨rfl, rfl⟩
  · have d1 : decide (0 ≤ n) = false := decide_eq_false a
    have d3 : decide (0 ≤ n ∧ n ≤ 256) = false := decide_eq_false fun h => a h.1
    rw [d3]
    clear d3
    go_enter Tryd.func10, Tryd.ntmps10
    go_wp2_with fail
    go_ret
    exact ⟨rfl, rfl⟩

end Go.Proofs.YtaajnjddfcdeaaaDoor
