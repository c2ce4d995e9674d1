/- The text of an error that is no Fault, behind a deferred recover. -/
import Derived.Test.YtnmjcfpmljahcaaDoorI
import Derived.Defers
import Derived.Recover
namespace Go.Proofs.YtnmjcfpmljahcaaDoor
open Go.RowKit

theorem m_error31 (h : Value) (w : World) : (Go.method 242 31 h "Error").run Tryd.prog w = .ok (70, h) w := by kernel_rfl
theorem na_error31 (c : Int) (w : World) : (nilAhead 242 31 (.int .i64 c) "Error").run Tryd.prog w = .ok (some false) w := by kernel_rfl

theorem recover_idle (w : World) : CallsD Tryd.prog 37 #[] .returning w fun e u' w' => e = .returned (.tuple #[]) ∧ u' = .returning ∧ w' = w := by
  refine callsD_of_wpS Tryd.func37 rfl fun c₀ cs hu => ?_
  apply wpS_region
  simp [wpOpsS, go_sem, recoverD, hu, Tryd.ntmps37, bodyPostS, results, Tryd.results37]
  cases c₀
  simp_all

set_option maxHeartbeats 4000000 in
set_option maxRecDepth 100000 in
theorem textOf_c (c : Int) (w : World) (h : Dig w c) : Calls Tryd.prog 27 #[.iface 31 (.int .i64 c)] w fun e w' => e = .returned (.string ⟨(errText c).toArray⟩) ∧ Below w.heap.size w w' := by
  have H := Lib.hid h
  clear h
  have mE := m_error31
  have nE := na_error31
  go_enter_defers Tryd.func27, Tryd.ntmps27
  go_wp2_with (go_at_call 70; refine (errno_c c _ H.out).mono ?_; rintro e w1 ⟨rfl, hB⟩; have HB := Lib.hid hB; clear hB)
  refine leaves_cons (f := 37) (args := #[]) (by simp) (by simp [go_sem]) ?_
  refine (recover_idle w1).mono ?_
  rintro e u' w'' ⟨rfl, rfl, rfl⟩
  exact ⟨_, results_tmp rfl _ _ _, rfl, HB.out⟩
end Go.Proofs.YtnmjcfpmljahcaaDoor
