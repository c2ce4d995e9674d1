/- The program's Bits, Calls, Fork. -/
import Derived.Test.YtjhpnlnghaljaaaDoorDn
namespace Go.Proofs.YtjhpnlnghaljaaaDoor
open Go.RowKit

theorem bits_c (b : Nat) (n : Int) (c : Nat) (w : World) (h : Hs w b n c) : Calls Tryd.prog 34 #[ptr b] w fun e w' => e = .returned (.int .i64 n) ∧ w = w' := by
  have h0 := h.cell1
  clear h
  unfold ptr
  go_enter Tryd.func34, Tryd.ntmps34
  go_wp2
  go_ret
  exact ⟨rfl, rfl⟩
theorem calls_c (b : Nat) (n : Int) (c : Nat) (w : World) (h : Hs w b n c) : Calls Tryd.prog 16 #[ptr b] w fun e w' => e = .returned (.int .i64 (c : Int)) ∧ w = w' := by
  have h0 := h.cell0
  clear h
  unfold ptr
  go_enter Tryd.func16, Tryd.ntmps16
  go_wp2
  go_ret
  exact ⟨rfl, rfl⟩
theorem fork_c (b : Nat) (n : Int) (c : Nat) (w : World) (h : Hs w b n c) : Calls Tryd.prog 15 #[ptr b] w fun e w' => ∃ b2, e = .returned (ptr b2) ∧ w.heap.size ≤ b2 ∧ Hs w' b2 n 0 ∧ Below w.heap.size w w' := by
  have h0 := h.cell1
  clear h
  unfold ptr
  go_enter Tryd.func15, Tryd.ntmps15
  go_wp2
  go_ret
  exact ⟨w.heap.size, rfl, Nat.le_refl _, hs_new w n, (Below.refl _ _).alloc (Nat.le_refl _) _⟩
end Go.Proofs.YtjhpnlnghaljaaaDoor
