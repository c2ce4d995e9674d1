/- The program's New, Bits, Calls, Fork; what a hasher keeps; nil. -/
import Derived.Test.YtaggbmlkfdfjpaaDoorDh
namespace Go.Proofs.YtaggbmlkfdfjpaaDoor
open Go.RowKit

theorem hs_new (w : World) (n : Int) : Hs (w.alloc (.cells #[.int .i64 0, .int .i64 n] 44)) w.heap.size n 0 := heap_alloc_last w _
theorem new_c (n : Int) (w : World) (h0 : 0 ≤ n) (h1 : n ≤ 256) : Calls Tryd.prog 9 #[.int .i64 n] w fun e w' => ∃ b, e = .returned (.tuple #[ptr b, .int .i64 0]) ∧ w.heap.size ≤ b ∧ Hs w' b n 0 ∧ Below w.heap.size w w' := by
  have d0 : decide (n < 0) = false := decide_eq_false (by omega)
  have d1 : decide (256 < n) = false := decide_eq_false (by omega)
  go_enter Tryd.func9, Tryd.ntmps9
  go_wp2
  go_ret2
  exact ⟨w.heap.size, rfl, Nat.le_refl _, hs_new w n, (Below.refl _ _).alloc (Nat.le_refl _) _⟩
theorem out_c (n : Int) (w : World) (h : n < 0 ∨ 256 < n) : Calls Tryd.prog 9 #[.int .i64 n] w fun e w' => e = .returned (.tuple #[.pointer none, .int .i64 4]) ∧ Below w.heap.size w w' := by
  by_cases h0 : n < 0
  · have d0 : decide (n < 0) = true := decide_eq_true h0
    go_enter Tryd.func9, Tryd.ntmps9
    go_wp2
    go_ret2
    exact ⟨rfl, Below.refl _ _⟩
  · have d0 : decide (n < 0) = false := decide_eq_false h0
    have h1 : 256 < n := by omega
    have d1 : decide (256 < n) = true := decide_eq_true h1
    clear h
    go_enter Tryd.func9, Tryd.ntmps9
    go_wp2
    go_ret2
    exact ⟨rfl, Below.refl _ _⟩
theorem bits_c (b : Nat) (n : Int) (c : Nat) (w : World) (h : Hs w b n c) : Calls Tryd.prog 12 #[ptr b] w fun e w' => e = .returned (.int .i64 n) ∧ w = w' := by
  have h0 := h.cell1
  clear h
  unfold ptr
  go_enter Tryd.func12, Tryd.ntmps12
  go_wp2
  go_ret
  exact ⟨rfl, rfl⟩
theorem calls_c (b : Nat) (n : Int) (c : Nat) (w : World) (h : Hs w b n c) : Calls Tryd.prog 13 #[ptr b] w fun e w' => e = .returned (.int .i64 (c : Int)) ∧ w = w' := by
  have h0 := h.cell0
  clear h
  unfold ptr
  go_enter Tryd.func13, Tryd.ntmps13
  go_wp2
  go_ret
  exact ⟨rfl, rfl⟩
theorem fork_c (b : Nat) (n : Int) (c : Nat) (w : World) (h : Hs w b n c) : Calls Tryd.prog 19 #[ptr b] w fun e w' => ∃ b2, e = .returned (ptr b2) ∧ w.heap.size ≤ b2 ∧ Hs w' b2 n 0 ∧ Below w.heap.size w w' := by
  have h0 := h.cell1
  clear h
  unfold ptr
  go_enter Tryd.func19, Tryd.ntmps19
  go_wp2
  go_ret
  exact ⟨w.heap.size, rfl, Nat.le_refl _, hs_new w n, (Below.refl _ _).alloc (Nat.le_refl _) _⟩
theorem hs_c : HsC Hs where
  keep := fun h k hl => h.keep k hl
  lt := fun h => lt_of_heap h
  new := new_c
  out := out_c
  sum := sum_hs
  bits := bits_c
  calls := calls_c
  fork := fork_c
theorem alive_c : AliveC := alive_hs hs_c cut_c
set_option maxRecDepth 100000 in
theorem nil_c : NilC := fun w => by
  refine ⟨fun A l c _ => ?_, ?_, ?_, ?_⟩
  · have z := bld_zero
    have st := fun w => stA_new (t := 30) w (bA z26) (bA z26) (by rw [bA_size]; exact info26) (by rw [bA_size]) (bA_one _)
    go_enter Tryd.func16, Tryd.ntmps16
    go_wp2
    refine bodyPost_ret (v := .agg (bA z26)) ?_ rfl ⟨rfl, (Below.refl _ _).alloc (Nat.le_refl _) _⟩
    exact results_cell_row Tryd.results16 _ _ w.heap.size 30 _ (0, 0) _ rfl (heap_alloc_last w _) Tryd.underlying30 rfl (by rw [bA_size]; exact info26)
  · go_enter Tryd.func12, Tryd.ntmps12
    go_wp2
    go_ret
    exact ⟨rfl, rfl⟩
  · go_enter Tryd.func13, Tryd.ntmps13
    go_wp2
    go_ret
    exact ⟨rfl, rfl⟩
  · go_enter Tryd.func19, Tryd.ntmps19
    go_wp2
    go_ret
    exact ⟨rfl, rfl⟩
end Go.Proofs.YtaggbmlkfdfjpaaDoor
