/- A bit inverted. -/
import Derived.Test.YtpdmkojclgkcnaaBtNum
namespace Go.Proofs.Ytpdmkojclgkcnaa.Bt
open Go.RowKit

set_option maxHeartbeats 400000 in
theorem flip_no (k : Nat → Nat) (i : Int) (w : World) (h : i < 0 ∨ 256 ≤ i) :
    Calls Try.prog 26 #[.agg (kc k), .int .i64 i] w fun e w' => e = .returned (.agg (kc k)) ∧ Below w.heap.size w w' := by
  go_enter Try.func26, Try.ntmps26
  go_wp2_with fail
  refine (isNumber_no i _ h).mono ?_
  rintro e w' ⟨rfl, rfl⟩
  go_wp2
  refine bodyPost_ret (v := .agg (kc k)) ?_ rfl ⟨rfl, two_below _ _ _⟩
  exact results_cell_row Try.results26 _ _ (w.heap.size + 1) 31 (kc k) (0, 0) _ rfl (heap_alloc2_new w _ _) Try.underlying31 rfl (by rw [kc_size]; exact info23)
set_option maxHeartbeats 400000 in
theorem flip_yes (k : Nat → Nat) (hk : Byt k) (i : Nat) (w : World) (h : i < 256) :
    Calls Try.prog 26 #[.agg (kc k), .int .i64 i] w fun e w' => e = .returned (.agg (kc (flip k i))) ∧ Below w.heap.size w w' := by
  have hc := key_cell2 w (.cells (kc kz) 31) k (i / 8) (by omega)
  have hx := u8_xor_nat (k (i / 8)) (msk i) (hk _) (msk_lt i)
  go_enter Try.func26, Try.ntmps26
  go_wp2_with fail
  refine (isNumber_yes i _ (by omega) (by omega)).mono ?_
  rintro e w' ⟨rfl, rfl⟩
  go_wp2_with fail
  refine wp_region_drawn_tail 8 (by kernel_rfl) (by kernel_rfl) ?_
  simp only [List.take_succ_cons, List.take_zero, List.drop_succ_cons, List.drop_zero]
  repeat (go_big_quiet_step ((go_at_call 25; exact Calls.quiet_of_same ((mask_c _ _).mono fun _ _ ⟨a, b⟩ => ⟨a, b.symm⟩))))
  refine wpQuiet_nil ?_
  rintro _ ⟨nq, rfl⟩
  go_wp2
  refine bodyPost_ret (v := .agg (kc (flip k i))) ?_ rfl ⟨rfl, below_drewN (two_below _ _ _) _⟩
  exact results_cell_row Try.results26 _ _ (w.heap.size + 1) 31 _ (0, 0) _ rfl (heap_alloc2_new w _ _) Try.underlying31 rfl (by rw [kc_size]; exact info23)
theorem flip_c (k : Nat → Nat) (hk : Byt k) (i : Int) (w : World) :
    Calls Try.prog 26 #[.agg (kc k), .int .i64 i] w fun e w' => e = .returned (.agg (kc (flipI k i))) ∧ Below w.heap.size w w' := by
  unfold flipI
  by_cases h : 0 ≤ i ∧ i < 256
  · rw [if_pos h]
    obtain ⟨n, rfl⟩ := Int.eq_ofNat_of_zero_le h.1
    rw [Int.toNat_natCast]
    exact flip_yes k hk n w (by omega)
  · rw [if_neg h]
    exact flip_no k i w (by omega)
end Go.Proofs.Ytpdmkojclgkcnaa.Bt
