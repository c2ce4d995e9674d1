/- A bit. -/
import Derived.Test.YtpdmkojclgkcnaaBtNum
namespace Go.Proofs.Ytpdmkojclgkcnaa.Bt
open Go.RowKit

set_option maxHeartbeats 400000 in
theorem bit_no (k : Nat → Nat) (i : Int) (w : World) (h : i < 0 ∨ 256 ≤ i) :
    Calls Try.prog 22 #[.agg (kc k), .int .i64 i] w fun e w' => e = .returned (.int .i64 (-1)) ∧ Below w.heap.size w w' := by
  go_enter Try.func22, Try.ntmps22
  go_wp2_with fail
  refine (isNumber_no i _ h).mono ?_
  rintro e w' ⟨rfl, rfl⟩
  go_wp2
  go_ret
  exact ⟨rfl, (Below.refl _ _).alloc (Nat.le_refl _) _⟩
set_option maxHeartbeats 400000 in
theorem bit_yes (k : Nat → Nat) (hk : Byt k) (i : Nat) (w : World) (h : i < 256) :
    Calls Try.prog 22 #[.agg (kc k), .int .i64 i] w fun e w' => e = .returned (.int .i64 (bit k i)) ∧ Below w.heap.size w w' := by
  have hc := key_cell w k (i / 8) (by omega)
  have ha := u8_and_nat (k (i / 8)) (msk i) (hk _) (msk_lt i)
  have hz := and_msk_zero (k (i / 8)) i (hk _)
  have hl := bit_lt k i
  clear hk
  by_cases hb : bit k i = 0
  · have e : (((k (i / 8) &&& msk i : Nat) : Int) == 0) = true := by
      have := hz.2 hb
      simp [this]
    have HB : Hid (bit k i = 0) := hb
    clear hz hb hl
    go_enter Try.func22, Try.ntmps22
    go_wp2_with fail
    refine (isNumber_yes i _ (by omega) (by omega)).mono ?_
    rintro e w' ⟨rfl, rfl⟩
    go_wp2_with fail
    go_quiet ((go_at_call 25; exact Calls.quiet_of_same ((mask_c _ _).mono fun _ _ ⟨a, b⟩ => ⟨a, b.symm⟩)))
    go_wp2
    go_ret
    exact ⟨ret_int (by rw [HB.out]; rfl), below_drewN ((Below.refl _ _).alloc (Nat.le_refl _) _) _⟩
  · have e : (((k (i / 8) &&& msk i : Nat) : Int) == 0) = false := by
      have : ¬ (k (i / 8) &&& msk i = 0) := fun hh => hb (hz.1 hh)
      simpa using this
    have HB : Hid (bit k i = 1) := by show bit k i = 1; omega
    clear hz hb hl
    go_enter Try.func22, Try.ntmps22
    go_wp2_with fail
    refine (isNumber_yes i _ (by omega) (by omega)).mono ?_
    rintro e w' ⟨rfl, rfl⟩
    go_wp2_with fail
    go_quiet ((go_at_call 25; exact Calls.quiet_of_same ((mask_c _ _).mono fun _ _ ⟨a, b⟩ => ⟨a, b.symm⟩)))
    go_wp2
    go_ret
    exact ⟨ret_int (by rw [HB.out]; rfl), below_drewN ((Below.refl _ _).alloc (Nat.le_refl _) _) _⟩
theorem bit_c (k : Nat → Nat) (hk : Byt k) (i : Int) (w : World) :
    Calls Try.prog 22 #[.agg (kc k), .int .i64 i] w fun e w' => e = .returned (.int .i64 (bitI k i)) ∧ Below w.heap.size w w' := by
  unfold bitI
  by_cases h : 0 ≤ i ∧ i < 256
  · rw [if_pos h]
    obtain ⟨n, rfl⟩ := Int.eq_ofNat_of_zero_le h.1
    rw [Int.toNat_natCast]
    exact bit_yes k hk n w (by omega)
  · rw [if_neg h]
    exact bit_no k i w (by omega)
end Go.Proofs.Ytpdmkojclgkcnaa.Bt
