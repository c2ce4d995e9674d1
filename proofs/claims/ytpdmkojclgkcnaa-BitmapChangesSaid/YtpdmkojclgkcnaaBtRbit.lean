/- The reference's value and bit. -/
import Derived.Test.YtpdmkojclgkcnaaBtN0
namespace Go.Proofs.Ytpdmkojclgkcnaa.Bt
open Go.RowKit
set_option maxHeartbeats 400000 in
theorem rbit_no (k : Nat → Nat) (i : Int) (w : World) (h : i < 0 ∨ 256 ≤ i) :
    Calls Try.prog 13 #[.agg (kc k), .int .i64 i] w fun e w' => e = .returned (.int .i64 (-1)) ∧ Below w.heap.size w w' := by
  by_cases h1 : i < 0
  · go_enter Try.func13, Try.ntmps13
    go_wp2
    go_ret
    exact ⟨rfl, (Below.refl _ _).alloc (Nat.le_refl _) _⟩
  · have h2 : 255 < i := by omega
    clear h
    go_enter Try.func13, Try.ntmps13
    go_wp2
    go_ret
    exact ⟨rfl, (Below.refl _ _).alloc (Nat.le_refl _) _⟩
set_option maxHeartbeats 400000 in
theorem rbit_yes (k : Nat → Nat) (hk : Byt k) (i : Nat) (w : World) (h : i < 256) :
    Calls Try.prog 13 #[.agg (kc k), .int .i64 i] w fun e w' => e = .returned (.int .i64 (bit k i)) ∧ Below w.heap.size w w' := by
  have hc := key_cell w k (i / 8) (by omega)
  obtain ⟨x, hx⟩ : ∃ x, x = k (i / 8) := ⟨_, rfl⟩
  have hx256 : x < 256 := hx ▸ hk _
  rw [← hx] at hc
  have HX := Lib.hid hx
  have hns : ¬ (255 : Int) < i := by omega
  clear hx hk
  go_enter Try.func13, Try.ntmps13
  go_wp2
  go_loop [5, 6] (fun v j => ∃ m : Nat, i % 8 ≤ m ∧ m ≤ 7 ∧ j = .int .i64 m ∧ v = .int .i64 (x / 2 ^ (m - i % 8) : Nat)) (fun _ j => 7 - (intOf j).toNat)
  case atStart => exact ⟨i % 8, by omega, by omega, by simp, by simp⟩
  case round =>
    obtain ⟨m, h1, h2, rfl, rfl⟩ := hrel
    obtain ⟨v, hv⟩ : ∃ v : Nat, v = x / 2 ^ (m - i % 8) := ⟨_, rfl⟩
    have hp : v ≤ 255 := by rw [hv]; exact Nat.le_trans (Nat.div_le_self _ _) (by omega)
    rw [← hv]
    have HV := Lib.hid hv
    clear hv
    by_cases hlt : m < 7
    · go_wp2
      go_round
      case rel =>
        refine ⟨m + 1, by omega, by omega, by go_num, ?_⟩
        have : x / 2 ^ (m + 1 - i % 8) = v / 2 := by rw [HV.out, show m + 1 - i % 8 = (m - i % 8) + 1 by omega, Nat.pow_succ, Nat.div_div_eq_div_mul]
        rw [this]; go_num
      case measure => simp [intOf]; omega
    · go_wp2
      go_ret
      refine ⟨ret_int ?_, (Below.refl _ _).alloc (Nat.le_refl _) _⟩
      have : bit k i = v % 2 := by
        unfold bit msk; rw [← HX.out, HV.out, show m = 7 by omega]
      rw [this]
      simp
theorem rbit_c (k : Nat → Nat) (hk : Byt k) (i : Int) (w : World) :
    Calls Try.prog 13 #[.agg (kc k), .int .i64 i] w fun e w' => e = .returned (.int .i64 (bitI k i)) ∧ Below w.heap.size w w' := by
  unfold bitI
  by_cases h : 0 ≤ i ∧ i < 256
  · rw [if_pos h]
    obtain ⟨n, rfl⟩ := Int.eq_ofNat_of_zero_le h.1
    rw [Int.toNat_natCast]
    exact rbit_yes k hk n w (by omega)
  · rw [if_neg h]
    exact rbit_no k i w (by omega)
end Go.Proofs.Ytpdmkojclgkcnaa.Bt
